/- Part 27 of the proof: ChkE ChkF. -/
import Derived.Test.YtedmpgjebafcjaaGreatDoorK25
set_option maxRecDepth 100000
set_option maxHeartbeats 8000000
namespace Go.Proofs.YtedmpgjebafcjaaGreatDoor
section
open Go.RowKit
attribute [local go_sem ↓] Go.wp_at_zero Go.wp_at_succ
structure zdA (w:World) (N:Nat) (ts:List Tm) (v:Value):Prop where
 ex:∃a cp,v=.slice a ts.length cp/\ts.length<=cp/\cp<=9223372036854775807/\(ts≠[]->∃g o,a=some ⟨g,o,none⟩/\g<N/\∀i u,ts[i]?=some u->∃ub,w.cell? ⟨g,o+i,none⟩=some (.pointer (some ⟨ub,0,none⟩))/\TT w N u (.pointer (some ⟨ub,0,none⟩)))
theorem zdA.old {w w':World} {N:Nat} {ts:List Tm} {v:Value} (h:zdA w N ts v) (ho:Old N w w'):zdA w' N ts v:=by
 obtain ⟨a,cp,h1,h2,h3,h4⟩:=h.ex
 refine ⟨a,cp,h1,h2,h3,λhne=>?_⟩
 obtain ⟨g,o,h5,h6,h7⟩:=h4 hne
 refine ⟨g,o,h5,h6,λi u hi=>?_⟩
 obtain ⟨ub,h8,h9⟩:=h7 i u hi
 exact ⟨ub,(World.cell?_of_block (w:=w) (ho g h6)).trans h8,h9.old ho⟩
theorem zkm {w:World} {N:Nat} {t:Tm} {args:Value} {vs:List Value} (hown:w.ownsRow 0 164 1 args vs.length vs) (hl:vs.length=t.ts.length) (hs:∀(i:Nat) (u:Tm) (x:Value),t.ts[i]?=some u->vs[i]?=some x->TT w N u x) (hg:∀g,args.ownBlock=some g->g<N):zdA w N t.ts args:=by
 obtain ⟨x,cp,rfl⟩:=zB hown
 have hcp:vs.length<=cp/\cp<=9223372036854775807:=by
  rcases hown.2 with ⟨e,h⟩|⟨g,cap,cur,hv,_,_,h3,h4,_⟩
  · simp only [Value.slice.injEq] at e;omega
  · cases hv;unfold maxLen at h4;exact ⟨h3,by omega⟩
 refine ⟨x,cp,by rw [hl],by omega,hcp.2,λhne=>?_⟩
 have h0:0<vs.length:=by rw [hl];exact List.length_pos_iff.2 hne
 obtain ⟨g,cap,hv,_⟩:=zM hown h0
 cases hv
 refine ⟨g,0,rfl,hg g rfl,λi u hu=>?_⟩
 have hi:=(List.getElem?_eq_some_iff.1 hu).1
 have hv:vs[i]?=some vs[i]:=zsc (by omega)
 have hc:=zhv hown hv
 have ht:=hs i u _ hu hv
 obtain ⟨ub,_,_,e,_⟩:=ht.ptr
 rw [e] at hc ht
 exact ⟨ub,by rw [Nat.zero_add];exact hc,ht⟩
theorem zkY (c:Sc) (ty:Nat) (t:Tm) (l:List Tm):zcv c ty (t::l)=(zaj c t==ty&&zcv c ty l):=rfl
theorem zhS {N:Nat} {c:Sc} {ev nv:Value} (hc:zbr c) (ty:Nat) (ts:List Tm) (v:Value) (w:World) (hA:zdA w N ts v) (h:ScV w N c ev nv) (hN:N<=w.heap.size) (hO:∀t∈ts,zdg c t) :
 Calls Tryz.prog 140 #[.agg #[ev,nv],.int .i64 ty,v] w (λe w'=>e=.returned (.bool (zcv c ty ts))/\Below w.heap.size w w'):=by
 have HA:=za hA
 obtain ⟨x,cp,rfl,hcp,hmx,_⟩:=hA.ex
 have HSc:=za h
 obtain ⟨xe,cpe,nb,rfl,rfl,hnb⟩:=h.shape
 have HO:=za hO
 clear hA h hO
 go_enter Tryz.func140,Tryz.ntmps140
 go_wp2_with fail
 go_loopg [11] (ts.length+1) (λj i wr=>∃k:Nat,k+j=ts.length+1/\k<=ts.length/\i=.int .i64 k/\Hid (zcv c ty (ts.drop k)=zcv c ty ts)/\Hid (wr.heap[w.heap.size]?=some (.cells #[.slice xe c.er.length cpe,.pointer (some ⟨nb,0,none⟩)] 206 (0,0)))/\Hid (Below w.heap.size w wr))
 case atStart=>exact ⟨0,by omega,Nat.zero_le _,rfl,rfl,zc w _,zq w _⟩
 case round =>
  obtain ⟨k,hkj,hk,rfl,HS,HX,HB⟩:=hrel
  obtain ⟨s0,s1,sf,sz⟩:=zp HX.out
  by_cases hlt:k<ts.length
  · obtain ⟨t,ht⟩:∃t,ts[k]?=some t:=⟨_,zsc hlt⟩
    obtain ⟨x',cp',e1,_,_,hin⟩:=(HA.out.old (zm HB.out hN)).ex
    cases e1
    obtain ⟨g,o,rfl,hgN,hat⟩:=hin (by intro e;rw [e] at hlt;simp at hlt)
    obtain ⟨ub,hcu,hTu⟩:=hat k t ht
    have HT:=za (zcQ hc t (.pointer (some ⟨ub,0,none⟩)) wr hTu (HSc.out.old (zm HB.out hN)) (by have:=HB.out.size;omega) (HO.out t (List.mem_of_getElem? ht)))
    have hd:ts.drop k=t::ts.drop (k+1):=by
     obtain ⟨e1,e2⟩:=List.getElem?_eq_some_iff.1 ht
     rw [List.drop_eq_getElem_cons e1,e2]
    have hS:=HS.out
    rw [hd,zkY] at hS
    have hzr:=HB.out.size
    clear HS hin hat hTu ht hd
    by_cases hq:zaj c t=ty
    · have hq':((zaj c t:Int) != (ty:Int))=false:=by simp [hq]
      have HS2:Hid (zcv c ty (ts.drop (k+1))=zcv c ty ts):=by unfold Hid;rw [<- hS];simp [hq]
      clear hS
      go_wp2_with (go_at_call 138;refine HT.out.mono ?_;rintro e w1 ⟨rfl,hB1⟩;have HB1:=za hB1;clear hB1)
      go_roundg (gk-1)
      case measure=>omega
      exact ⟨k+1,by omega,by omega,by go_num,HS2.out,(HB1.out.block _ sz).trans HX.out,HB.out.trans (HB1.out.mono hzr)⟩
    · have hq':((zaj c t:Int) != (ty:Int))=true:=by simp;omega
      have HS2:Hid (zcv c ty ts=false):=by unfold Hid;rw [<- hS];simp [hq]
      clear hS
      go_wp2_with (go_at_call 138;refine HT.out.mono ?_;rintro e w1 ⟨rfl,hB1⟩;have HB1:=za hB1;clear hB1)
      go_ret
      exact ⟨by rw [HS2.out];rfl,HB.out.trans (HB1.out.mono hzr)⟩
  · have hS:zcv c ty ts=true:=by rw [<- HS.out,List.drop_of_length_le (by omega)];rfl
    have HS2:=za hS
    clear HS hS
    go_wp2_with fail
    go_ret
    exact ⟨by rw [HS2.out];rfl,HB.out⟩
theorem zky (a b:Nat):Ending.returned (.bool ((a:Int)==(b:Int)))=Ending.returned (.bool (a==b)):=by
 have:((a:Int)==(b:Int))=(a==b):=by
  rw [Bool.eq_iff_iff];simp;omega
 rw [this]
theorem zfS {N:Nat} {c:Sc} {ev nv:Value} (hc:zbr c) (t1 t2:Tm) (ts:List Tm) (v:Value) (w:World) (hA:zdA w N (t1::t2::ts) v) (h:ScV w N c ev nv) (hN:N<=w.heap.size) (hO1:zdg c t1) (hO2:zdg c t2) :
 Calls Tryz.prog 141 #[.agg #[ev,nv],v] w (λe w'=>e=.returned (.bool (zc9 c (t1::t2::ts)))/\Below w.heap.size w w'):=by
 obtain ⟨x,cp,rfl,hcp,hmx,hin⟩:=hA.ex
 obtain ⟨g,o,rfl,hgN,hat⟩:=hin (by simp)
 obtain ⟨u1,c1,T1⟩:=hat 0 t1 rfl
 obtain ⟨u2,c2,T2⟩:=hat 1 t2 rfl
 have HSc:=za h
 obtain ⟨xe,cpe,nb,rfl,rfl,hnb⟩:=h.shape
 have HT1:=za (λW (hB:Below w.heap.size w W)=>zcQ hc t1 (.pointer (some ⟨u1,0,none⟩)) W (T1.old (zm hB hN)) (HSc.out.old (zm hB hN)) (by have:=hB.size;omega) hO1)
 have HT2:=za (λW (hB:Below w.heap.size w W)=>zcQ hc t2 (.pointer (some ⟨u2,0,none⟩)) W (T2.old (zm hB hN)) (HSc.out.old (zm hB hN)) (by have:=hB.size;omega) hO2)
 have HE:Hid (zc9 c (t1::t2::ts)=(zaj c t1==zaj c t2)):=by unfold Hid zc9;rw [zbh,zbh,zbh]
 have hgz:g<w.heap.size:=by omega
 rw [Nat.add_zero] at c1
 clear hA h hin hat T1 T2 hO1 hO2
 generalize zaj c t1=y1 at *
 generalize zaj c t2=y2 at *
 have a0:(⟨g,o,none⟩:Addr).add 0=⟨g,o,none⟩:=by simp [Addr.add]
 have a1:(⟨g,o,none⟩:Addr).add 1=⟨g,o+1,none⟩:=by simp [Addr.add]
 have n0:0<(t1::t2::ts).length:=by simp
 have n1:1<(t1::t2::ts).length:=by simp
 have l0:(0:Int)<((t1::t2::ts).length:Int):=by simp;omega
 have l1:(1:Int)<((t1::t2::ts).length:Int):=by simp;omega
 generalize (t1::t2::ts).length=nn at *
 go_enter Tryz.func141,Tryz.ntmps141
 go_upto_region 1 with fail
 refine zn (λW=>W.heap[w.heap.size]?=some (.cells #[.slice xe c.er.length cpe,.pointer (some ⟨nb,0,none⟩)] 206 (0,0))/\Below w.heap.size w W) ⟨zc w _,zq w _⟩ ?_
 rintro W ⟨hs,hB⟩
 obtain ⟨s0,s1,sf,sz⟩:=zp hs
 have c1':=zd hB c1 hgz
 have c2':=zd hB c2 hgz
 have HB:=za hB
 have hzW:=hB.size
 have HD1:=za (HT1.out W.drew (zo hB))
 clear hs hB sf c1 c2 HT1
 go_region_held3 (λw'=>w'.cell? ⟨w.heap.size,0,none⟩=some (.slice xe c.er.length cpe)/\w'.cell? ⟨w.heap.size,1,none⟩=some (.pointer (some ⟨nb,0,none⟩))/\w'.cell? ⟨g,o,none⟩=some (.pointer (some ⟨u1,0,none⟩))/\w'.cell? ⟨g,o+1,none⟩=some (.pointer (some ⟨u2,0,none⟩)))
  (first|(refine ⟨?_,?_,?_,?_⟩ <;> repeat (first|with_reducible exact s0|with_reducible exact s1|with_reducible exact c1'|with_reducible exact c2'|with_reducible refine zg ?_|with_reducible refine zj _ ?_|with_reducible refine zk (by omega) ?_|with_reducible refine zd HB2.out ?_ (by first|omega|(rw [zsb];omega))|with_reducible refine zd HB1.out ?_ (by first|omega|(rw [zsb];omega))))|go_keep)
  (first
    | (go_at_call 138;refine HD2.out.mono ?_;rintro e w2 ⟨rfl,hB2⟩;have HB2:=za hB2;clear hB2)
    | (go_at_call 138;refine HD1.out.mono ?_;rintro e w1 ⟨rfl,hB1⟩;have HB1:=za (zw hB1);(have hzw1:W.heap.size<=w1.heap.size:=hB1.size);have HD2:=za (HT2.out w1 (HB.out.trans (HB1.out.mono hzW)));clear hB1))
 all_goals go_wp2_with fail
 all_goals go_ret
 all_goals exact ⟨by rw [HE.out];exact zky y1 y2,(HB.out.trans (HB1.out.mono hzW)).trans (HB2.out.mono (by omega))⟩
end
section
open Go.RowKit
attribute [local go_sem ↓] Go.wp_at_zero Go.wp_at_succ
theorem zo0 {k n:Nat} (h:arB k n=true):k<=23:=by
 rcases Nat.lt_or_ge 23 k with h'|h'
 · exfalso;unfold arB at h;simp only [show ¬k<=3 by omega,show ¬k=4 by omega,show ¬k=5 by omega,show ¬k=6 by omega,show ¬k<=8 by omega,show ¬k=9 by omega,show ¬k<=11 by omega,show ¬k<=23 by omega,if_false] at h;cases h
 · exact h'
theorem zmE {N:Nat} {t:Tm} {v:Value} (w:World) (h:TT w N t v) (ha:arB t.k t.ts.length=true) :
 Calls Tryz.prog 142 #[v] w (λe w'=>e=.returned (.bool (zcG t))/\w=w'):=by
 obtain ⟨b,args,vs,rfl,hb,hblk,hown,hlen,hsub,_⟩:=h.ptr
 obtain ⟨h0,h1,h2,h3,h4,h5,hf,hz⟩:=zt hblk
 obtain ⟨k,a,s,nm,n,ts⟩:=t
 simp only [Tm.k,Tm.ts] at *
 have h23:=zo0 ha
 by_cases h10:k=10
 · subst h10
   have hl:0<ts.length:=by simp [arB] at ha;omega
   obtain ⟨u,hu⟩:∃u,ts[0]?=some u:=⟨_,zsc hl⟩
   obtain ⟨xa,cpa,rfl⟩:=zB hown
   rw [hlen] at h5 hown
   obtain ⟨g,ub,rfl,hcu,hTu,_⟩:=TT.arg (t:=.mk 10 a s nm n ts) hown hlen hsub hu
   obtain ⟨_,_,_,e,_,hub,_⟩:=hTu.ptr
   cases e
   obtain ⟨k0,_⟩:=zt hub
   have he:zcG (.mk 10 a s nm n ts)=(u.k==0):=by
    unfold zcG
    cases ts with
    | nil=>simp at hl
    | cons x ts=>simp at hu;subst hu;simp [Tm.k,Tm.ts]
   have HE:=za he
   clear h hown hsub hTu hub he hu hblk hlen ha
   generalize u.k=uk at *
   by_cases h0':uk=0
   · subst h0'
     go_enter Tryz.func142,Tryz.ntmps142
     go_wp2_with fail
     go_ret
     exact ⟨by rw [HE.out];rfl,rfl⟩
   · have d0:((uk:Int)==0)=false:=by simp;omega
     go_enter Tryz.func142,Tryz.ntmps142
     go_wp2_with fail
     go_ret
     exact ⟨by rw [HE.out];simp [h0'],rfl⟩
 · have hc:k=0∨k=1∨k=2∨(k≠0/\k≠1/\k≠2):=by omega
   clear h hown hsub hblk hlen ha
   rcases hc with rfl|rfl|rfl|⟨c1,c2,c3⟩
   · go_enter Tryz.func142,Tryz.ntmps142
     go_wp2_with fail
     go_ret
     exact ⟨rfl,rfl⟩
   · go_enter Tryz.func142,Tryz.ntmps142
     go_wp2_with fail
     go_ret
     exact ⟨rfl,rfl⟩
   · go_enter Tryz.func142,Tryz.ntmps142
     go_wp2_with fail
     go_ret
     exact ⟨rfl,rfl⟩
   · have d1:((k:Int)==0)=false:=by simp;omega
     have d2:((k:Int)==1)=false:=by simp;omega
     have d3:((k:Int)==2)=false:=by simp;omega
     have d4:((k:Int)==10)=false:=by simp;omega
     have HE:Hid (zcG (.mk k a s nm n ts)=false):=by unfold Hid zcG;exact (if_neg (show ¬(k=0∨k=1∨k=2) by omega)).trans (if_neg (show ¬k=10 from h10))
     clear c1 c2 c3 h10
     go_enter Tryz.func142,Tryz.ntmps142
     go_wp2_with fail
     go_ret
     exact ⟨by rw [HE.out];rfl,rfl⟩
def zci (k:Nat):Bool:=zaJ k&&k != 3
theorem zj3 {N:Nat} {t:Tm} {v:Value} (w:World) (h:TT w N t v) :
 Calls Tryz.prog 107 #[v] w (λe w'=>e=.returned (.bool (zci t.k))/\w=w'):=by
 have HN:=za (zf2 w h)
 obtain ⟨b,args,vs,rfl,hb,hblk,_⟩:=h.ptr
 obtain ⟨h0,h1,h2,h3,h4,h5,hf,hz⟩:=zt hblk
 clear h hblk
 generalize t.k=k at *
 cases hn:zaJ k with
 | false =>
   rw [hn] at HN
   have HE:Hid (zci k=false):=by unfold Hid zci;rw [hn];rfl
   clear hn
   go_enter Tryz.func107,Tryz.ntmps107
   go_wp2_with (go_at_call 101;refine HN.out.mono ?_;rintro e w1 ⟨rfl,rfl⟩)
   go_ret
   exact ⟨by rw [HE.out];rfl,rfl⟩
 | true =>
   rw [hn] at HN
   by_cases h3':k=3
   · subst h3'
     go_enter Tryz.func107,Tryz.ntmps107
     go_wp2_with (go_at_call 101;refine HN.out.mono ?_;rintro e w1 ⟨rfl,rfl⟩)
     go_ret
     exact ⟨rfl,rfl⟩
   · have d1:((k:Int) != 3)=true:=by simp;omega
     have HE:Hid (zci k=true):=by unfold Hid zci;rw [hn];simp [h3']
     clear hn h3'
     go_enter Tryz.func107,Tryz.ntmps107
     go_wp2_with (go_at_call 101;refine HN.out.mono ?_;rintro e w1 ⟨rfl,rfl⟩)
     go_ret
     exact ⟨by rw [HE.out];rfl,rfl⟩
theorem ze3 {c:Sc} {ts:List Tm} {vs:List Vr} {k:Nat} {t:Tm} {v:Vr} (ht:ts[k]?=some t) (hv:vs[k]?=some v):zaQ c (ts.drop k) (vs.drop k)=if (zaj c t != tyV v)=true then false else zaQ c (ts.drop (k+1)) (vs.drop (k+1)):=by
 obtain ⟨h1,h2⟩:=List.getElem?_eq_some_iff.1 ht
 obtain ⟨h3,h4⟩:=List.getElem?_eq_some_iff.1 hv
 rw [List.drop_eq_getElem_cons h1,List.drop_eq_getElem_cons h3,h2,h4]
 rfl
theorem zlM {N:Nat} {c d:Sc} {ev nv:Value} (hc:zbr c) (t:Tm) (v:Value) (w:World) (hT:TT w N t v) (h:ScV w N c ev nv) (hN:N<=w.heap.size) (hO:zdg c t) (hd:c.called t.s=some d) (hdi:d.nd.ins=t.ts.length) :
 Calls Tryz.prog 143 #[.agg #[ev,nv],v] w (λe w'=>e=.returned (.bool (zaQ c t.ts d.nd.vars))/\Below w.heap.size w w'):=by
 obtain ⟨b,args,vs,rfl,hb,hblk,hown,hlen,hsub,hgs⟩:=hT.ptr
 have hdw:=(hc.called hd).1.nd
 have HA:=za (zkm hown hlen hsub hgs)
 obtain ⟨xa,cpa,rfl⟩:=zB hown
 have HSc:=za h
 obtain ⟨xe,cpe,nb,rfl,rfl,hnb⟩:=h.shape
 have hbz:=ze hblk
 rw [hlen] at hblk HA
 have HBk:=za hblk
 have HO:=za hO
 have hio:=hdw.io
 have hou:=hdw.outs
 have hfw:=hdw.few
 clear hT hown h hlen hblk hsub hgs hO
 go_enter Tryz.func143,Tryz.ntmps143
 go_upto_region 1 with fail
 refine zn (λW=>W.heap[w.heap.size]?=some (.cells #[.slice xe c.er.length cpe,.pointer (some ⟨nb,0,none⟩)] 206 (0,0))/\Below w.heap.size w W) ⟨zc w _,zq w _⟩ ?_
 rintro W ⟨hs,hB⟩
 obtain ⟨s0,s1,sf,sz⟩:=zp hs
 obtain ⟨m0,m1,m2,m3,m4,m5,mf,mz⟩:=zt ((hB.block b hbz).trans HBk.out)
 have HB:=za hB
 have hzW:=hB.size
 have PRE:∀W,Below w.heap.size w W->ScV W N c (.slice xe c.er.length cpe) (.pointer (some ⟨nb,0,none⟩)):=λW hB=>HSc.out.old (zm hB hN)
 have HC1:=za (zah t.s (t.nm:Int) W.drew (PRE W.drew (zo hB)) (by show N<=W.heap.size;omega) hc.few hd)
 have HC2:=za (λo=>zah t.s (t.nm:Int) (W.alloc o).drew (PRE _ (zo (hB.alloc (by omega) o))) (by show N<=(W.alloc o).heap.size;simp;omega) hc.few hd)
 have Hs:=za hs
 clear hs hB m0 m1 m4 mf sf
 go_region_held3 (λw'=>w'.cell? ⟨w.heap.size,0,none⟩=some (.slice xe c.er.length cpe)/\w'.cell? ⟨w.heap.size,1,none⟩=some (.pointer (some ⟨nb,0,none⟩))/\w'.cell? ⟨b,2,none⟩=some (.string t.s)/\w'.cell? ⟨b,3,none⟩=some (.int .i64 t.nm))
  (first|(refine ⟨?_,?_,?_,?_⟩ <;> repeat (first|with_reducible exact s0|with_reducible exact s1|with_reducible exact m2|with_reducible exact m3|with_reducible refine zg ?_|with_reducible refine zj _ ?_|with_reducible refine zk (by omega) ?_|with_reducible refine zd HB1.out ?_ (by first|omega|(rw [zsb];omega))))|go_keep)
  (first
    | (go_at_call 96;refine HC1.out.mono ?_;rintro e w1 ⟨x2,cp2,n2,rfl,hsc,hB1⟩;have HB1:=za (zw hB1);have HS2:=za hsc;clear hB1 hsc)
    | (go_at_call 96;refine (HC2.out _).mono ?_;rintro e w1 ⟨x2,cp2,n2,rfl,hsc,hB1⟩;have HB1:=za (zw hB1);have HS2:=za hsc;obtain ⟨y0,y1,yf,yz⟩:=zp ((HB1.out.block W.heap.size (by rw [zsb];omega)).trans (zc W _));clear hB1 hsc))
 · go_upto_region 2 with fail
   refine zn (λW2=>Got w N d w1.heap.size n2 x2 cp2 W2/\W2.heap[w.heap.size]?=some (.cells #[.slice xe c.er.length cpe,.pointer (some ⟨nb,0,none⟩)] 206 (0,0))) ⟨zow HB.out HB1.out HS2.out hN,(Below.heap_alloc _ _ _ (by have:=HB1.out.size;omega)).trans ((HB1.out.block _ sz).trans Hs.out)⟩ ?_
   rintro W2 ⟨hG,hsb⟩
   obtain ⟨t0,t1,tf,tz⟩:=zp hG.box
   have HG:=za hG
   have HSb:=za hsb
   obtain ⟨p0,p1,pf,pz⟩:=zp hsb
   obtain ⟨k0,k1,k2,k3,k4,k5,kf,kz⟩:=zt ((hG.bel.block b hbz).trans HBk.out)
   have hzz:=hG.bel.size
   obtain ⟨n2',vs2,qv2,xs2,e9,hnt⟩:=hG.sc.nd
   cases e9
   obtain ⟨xv,cpv,rfl⟩:=zB hnt.vown
   have hn2:=hnt.lo
   have HNt:=za hnt
   clear hG hsb hnt s0 s1 m2 m3 m5 k0 k1 k2 k3 k4 kf HB1 HS2 HC1 HC2
   obtain ⟨_,_,e1,_,h16,_⟩:=HA.out.ex
   simp only [Value.slice.injEq] at e1
   obtain ⟨rfl,_,rfl⟩:=e1
   go_wp2_with fail
   go_loopg [24] (t.ts.length+1) (λj i wr=>∃k:Nat,k+j=t.ts.length+1/\k<=t.ts.length/\i=.int .i64 k/\Hid (zaQ c (t.ts.drop k) (d.nd.vars.drop k)=zaQ c t.ts d.nd.vars)/\Hid (Below W2.heap.size W2 wr))
   case atStart=>exact ⟨0,by omega,Nat.zero_le _,rfl,rfl,Below.refl _ _⟩
   case round =>
    obtain ⟨k,hkj,hk,rfl,HS,HBr⟩:=hrel
    have hBw:Below w.heap.size w wr:=HG.out.bel.trans (HBr.out.mono hzz)
    have hzr:=HBr.out.size
    by_cases hlt:k<t.ts.length
    · obtain ⟨u,hu⟩:∃u,t.ts[k]?=some u:=⟨_,zsc hlt⟩
      obtain ⟨v,hv⟩:∃v,d.nd.vars[k]?=some v:=⟨_,zsc (by omega)⟩
      obtain ⟨x',cp',e1,_,_,hin⟩:=(HA.out.old (zm hBw hN)).ex
      simp only [Value.slice.injEq] at e1
      obtain ⟨rfl,_,rfl⟩:=e1
      obtain ⟨g,o,rfl,hgN,hat⟩:=hin (by intro e;rw [e] at hlt;simp at hlt)
      obtain ⟨ub,hcu,hTu⟩:=hat k u hu
      have hnt2:=HNt.out.old (zm HBr.out (by omega:N<=W2.heap.size))
      obtain ⟨gv,rfl,_,_,c2,_⟩:=zaM hnt2.vown hv
      have hgv:=hnt2.vlo gv rfl
      obtain ⟨q0,q1,q2,q3,q4,q5,qf,qz⟩:=zt hnt2.blk
      have b0:=zd HBr.out p0 pz
      have b1:=zd HBr.out p1 pz
      have d1:=zd HBr.out t1 tz
      have HT:=za (zcQ hc u (.pointer (some ⟨ub,0,none⟩)) wr.drew (hTu.old (λ_ _=>rfl)) (HSc.out.old (w':=wr.drew) (zm (zo hBw) hN)) (by show N<=wr.heap.size;omega) (HO.out.sub (List.mem_of_getElem? hu)))
      have hS:=ze3 (c:=c) hu hv
      rw [HS.out] at hS
      have i0:(0:Int)<=(k:Int):=by omega
      have i1:(k:Int)<(d.nd.vars.length:Int):=by omega
      have hty:tyV v=zaK v:=rfl
      rw [hty] at hS
      have hgvz:gv<wr.heap.size:=by omega
      have hnz:n2<wr.heap.size:=by omega
      clear HS hin hat hTu hu hv hnt2 q0 q1 q3 q4 q5 qf hty
      generalize zaj c u=y1 at *
      generalize zaK v=y2 at *
      by_cases hq:y1=y2
      · have hq':((y1:Int) != (y2:Int))=false:=by simp [hq]
        rw [if_neg (by simp [hq])] at hS
        have HS2:=za hS
        clear hS hq
        go_upto_region 5 with fail
        go_region_held3 (λw'=>w'.cell? ⟨w.heap.size,0,none⟩=some (.slice xe c.er.length cpe)/\w'.cell? ⟨w.heap.size,1,none⟩=some (.pointer (some ⟨nb,0,none⟩))/\w'.cell? ⟨w1.heap.size,1,none⟩=some (.pointer (some ⟨n2,0,none⟩))/\w'.cell? ⟨n2,2,none⟩=some (.slice (some ⟨gv,0,none⟩) d.nd.vars.length cpv)/\w'.cell? ⟨gv,k*7+2,none⟩=some (.int .i64 y2))
         (first|(refine ⟨?_,?_,?_,?_,?_⟩ <;> repeat (first|with_reducible exact b0|with_reducible exact b1|with_reducible exact d1|with_reducible exact q2|with_reducible exact c2|with_reducible refine zg ?_|with_reducible refine zj _ ?_|with_reducible refine zk (by omega) ?_|with_reducible refine zd HB1.out ?_ (by first|omega|(rw [zsb];omega))))|go_keep)
         (first
           | (go_at_call 138;refine HT.out.mono ?_;rintro e w8 ⟨rfl,hB1⟩;have HB1:=za (zw hB1);clear hB1))
        all_goals go_wp2_with fail
        all_goals
         go_roundg (gk-1)
         case measure=>omega
         exact ⟨k+1,by omega,by omega,by go_num,HS2.out.symm,HBr.out.trans (HB1.out.mono hzr)⟩
      · have hq':((y1:Int) != (y2:Int))=true:=by simp;omega
        rw [if_pos (by simp [hq])] at hS
        have HS2:=za hS
        clear hS hq
        go_upto_region 5 with fail
        go_region_held3 (λw'=>w'.cell? ⟨w.heap.size,0,none⟩=some (.slice xe c.er.length cpe)/\w'.cell? ⟨w.heap.size,1,none⟩=some (.pointer (some ⟨nb,0,none⟩))/\w'.cell? ⟨w1.heap.size,1,none⟩=some (.pointer (some ⟨n2,0,none⟩))/\w'.cell? ⟨n2,2,none⟩=some (.slice (some ⟨gv,0,none⟩) d.nd.vars.length cpv)/\w'.cell? ⟨gv,k*7+2,none⟩=some (.int .i64 y2))
         (first|(refine ⟨?_,?_,?_,?_,?_⟩ <;> repeat (first|with_reducible exact b0|with_reducible exact b1|with_reducible exact d1|with_reducible exact q2|with_reducible exact c2|with_reducible refine zg ?_|with_reducible refine zj _ ?_|with_reducible refine zk (by omega) ?_|with_reducible refine zd HB1.out ?_ (by first|omega|(rw [zsb];omega))))|go_keep)
         (first
           | (go_at_call 138;refine HT.out.mono ?_;rintro e w8 ⟨rfl,hB1⟩;have HB1:=za (zw hB1);clear hB1))
        all_goals go_wp2_with fail
        all_goals go_ret
        all_goals exact ⟨by rw [HS2.out];rfl,hBw.trans (HB1.out.mono (by omega))⟩
    · have hS:zaQ c t.ts d.nd.vars=true:=by rw [<- HS.out,List.drop_of_length_le (by omega)];rfl
      have HS2:=za hS
      clear HS hS
      go_wp2_with fail
      go_ret
      exact ⟨by rw [HS2.out];rfl,hBw⟩
 · go_upto_region 2 with fail
   refine zn (λW2=>Got w N d W.heap.size n2 x2 cp2 W2/\W2.heap[w.heap.size]?=some (.cells #[.slice xe c.er.length cpe,.pointer (some ⟨nb,0,none⟩)] 206 (0,0))) ⟨zos HB.out HB1.out HS2.out hN,(zr (by omega) rfl).trans ((zr (by omega) rfl).trans ((HB1.out.block _ (by rw [zsb];omega)).trans ((Below.heap_alloc _ _ _ sz).trans Hs.out)))⟩ ?_
   rintro W2 ⟨hG,hsb⟩
   obtain ⟨t0,t1,tf,tz⟩:=zp hG.box
   have HG:=za hG
   have HSb:=za hsb
   obtain ⟨p0,p1,pf,pz⟩:=zp hsb
   obtain ⟨k0,k1,k2,k3,k4,k5,kf,kz⟩:=zt ((hG.bel.block b hbz).trans HBk.out)
   have hzz:=hG.bel.size
   obtain ⟨n2',vs2,qv2,xs2,e9,hnt⟩:=hG.sc.nd
   cases e9
   obtain ⟨xv,cpv,rfl⟩:=zB hnt.vown
   have hn2:=hnt.lo
   have HNt:=za hnt
   clear hG hsb hnt s0 s1 m2 m3 m5 k0 k1 k2 k3 k4 kf HB1 HS2 HC1 HC2
   obtain ⟨_,_,e1,_,h16,_⟩:=HA.out.ex
   simp only [Value.slice.injEq] at e1
   obtain ⟨rfl,_,rfl⟩:=e1
   go_wp2_with fail
   go_loopg [24] (t.ts.length+1) (λj i wr=>∃k:Nat,k+j=t.ts.length+1/\k<=t.ts.length/\i=.int .i64 k/\Hid (zaQ c (t.ts.drop k) (d.nd.vars.drop k)=zaQ c t.ts d.nd.vars)/\Hid (Below W2.heap.size W2 wr))
   case atStart=>exact ⟨0,by omega,Nat.zero_le _,rfl,rfl,Below.refl _ _⟩
   case round =>
    obtain ⟨k,hkj,hk,rfl,HS,HBr⟩:=hrel
    have hBw:Below w.heap.size w wr:=HG.out.bel.trans (HBr.out.mono hzz)
    have hzr:=HBr.out.size
    by_cases hlt:k<t.ts.length
    · obtain ⟨u,hu⟩:∃u,t.ts[k]?=some u:=⟨_,zsc hlt⟩
      obtain ⟨v,hv⟩:∃v,d.nd.vars[k]?=some v:=⟨_,zsc (by omega)⟩
      obtain ⟨x',cp',e1,_,_,hin⟩:=(HA.out.old (zm hBw hN)).ex
      simp only [Value.slice.injEq] at e1
      obtain ⟨rfl,_,rfl⟩:=e1
      obtain ⟨g,o,rfl,hgN,hat⟩:=hin (by intro e;rw [e] at hlt;simp at hlt)
      obtain ⟨ub,hcu,hTu⟩:=hat k u hu
      have hnt2:=HNt.out.old (zm HBr.out (by omega:N<=W2.heap.size))
      obtain ⟨gv,rfl,_,_,c2,_⟩:=zaM hnt2.vown hv
      have hgv:=hnt2.vlo gv rfl
      obtain ⟨q0,q1,q2,q3,q4,q5,qf,qz⟩:=zt hnt2.blk
      have b0:=zd HBr.out p0 pz
      have b1:=zd HBr.out p1 pz
      have d1:=zd HBr.out t1 tz
      have HT:=za (zcQ hc u (.pointer (some ⟨ub,0,none⟩)) wr.drew (hTu.old (λ_ _=>rfl)) (HSc.out.old (w':=wr.drew) (zm (zo hBw) hN)) (by show N<=wr.heap.size;omega) (HO.out.sub (List.mem_of_getElem? hu)))
      have hS:=ze3 (c:=c) hu hv
      rw [HS.out] at hS
      have i0:(0:Int)<=(k:Int):=by omega
      have i1:(k:Int)<(d.nd.vars.length:Int):=by omega
      have hty:tyV v=zaK v:=rfl
      rw [hty] at hS
      have hgvz:gv<wr.heap.size:=by omega
      have hnz:n2<wr.heap.size:=by omega
      clear HS hin hat hTu hu hv hnt2 q0 q1 q3 q4 q5 qf hty
      generalize zaj c u=y1 at *
      generalize zaK v=y2 at *
      by_cases hq:y1=y2
      · have hq':((y1:Int) != (y2:Int))=false:=by simp [hq]
        rw [if_neg (by simp [hq])] at hS
        have HS2:=za hS
        clear hS hq
        go_upto_region 5 with fail
        go_region_held3 (λw'=>w'.cell? ⟨w.heap.size,0,none⟩=some (.slice xe c.er.length cpe)/\w'.cell? ⟨w.heap.size,1,none⟩=some (.pointer (some ⟨nb,0,none⟩))/\w'.cell? ⟨W.heap.size,1,none⟩=some (.pointer (some ⟨n2,0,none⟩))/\w'.cell? ⟨n2,2,none⟩=some (.slice (some ⟨gv,0,none⟩) d.nd.vars.length cpv)/\w'.cell? ⟨gv,k*7+2,none⟩=some (.int .i64 y2))
         (first|(refine ⟨?_,?_,?_,?_,?_⟩ <;> repeat (first|with_reducible exact b0|with_reducible exact b1|with_reducible exact d1|with_reducible exact q2|with_reducible exact c2|with_reducible refine zg ?_|with_reducible refine zj _ ?_|with_reducible refine zk (by omega) ?_|with_reducible refine zd HB1.out ?_ (by first|omega|(rw [zsb];omega))))|go_keep)
         (first
           | (go_at_call 138;refine HT.out.mono ?_;rintro e w8 ⟨rfl,hB1⟩;have HB1:=za (zw hB1);clear hB1))
        all_goals go_wp2_with fail
        all_goals
         go_roundg (gk-1)
         case measure=>omega
         exact ⟨k+1,by omega,by omega,by go_num,HS2.out.symm,HBr.out.trans (HB1.out.mono hzr)⟩
      · have hq':((y1:Int) != (y2:Int))=true:=by simp;omega
        rw [if_pos (by simp [hq])] at hS
        have HS2:=za hS
        clear hS hq
        go_upto_region 5 with fail
        go_region_held3 (λw'=>w'.cell? ⟨w.heap.size,0,none⟩=some (.slice xe c.er.length cpe)/\w'.cell? ⟨w.heap.size,1,none⟩=some (.pointer (some ⟨nb,0,none⟩))/\w'.cell? ⟨W.heap.size,1,none⟩=some (.pointer (some ⟨n2,0,none⟩))/\w'.cell? ⟨n2,2,none⟩=some (.slice (some ⟨gv,0,none⟩) d.nd.vars.length cpv)/\w'.cell? ⟨gv,k*7+2,none⟩=some (.int .i64 y2))
         (first|(refine ⟨?_,?_,?_,?_,?_⟩ <;> repeat (first|with_reducible exact b0|with_reducible exact b1|with_reducible exact d1|with_reducible exact q2|with_reducible exact c2|with_reducible refine zg ?_|with_reducible refine zj _ ?_|with_reducible refine zk (by omega) ?_|with_reducible refine zd HB1.out ?_ (by first|omega|(rw [zsb];omega))))|go_keep)
         (first
           | (go_at_call 138;refine HT.out.mono ?_;rintro e w8 ⟨rfl,hB1⟩;have HB1:=za (zw hB1);clear hB1))
        all_goals go_wp2_with fail
        all_goals go_ret
        all_goals exact ⟨by rw [HS2.out];rfl,hBw.trans (HB1.out.mono (by omega))⟩
    · have hS:zaQ c t.ts d.nd.vars=true:=by rw [<- HS.out,List.drop_of_length_le (by omega)];rfl
      have HS2:=za hS
      clear HS hS
      go_wp2_with fail
      go_ret
      exact ⟨by rw [HS2.out];rfl,hBw⟩
end
end Go.Proofs.YtedmpgjebafcjaaGreatDoor
