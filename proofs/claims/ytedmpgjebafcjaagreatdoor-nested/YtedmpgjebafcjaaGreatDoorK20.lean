/- Part 21 of the proof: ClkB ClkC. -/
import Derived.Test.YtedmpgjebafcjaaGreatDoorK19
set_option maxRecDepth 100000
set_option maxHeartbeats 8000000
namespace Go.Proofs.YtedmpgjebafcjaaGreatDoor
section
open Go.RowKit
attribute [local go_sem ↓] Go.wp_at_zero Go.wp_at_succ
theorem znZ {c:Sc} {k:Nat} {v:Vr} (hv:c.nd.vars[k]?=some v) (h:zaA v=0):c.of k=(0,0):=by
 unfold Sc.of;rw [hv];exact if_pos h
theorem znq {c:Sc} {k:Nat} {v:Vr} (hv:c.nd.vars[k]?=some v) (h:¬zaA v=0):c.of k=(c.idx v.ck,zaA v):=by
 unfold Sc.of;rw [hv];exact if_neg h
theorem zkk {W:World} {c:Sc} {cb k:Nat} (h:zbn W cb pr (ckL c k)) :
 ∃W1 W2,(Instr.mapUpdate 99 (.map (some cb)) (.agg #[.int .i64 (k:Int),.int .i64 1]) (.agg #[.int .i64 ((c.of k).1:Nat),.int .i64 ((c.of k).2:Nat)])).run Tryz.prog W=.ok () W1/\Fr (·=cb) W W1/\(Instr.mapUpdate 99 (.map (some cb)) (.agg #[.int .i64 (k:Int),.int .i64 2]) (.agg #[.int .i64 ((c.of k).1:Nat),.int .i64 ((c.of k).2:Nat)])).run Tryz.prog W1=.ok () W2/\Fr (·=cb) W1 W2/\zbn W2 cb pr (ckL c (k+1)):=by
 obtain ⟨W1,r1,m1,f1⟩:=zgh Tryz.keyClock Tryz.underlying99 h ((k:Int),1) (pr (clk (c.of k)))
 rw [zng] at m1
 obtain ⟨W2,r2,m2,f2⟩:=zgh Tryz.keyClock Tryz.underlying99 m1 ((k:Int),2) (pr (clk (c.of k)))
 rw [zn3] at m2
 exact ⟨W1,W2,r1,f1,r2,f2,m2⟩
theorem zbR {cb:Nat} {w W W1:World} (h:Below w.heap.size w W) (hf:Fr (·=cb) W W1) (hcb:w.heap.size<=cb):Below w.heap.size w W1 :=
 ⟨hf.os.trans h.os,hf.tape.trans h.tape,hf.output.trans h.output,Nat.le_trans h.size hf.size,λk hk=>(hf.block k (Nat.lt_of_lt_of_le hk h.size) (by omega)).trans (h.block k hk)⟩
theorem zeC {N:Nat} {c:Sc} {ev nv:Value} (w:World) (h:ScV w N c ev nv) (hN:N<=w.heap.size) :
 Calls Tryz.prog 66 #[.agg #[ev,nv]] w (λe w'=>∃cb,e=.returned (.map (some cb))/\w.heap.size<=cb/\za7 w' c cb/\Below w.heap.size w w'):=by
 obtain ⟨xe,cpe,nb,rfl,rfl,hnb⟩:=h.shape
 have HSc:=za h
 obtain ⟨nb',vs,qv,xs,e9,hnt⟩:=h.nd
 cases e9
 obtain ⟨xv,cpv,rfl⟩:=zB hnt.vown
 obtain ⟨xq,cpq,rfl⟩:=zB hnt.own
 obtain ⟨m0,m1,m2,m3,m4,m5,mf,mz⟩:=zt hnt.blk
 have HNt:=za hnt
 have hfew:=hnt.few
 have hmm:=@run_makeMap Tryz.prog
 have hnw:nb<w.heap.size:=by omega
 have hA:∀o1 o2,((w.alloc o1).alloc o2).heap[w.heap.size]?=some o1/\((w.alloc o1).alloc o2).heap[w.heap.size+1]?=some o2:=λo1 o2=>zd8 w o1 o2
 have HA:=za hA
 clear h hnt hA
 go_enter Tryz.func66,Tryz.ntmps66
 go_wp2_with fail
 go_loopg [14] (c.nd.vars.length+1) (λj x wr=>∃k:Nat,k+j=c.nd.vars.length+1/\k<=c.nd.vars.length/\x=.int .i64 k/\Hid (zbn wr (w.heap.size+1) pr (ckL c k))/\Hid (wr.heap[w.heap.size]?=some (.cells #[.slice xe c.er.length cpe,.pointer (some ⟨nb,0,none⟩)] 88 (0,0)))/\Hid (Below w.heap.size w wr))
 case atStart=>exact ⟨0,by omega,Nat.zero_le _,rfl,⟨#[],0,(HA.out _ _).2,rfl⟩,(HA.out _ _).1,zaD w _ _⟩
 case round =>
  clear HA m0 m1 m2 m3 m4 m5 mf mz hmm
  obtain ⟨k,hkj,hk,rfl,HM,HX,HB⟩:=hrel
  have hO:=zm HB.out hN
  by_cases hlt:k<c.nd.vars.length
  · obtain ⟨v,hv⟩:∃v,c.nd.vars[k]?=some v:=⟨_,zsc hlt⟩
    obtain ⟨g,rfl,c0,c1,c2,c3,c4,c5,c6⟩:=zaM (HNt.out.old hO).vown hv
    have hgN:=HNt.out.vlo g rfl
    obtain ⟨s0,s1,sf,sz⟩:=zp HX.out
    have hzr:=HM.out.lt
    have HSr:=za (HSc.out.old hO)
    have hwz:=HB.out.size
    have hA:=zd8 wr (.cells #[.string v.nm,.int .i64 v.a,.int .i64 (zaK v:Nat),.int .i64 (zaA v:Nat),.int .i64 v.on,.string v.ck,.int .i64 v.ca] 110) (.cells #[.int .i64 0,.int .i64 0] 169)
    have HA:=za hA
    have HV:=za hv
    clear hA hO hv
    by_cases hsg:zaA v=0
    · have hsg':(zaA v:Int)=0:=by omega
      have ho:=znZ HV.out hsg
      rw [hsg] at c3 HA
      have HO:=za ho
      clear ho hsg hsg'
      go_upto_region 8 with fail
      refine zn (λW=>zbn W (w.heap.size+1) pr (ckL c k)/\W.heap[wr.heap.size+1]?=some (.cells #[.int .i64 ((c.of k).1:Nat),.int .i64 ((c.of k).2:Nat)] 169 (0,0))/\Below w.heap.size w W/\W.heap[w.heap.size]?=some (.cells #[.slice xe c.er.length cpe,.pointer (some ⟨nb,0,none⟩)] 88 (0,0))) ⟨HM.out.of ((zaD wr _ _).block _ hzr),by rw [HO.out];exact HA.out.2,HB.out.trans ((zaD wr _ _).mono hwz),(Below.block (zaD wr _ _) _ sz).trans HX.out⟩ ?_
      rintro W ⟨hMW,hZW,hBW,hXW⟩
      obtain ⟨W1,W2,r1,f1,r2,f2,m2⟩:=zkk hMW
      obtain ⟨o0,o1,of,oz⟩:=zp hZW
      have hne:¬wr.heap.size+1=w.heap.size+1:=by omega
      obtain ⟨p0,p1,pf,pz⟩:=zp ((f1.block _ oz hne).trans hZW)
      have HM2:=za m2
      have HB2:=za (zbR (zbR hBW f1 (by omega)) f2 (by omega))
      have HX2:Hid (W2.heap[w.heap.size]?=some (.cells #[.slice xe c.er.length cpe,.pointer (some ⟨nb,0,none⟩)] 88 (0,0))):=(f2.block _ (by have:=f1.size;have:=ze hXW;omega) (by omega)).trans ((f1.block _ (ze hXW) (by omega)).trans hXW)
      clear hMW hZW hBW hXW f1 f2 m2
      go_wp2_with fail
      go_roundg (gk-1)
      case measure=>omega
      exact ⟨k+1,by omega,by omega,by go_num,HM2.out,HX2.out,HB2.out⟩
    · have hsg':¬(zaA v:Int)=0:=by omega
      have ho:=znq HV.out hsg
      have HO:=za ho
      clear ho hsg
      go_upto_region 7 with fail
      refine zn (λW=>zbn W (w.heap.size+1) pr (ckL c k)/\Below w.heap.size w W/\W.heap[w.heap.size]?=some (.cells #[.slice xe c.er.length cpe,.pointer (some ⟨nb,0,none⟩)] 88 (0,0))/\W.heap[wr.heap.size]?=some (.cells #[.string v.nm,.int .i64 v.a,.int .i64 (zaK v:Nat),.int .i64 (zaA v:Nat),.int .i64 v.on,.string v.ck,.int .i64 v.ca] 110 (0,0))/\W.heap[wr.heap.size+1]?=some (.cells #[.int .i64 0,.int .i64 0] 169 (0,0))) ⟨HM.out.of ((zaD wr _ _).block _ hzr),HB.out.trans ((zaD wr _ _).mono hwz),(Below.block (zaD wr _ _) _ sz).trans HX.out,HA.out.1,HA.out.2⟩ ?_
      rintro W ⟨hMW,hBW,hXW,hVW,hZW⟩
      obtain ⟨s0,s1,sf,sz⟩:=zp hXW
      obtain ⟨v0,v1,v2,v3,v4,v5,v6,vf,vz⟩:=zbZ hVW
      obtain ⟨z0,z1,zf,zz⟩:=zp hZW
      have hWz:w.heap.size<=W.heap.size:=hBW.size
      have HIx:=za (zaz v.ck (v.ca:Int) W.drew (HSc.out.old (zm (zo hBW) hN)) (by show N<=W.heap.size;omega))
      have HMW:=za hMW
      have HBW:=za hBW
      have HXW:=za hXW
      have HZW:=za hZW
      clear hMW hBW hXW hVW hZW v0 v1 v2 v4 vf c0 c1 c2 c3 c4 c5 c6
      go_region_held3 (λw'=>w'.cell? ⟨w.heap.size,0,none⟩=some (.slice xe c.er.length cpe)/\w'.cell? ⟨w.heap.size,1,none⟩=some (.pointer (some ⟨nb,0,none⟩))/\w'.cell? ⟨wr.heap.size,3,none⟩=some (.int .i64 (zaA v:Nat))/\w'.cell? ⟨wr.heap.size,5,none⟩=some (.string v.ck)/\w'.cell? ⟨wr.heap.size,6,none⟩=some (.int .i64 v.ca))
       (first|(refine ⟨?_,?_,?_,?_,?_⟩ <;> repeat (first|with_reducible exact s0|with_reducible exact s1|with_reducible exact v3|with_reducible exact v5|with_reducible exact v6|with_reducible refine zg ?_|with_reducible refine zj _ ?_|with_reducible refine zk (by omega) ?_|with_reducible refine zd HB1.out ?_ (by first|omega|(rw [zsb];omega))))|go_keep)
       (first|(go_at_call 72;refine HIx.out.mono ?_;rintro e w1 ⟨rfl,hB1⟩;have HB1:=za (zw hB1);have hz1:=hB1.size;have y0:=zd HB1.out z0 zz;have y1:=zd HB1.out z1 zz;have yf:=zai ((HB1.out.block _ zz).trans HZW.out);clear hB1))
      go_upto_region 8 with fail
      refine zn (λW=>zbn W (w.heap.size+1) pr (ckL c k)/\W.heap[wr.heap.size+1]?=some (.cells #[.int .i64 ((c.of k).1:Nat),.int .i64 ((c.of k).2:Nat)] 169 (0,0))/\Below w.heap.size w W/\W.heap[w.heap.size]?=some (.cells #[.slice xe c.er.length cpe,.pointer (some ⟨nb,0,none⟩)] 88 (0,0))) ⟨HMW.out.of (zr (by omega) (zr (by omega) (HB1.out.block _ HMW.out.lt))),by rw [HO.out];exact zdR ((HB1.out.block _ zz).trans HZW.out) _ _,zC (zC (HBW.out.trans (HB1.out.mono hWz)) (by omega) _) (by omega) _,zr (by omega) (zr (by omega) ((HB1.out.block _ sz).trans HXW.out))⟩ ?_
      clear s0 s1 sf v3 v5 v6 z0 z1 zf y0 y1 yf
      rintro W ⟨hMW,hZW,hBW,hXW⟩
      obtain ⟨W1,W2,r1,f1,r2,f2,m2⟩:=zkk hMW
      obtain ⟨o0,o1,of,oz⟩:=zp hZW
      have hne:¬wr.heap.size+1=w.heap.size+1:=by omega
      obtain ⟨p0,p1,pf,pz⟩:=zp ((f1.block _ oz hne).trans hZW)
      have HM2:=za m2
      have HB2:=za (zbR (zbR hBW f1 (by omega)) f2 (by omega))
      have HX2:Hid (W2.heap[w.heap.size]?=some (.cells #[.slice xe c.er.length cpe,.pointer (some ⟨nb,0,none⟩)] 88 (0,0))):=(f2.block _ (by have:=f1.size;have:=ze hXW;omega) (by omega)).trans ((f1.block _ (ze hXW) (by omega)).trans hXW)
      clear hMW hZW hBW hXW f1 f2 m2
      go_wp2_with fail
      go_roundg (gk-1)
      case measure=>omega
      exact ⟨k+1,by omega,by omega,by go_num,HM2.out,HX2.out,HB2.out⟩
  · have ek:k=c.nd.vars.length:=by omega
    subst ek
    go_wp2_with fail
    go_ret
    exact ⟨_,rfl,by omega,HM.out,HB.out⟩
theorem zjV {N:Nat} {c:Sc} {ev nv:Value} {cb:Nat} (t:Tm) (v:Value) (i:Nat) (k:Nat×Nat) (w:World) (hT:TT w N t v) (h:ScV w N c ev nv) (hc:za7 w c cb) (hN:N<=w.heap.size) :
 Calls Tryz.prog 144 #[.map (some cb),.agg #[ev,nv],v,.int .i64 (i:Int),.agg #[.int .i64 (k.1:Nat),.int .i64 (k.2:Nat)]] w (λe w'=>e=.returned (.agg #[.int .i64 ((c.operand t i k).1:Nat),.int .i64 ((c.operand t i k).2:Nat)])/\Below w.heap.size w w'):=by
 obtain ⟨xe,cpe,nb,rfl,rfl,hnb⟩:=h.shape
 obtain ⟨b,args,vs,rfl,hb,hblk,_⟩:=hT.ptr
 have HBk:=za hblk
 have hbz:=ze hblk
 have HSc:=za h
 have HCk:=za hc
 clear hT h hc hblk
 go_enter Tryz.func144,Tryz.ntmps144
 go_upto_region 1 with fail
 refine zn (λW=>(ScV W N c (.slice xe c.er.length cpe) (.pointer (some ⟨nb,0,none⟩))/\za7 W c cb/\Below w.heap.size w W)/\W.heap[w.heap.size]?=some (.cells #[.slice xe c.er.length cpe,.pointer (some ⟨nb,0,none⟩)] 88 (0,0))/\W.heap[w.heap.size+1]?=some (.cells #[.int .i64 (k.1:Nat),.int .i64 (k.2:Nat)] 169 (0,0))/\W.heap[w.heap.size+1+1]?=some (.cells #[.int .i64 0,.int .i64 0] 169 (0,0))) ⟨⟨HSc.out.old (zot hN _ _ _),HCk.out.keep (zcz w _ _ _),zcz w _ _ _⟩,(al3 w _ _ _).1,(al3 w _ _ _).2.1,(al3 w _ _ _).2.2⟩ ?_
 rintro W ⟨⟨hSW,hCW,hBW⟩,hXW,hYW,hZW⟩
 obtain ⟨s0,s1,sf,sz⟩:=zp hXW
 obtain ⟨k0,k1,kf,kz⟩:=zp hYW
 obtain ⟨z0,z1,zf,zz⟩:=zp hZW
 obtain ⟨m0,m1,m2,m3,m4,m5,mf,mz⟩:=zt ((hBW.block b hbz).trans HBk.out)
 have hWz:w.heap.size<=W.heap.size:=hBW.size
 have HIx:=za (zaz t.s (t.nm:Int) W.drew (hSW.old (λ_ _=>rfl)) (by show N<=W.heap.size;omega))
 have HSW:=za hSW
 have HCW:=za hCW
 have HBW:=za hBW
 have HZW:=za hZW
 clear hSW hCW hBW hXW hYW hZW m1 m4 m5
 by_cases h7:t.k=7
 · have hk:=h7
   have ho:c.operand t i k=c.of (c.idx t.s):=if_pos (Or.inl hk)
   have m0':W.cell? ⟨b,0,none⟩=some (.int .i64 7):=by rw [m0,hk];rfl
   have HO:=za ho
   clear m0 hk ho h7
   go_upto_region 4 with fail
   go_region_held3 (λw'=>w'.cell? ⟨w.heap.size,0,none⟩=some (.slice xe c.er.length cpe)/\w'.cell? ⟨w.heap.size,1,none⟩=some (.pointer (some ⟨nb,0,none⟩))/\w'.cell? ⟨b,2,none⟩=some (.string t.s)/\w'.cell? ⟨b,3,none⟩=some (.int .i64 t.nm))
    (first|(refine ⟨?_,?_,?_,?_⟩ <;> repeat (first|with_reducible exact s0|with_reducible exact s1|with_reducible exact m2|with_reducible exact m3|with_reducible refine zg ?_|with_reducible refine zj _ ?_|with_reducible refine zk (by omega) ?_|with_reducible refine zd HB2.out ?_ (by first|omega|(rw [zsb];omega))|with_reducible refine zd HB1.out ?_ (by first|omega|(rw [zsb];omega))))|go_keep)
    (first
      | (go_at_call 71;refine HOf.out.mono ?_;rintro e w2 ⟨rfl,hB2⟩;have HB2:=za hB2;have hz2:w1.heap.size<=w2.heap.size:=hB2.size;have y0:=zd HB2.out (zd HB1.out z0 zz) (by omega);have y1:=zd HB2.out (zd HB1.out z1 zz) (by omega);have yf:=zai ((HB2.out.block _ (by omega)).trans ((HB1.out.block _ zz).trans HZW.out));clear hB2)
      | (go_at_call 72;refine HIx.out.mono ?_;rintro e w1 ⟨rfl,hB1⟩;have HB1:=za (zw hB1);have hz1:W.heap.size<=w1.heap.size:=hB1.size;have HOf:=za (zbC (c.idx t.s) w1 (HCW.out.keep HB1.out));clear hB1))
   go_wp2_with fail
   rw [HO.out]
   refine bodyPost_ret (v:=.agg #[.int .i64 ((c.of (c.idx t.s)).1:Nat),.int .i64 ((c.of (c.idx t.s)).2:Nat)]) (by simp [results,Tryz.results144,go_sem,y0,y1]) rfl ⟨rfl,zC (zC (HBW.out.trans ((HB1.out.trans (HB2.out.mono hz1)).mono hWz)) (by omega) _) (by omega) _⟩
 by_cases h8:t.k=8
 · have hk:=h8
   have ho:c.operand t i k=c.of (c.idx t.s):=if_pos (Or.inr hk)
   have m0':W.cell? ⟨b,0,none⟩=some (.int .i64 8):=by rw [m0,hk];rfl
   have HO:=za ho
   clear m0 hk ho h7 h8
   go_upto_region 4 with fail
   go_region_held3 (λw'=>w'.cell? ⟨w.heap.size,0,none⟩=some (.slice xe c.er.length cpe)/\w'.cell? ⟨w.heap.size,1,none⟩=some (.pointer (some ⟨nb,0,none⟩))/\w'.cell? ⟨b,2,none⟩=some (.string t.s)/\w'.cell? ⟨b,3,none⟩=some (.int .i64 t.nm))
    (first|(refine ⟨?_,?_,?_,?_⟩ <;> repeat (first|with_reducible exact s0|with_reducible exact s1|with_reducible exact m2|with_reducible exact m3|with_reducible refine zg ?_|with_reducible refine zj _ ?_|with_reducible refine zk (by omega) ?_|with_reducible refine zd HB2.out ?_ (by first|omega|(rw [zsb];omega))|with_reducible refine zd HB1.out ?_ (by first|omega|(rw [zsb];omega))))|go_keep)
    (first
      | (go_at_call 71;refine HOf.out.mono ?_;rintro e w2 ⟨rfl,hB2⟩;have HB2:=za hB2;have hz2:w1.heap.size<=w2.heap.size:=hB2.size;have y0:=zd HB2.out (zd HB1.out z0 zz) (by omega);have y1:=zd HB2.out (zd HB1.out z1 zz) (by omega);have yf:=zai ((HB2.out.block _ (by omega)).trans ((HB1.out.block _ zz).trans HZW.out));clear hB2)
      | (go_at_call 72;refine HIx.out.mono ?_;rintro e w1 ⟨rfl,hB1⟩;have HB1:=za (zw hB1);have hz1:W.heap.size<=w1.heap.size:=hB1.size;have HOf:=za (zbC (c.idx t.s) w1 (HCW.out.keep HB1.out));clear hB1))
   go_wp2_with fail
   rw [HO.out]
   refine bodyPost_ret (v:=.agg #[.int .i64 ((c.of (c.idx t.s)).1:Nat),.int .i64 ((c.of (c.idx t.s)).2:Nat)]) (by simp [results,Tryz.results144,go_sem,y0,y1]) rfl ⟨rfl,zC (zC (HBW.out.trans ((HB1.out.trans (HB2.out.mono hz1)).mono hWz)) (by omega) _) (by omega) _⟩
 by_cases hk:t.k=6
 by_cases hi:0<i
 · have ho:c.operand t i k=(c.idx t.s,2):=by unfold Sc.operand;rw [if_neg (by omega),if_pos hk,if_pos hi]
   have m0':W.cell? ⟨b,0,none⟩=some (.int .i64 6):=by rw [m0,hk];rfl
   have hi': (0:Int)<(i:Int):=by omega
   have HO:=za ho
   clear m0 hk ho hi h7 h8
   go_upto_region 9 with fail
   go_region_held3 (λw'=>w'.cell? ⟨w.heap.size,0,none⟩=some (.slice xe c.er.length cpe)/\w'.cell? ⟨w.heap.size,1,none⟩=some (.pointer (some ⟨nb,0,none⟩))/\w'.cell? ⟨b,2,none⟩=some (.string t.s)/\w'.cell? ⟨b,3,none⟩=some (.int .i64 t.nm))
    (first|(refine ⟨?_,?_,?_,?_⟩ <;> repeat (first|with_reducible exact s0|with_reducible exact s1|with_reducible exact m2|with_reducible exact m3|with_reducible refine zg ?_|with_reducible refine zj _ ?_|with_reducible refine zk (by omega) ?_|with_reducible refine zd HB1.out ?_ (by first|omega|(rw [zsb];omega))))|go_keep)
    (first
      | (go_at_call 72;refine HIx.out.mono ?_;rintro e w1 ⟨rfl,hB1⟩;have HB1:=za (zw hB1);have hz1:W.heap.size<=w1.heap.size:=hB1.size;have y0:=zd HB1.out z0 zz;have y1:=zd HB1.out z1 zz;have yf:=zai ((HB1.out.block _ zz).trans HZW.out);clear hB1))
   go_wp2_with fail
   rw [HO.out]
   refine bodyPost_ret (v:=.agg #[.int .i64 (c.idx t.s:Nat),.int .i64 2]) (by simp [results,Tryz.results144,go_sem,y0,y1]) rfl ⟨rfl,zC (zC (HBW.out.trans (HB1.out.mono hWz)) (by omega) _) (by omega) _⟩
 · have ho:c.operand t i k=(c.idx t.s,1):=by unfold Sc.operand;rw [if_neg (by omega),if_pos hk,if_neg hi]
   have m0':W.cell? ⟨b,0,none⟩=some (.int .i64 6):=by rw [m0,hk];rfl
   have hi':¬(0:Int)<(i:Int):=by omega
   have HO:=za ho
   clear m0 hk ho hi h7 h8
   go_upto_region 9 with fail
   go_region_held3 (λw'=>w'.cell? ⟨w.heap.size,0,none⟩=some (.slice xe c.er.length cpe)/\w'.cell? ⟨w.heap.size,1,none⟩=some (.pointer (some ⟨nb,0,none⟩))/\w'.cell? ⟨b,2,none⟩=some (.string t.s)/\w'.cell? ⟨b,3,none⟩=some (.int .i64 t.nm))
    (first|(refine ⟨?_,?_,?_,?_⟩ <;> repeat (first|with_reducible exact s0|with_reducible exact s1|with_reducible exact m2|with_reducible exact m3|with_reducible refine zg ?_|with_reducible refine zj _ ?_|with_reducible refine zk (by omega) ?_|with_reducible refine zd HB1.out ?_ (by first|omega|(rw [zsb];omega))))|go_keep)
    (first
      | (go_at_call 72;refine HIx.out.mono ?_;rintro e w1 ⟨rfl,hB1⟩;have HB1:=za (zw hB1);have hz1:W.heap.size<=w1.heap.size:=hB1.size;have y0:=zd HB1.out z0 zz;have y1:=zd HB1.out z1 zz;have yf:=zai ((HB1.out.block _ zz).trans HZW.out);clear hB1))
   go_wp2_with fail
   rw [HO.out]
   refine bodyPost_ret (v:=.agg #[.int .i64 (c.idx t.s:Nat),.int .i64 1]) (by simp [results,Tryz.results144,go_sem,y0,y1]) rfl ⟨rfl,zC (zC (HBW.out.trans (HB1.out.mono hWz)) (by omega) _) (by omega) _⟩
 · have ho:c.operand t i k=k:=by unfold Sc.operand;rw [if_neg (by omega),if_neg hk]
   have g7:¬(t.k:Int)=7:=by omega
   have g8:¬(t.k:Int)=8:=by omega
   have g6:¬(t.k:Int)=6:=by omega
   have HO:=za ho
   clear ho h7 h8 hk
   go_wp2_with fail
   rw [HO.out]
   refine bodyPost_ret (v:=.agg #[.int .i64 (k.1:Nat),.int .i64 (k.2:Nat)]) (by simp [results,Tryz.results144,go_sem,z0,z1]) rfl ⟨rfl,zC (zC HBW.out (by omega) _) (by omega) _⟩
end
section
open Go.RowKit
attribute [local go_sem ↓] Go.wp_at_zero Go.wp_at_succ
structure FT (T:World->Nat->Prop) (w w':World):Prop where
 fr:Fr (T w) w w'
 tk:∀k,T w' k->T w k∨w.heap.size<=k
theorem FT.trans {T:World->Nat->Prop} {a b c:World} (h1:FT T a b) (h2:FT T b c):FT T a c:=by
 refine ⟨⟨h2.fr.os.trans h1.fr.os,h2.fr.tape.trans h1.fr.tape,h2.fr.output.trans h1.fr.output,Nat.le_trans h1.fr.size h2.fr.size,λk hk hn=>?_⟩,λk hk=>?_⟩
 · refine (h2.fr.block k (Nat.lt_of_lt_of_le hk h1.fr.size) (λe=>?_)).trans (h1.fr.block k hk hn)
   rcases h1.tk k e with e|e
   · exact hn e
   · omega
 · rcases h2.tk k hk with e|e
   · exact h1.tk k e
   · exact Or.inr (Nat.le_trans h1.fr.size e)
theorem FT.below {T:World->Nat->Prop} {w w':World} (h:Below w.heap.size w w') (ht:∀k,T w' k->T w k):FT T w w':=⟨Fr.of_below h,λk e=>Or.inl (ht k e)⟩
theorem FT.const {T:Nat->Prop} {w w':World} (h:Fr T w w'):FT (λ_=>T) w w':=⟨h,λ_ e=>Or.inl e⟩
theorem FT.cell {T:World->Nat->Prop} {w w':World} {b i:Nat} {v:Value} (h:FT T w w') (hc:w.cell? ⟨b,i,none⟩=some v) (hb:¬T w b):w'.cell? ⟨b,i,none⟩=some v:=by
 have hlt:b<w.heap.size:=by
  rcases Nat.lt_or_ge b w.heap.size with h|h
  · exact h
  · simp [World.cell?,Array.getElem?_eq_none h] at hc
 exact (World.cell?_of_block (w:=w) (h.fr.block b hlt hb)).trans hc
theorem FT.old {T:World->Nat->Prop} {w w':World} (h:FT T w w') {N:Nat} (hN:N<=w.heap.size) (hT:∀k,T w k->N<=k):Old N w w':=h.fr.old hN hT
mutual
def zcs {σ:Type} (c:Sc) (g:Tm->Nat×Nat->Bool) (sE sL:σ->Tm->Nat×Nat->σ):Tm->Nat×Nat->σ->σ
 | .mk x a s nm n ts,k,st=>sL (if g (.mk x a s nm n ts) k=true then zcu c g sE sL (.mk x a s nm n ts) k ts 0 (sE st (.mk x a s nm n ts) k) else sE st (.mk x a s nm n ts) k) (.mk x a s nm n ts) k
def zcu {σ:Type} (c:Sc) (g:Tm->Nat×Nat->Bool) (sE sL:σ->Tm->Nat×Nat->σ) (t:Tm) (k:Nat×Nat):List Tm->Nat->σ->σ
 | [],_,st=>st
 | u::l,i,st=>zcu c g sE sL t k l (i+1) (zcs c g sE sL u (c.operand t i k) st)
end
def ckV (k:Nat×Nat):Value:=.agg #[.int .i64 (k.1:Nat),.int .i64 (k.2:Nat)]
structure znz {σ:Type} (N:Nat) (c:Sc) (ev nv:Value) (cb:Nat) (T:World->Nat->Prop) (FE:FuncId) (cE:Array Value) (FL:FuncId) (cL:Array Value) (Pt:Tm->Nat×Nat->Prop) (g:Tm->Nat×Nat->Bool) (sE sL:σ->Tm->Nat×Nat->σ) (I:σ->World->Prop) (Bd:σ->Prop):Prop where
 entE:zH FE
 entL:zH FL
 hT:∀s w k,I s w->T w k->N<=k/\k<w.heap.size/\¬k=cb
 keep:∀s w w',I s w->Below w.heap.size w w'->I s w'/\∀k,T w' k->T w k
 sub:∀t k i u,Pt t k->g t k=true->t.ts[i]?=some u->Pt u (c.operand t i k)
 bE:∀s t k,Bd (sE s t k)->Bd s
 bL:∀s t k,Bd (sL s t k)->Bd s
 callE:∀t v k s w,TT w N t v->N<=w.heap.size->ScV w N c ev nv->za7 w c cb->I s w->Pt t k->Bd (sE s t k)->Calls Tryz.prog FE (#[v,ckV k]++cE) w (λe w'=>e=.returned (.bool (g t k))/\I (sE s t k) w'/\FT T w w')
 callL:∀t v k s w,TT w N t v->N<=w.heap.size->ScV w N c ev nv->za7 w c cb->I s w->Pt t k->Bd (sL s t k)->Calls Tryz.prog FL (#[v,ckV k]++cL) w (λe w'=>e=.returned (.tuple #[])/\I (sL s t k) w'/\FT T w w')
theorem zi6 {σ:Type} {c:Sc} {g:Tm->Nat×Nat->Bool} {sE sL:σ->Tm->Nat×Nat->σ} {Bd:σ->Prop} (bE:∀s t k,Bd (sE s t k)->Bd s) (bL:∀s t k,Bd (sL s t k)->Bd s):∀(t:Tm) (k:Nat×Nat) (s:σ),Bd (zcs c g sE sL t k s)->Bd s:=by
 intro t
 induction t using Tm.ind with
 | h x a s nm n ts ih =>
   intro k st h
   have hl:∀(l:List Tm),(∀u∈l,u∈ts)->∀(i:Nat) (st:σ),Bd (zcu c g sE sL (.mk x a s nm n ts) k l i st)->Bd st:=by
    intro l
    induction l with
    | nil=>intro _ i st h;exact h
    | cons u l ihl =>
      intro hm i st h
      rw [zcu] at h
      exact ih u (hm u (List.mem_cons_self ..)) _ _ (ihl (λu hu=>hm u (List.mem_cons_of_mem _ hu)) _ _ h)
   rw [zcs] at h
   have h2:=bL _ _ _ h
   split at h2
   · exact bE _ _ _ (hl ts (λ_ h=>h) _ _ h2)
   · exact bE _ _ _ h2
theorem zkC {σ:Type} {c:Sc} {g:Tm->Nat×Nat->Bool} {sE sL:σ->Tm->Nat×Nat->σ} {Bd:σ->Prop} (bE:∀s t k,Bd (sE s t k)->Bd s) (bL:∀s t k,Bd (sL s t k)->Bd s) (t:Tm) (k:Nat×Nat):∀(l:List Tm) (i:Nat) (s:σ),Bd (zcu c g sE sL t k l i s)->Bd s:=by
 intro l
 induction l with
 | nil=>intro i s h;exact h
 | cons u l ih =>
   intro i s h
   rw [zcu] at h
   exact zi6 bE bL u _ s (ih _ _ h)
theorem zjG {σ:Type} {N:Nat} {c:Sc} {ev nv:Value} {cb:Nat} {T:World->Nat->Prop} {FE:FuncId} {cE:Array Value} {FL:FuncId} {cL:Array Value} {Pt:Tm->Nat×Nat->Prop} {g:Tm->Nat×Nat->Bool} {sE sL:σ->Tm->Nat×Nat->σ} {I:σ->World->Prop} {Bd:σ->Prop} (hV:znz N c ev nv cb T FE cE FL cL Pt g sE sL I Bd) :
 ∀(t:Tm) (k:Nat×Nat) (v:Value) (s:σ) (w:World),TT w N t v->N<=w.heap.size->ScV w N c ev nv->za7 w c cb->I s w->Pt t k->Bd (zcs c g sE sL t k s) ->
  Calls Tryz.prog 110 #[.map (some cb),.agg #[ev,nv],v,ckV k,.func (.func FE) #[] cE,.func (.func FL) #[] cL] w (λe w'=>e=.returned (.tuple #[])/\I (zcs c g sE sL t k s) w'/\FT T w w'):=by
 intro t
 induction t using Tm.ind with
 | h kk a nm n p ts ih =>
   intro k v s w h hN hS hC hI hP hBd
   have HBd:=za hBd
   clear hBd
   obtain ⟨xe,cpe,nb,rfl,rfl,hnb⟩:=hS.shape
   obtain ⟨b,args,vs,rfl,hb,hblk,hown,hlen,hsub,hgs⟩:=h.ptr
   have hcE:∀(args:Array Value) (w:World),(callFunc FE args).run Tryz.prog w=.ok (.enter FE args) w:=hV.entE
   have hcL:∀(args:Array Value) (w:World),(callFunc FL args).run Tryz.prog w=.ok (.enter FL args) w:=hV.entL
   have HV:=za hV
   have HP:=za hP
   have HT:=za h
   have HS:=za hS
   have HC:=za hC
   have HI:=za hI
   have Hsub:=za hsub
   have Hown:=za hown
   have Hih:=za ih
   have Hblk:=za hblk
   have Hgs:=za hgs
   obtain ⟨x,cp,rfl⟩:=zB hown
   have hlen':vs.length=ts.length:=hlen
   rw [hlen'] at Hown Hblk Hgs
   have hTt:=za (λk=>hV.hT s w k hI)
   clear hlen hV hI h hsub hown hP ih hblk hgs hS hC
   unfold ckV
   go_enter Tryz.func110,Tryz.ntmps110
   go_upto_region 1 with fail
   refine zn (λW=>(TT W N (.mk kk a nm n p ts) (.pointer (some ⟨b,0,none⟩))/\N<=W.heap.size/\ScV W N c (.slice xe c.er.length cpe) (.pointer (some ⟨nb,0,none⟩))/\za7 W c cb/\I s W)/\FT T w W/\W.heap[w.heap.size]?=some (.cells #[.slice xe c.er.length cpe,.pointer (some ⟨nb,0,none⟩)] 88 (0,0))/\W.heap[w.heap.size+1]?=some (.cells #[.int .i64 (k.1:Nat),.int .i64 (k.2:Nat)] 169 (0,0))/\¬T W w.heap.size/\¬T W (w.heap.size+1)) ⟨⟨HT.out.old (zfr hN _ _),by rw [zsb,zsb];omega,HS.out.old (zfr hN _ _),HC.out.keep (zaD w _ _),(HV.out.keep _ _ _ HI.out (zaD w _ _)).1⟩,FT.below (zaD w _ _) (HV.out.keep _ _ _ HI.out (zaD w _ _)).2,(zd8 w _ _).1,(zd8 w _ _).2,λe=>by have:=(hTt.out _ ((HV.out.keep s w _ HI.out (zaD w _ _)).2 _ e)).2.1;omega,λe=>by have:=(hTt.out _ ((HV.out.keep s w _ HI.out (zaD w _ _)).2 _ e)).2.1;omega⟩ ?_
   rintro W ⟨⟨hTW,hNW,hSW,hCW,hIW⟩,hFW,hX,hY,n0,n1⟩
   have hbE:Bd (sE s (.mk kk a nm n p ts) k):=by
    have hb:=HBd.out
    rw [zcs] at hb
    have hb2:=HV.out.bL _ _ _ hb
    split at hb2
    · exact zkC HV.out.bE HV.out.bL _ _ _ _ _ hb2
    · exact hb2
   have HCE:=za (HV.out.callE _ _ k s W hTW hNW hSW hCW hIW HP.out hbE)
   clear hbE
   have hst:∀s1 w1,I s1 w1->FT T W w1->(TT w1 N (.mk kk a nm n p ts) (.pointer (some ⟨b,0,none⟩))/\N<=w1.heap.size/\ScV w1 N c (.slice xe c.er.length cpe) (.pointer (some ⟨nb,0,none⟩))/\za7 w1 c cb)/\Old N W w1/\w1.heap[w.heap.size]?=some (.cells #[.slice xe c.er.length cpe,.pointer (some ⟨nb,0,none⟩)] 88 (0,0))/\w1.heap[w.heap.size+1]?=some (.cells #[.int .i64 (k.1:Nat),.int .i64 (k.2:Nat)] 169 (0,0))/\¬T w1 w.heap.size/\¬T w1 (w.heap.size+1):=by
    intro s1 w1 hI1 hF1
    have hO:Old N W w1:=hF1.old hNW (λk e=>(HV.out.hT s W k hIW e).1)
    refine ⟨⟨hTW.old hO,Nat.le_trans hNW hF1.fr.size,hSW.old hO,hCW.of' (hF1.fr.block cb hCW.lt (λe=>(HV.out.hT s W cb hIW e).2.2 rfl))⟩,hO,(hF1.fr.block _ (ze hX) n0).trans hX,(hF1.fr.block _ (ze hY) n1).trans hY,λe=>(hF1.tk _ e).elim n0 (λh=>?_),λe=>(hF1.tk _ e).elim n1 (λh=>?_)⟩
    · have:=ze hX;omega
    · have:=ze hY;omega
   have HST:=za hst
   have HFW:=za hFW
   obtain ⟨x0,x1,xf,xz⟩:=zp hX
   obtain ⟨y0,y1,yf,yz⟩:=zp hY
   have hbz:b<W.heap.size:=by omega
   have HnW:Hid (W.heap[b]?=some (.cells #[.int .i64 kk,.int .i64 a,.string nm,.int .i64 n,.int .i64 p,.slice x ts.length cp] 216 (0,0))):=(hFW.fr.block b (by omega) (λe=>by have:=(hTt.out b e).1;omega)).trans Hblk.out
   have HoW:Hid (Old N w W):=hFW.old hN (λk e=>(hTt.out k e).1)
   clear hTW hSW hCW hIW hFW hX hY hst hTt Hblk HI HS HC HT
   unfold ckV at HCE
   cases hg:g (.mk kk a nm n p ts) k with
   | false =>
     rw [hg] at HCE
     have e:zcs c g sE sL (.mk kk a nm n p ts) k s=sL (sE s (.mk kk a nm n p ts) k) (.mk kk a nm n p ts) k:=by unfold zcs;rw [hg];rfl
     have HEn:=za e
     clear hg e
     go_wp2_with fail
     with_reducible refine HCE.out.mono ?_
     rintro e w1 ⟨rfl,hI1,hF1⟩
     obtain ⟨⟨hT1,hN1,hS1,hC1⟩,hO1,hX1,hY1,m0,m1⟩:=HST.out _ w1 hI1 hF1
     have HCL:=za (HV.out.callL _ _ k _ w1 hT1 hN1 hS1 hC1 hI1 HP.out (by have hb:=HBd.out;rw [HEn.out] at hb;exact hb))
     unfold ckV at HCL
     obtain ⟨p0,p1,pf,pz⟩:=zp hX1
     obtain ⟨q0,q1,qf,qz⟩:=zp hY1
     have HF1:=za hF1
     clear hT1 hS1 hC1 hO1 hX1 hY1 hI1 hF1 x0 x1 xf xz y0 y1 yf yz
     go_wp2_with fail
     with_reducible refine HCL.out.mono ?_
     rintro e w2 ⟨rfl,hI2,hF2⟩
     have HI2:=za hI2
     have HF2:=za hF2
     clear hI2 hF2
     go_wp2_with fail
     first|go_end0|refine bodyPost_ret (results_none rfl _ _ _) rfl ?_
     rw [HEn.out]
     exact ⟨rfl,HI2.out,(HFW.out.trans HF1.out).trans HF2.out⟩
   | true =>
     rw [hg] at HCE
     have e:zcs c g sE sL (.mk kk a nm n p ts) k s=sL (zcu c g sE sL (.mk kk a nm n p ts) k ts 0 (sE s (.mk kk a nm n p ts) k)) (.mk kk a nm n p ts) k:=by rw [zcs,if_pos hg]
     have HEn:=za e
     have HG:=za hg
     clear hg e
     go_wp2_with fail
     with_reducible refine HCE.out.mono ?_
     rintro e w1 ⟨rfl,hI1,hF1⟩
     obtain ⟨⟨hT1,hN1,hS1,hC1⟩,hO1,hX1,hY1,m0,m1⟩:=HST.out _ w1 hI1 hF1
     obtain ⟨r0,r1,r2,r3,r4,r5,rf,rz⟩:=zt ((hO1 b hb).trans HnW.out)
     have HI1:=za hI1
     have HF1:=za hF1
     have h16:ts.length<=9223372036854775807:=by
      have:=Hown.out
      rcases this.2 with ⟨_,h⟩|⟨g,cap,cur,hv,_,_,h3,h4,_⟩
      · omega
      · unfold maxLen at h4;omega
     clear hT1 hS1 hC1 hO1 hX1 hY1 hI1 hF1 x0 x1 xf xz y0 y1 yf yz HCE
     go_wp2_with fail
     go_loopg [23] (ts.length+1) (λj x wr=>∃(i:Nat) (si:σ),i+j=ts.length+1/\i<=ts.length/\x=.int .i64 i/\Hid (I si wr)/\Hid (zcu c g sE sL (.mk kk a nm n p ts) k ts 0 (sE s (.mk kk a nm n p ts) k)=zcu c g sE sL (.mk kk a nm n p ts) k (ts.drop i) i si)/\Hid (FT T W wr))
     case atStart=>exact ⟨0,_,by omega,Nat.zero_le _,rfl,HI1.out,rfl,HF1.out⟩
     case round =>
      clear HI1 HF1 r0 r1 r2 r3 r4 r5 rf rz m0 m1
      obtain ⟨i,si,hij,hi,rfl,HIi,HD,HFi⟩:=hrel
      obtain ⟨⟨hTr,hNr,hSr,hCr⟩,hOr,hXr,hYr,m0,m1⟩:=HST.out _ wr HIi.out HFi.out
      obtain ⟨p0,p1,pf,pz⟩:=zp hXr
      obtain ⟨q0,q1,qf,qz⟩:=zp hYr
      by_cases hlt:i<ts.length
      · obtain ⟨t,ht⟩:∃t,ts[i]?=some t:=⟨_,zsc hlt⟩
        obtain ⟨u,hu⟩:∃u,vs[i]?=some u:=⟨_,zsc (by omega)⟩
        have hOw:Old N w wr:=HoW.out.trans hOr
        have hown':wr.ownsRow 0 164 1 (.slice x ts.length cp) ts.length vs:=zi Hown.out (λj _ _ e=>hOw j (Hgs.out j e))
        obtain ⟨g',rfl,hcell⟩:=zbE hown' hu
        have hTu:=(Hsub.out i t u ht hu).old hOw
        obtain ⟨bu,_,_,rfl,_⟩:=hTu.ptr
        have HOp:=za (zjV (.mk kk a nm n p ts) (.pointer (some ⟨b,0,none⟩)) i k wr.drew (hTr.old (λ_ _=>rfl)) (hSr.old (λ_ _=>rfl)) (hCr.of' rfl) hNr)
        have HTr:=za hTr
        have HSr:=za hSr
        have HCr:=za hCr
        have HTu:=za hTu
        have Hmem:=za (List.mem_of_getElem? ht)
        have HPu:=za (HV.out.sub _ k i t HP.out HG.out ht)
        have HDn:Hid (zcu c g sE sL (.mk kk a nm n p ts) k ts 0 (sE s (.mk kk a nm n p ts) k)=zcu c g sE sL (.mk kk a nm n p ts) k (ts.drop (i+1)) (i+1) (zcs c g sE sL t (c.operand (.mk kk a nm n p ts) i k) si)):=by
         obtain ⟨h1,h2⟩:=List.getElem?_eq_some_iff.1 ht
         unfold Hid
         rw [HD.out,List.drop_eq_getElem_cons h1,zcu,h2]
        have HBu:Hid (Bd (zcs c g sE sL t (c.operand (.mk kk a nm n p ts) i k) si)):=by
         have hb:=HBd.out
         rw [HEn.out,HDn.out] at hb
         exact zkC HV.out.bE HV.out.bL _ _ _ _ _ (HV.out.bL _ _ _ hb)
        clear hTr hSr hCr hOr hXr hYr ht hu hOw hown' hTu HD
        go_upto_region 5 with fail
        go_region_held3 (λw'=>w'.cell? ⟨w.heap.size,0,none⟩=some (.slice xe c.er.length cpe)/\w'.cell? ⟨w.heap.size,1,none⟩=some (.pointer (some ⟨nb,0,none⟩))/\w'.cell? ⟨w.heap.size+1,0,none⟩=some (.int .i64 (k.1:Nat))/\w'.cell? ⟨w.heap.size+1,1,none⟩=some (.int .i64 (k.2:Nat)))
         (first|(refine ⟨?_,?_,?_,?_⟩ <;> repeat (first|with_reducible exact p0|with_reducible exact p1|with_reducible exact q0|with_reducible exact q1|with_reducible refine zg ?_|with_reducible refine HF5.out.cell ?_ (by assumption)|with_reducible refine zd HB4.out ?_ (by omega)))|go_keep)
         (first
           | (go_at_call 110;refine HW.out.mono ?_;rintro e w5 ⟨rfl,hI5,hF5⟩;have HI5:=za hI5;have HF5:=za hF5;clear hI5 hF5)
           | (go_at_call 144;refine HOp.out.mono ?_;rintro e w4 ⟨rfl,hB4⟩;have HB4:=za (zw hB4);have hz4:wr.heap.size<=w4.heap.size:=hB4.size;have HK:=za (HV.out.keep _ _ _ HIi.out HB4.out);have m0':¬T w4 w.heap.size:=(λe=>m0 (HK.out.2 _ e));have m1':¬T w4 (w.heap.size+1):=(λe=>m1 (HK.out.2 _ e));have HW:=za (Hih.out t Hmem.out (c.operand (.mk kk a nm n p ts) i k) _ si w4 (HTu.out.old (zm HB4.out hNr)) (by omega) (HSr.out.old (zm HB4.out hNr)) (HCr.out.keep HB4.out) HK.out.1 HPu.out HBu.out);clear hB4))
        go_wp2_with fail
        go_roundg (gk-1)
        case measure=>omega
        exact ⟨i+1,_,by omega,by omega,by go_num,HI5.out,HDn.out,(HFi.out.trans (FT.below HB4.out HK.out.2)).trans HF5.out⟩
      · have ei:i=ts.length:=by omega
        subst ei
        rw [List.drop_length,zcu] at HD
        have HCL:=za (HV.out.callL _ _ k _ wr hTr hNr hSr hCr HIi.out HP.out (by have hb:=HBd.out;rw [HEn.out,HD.out] at hb;exact hb))
        unfold ckV at HCL
        clear hTr hSr hCr hOr hXr hYr
        go_wp2_with fail
        with_reducible refine HCL.out.mono ?_
        rintro e w2 ⟨rfl,hI2,hF2⟩
        have HI2:=za hI2
        have HF2:=za hF2
        clear hI2 hF2
        go_wp2_with fail
        first|go_end0|refine bodyPost_ret (results_none rfl _ _ _) rfl ?_
        refine ⟨rfl,?_,(HFW.out.trans HFi.out).trans HF2.out⟩
        rw [HEn.out,HD.out]
        exact HI2.out
end
end Go.Proofs.YtedmpgjebafcjaaGreatDoor
