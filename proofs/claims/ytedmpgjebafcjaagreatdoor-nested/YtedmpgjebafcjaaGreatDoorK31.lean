/- Part 32 of the proof: ChkL. -/
import Derived.Test.YtedmpgjebafcjaaGreatDoorK30
set_option maxRecDepth 100000
set_option maxHeartbeats 8000000
namespace Go.Proofs.YtedmpgjebafcjaaGreatDoor
section
open Go.RowKit
attribute [local go_sem ↓] Go.wp_at_zero Go.wp_at_succ
theorem zhE (c:Sc):∀(a b:List Vr) (i:Nat),zat c (a++b) i=zat c a i++zat c b (i+a.length):=by
 intro a
 induction a with
 | nil=>intro b i;rfl
 | cons v a ih=>intro b i;rw [List.cons_append,zat,zat,ih,List.length_cons,show i+1+a.length=i+(a.length+1) by omega];simp only [List.append_assoc]
theorem zgY (c:Sc):∀(a a':List ByteArray) (b b':List Nat),a.length=b.length->z7 c (a++a') (b++b')=z7 c a b++z7 c a' b':=by
 intro a
 induction a with
 | nil=>intro a' b b' h;cases b with
   | nil=>rfl
   | cons _ _=>simp at h
 | cons s a ih=>intro a' b b' h;cases b with
   | nil=>simp at h
   | cons p b=>rw [List.cons_append,List.cons_append,z7,z7,ih _ _ _ (by simpa using h),List.append_assoc]
theorem zhN {c:Sc} {ns:List ByteArray} {ps:List Nat} {k:Nat} {s:ByteArray} {p:Nat} (hs:ns[k]?=some s) (hp:ps[k]?=some p):z7 c (ns.take (k+1)) (ps.take (k+1))=z7 c (ns.take k) (ps.take k)++((if (!c.has s||decide (c.idx s<c.nd.ins))=true then [p] else [])++[]):=by
 have h1:=(List.getElem?_eq_some_iff.1 hs).1
 have h2:=(List.getElem?_eq_some_iff.1 hp).1
 rw [zeq hs,zeq hp,zgY c _ _ _ _ (by simp;omega)]
 rfl
theorem ziZ (S:Nat->Addr) (kd lb bb sb:Nat) (nmv askv:Value) (N:Nat) (c:Sc) (h6:c.er.length<=6) (hps:∀q∈c.nd.eqs,q.ns.length=q.ps.length) (ev nv:Value) (st:Option Nat) (w:World) (hR:RpI S kd lb bb sb nmv askv st w) (h:ScV w N c ev nv) (hN:N<=w.heap.size) (l1:N<=lb) (l2:N<=bb) :
 Calls Tryz.prog 58 #[.agg #[ev,nv],zam lb bb sb] w (λe w'=>e=.returned (.tuple #[])/\RpI S kd lb bb sb nmv askv (c.namesL.foldl rep st) w'/\Fr (RT lb bb) w w'):=by
 obtain ⟨xe,cpe,nb,rfl,rfl,hnb⟩:=h.shape
 have hzl:=ze hR.l
 have hzb:=ze hR.b
 have hA0:∀o1 o2,((w.alloc o1).alloc o2).heap[w.heap.size]?=some o1/\((w.alloc o1).alloc o2).heap[w.heap.size+1]?=some o2:=λo1 o2=>al2 w o1 o2
 have hAs:zas S kd lb bb sb nmv askv N c (.slice xe c.er.length cpe) (.pointer (some ⟨nb,0,none⟩)) w.heap.size (w.heap.size+1) st ((w.alloc (.cells #[.slice xe c.er.length cpe,.pointer (some ⟨nb,0,none⟩)] 206)).alloc (.cells #[zam lb bb sb] 204)) :=
  ⟨hR.keep (zaD w _ _),h.old (zfr hN _ _),(hA0 _ _).1,(hA0 _ _).2,by omega,by omega,by omega,by omega,l1,l2,by simp;omega⟩
 have HAs:=za hAs
 obtain ⟨nb',vs,qv,xs,e9,hnt⟩:=h.nd
 cases e9
 obtain ⟨xv,cpv,rfl⟩:=zB hnt.vown
 obtain ⟨xq,cpq,rfl⟩:=zB hnt.own
 have HNt:=za hnt
 have hfew:=hnt.few
 have HPs:=za hps
 have h16:c.nd.eqs.length<=9223372036854775807:=by
  rcases hnt.own.2 with ⟨_,h⟩|⟨g,cap,cur,hv,_,_,h3,h4,_⟩
  · omega
  · unfold maxLen at h4;omega
 have HTy:Hid (c.namesL.foldl rep st=((c.nd.eqs.flatMap λq=>(zaV za5 q.r).flatMap (zaL c q))).foldl rep ((c.nd.eqs.flatMap λq=>z7 c q.ns q.ps).foldl rep ((zat c c.nd.vars 0).foldl rep ((if (c.called c.nd.nm).isSome=true then [c.nd.a] else []).foldl rep st)))):=by
  unfold Hid Sc.namesL;rw [List.foldl_append,List.foldl_append,List.foldl_append]
 have HFr0:=za (zy (T:=RT lb bb) (zaD w (.cells #[.slice xe c.er.length cpe,.pointer (some ⟨nb,0,none⟩)] 206) (.cells #[zam lb bb sb] 204)))
 clear hR h hA0 hAs hnt hps
 unfold zam at HAs HFr0 ⊢
 go_enter Tryz.func58,Tryz.ntmps58
 go_upto_block 0 with fail
 refine zn (λW=>zas S kd lb bb sb nmv askv N c (.slice xe c.er.length cpe) (.pointer (some ⟨nb,0,none⟩)) w.heap.size (w.heap.size+1) st W/\Fr (RT lb bb) w W) ⟨HAs.out,HFr0.out⟩ ?_
 rintro W ⟨hIW,hFW⟩
 have HIW:=za hIW
 have HFW:=za hFW
 obtain ⟨s0,s1,sf,sz⟩:=zp hIW.x1
 obtain ⟨p0,pf,pz⟩:=zu hIW.x2
 have hOW:=hFW.old hN (λk e=>by rcases e with e|e;exact e▸l1;exact e▸l2)
 obtain ⟨m0,m1,m2,m3,m4,m5,mf,mz⟩:=zt ((hOW nb HNt.out.lo).trans HNt.out.blk)
 have hNW:=hIW.hN
 have hS1:=hIW.sc.old (w':=W.drew) (λ_ _=>rfl)
 have hS2:=λo=>hIW.sc.old (w':=(W.alloc o).drew) (zeW hNW o)
 clear hIW hFW hOW HAs HFr0
 go_cut [5] (λx wx=>x=.bool (c.called c.nd.nm).isSome/\Hid (zas S kd lb bb sb nmv askv N c (.slice xe c.er.length cpe) (.pointer (some ⟨nb,0,none⟩)) w.heap.size (w.heap.size+1) st wx)/\Hid (Fr (RT lb bb) w wx))
 case first =>
  cases hcal:c.called c.nd.nm with
  | none =>
    have HC1:=za (zc4 c.nd.nm (c.nd.a:Int) W.drew hS1 hNW h6 hcal)
    have HC2:=za (λo=>zc4 c.nd.nm (c.nd.a:Int) (W.alloc o).drew (hS2 o) (by show N<=(W.alloc o).heap.size;simp;omega) h6 hcal)
    have Hcal:=za hcal
    clear hS1 hS2 hcal m2 m3 m4 m5 mf sf pf
    go_region_held3 (λw'=>w'.cell? ⟨w.heap.size,0,none⟩=some (.slice xe c.er.length cpe)/\w'.cell? ⟨w.heap.size,1,none⟩=some (.pointer (some ⟨nb,0,none⟩))/\w'.cell? ⟨nb,0,none⟩=some (.string c.nd.nm)/\w'.cell? ⟨nb,1,none⟩=some (.int .i64 c.nd.a))
     (first|(refine ⟨?_,?_,?_,?_⟩ <;> repeat (first|with_reducible exact s0|with_reducible exact s1|with_reducible exact m0|with_reducible exact m1|with_reducible refine zg ?_|with_reducible refine zj _ ?_|with_reducible refine zk (by omega) ?_|with_reducible refine zd HB1.out ?_ (by first|omega|(rw [zsb];omega))))|go_keep)
     (first
       | (go_at_call 96;refine HC1.out.mono ?_;rintro e w1 ⟨rfl,hB1⟩;have HB1:=za (zw hB1);clear hB1)
       | (go_at_call 96;refine (HC2.out _).mono ?_;rintro e w1 ⟨rfl,hB1⟩;have HB1:=za (zw hB1);obtain ⟨y0,y1,yf,yz⟩:=zp ((HB1.out.block W.heap.size (by rw [zsb];omega)).trans (zc W _));clear hB1))
    · go_wp2_with fail
      go_meet
      exact ⟨by rw [Hcal.out];rfl,(HIW.out.keep HB1.out).keep (zq _ _),(HFW.out.trans (zy HB1.out)).alloc _⟩
    · go_wp2_with fail
      go_meet
      exact ⟨by rw [Hcal.out];rfl,HIW.out.keep (zC (zC (zE HB1.out) (Nat.le_refl _) _) (Nat.le_refl _) _),HFW.out.trans (zy (zC (zC (zE HB1.out) (Nat.le_refl _) _) (Nat.le_refl _) _))⟩
  | some d =>
    have HC1:=za (zah c.nd.nm (c.nd.a:Int) W.drew hS1 hNW h6 hcal)
    have HC2:=za (λo=>zah c.nd.nm (c.nd.a:Int) (W.alloc o).drew (hS2 o) (by show N<=(W.alloc o).heap.size;simp;omega) h6 hcal)
    have Hcal:=za hcal
    clear hS1 hS2 hcal m2 m3 m4 m5 mf sf pf
    go_region_held3 (λw'=>w'.cell? ⟨w.heap.size,0,none⟩=some (.slice xe c.er.length cpe)/\w'.cell? ⟨w.heap.size,1,none⟩=some (.pointer (some ⟨nb,0,none⟩))/\w'.cell? ⟨nb,0,none⟩=some (.string c.nd.nm)/\w'.cell? ⟨nb,1,none⟩=some (.int .i64 c.nd.a))
     (first|(refine ⟨?_,?_,?_,?_⟩ <;> repeat (first|with_reducible exact s0|with_reducible exact s1|with_reducible exact m0|with_reducible exact m1|with_reducible refine zg ?_|with_reducible refine zj _ ?_|with_reducible refine zk (by omega) ?_|with_reducible refine zd HB1.out ?_ (by first|omega|(rw [zsb];omega))))|go_keep)
     (first
       | (go_at_call 96;refine HC1.out.mono ?_;rintro e w1 ⟨x2,cp2,n2,rfl,hsc,hB1⟩;have HB1:=za (zw hB1);clear hB1)
       | (go_at_call 96;refine (HC2.out _).mono ?_;rintro e w1 ⟨x2,cp2,n2,rfl,hsc,hB1⟩;have HB1:=za (zw hB1);obtain ⟨y0,y1,yf,yz⟩:=zp ((HB1.out.block W.heap.size (by rw [zsb];omega)).trans (zc W _));clear hB1))
    · go_wp2_with fail
      go_meet
      exact ⟨by rw [Hcal.out];rfl,(HIW.out.keep HB1.out).keep (zq _ _),(HFW.out.trans (zy HB1.out)).alloc _⟩
    · go_wp2_with fail
      go_meet
      exact ⟨by rw [Hcal.out];rfl,HIW.out.keep (zC (zC (zE HB1.out) (Nat.le_refl _) _) (Nat.le_refl _) _),HFW.out.trans (zy (zC (zC (zE HB1.out) (Nat.le_refl _) _) (Nat.le_refl _) _))⟩
 case rest =>
  obtain ⟨rfl,HIc,HFc⟩:=hcut
  obtain ⟨st0,hst0⟩:∃st0,(if (c.called c.nd.nm).isSome=true then [c.nd.a] else []).foldl rep st=st0:=⟨_,rfl⟩
  have Hst0:=za hst0
  rw [hst0] at HTy
  generalize htw:(c.called c.nd.nm).isSome=tw at *
  clear htw
  clear hst0 hS1 hS2 s0 s1 p0 pf m0 m1 m2 m3 m4 m5 mf mz sf sz pz HIW HFW
  have hOc:=HFc.out.old hN (λk e=>by rcases e with e|e;exact e▸l1;exact e▸l2)
  obtain ⟨s0,s1,sf,sz⟩:=zp HIc.out.x1
  obtain ⟨p0,pf,pz⟩:=zu HIc.out.x2
  obtain ⟨m0,m1,m2,m3,m4,m5,mf,mz⟩:=zt ((hOc nb HNt.out.lo).trans HNt.out.blk)
  unfold zam at p0
  have hnlb:¬nb=lb:=by omega
  have hnbb:¬nb=bb:=by omega
  have hwlb:¬w.heap.size=lb:=by omega
  have hwbb:¬w.heap.size=bb:=by omega
  have hwlb1:¬w.heap.size+1=lb:=by omega
  have hwbb1:¬w.heap.size+1=bb:=by omega
  clear hOc
  go_upto_if 26 with fail
  go_cut [] (λwy=>Hid (zas S kd lb bb sb nmv askv N c (.slice xe c.er.length cpe) (.pointer (some ⟨nb,0,none⟩)) w.heap.size (w.heap.size+1) st0 wy)/\Hid (Fr (RT lb bb) w wy))
  case first =>
   cases tw with
   | false =>
     go_wp2_with fail
     go_meet
     rw [<- Hst0.out]
     exact ⟨HIc.out,HFc.out⟩
   | true =>
     have HTell:=za (zaa S kd lb bb sb nmv askv st c.nd.a wc.drew (HIc.out.rp.keep (zo (Below.refl _ _))))
     go_upto_region 3 with fail
     go_region_held3 (λw'=>w'.cell? ⟨w.heap.size,1,none⟩=some (.pointer (some ⟨nb,0,none⟩))/\w'.cell? ⟨w.heap.size+1,0,none⟩=some (.func (.func 117) #[] #[.pointer (some ⟨lb,0,none⟩),.pointer (some ⟨bb,0,none⟩),.pointer (some ⟨sb,0,none⟩)])/\w'.cell? ⟨nb,1,none⟩=some (.int .i64 c.nd.a))
      (first|(refine ⟨?_,?_,?_⟩ <;> first|with_reducible exact zg s1|with_reducible exact zg p0|with_reducible exact zg m1|with_reducible exact zS HFt.out s1 (by omega) (by omega)|with_reducible exact zS HFt.out p0 (by omega) (by omega)|with_reducible exact zS HFt.out m1 (by omega) (by omega))|go_keep)
      (first
        | (go_at_call 117;refine (HTell.out).mono ?_;rintro e w2 ⟨rfl,hRt,hFt'⟩;have HRt:=za hRt;have HFt:=za hFt'.undrew;clear hRt hFt'))
     go_wp2_with fail
     go_meet
     rw [<- Hst0.out]
     exact ⟨HIc.out.told HRt.out HFt.out,HFc.out.trans HFt.out⟩
  case rest =>
   obtain ⟨HId,HFd⟩:=hcut
   clear Hst0 s0 s1 sf sz p0 pf pz m0 m1 m2 m3 m4 m5 mf mz HIc HFc
   have hOd:=HFd.out.old hN (λk e=>by rcases e with e|e;exact e▸l1;exact e▸l2)
   obtain ⟨s0,s1,sf,sz⟩:=zp HId.out.x1
   obtain ⟨m0,m1,m2,m3,m4,m5,mf,mz⟩:=zt ((hOd nb HNt.out.lo).trans HNt.out.blk)
   clear hOd
   go_wp2_with fail
   go_loopg [43] (c.nd.vars.length+1) (λj i wr=>∃k:Nat,k+j=c.nd.vars.length+1/\k<=c.nd.vars.length/\i=.int .i64 k/\Hid (zas S kd lb bb sb nmv askv N c (.slice xe c.er.length cpe) (.pointer (some ⟨nb,0,none⟩)) w.heap.size (w.heap.size+1) ((zat c (c.nd.vars.take k) 0).foldl rep st0) wr)/\Hid (Fr (RT lb bb) w wr))
   case atStart=>exact ⟨0,by omega,Nat.zero_le _,rfl,HId.out,HFd.out⟩
   case round =>
    clear HId HFd s0 s1 sf sz m0 m1 m2 m3 m4 m5 mf mz
    obtain ⟨k,hkj,hk,rfl,HIk,HFk⟩:=hrel
    have hOk:=HFk.out.old hN (λk e=>by rcases e with e|e;exact e▸l1;exact e▸l2)
    obtain ⟨p0,p1,pf,pz⟩:=zp HIk.out.x1
    obtain ⟨q0,qf,qz⟩:=zu HIk.out.x2
    unfold zam at q0
    have hNr:=HIk.out.hN
    by_cases hlt:k<c.nd.vars.length
    · obtain ⟨v,hv⟩:∃v,c.nd.vars[k]?=some v:=⟨_,zsc hlt⟩
      obtain ⟨g,rfl,c0,c1,c2,c3,c4,c5,c6⟩:=zaM (HNt.out.old hOk).vown hv
      have hgN:=HNt.out.vlo g rfl
      have hT1:zat c (c.nd.vars.take (k+1)) 0=zat c (c.nd.vars.take k) 0++((if (c.nd.find v.nm).getD 0<k then [v.a] else [])++(if (zaA v != 0&&!c.has v.ck)=true then [v.ca] else [])++[]):=by
       rw [zeq hv,zhE]
       have:0+(c.nd.vars.take k).length=k:=by simp;omega
       rw [this];rfl
      have HFi:=za (λo=>zgF v.nm (wr.alloc o) ((HNt.out.old hOk).old (zeW hNr o)))
      have hpz1:w.heap.size<wr.heap.size+1:=by omega
      have hqz1:w.heap.size+1<wr.heap.size+1:=by omega
      obtain ⟨ff,hff⟩:∃ff,c.nd.find v.nm=ff:=⟨_,rfl⟩
      rw [hff] at HFi hT1
      obtain ⟨stA,hstA⟩:∃stA,(if ff.getD 0<k then [v.a] else []).foldl rep ((zat c (c.nd.vars.take k) 0).foldl rep st0)=stA:=⟨_,rfl⟩
      have HT:Hid ((zat c (c.nd.vars.take (k+1)) 0).foldl rep st0=(if (zaA v != 0&&!c.has v.ck)=true then [v.ca] else []).foldl rep stA):=by
       unfold Hid
       rw [hT1,List.foldl_append,List.foldl_append,List.foldl_append,hstA]
       rfl
      have HstA:=za hstA
      have BOX:∀W:World,Below wr.heap.size wr W->True:=λ_ _=>trivial
      clear hT1 hff hstA hOk BOX
      unfold zk6 at HFi
      go_upto_if 60 with (go_at_call 97;refine (HFi.out _).mono ?_;rintro e w1 ⟨rfl,hB1⟩;(have hbx:=(hB1.block wr.heap.size (by simp)).trans (zc wr _));have HBx:=za hbx;have HB1:=za (zE hB1);clear hB1 hbx)
      go_cut [] (λwy=>Hid (zas S kd lb bb sb nmv askv N c (.slice xe c.er.length cpe) (.pointer (some ⟨nb,0,none⟩)) w.heap.size (w.heap.size+1) stA wy)/\Hid (Fr (RT lb bb) w wy)/\Hid (wy.heap[wr.heap.size]?=some (.cells #[.string v.nm,.int .i64 v.a,.int .i64 (zaK v:Nat),.int .i64 (zaA v:Nat),.int .i64 v.on,.string v.ck,.int .i64 v.ca] 110 (0,0))))
      case first =>
       by_cases hfi:ff.getD 0<k
       · have hfi':((ff.getD 0:Nat):Int)<(k:Int):=by omega
         rw [if_pos hfi] at HstA
         obtain ⟨x0,x1,x2,x3,x4,x5,x6,xf,xz⟩:=zbZ HBx.out
         have g0:=zd HB1.out q0 qz
         have HTell:=za (zaa S kd lb bb sb nmv askv _ v.a w1 (HIk.out.keep HB1.out).rp)
         clear hfi
         generalize ff.getD 0=fi at *
         go_wp2_with (go_at_call 117;refine HTell.out.mono ?_;rintro e w2 ⟨rfl,hRt,hFt⟩;have HRt:=za hRt;have HFt:=za hFt;clear hRt hFt)
         go_meet
         rw [<- HstA.out]
         exact ⟨(HIk.out.keep HB1.out).told HRt.out HFt.out,(HFk.out.trans (zy HB1.out)).trans HFt.out,(HFt.out.block _ xz (λe=>by rcases e with e|e <;> omega)).trans HBx.out⟩
       · have hfi':¬((ff.getD 0:Nat):Int)<(k:Int):=by omega
         rw [if_neg hfi] at HstA
         clear hfi
         generalize ff.getD 0=fi at *
         go_wp2_with fail
         go_meet
         rw [<- HstA.out]
         exact ⟨HIk.out.keep HB1.out,HFk.out.trans (zy HB1.out),HBx.out⟩
      case rest =>
       obtain ⟨HIm,HFm,HBm⟩:=hcut
       clear p0 p1 pf pz q0 qf qz c0 c1 c2 c3 c4 c5 c6 HBx HB1 HFi
       obtain ⟨p0,p1,pf,pz⟩:=zp HIm.out.x1
       obtain ⟨q0,qf,qz⟩:=zu HIm.out.x2
       unfold zam at q0
       obtain ⟨x0,x1,x2,x3,x4,x5,x6,xf,xz⟩:=zbZ HBm.out
       by_cases hsg:zaA v=0
       · have hsg':((zaA v:Int) != 0)=false:=by simp [hsg]
         have HT2:Hid ((zat c (c.nd.vars.take (k+1)) 0).foldl rep st0=stA):=by unfold Hid;rw [HT.out];simp [hsg]
         clear hsg HT hv
         generalize zaA v=sg at *
         go_wp2_with fail
         go_roundg (gk-1)
         case measure=>omega
         refine ⟨k+1,by omega,by omega,by go_num,?_,HFm.out⟩
         rw [HT2.out]
         exact HIm.out
       · have hsg':((zaA v:Int) != 0)=true:=by simp;omega
         have HD:=za (zgt v.ck (v.ca:Int) wc HIm.out.sc HIm.out.hN)
         cases hha:c.has v.ck with
         | true =>
           have hha':(c.nd.find v.ck).isSome=true:=hha
           rw [hha'] at HD
           have HT2:Hid ((zat c (c.nd.vars.take (k+1)) 0).foldl rep st0=stA):=by unfold Hid;rw [HT.out,hha];simp
           clear hsg HT hv hha hha'
           generalize zaA v=sg at *
           go_wp2_with (go_at_call 98;refine HD.out.mono ?_;rintro e w1 ⟨rfl,hB1⟩;have HB1:=za hB1;clear hB1)
           go_roundg (gk-1)
           case measure=>omega
           refine ⟨k+1,by omega,by omega,by go_num,?_,HFm.out.trans (zy HB1.out)⟩
           rw [HT2.out]
           exact HIm.out.keep HB1.out
         | false =>
           have hha':(c.nd.find v.ck).isSome=false:=hha
           rw [hha'] at HD
           have HT2:Hid ((zat c (c.nd.vars.take (k+1)) 0).foldl rep st0=rep stA v.ca):=by unfold Hid;rw [HT.out,hha];simp [hsg]
           clear hsg HT hv hha hha'
           generalize zaA v=sg at *
           go_wp2_with (first
            | (go_at_call 117;refine HTell.out.mono ?_;rintro e w2 ⟨rfl,hRt,hFt⟩;have HRt:=za hRt;have HFt:=za hFt;clear hRt hFt)
            | (go_at_call 98;refine HD.out.mono ?_;rintro e w1 ⟨rfl,hB1⟩;have HB1:=za hB1;have g0:=zd HB1.out q0 qz;have g6:=zd HB1.out x6 xz;have HTell:=za (zaa S kd lb bb sb nmv askv stA v.ca w1 (HIm.out.keep HB1.out).rp);clear hB1))
           go_roundg (gk-1)
           case measure=>omega
           refine ⟨k+1,by omega,by omega,by go_num,?_,(HFm.out.trans (zy HB1.out)).trans HFt.out⟩
           rw [HT2.out]
           exact (HIm.out.keep HB1.out).told HRt.out HFt.out
    · have ek:k=c.nd.vars.length:=by omega
      subst ek
      rw [List.take_length] at HIk
      obtain ⟨st1,hst1⟩:∃st1,(zat c c.nd.vars 0).foldl rep st0=st1:=⟨_,rfl⟩
      rw [hst1] at HIk HTy
      obtain ⟨n0,n1,n2,n3,n4,n5,nf,nz⟩:=zt ((hOk nb HNt.out.lo).trans HNt.out.blk)
      clear hst1 hOk q0 qf
      go_wp2_with fail
      go_loopg [92] (c.nd.eqs.length+1) (λj i wr=>∃k:Nat,k+j=c.nd.eqs.length+1/\k<=c.nd.eqs.length/\i=.int .i64 k/\Hid (zas S kd lb bb sb nmv askv N c (.slice xe c.er.length cpe) (.pointer (some ⟨nb,0,none⟩)) w.heap.size (w.heap.size+1) (((c.nd.eqs.take k).flatMap λq=>z7 c q.ns q.ps).foldl rep st1) wr)/\Hid (Fr (RT lb bb) w wr))
      case atStart=>exact ⟨0,by omega,Nat.zero_le _,rfl,HIk.out,HFk.out⟩
      case round =>
       clear HIk HFk n0 n1 n2 n3 n4 n5 nf nz p0 p1 pf pz hkj hk hlt
       obtain ⟨k,hkj,hk,rfl,HIk,HFk⟩:=hrel
       have hOk:=HFk.out.old hN (λk e=>by rcases e with e|e;exact e▸l1;exact e▸l2)
       obtain ⟨p0,p1,pf,pz⟩:=zp HIk.out.x1
       obtain ⟨q0,qf,qz⟩:=zu HIk.out.x2
       unfold zam at q0
       have hNr:=HIk.out.hN
       by_cases hlt:k<c.nd.eqs.length
       · obtain ⟨wo,rfl⟩:∃wo,wo=wr:=⟨_,rfl⟩
         obtain ⟨gko,rfl⟩:∃g,g=gk:=⟨_,rfl⟩
         obtain ⟨q,hq⟩:∃q,c.nd.eqs[k]?=some q:=⟨_,zsc hlt⟩
         have hN2:=HNt.out.old hOk
         obtain ⟨g,lv,rv,rfl,c0,c1,c2,hE⟩:=zcd hN2.own hN2.eqs hq rfl
         obtain ⟨rb,_,_,rfl,_⟩:=hE.tt.ptr
         obtain ⟨xl,cl,rfl⟩:=zB hE.own
         have hgN:=HNt.out.elo g rfl
         have HEq:=za hE
         have hql:=HPs.out q (List.mem_of_getElem? hq)
         have Hql:=za hql
         have HFl:=za (zik (λq=>z7 c q.ns q.ps) hq st1)
         obtain ⟨stB,hstB⟩:∃stB,((c.nd.eqs.take k).flatMap λq=>z7 c q.ns q.ps).foldl rep st1=stB:=⟨_,rfl⟩
         rw [hstB] at HFl HIk
         have h17:q.ns.length<=9223372036854775807:=by
          rcases hE.own.2 with ⟨_,h⟩|⟨g,cap,cur,hv,_,_,h3,h4,_⟩
          · omega
          · unfold maxLen at h4;omega
         have hpz1:w.heap.size<wo.heap.size+1:=by omega
         have hqz1:w.heap.size+1<wo.heap.size+1:=by omega
         have HwX:=za (zy (T:=RT lb bb) (zq wo (.cells #[.slice xl q.ns.length cl,.int .i64 q.a,.pointer (some ⟨rb,0,none⟩)] 166)))
         have HkX:=za (HIk.out.keep (zq wo (.cells #[.slice xl q.ns.length cl,.int .i64 q.a,.pointer (some ⟨rb,0,none⟩)] 166)))
         clear hN2 hE hq hstB hql hOk
         go_wp2_with fail
         go_loopg [99] (q.ns.length+1) (λj i wr=>∃k2:Nat,k2+j=q.ns.length+1/\k2<=q.ns.length/\i=.int .i64 k2/\Hid (zas S kd lb bb sb nmv askv N c (.slice xe c.er.length cpe) (.pointer (some ⟨nb,0,none⟩)) w.heap.size (w.heap.size+1) ((z7 c (q.ns.take k2) (q.ps.take k2)).foldl rep stB) wr)/\Hid (Fr (RT lb bb) wo wr))
         case atStart=>exact ⟨0,by omega,Nat.zero_le _,rfl,HkX.out,HwX.out⟩
         case round =>
          clear HkX HwX c0 c1 c2 q0 qf p0 p1
          obtain ⟨k2,hkj2,hk2,rfl,HIn,HFn⟩:=hrel
          obtain ⟨p0',p1',pf',pz'⟩:=zp HIn.out.x1
          obtain ⟨q0',qf',qz'⟩:=zu HIn.out.x2
          have hNs:=HIn.out.hN
          have hzs:=HFn.out.size
          by_cases hlt2:k2<q.ns.length
          · obtain ⟨s,hs⟩:∃s,q.ns[k2]?=some s:=⟨_,zsc hlt2⟩
            obtain ⟨p,hp⟩:∃p,q.ps[k2]?=some p:=⟨_,zsc (by have:=Hql.out;omega)⟩
            have hOs:=HFn.out.old hNr (λk e=>by rcases e with e|e;exact e▸l1;exact e▸l2)
            obtain ⟨gl,rfl,c0,c1⟩:=zbe (HEq.out.old hOs).own hs hp rfl
            have hglN:=HEq.out.lo gl rfl
            have hT1:=zhN (c:=c) hs hp
            have k20:(0:Int)<=(k2:Int):=by omega
            have k21:(k2:Int)<(q.ns.length:Int):=by omega
            clear hOs hs hp
            go_upto_region 19 with fail
            refine zn (λW3=>Hid (zas S kd lb bb sb nmv askv N c (.slice xe c.er.length cpe) (.pointer (some ⟨nb,0,none⟩)) w.heap.size (w.heap.size+1) ((z7 c (q.ns.take k2) (q.ps.take k2)).foldl rep stB) W3)/\Hid (Fr (RT lb bb) wo W3)/\W3.heap[wr.heap.size]?=some (.cells #[.string s,.int .i64 p] 93 (0,0))) ⟨HIn.out.keep (zq wr _),HFn.out.alloc _,zc wr _⟩ ?_
            rintro W3 ⟨HI3,HF3,hb3⟩
            obtain ⟨s0,s1,sf,sz⟩:=zp HI3.out.x1
            obtain ⟨q0,qf,qz⟩:=zu HI3.out.x2
            unfold zam at q0
            obtain ⟨y0,y1,yf,yz⟩:=zp hb3
            have hO3:=(HFk.out.trans HF3.out).old hN (λk e=>by rcases e with e|e;exact e▸l1;exact e▸l2)
            obtain ⟨m0,m1,m2,m3,m4,m5,mf,mz⟩:=zt ((hO3 nb HNt.out.lo).trans HNt.out.blk)
            have hN3:=HI3.out.hN
            have HHa:=za (zgt s (p:Int) W3.drew (HI3.out.sc.old (λ_ _=>rfl)) hN3)
            have HIx:=za (λW (hB:Below W3.heap.size W3 W)=>zaz s (p:Int) W (HI3.out.keep hB).sc (HI3.out.keep hB).hN)
            clear hb3 hO3 p0' p1' q0' m0 m1 m2 m4 m5 mf
            cases hha:c.has s with
            | false =>
              have hha':(c.nd.find s).isSome=false:=hha
              rw [hha'] at HHa
              have HT:Hid ((z7 c (q.ns.take (k2+1)) (q.ps.take (k2+1))).foldl rep stB=rep ((z7 c (q.ns.take k2) (q.ps.take k2)).foldl rep stB) p):=by unfold Hid;rw [hT1,List.foldl_append,hha];rfl
              clear hha hha' hT1
              refine wp_region_held_drew (S:=(λw'=>w'.cell? ⟨w.heap.size,0,none⟩=some (.slice xe c.er.length cpe)/\w'.cell? ⟨w.heap.size,1,none⟩=some (.pointer (some ⟨nb,0,none⟩))/\w'.cell? ⟨wr.heap.size,0,none⟩=some (.string s)/\w'.cell? ⟨wr.heap.size,1,none⟩=some (.int .i64 p))) (by kernel_rfl) ⟨zg s0,zg s1,zg y0,zg y1⟩ (λhHeld=>?_)
              refine wpAnyH_take (i:=0) (v:=.agg #[.slice xe c.er.length cpe,.pointer (some ⟨nb,0,none⟩)]) rfl (by kernel_rfl) (by kernel_rfl) (by kernel_rfl) (λ_ _ _ h=>h) (Or.inl ⟨by rfl,?_⟩) (by assumption) ?_
              · (intro w9 hSw;(try dsimp only at hSw);go_simp)
              try simp only [Act.put,zr8,zr6,zr5,zsa,zr9]
              refine wpAnyH_take (i:=1) (v:=.agg #[.string s,.int .i64 p]) rfl (by kernel_rfl) (by kernel_rfl) (by kernel_rfl) (λ_ _ _ h=>h) (Or.inl ⟨by rfl,?_⟩) (by assumption) ?_
              · (intro w9 hSw;(try dsimp only at hSw);go_simp)
              try simp only [Act.put,zr8,zr6,zr7,zr5,zsa,zr9]
              refine wpAnyH_ready (rs:=[2]) (by kernel_rfl) (by simp) ?_
              refine AllReadyH.cons rfl (λK hK=>?_) AllReadyH.nil
              go_simp
              go_at_call 98
              refine HHa.out.mono ?_
              rintro e w1 ⟨rfl,hB1⟩
              have HB1:=za (zw hB1)
              clear hB1
              go_wp2_with fail
              refine hK.out _ _ ⟨zd HB1.out s0 sz,zd HB1.out s1 sz,zd HB1.out y0 yz,zd HB1.out y1 yz⟩ (λhHeld=>?_)
              clear hK K
              try simp only [Act.put,zr8,zr6,zr7,zr5,zsa,zr9]
              refine wpAnyH_take (i:=3) (v:=.bool true) rfl (by kernel_rfl) (by kernel_rfl) (by kernel_rfl) (λ_ _ _ h=>h) (Or.inl ⟨by rfl,?_⟩) (by assumption) ?_
              · (intro w9 hSw;(try dsimp only at hSw);go_simp)
              try simp only [Act.put,zr8,zr6,zr7,zr5,zsa,zr9]
              refine wpAnyH_take (i:=4) (v:=.bool true) rfl (by kernel_rfl) (by kernel_rfl) (by kernel_rfl) (λ_ _ _ h=>h) (Or.inl ⟨by rfl,?_⟩) (by assumption) ?_
              · (intro w9 hSw;(try dsimp only at hSw);go_simp)
              try simp only [Act.put,zr8,zr6,zr7,zr5,zsa,zr9]
              refine wpAnyH_take (i:=5) (v:=undef) rfl (by kernel_rfl) (by kernel_rfl) (by kernel_rfl) (λ_ _ _ h=>h) (Or.inr ⟨by rfl,rfl⟩) (by assumption) ?_
              try simp only [Act.put,zr8,zr6,zr7,zr5,zsa,zr9]
              refine wpAnyH_take (i:=6) (v:=undef) rfl (by kernel_rfl) (by kernel_rfl) (by kernel_rfl) (λ_ _ _ h=>h) (Or.inr ⟨by rfl,rfl⟩) (by assumption) ?_
              try simp only [Act.put,zr8,zr6,zr7,zr5,zsa,zr9]
              refine wpAnyH_take (i:=7) (v:=undef) rfl (by kernel_rfl) (by kernel_rfl) (by kernel_rfl) (λ_ _ _ h=>h) (Or.inr ⟨by rfl,rfl⟩) (by assumption) ?_
              try simp only [Act.put,zr8,zr6,zr7,zr5,zsa,zr9]
              refine wpAnyH_take (i:=8) (v:=undef) rfl (by kernel_rfl) (by kernel_rfl) (by kernel_rfl) (λ_ _ _ h=>h) (Or.inr ⟨by rfl,rfl⟩) (by assumption) ?_
              try simp only [Act.put,zr8,zr6,zr7,zr5,zsa,zr9]
              refine wpAnyH_take (i:=9) (v:=undef) rfl (by kernel_rfl) (by kernel_rfl) (by kernel_rfl) (λ_ _ _ h=>h) (Or.inr ⟨by rfl,rfl⟩) (by assumption) ?_
              try simp only [Act.put,zr8,zr6,zr7,zr5,zsa,zr9]
              refine wpAnyH_take (i:=10) (v:=undef) rfl (by kernel_rfl) (by kernel_rfl) (by kernel_rfl) (λ_ _ _ h=>h) (Or.inr ⟨by rfl,rfl⟩) (by assumption) ?_
              try simp only [Act.put,zr8,zr6,zr7,zr5,zsa,zr9]
              refine wpAnyH_take (i:=11) (v:=undef) rfl (by kernel_rfl) (by kernel_rfl) (by kernel_rfl) (λ_ _ _ h=>h) (Or.inr ⟨by rfl,rfl⟩) (by assumption) ?_
              try simp only [Act.put,zr8,zr6,zr7,zr5,zsa,zr9]
              refine wpAnyH_take (i:=12) (v:=undef) rfl (by kernel_rfl) (by kernel_rfl) (by kernel_rfl) (λ_ _ _ h=>h) (Or.inr ⟨by rfl,rfl⟩) (by assumption) ?_
              try simp only [Act.put,zr8,zr6,zr7,zr5,zsa,zr9]
              refine wpAnyH_take (i:=13) (v:=undef) rfl (by kernel_rfl) (by kernel_rfl) (by kernel_rfl) (λ_ _ _ h=>h) (Or.inr ⟨by rfl,rfl⟩) (by assumption) ?_
              try simp only [Act.put,zr8,zr6,zr7,zr5,zsa,zr9]
              refine wpAnyH_take (i:=14) (v:=undef) rfl (by kernel_rfl) (by kernel_rfl) (by kernel_rfl) (λ_ _ _ h=>h) (Or.inr ⟨by rfl,rfl⟩) (by assumption) ?_
              try simp only [Act.put,zr8,zr6,zr7,zr5,zsa,zr9]
              refine wpAnyH_take (i:=15) (v:=undef) rfl (by kernel_rfl) (by kernel_rfl) (by kernel_rfl) (λ_ _ _ h=>h) (Or.inr ⟨by rfl,rfl⟩) (by assumption) ?_
              try simp only [Act.put,zr8,zr6,zr7,zr5,zsa,zr9]
              refine wpAnyH_take (i:=16) (v:=.bool true) rfl (by kernel_rfl) (by kernel_rfl) (by kernel_rfl) (λ_ _ _ h=>h) (Or.inl ⟨by rfl,?_⟩) (by assumption) ?_
              · (intro w9 hSw;(try dsimp only at hSw);go_simp)
              try simp only [Act.put,zr8,zr6,zr7,zr5,zsa,zr9]
              refine wpAnyH_done (by kernel_rfl) ?_ _
              all_goals
               have g0:=zd HB1.out q0 qz
               have g1:=zd HB1.out y1 yz
               have HTell:=za (zaa S kd lb bb sb nmv askv _ p w1 (HI3.out.keep HB1.out).rp)
               go_wp2_with (go_at_call 117;refine HTell.out.mono ?_;rintro e w2 ⟨rfl,hRt,hFt⟩;have HRt:=za hRt;have HFt:=za hFt;clear hRt hFt)
               go_roundg (gk-1)
               case measure=>omega
               refine ⟨k2+1,by omega,by omega,by go_num,?_,(HF3.out.trans (zy HB1.out)).trans HFt.out⟩
               rw [HT.out]
               exact (HI3.out.keep HB1.out).told HRt.out HFt.out
            | true =>
              have hha':(c.nd.find s).isSome=true:=hha
              rw [hha'] at HHa
              by_cases hix:c.idx s<c.nd.ins
              · have hix':((c.idx s:Nat):Int)<(c.nd.ins:Int):=by omega
                have HT:Hid ((z7 c (q.ns.take (k2+1)) (q.ps.take (k2+1))).foldl rep stB=rep ((z7 c (q.ns.take k2) (q.ps.take k2)).foldl rep stB) p):=by unfold Hid;rw [hT1,List.foldl_append,hha];simp [hix]
                clear hha hha' hT1 hix
                generalize c.idx s=ix at *
                go_region_held3 (λw'=>w'.cell? ⟨w.heap.size,0,none⟩=some (.slice xe c.er.length cpe)/\w'.cell? ⟨w.heap.size,1,none⟩=some (.pointer (some ⟨nb,0,none⟩))/\w'.cell? ⟨wr.heap.size,0,none⟩=some (.string s)/\w'.cell? ⟨wr.heap.size,1,none⟩=some (.int .i64 p)/\w'.cell? ⟨nb,3,none⟩=some (.int .i64 c.nd.ins))
                 (first|(refine ⟨?_,?_,?_,?_,?_⟩ <;> repeat (first|with_reducible exact s0|with_reducible exact s1|with_reducible exact y0|with_reducible exact y1|with_reducible exact m3|with_reducible refine zg ?_|with_reducible refine zj _ ?_|with_reducible refine zk (by omega) ?_|with_reducible refine zd HB2.out ?_ (by first|omega|(rw [zsb];omega))|with_reducible refine zd HB1.out ?_ (by first|omega|(rw [zsb];omega))))|go_keep)
                 (first
                   | (go_at_call 72;refine HIx2.out.mono ?_;rintro e w2 ⟨rfl,hB2⟩;have HB2:=za hB2;clear hB2)
                   | (go_at_call 98;refine HHa.out.mono ?_;rintro e w1 ⟨rfl,hB1⟩;have HB1:=za (zw hB1);(have hzw1:W3.heap.size<=w1.heap.size:=hB1.size);have HIx2:=za (HIx.out w1 HB1.out);clear hB1))
                all_goals
                 have HB3:=za (HB1.out.trans (HB2.out.mono HB1.out.size))
                 have g0:=zd HB3.out q0 qz
                 have g1:=zd HB3.out y1 yz
                 have HTell:=za (zaa S kd lb bb sb nmv askv _ p w2 (HI3.out.keep HB3.out).rp)
                 go_wp2_with (go_at_call 117;refine HTell.out.mono ?_;rintro e w4 ⟨rfl,hRt,hFt⟩;have HRt:=za hRt;have HFt:=za hFt;clear hRt hFt)
                 go_roundg (gk-1)
                 case measure=>omega
                 refine ⟨k2+1,by omega,by omega,by go_num,?_,(HF3.out.trans (zy HB3.out)).trans HFt.out⟩
                 rw [HT.out]
                 exact (HI3.out.keep HB3.out).told HRt.out HFt.out
              · have hix':¬((c.idx s:Nat):Int)<(c.nd.ins:Int):=by omega
                have HT:Hid ((z7 c (q.ns.take (k2+1)) (q.ps.take (k2+1))).foldl rep stB=(z7 c (q.ns.take k2) (q.ps.take k2)).foldl rep stB):=by unfold Hid;rw [hT1,List.foldl_append,hha];simp [hix]
                clear hha hha' hT1 hix
                generalize c.idx s=ix at *
                go_region_held3 (λw'=>w'.cell? ⟨w.heap.size,0,none⟩=some (.slice xe c.er.length cpe)/\w'.cell? ⟨w.heap.size,1,none⟩=some (.pointer (some ⟨nb,0,none⟩))/\w'.cell? ⟨wr.heap.size,0,none⟩=some (.string s)/\w'.cell? ⟨wr.heap.size,1,none⟩=some (.int .i64 p)/\w'.cell? ⟨nb,3,none⟩=some (.int .i64 c.nd.ins))
                 (first|(refine ⟨?_,?_,?_,?_,?_⟩ <;> repeat (first|with_reducible exact s0|with_reducible exact s1|with_reducible exact y0|with_reducible exact y1|with_reducible exact m3|with_reducible refine zg ?_|with_reducible refine zj _ ?_|with_reducible refine zk (by omega) ?_|with_reducible refine zd HB2.out ?_ (by first|omega|(rw [zsb];omega))|with_reducible refine zd HB1.out ?_ (by first|omega|(rw [zsb];omega))))|go_keep)
                 (first
                   | (go_at_call 72;refine HIx2.out.mono ?_;rintro e w2 ⟨rfl,hB2⟩;have HB2:=za hB2;clear hB2)
                   | (go_at_call 98;refine HHa.out.mono ?_;rintro e w1 ⟨rfl,hB1⟩;have HB1:=za (zw hB1);(have hzw1:W3.heap.size<=w1.heap.size:=hB1.size);have HIx2:=za (HIx.out w1 HB1.out);clear hB1))
                all_goals
                 have HB3:=za (HB1.out.trans (HB2.out.mono HB1.out.size))
                 go_wp2_with fail
                 go_roundg (gk-1)
                 case measure=>omega
                 refine ⟨k2+1,by omega,by omega,by go_num,?_,HF3.out.trans (zy HB3.out)⟩
                 rw [HT.out]
                 exact HI3.out.keep HB3.out
          · have ek:k2=q.ns.length:=by omega
            subst ek
            rw [List.take_length,Hql.out,List.take_length] at HIn
            go_wp2_with fail
            go_roundg (gko-1)
            case measure=>omega
            refine ⟨k+1,by omega,by omega,by go_num,?_,HFk.out.trans HFn.out⟩
            rw [HFl.out]
            exact HIn.out
       · have ek:k=c.nd.eqs.length:=by omega
         subst ek
         rw [List.take_length] at HIk
         have hV:=zkL S kd lb bb sb nmv askv N c h6 (.slice xe c.er.length cpe) (.pointer (some ⟨nb,0,none⟩)) w.heap.size (w.heap.size+1) l1 l2
         have HWk:=za (zfN hV nb _ _ xs _ wr (HNt.out.old hOk) hNr (λk e=>by have:=HFk.out.size;rcases e with e|e <;> omega) HIk.out)
         have hmf:∀(fn:Go.Fn) (first cap:Array Value) (w:World),(Instr.makeFunc fn first cap).run Tryz.prog w=.ok (.func fn first cap) w:=λ_ _ _ _=>rfl
         clear hV hOk q0 qf
         go_wp2_with (go_at_call 99;refine HWk.out.mono ?_;rintro e w1 ⟨rfl,hI1,hF1⟩;have HI1:=za hI1;have HF1:=za hF1;clear hI1 hF1)
         first|go_end0|refine bodyPost_ret (results_none rfl _ _ _) rfl ?_
         refine ⟨rfl,?_,HFk.out.trans HF1.out⟩
         rw [HTy.out]
         have:=HI1.out.rp
         simp only [zh9] at this
         exact this
end
end Go.Proofs.YtedmpgjebafcjaaGreatDoor
