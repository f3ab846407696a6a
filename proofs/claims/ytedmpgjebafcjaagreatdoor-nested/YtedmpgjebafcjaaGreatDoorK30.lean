/- Part 31 of the proof: ChkK. -/
import Derived.Test.YtedmpgjebafcjaaGreatDoorK29
set_option maxRecDepth 100000
set_option maxHeartbeats 8000000
namespace Go.Proofs.YtedmpgjebafcjaaGreatDoor
section
open Go.RowKit
attribute [local go_sem ↓] Go.wp_at_zero Go.wp_at_succ
theorem zkL (S:Nat->Addr) (kd lb bb sb:Nat) (nmv askv:Value) (N:Nat) (c:Sc) (h6:c.er.length<=6) (ev nv:Value) (b1 b2:Nat) (l1:N<=lb) (l2:N<=bb) :
 zjB N (RT lb bb) 100 #[.pointer (some ⟨b1,0,none⟩),.pointer (some ⟨b2,0,none⟩)] (λ_=>True) c.nd (λst q t=>(zaL c q t).foldl rep st) (zas S kd lb bb sb nmv askv N c ev nv b1 b2) where
 enters:=zqp
 hT:=λk e=>by rcases e with e|e;exact e▸l1;exact e▸l2
 keep:=λs w w' h hB=>h.keep hB
 sub:=λt u h hu=>trivial
 root:=λ_ _=>trivial
 call:=by
  intro q lv rv t v st w hq hE hT hW hN hI hO
  have HI:=za hI
  have HTT:=za hT
  have HEq:=za hE
  have HWi:=za hW
  obtain ⟨xe,cpe,nb,rfl,rfl,hnb⟩:=hI.sc.shape
  obtain ⟨b,args,vs,rfl,hb,hblk,_⟩:=hT.ptr
  have hbz:=ze hblk
  have HBk:=za hblk
  obtain ⟨xl,cl,rfl⟩:=zB hE.own
  obtain ⟨rb,_,_,rfl,_⟩:=hE.tt.ptr
  have z1:=ze hI.x1
  have z2:=ze hI.x2
  have zl:=ze hI.rp.l
  have zb:=ze hI.rp.b
  have d1:=hI.d1
  have d2:=hI.d2
  have d3:=hI.d3
  have d4:=hI.d4
  have hblb:¬b=lb:=by omega
  have hbbb:¬b=bb:=by omega
  have HNv:=za (λW (hB:Below w.heap.size w W)=>zf2 W (hT.old (zm hB hN)))
  have HUs:=za (λW (hB:Old N w W)=>znj W (HEq.out.old hB) (HTT.out.old hB) HWi.out)
  have HFi:=za (λW (hB:Old N w W) (hz:N<=W.heap.size) (hs:ScV W N c (.slice xe c.er.length cpe) (.pointer (some ⟨nb,0,none⟩)))=>znK (zda q t) W hs hz h6 (HTT.out.old hB))
  have hne1:¬w.heap.size=lb:=by omega
  have hne2:¬w.heap.size=bb:=by omega
  clear hI hT hE hW hq hblk hO
  show Calls Tryz.prog _ #[.agg #[.slice xl q.ns.length cl,.int .i64 q.a,.pointer (some ⟨rb,0,none⟩)],.pointer (some ⟨b,0,none⟩),.pointer (some ⟨b1,0,none⟩),.pointer (some ⟨b2,0,none⟩)] w _
  have hstart:zas S kd lb bb sb nmv askv N c (.slice xe c.er.length cpe) (.pointer (some ⟨nb,0,none⟩)) b1 b2 st (w.alloc (.cells #[.slice xl q.ns.length cl,.int .i64 q.a,.pointer (some ⟨rb,0,none⟩)] 166)):=HI.out.keep (zq w _)
  have Hst:=za hstart
  clear hstart
  by_cases hk4:t.k=4
  · have hsm:zaJ t.k=false:=by rw [hk4];rfl
    rw [hk4] at HBk
    cases hfit:c.fits t (zda q t) with
    | true =>
      have HT:Hid ((zaL c q t).foldl rep st=st):=by unfold Hid zaL;rw [hsm,hfit];simp
      go_enter Tryz.func100,Tryz.ntmps100
      go_upto_region 1 with fail
      refine zn (λW=>zas S kd lb bb sb nmv askv N c (.slice xe c.er.length cpe) (.pointer (some ⟨nb,0,none⟩)) b1 b2 st W/\Below w.heap.size w W/\W.heap[w.heap.size]?=some (.cells #[.slice xl q.ns.length cl,.int .i64 q.a,.pointer (some ⟨rb,0,none⟩)] 166 (0,0))) ⟨Hst.out,zq w _,zc w _⟩ ?_
      rintro W ⟨hIW,hBW,hQW⟩
      obtain ⟨s0,s1,sf,sz⟩:=zp hIW.x1
      obtain ⟨p0,pf,pz⟩:=zu hIW.x2
      obtain ⟨m0,m1,m2,m3,m4,m5,mf,mz⟩:=zt ((hBW.block b hbz).trans HBk.out)
      have HIW:=za hIW
      have HBW:=za hBW
      have HQW:=za hQW
      have hqz:=ze hQW
      have HQ:=za (λqn=>zaX (HNv.out (W.drewN qn) (zI hBW qn)))
      rw [hsm] at HQ
      clear hIW hBW hQW m0 m1 m4 m5 mf sf pf
      go_quiet ((go_at_call 101;exact HQ.out _))
      go_upto_region 3 with fail
      refine zn (λW2=>zas S kd lb bb sb nmv askv N c (.slice xe c.er.length cpe) (.pointer (some ⟨nb,0,none⟩)) b1 b2 st W2/\Fr (RT lb bb) w W2/\W2.heap[w.heap.size]?=some (.cells #[.slice xl q.ns.length cl,.int .i64 q.a,.pointer (some ⟨rb,0,none⟩)] 166 (0,0))) ⟨HIW.out.keep (zI (Below.refl _ _) _),zy (zI HBW.out _),HQW.out⟩ ?_
      rintro W2 ⟨hI2,hF2,hQ2⟩
      obtain ⟨s0,s1,sf,sz⟩:=zp hI2.x1
      obtain ⟨p0,pf,pz⟩:=zu hI2.x2
      obtain ⟨r0,r1,r2,rf,rz⟩:=zL hQ2
      have hO2:=HI.out.old hF2
      obtain ⟨m0,m1,m2,m3,m4,m5,mf,mz⟩:=zt ((hO2 b hb).trans HBk.out)
      have HI2:=za hI2
      have HF2:=za hF2
      have HU:=za (HUs.out W2.drew hO2)
      have hNW2:=hI2.hN
      have m0':W2.cell? ⟨b,0,none⟩=some (.int .i64 4):=m0
      clear hI2 hF2 hQ2 m0 m1 m2 m4 m5 mf sf pf rf
      go_region_held3 (λw'=>w'.cell? ⟨b1,0,none⟩=some (.slice xe c.er.length cpe)/\w'.cell? ⟨b1,1,none⟩=some (.pointer (some ⟨nb,0,none⟩))/\w'.cell? ⟨w.heap.size,0,none⟩=some (.slice xl q.ns.length cl)/\w'.cell? ⟨w.heap.size,1,none⟩=some (.int .i64 q.a)/\w'.cell? ⟨w.heap.size,2,none⟩=some (.pointer (some ⟨rb,0,none⟩))/\w'.cell? ⟨b,0,none⟩=some (.int .i64 4))
       (first|(refine ⟨?_,?_,?_,?_,?_,?_⟩ <;> repeat (first|with_reducible exact s0|with_reducible exact s1|with_reducible exact r0|with_reducible exact r1|with_reducible exact r2|with_reducible exact m0'|with_reducible refine zg ?_|with_reducible refine zj _ ?_|with_reducible refine zk (by omega) ?_|with_reducible refine zd HB2.out ?_ (by first|omega|(rw [zsb];omega))|with_reducible refine zd HB1.out ?_ (by first|omega|(rw [zsb];omega))))|go_keep)
       (first
         | (go_at_call 102;refine HD2.out.mono ?_;rintro e w5 ⟨rfl,hB2⟩;have HB2:=za hB2;clear hB2)
         | (go_at_call 103;refine HU.out.mono ?_;rintro e w4 ⟨rfl,hB1⟩;have HB1:=za (zw hB1);(have hzw1:W2.heap.size<=w4.heap.size:=hB1.size);have HD2:=za (HFi.out w4 (hO2.trans (zm HB1.out hNW2)) (by omega) (HI2.out.keep HB1.out).sc);rw [hfit] at HD2;clear hB1))
      go_wp2_with fail
      go_ret
      refine ⟨rfl,?_,HF2.out.trans (zy (HB1.out.trans (HB2.out.mono (by have:=HB1.out.size;omega))))⟩
      rw [HT.out]
      exact HI2.out.keep (HB1.out.trans (HB2.out.mono (by have:=HB1.out.size;omega)))
    | false =>
      have HT:Hid ((zaL c q t).foldl rep st=rep st t.nm):=by unfold Hid zaL;rw [hsm,hfit,hk4];rfl
      go_enter Tryz.func100,Tryz.ntmps100
      go_upto_region 1 with fail
      refine zn (λW=>zas S kd lb bb sb nmv askv N c (.slice xe c.er.length cpe) (.pointer (some ⟨nb,0,none⟩)) b1 b2 st W/\Below w.heap.size w W/\W.heap[w.heap.size]?=some (.cells #[.slice xl q.ns.length cl,.int .i64 q.a,.pointer (some ⟨rb,0,none⟩)] 166 (0,0))) ⟨Hst.out,zq w _,zc w _⟩ ?_
      rintro W ⟨hIW,hBW,hQW⟩
      obtain ⟨s0,s1,sf,sz⟩:=zp hIW.x1
      obtain ⟨p0,pf,pz⟩:=zu hIW.x2
      obtain ⟨m0,m1,m2,m3,m4,m5,mf,mz⟩:=zt ((hBW.block b hbz).trans HBk.out)
      have HIW:=za hIW
      have HBW:=za hBW
      have HQW:=za hQW
      have hqz:=ze hQW
      have HQ:=za (λqn=>zaX (HNv.out (W.drewN qn) (zI hBW qn)))
      rw [hsm] at HQ
      clear hIW hBW hQW m0 m1 m4 m5 mf sf pf
      go_quiet ((go_at_call 101;exact HQ.out _))
      go_upto_region 3 with fail
      refine zn (λW2=>zas S kd lb bb sb nmv askv N c (.slice xe c.er.length cpe) (.pointer (some ⟨nb,0,none⟩)) b1 b2 st W2/\Fr (RT lb bb) w W2/\W2.heap[w.heap.size]?=some (.cells #[.slice xl q.ns.length cl,.int .i64 q.a,.pointer (some ⟨rb,0,none⟩)] 166 (0,0))) ⟨HIW.out.keep (zI (Below.refl _ _) _),zy (zI HBW.out _),HQW.out⟩ ?_
      rintro W2 ⟨hI2,hF2,hQ2⟩
      obtain ⟨s0,s1,sf,sz⟩:=zp hI2.x1
      obtain ⟨p0,pf,pz⟩:=zu hI2.x2
      obtain ⟨r0,r1,r2,rf,rz⟩:=zL hQ2
      have hO2:=HI.out.old hF2
      obtain ⟨m0,m1,m2,m3,m4,m5,mf,mz⟩:=zt ((hO2 b hb).trans HBk.out)
      have HI2:=za hI2
      have HF2:=za hF2
      have HU:=za (HUs.out W2.drew hO2)
      have hNW2:=hI2.hN
      have m0':W2.cell? ⟨b,0,none⟩=some (.int .i64 4):=m0
      clear hI2 hF2 hQ2 m0 m1 m2 m4 m5 mf sf pf rf
      go_region_held3 (λw'=>w'.cell? ⟨b1,0,none⟩=some (.slice xe c.er.length cpe)/\w'.cell? ⟨b1,1,none⟩=some (.pointer (some ⟨nb,0,none⟩))/\w'.cell? ⟨w.heap.size,0,none⟩=some (.slice xl q.ns.length cl)/\w'.cell? ⟨w.heap.size,1,none⟩=some (.int .i64 q.a)/\w'.cell? ⟨w.heap.size,2,none⟩=some (.pointer (some ⟨rb,0,none⟩))/\w'.cell? ⟨b,0,none⟩=some (.int .i64 4))
       (first|(refine ⟨?_,?_,?_,?_,?_,?_⟩ <;> repeat (first|with_reducible exact s0|with_reducible exact s1|with_reducible exact r0|with_reducible exact r1|with_reducible exact r2|with_reducible exact m0'|with_reducible refine zg ?_|with_reducible refine zj _ ?_|with_reducible refine zk (by omega) ?_|with_reducible refine zd HB2.out ?_ (by first|omega|(rw [zsb];omega))|with_reducible refine zd HB1.out ?_ (by first|omega|(rw [zsb];omega))))|go_keep)
       (first
         | (go_at_call 102;refine HD2.out.mono ?_;rintro e w5 ⟨rfl,hB2⟩;have HB2:=za hB2;clear hB2)
         | (go_at_call 103;refine HU.out.mono ?_;rintro e w4 ⟨rfl,hB1⟩;have HB1:=za (zw hB1);(have hzw1:W2.heap.size<=w4.heap.size:=hB1.size);have HD2:=za (HFi.out w4 (hO2.trans (zm HB1.out hNW2)) (by omega) (HI2.out.keep HB1.out).sc);rw [hfit] at HD2;clear hB1))
      go_upto_region 4 with fail
      have HB3:=za (HB1.out.trans (HB2.out.mono (by have:=HB1.out.size;omega)))
      have g1:=zd HB3.out p0 pz
      have g2:=zd HB3.out m3 mz
      have HTell:=za (zaa S kd lb bb sb nmv askv st t.nm w5.drew ((HI2.out.keep HB3.out).rp.keep (zo (Below.refl _ _))))
      unfold zam at g1
      go_region_held3 (λw'=>w'.cell? ⟨b2,0,none⟩=some (.func (.func 117) #[] #[.pointer (some ⟨lb,0,none⟩),.pointer (some ⟨bb,0,none⟩),.pointer (some ⟨sb,0,none⟩)])/\w'.cell? ⟨b,3,none⟩=some (.int .i64 t.nm))
       (first|(refine ⟨?_,?_⟩ <;> first|with_reducible exact zg g1|with_reducible exact zg g2|with_reducible exact zS HFt.out g1 (by omega) (by omega)|with_reducible exact zS HFt.out g2 (by omega) (by omega))|go_keep)
       (first
         | (go_at_call 117;refine (HTell.out).mono ?_;rintro e w6 ⟨rfl,hRt,hFt'⟩;have HRt:=za hRt;have HFt:=za hFt'.undrew;clear hRt hFt'))
      go_wp2_with fail
      go_ret
      refine ⟨rfl,?_,(HF2.out.trans (zy HB3.out)).trans HFt.out⟩
      rw [HT.out]
      exact (HI2.out.keep HB3.out).told HRt.out HFt.out
  · have hk4':((t.k:Int)==4)=false:=by simp;omega
    have hk4b:(t.k==4)=false:=by simp [hk4]
    cases hsm:zaJ t.k with
    | false =>
      have HT:Hid ((zaL c q t).foldl rep st=st):=by unfold Hid zaL;rw [hsm,hk4b];rfl
      go_enter Tryz.func100,Tryz.ntmps100
      go_upto_region 1 with fail
      refine zn (λW=>zas S kd lb bb sb nmv askv N c (.slice xe c.er.length cpe) (.pointer (some ⟨nb,0,none⟩)) b1 b2 st W/\Below w.heap.size w W/\W.heap[w.heap.size]?=some (.cells #[.slice xl q.ns.length cl,.int .i64 q.a,.pointer (some ⟨rb,0,none⟩)] 166 (0,0))) ⟨Hst.out,zq w _,zc w _⟩ ?_
      rintro W ⟨hIW,hBW,hQW⟩
      obtain ⟨s0,s1,sf,sz⟩:=zp hIW.x1
      obtain ⟨p0,pf,pz⟩:=zu hIW.x2
      obtain ⟨m0,m1,m2,m3,m4,m5,mf,mz⟩:=zt ((hBW.block b hbz).trans HBk.out)
      have HIW:=za hIW
      have HBW:=za hBW
      have HQW:=za hQW
      have hqz:=ze hQW
      have HQ:=za (λqn=>zaX (HNv.out (W.drewN qn) (zI hBW qn)))
      rw [hsm] at HQ
      clear hIW hBW hQW m0 m1 m4 m5 mf sf pf
      go_quiet ((go_at_call 101;exact HQ.out _))
      go_upto_region 3 with fail
      refine zn (λW2=>zas S kd lb bb sb nmv askv N c (.slice xe c.er.length cpe) (.pointer (some ⟨nb,0,none⟩)) b1 b2 st W2/\Fr (RT lb bb) w W2/\W2.heap[w.heap.size]?=some (.cells #[.slice xl q.ns.length cl,.int .i64 q.a,.pointer (some ⟨rb,0,none⟩)] 166 (0,0))) ⟨HIW.out.keep (zI (Below.refl _ _) _),zy (zI HBW.out _),HQW.out⟩ ?_
      rintro W2 ⟨hI2,hF2,hQ2⟩
      obtain ⟨s0,s1,sf,sz⟩:=zp hI2.x1
      obtain ⟨p0,pf,pz⟩:=zu hI2.x2
      obtain ⟨r0,r1,r2,rf,rz⟩:=zL hQ2
      have hO2:=HI.out.old hF2
      obtain ⟨m0,m1,m2,m3,m4,m5,mf,mz⟩:=zt ((hO2 b hb).trans HBk.out)
      have HI2:=za hI2
      have HF2:=za hF2
      clear hI2 hF2 hQ2 hO2 m1 m2 m3 m4 m5 mf sf pf rf
      go_quiet (fail)
      go_wp2_with fail
      go_ret
      refine ⟨rfl,?_,HF2.out.trans (zy (zI (Below.refl _ _) _))⟩
      rw [HT.out]
      exact HI2.out.keep (zI (Below.refl _ _) _)
    | true =>
      cases hhas:c.has t.s with
      | true =>
        have HT:Hid ((zaL c q t).foldl rep st=st):=by unfold Hid zaL;rw [hsm,hk4b,hhas];rfl
        go_enter Tryz.func100,Tryz.ntmps100
        go_upto_region 1 with fail
        refine zn (λW=>zas S kd lb bb sb nmv askv N c (.slice xe c.er.length cpe) (.pointer (some ⟨nb,0,none⟩)) b1 b2 st W/\Below w.heap.size w W/\W.heap[w.heap.size]?=some (.cells #[.slice xl q.ns.length cl,.int .i64 q.a,.pointer (some ⟨rb,0,none⟩)] 166 (0,0))) ⟨Hst.out,zq w _,zc w _⟩ ?_
        rintro W ⟨hIW,hBW,hQW⟩
        obtain ⟨s0,s1,sf,sz⟩:=zp hIW.x1
        obtain ⟨p0,pf,pz⟩:=zu hIW.x2
        obtain ⟨m0,m1,m2,m3,m4,m5,mf,mz⟩:=zt ((hBW.block b hbz).trans HBk.out)
        have HIW:=za hIW
        have HBW:=za hBW
        have HQW:=za hQW
        have hqz:=ze hQW
        have HQ:=za (HNv.out W.drew (zo hBW))
        rw [hsm] at HQ
        have HD:=za (zgt t.s (t.nm:Int) W.drew (hIW.sc.old (λ_ _=>rfl)) (by show N<=W.heap.size;exact hIW.hN))
        have hhas':(c.nd.find t.s).isSome=true:=hhas
        rw [hhas'] at HD
        clear hIW hBW hQW m0 m1 m4 m5 mf sf pf
        go_region_held3 (λw'=>w'.cell? ⟨b1,0,none⟩=some (.slice xe c.er.length cpe)/\w'.cell? ⟨b1,1,none⟩=some (.pointer (some ⟨nb,0,none⟩))/\w'.cell? ⟨b,2,none⟩=some (.string t.s)/\w'.cell? ⟨b,3,none⟩=some (.int .i64 t.nm))
         (first|(refine ⟨?_,?_,?_,?_⟩ <;> repeat (first|with_reducible exact s0|with_reducible exact s1|with_reducible exact m2|with_reducible exact m3|with_reducible refine zg ?_|with_reducible refine zj _ ?_|with_reducible refine zk (by omega) ?_|with_reducible refine zd HB1.out ?_ (by first|omega|(rw [zsb];omega))))|go_keep)
         (first
           | (go_at_call 98;refine HD.out.mono ?_;rintro e w1 ⟨rfl,hB1⟩;have HB1:=za (zw hB1);clear hB1)
           | (go_at_call 101;refine HQ.out.mono ?_;rintro e w1 ⟨rfl,rfl⟩))
        go_upto_region 3 with fail
        refine zn (λW2=>zas S kd lb bb sb nmv askv N c (.slice xe c.er.length cpe) (.pointer (some ⟨nb,0,none⟩)) b1 b2 st W2/\Fr (RT lb bb) w W2/\W2.heap[w.heap.size]?=some (.cells #[.slice xl q.ns.length cl,.int .i64 q.a,.pointer (some ⟨rb,0,none⟩)] 166 (0,0))) ⟨HIW.out.keep HB1.out,zy (HBW.out.trans (HB1.out.mono HBW.out.size)),(HB1.out.block _ hqz).trans HQW.out⟩ ?_
        rintro W2 ⟨hI2,hF2,hQ2⟩
        obtain ⟨s0,s1,sf,sz⟩:=zp hI2.x1
        obtain ⟨p0,pf,pz⟩:=zu hI2.x2
        obtain ⟨r0,r1,r2,rf,rz⟩:=zL hQ2
        have hO2:=HI.out.old hF2
        obtain ⟨m0,m1,m2,m3,m4,m5,mf,mz⟩:=zt ((hO2 b hb).trans HBk.out)
        have HI2:=za hI2
        have HF2:=za hF2
        clear hI2 hF2 hQ2 hO2 m1 m2 m3 m4 m5 mf sf pf rf
        go_quiet (fail)
        go_wp2_with fail
        go_ret
        refine ⟨rfl,?_,HF2.out.trans (zy (zI (Below.refl _ _) _))⟩
        rw [HT.out]
        exact HI2.out.keep (zI (Below.refl _ _) _)
      | false =>
        have HT:Hid ((zaL c q t).foldl rep st=rep st t.nm):=by unfold Hid zaL;rw [hsm,hk4b,hhas];rfl
        go_enter Tryz.func100,Tryz.ntmps100
        go_upto_region 1 with fail
        refine zn (λW=>zas S kd lb bb sb nmv askv N c (.slice xe c.er.length cpe) (.pointer (some ⟨nb,0,none⟩)) b1 b2 st W/\Below w.heap.size w W/\W.heap[w.heap.size]?=some (.cells #[.slice xl q.ns.length cl,.int .i64 q.a,.pointer (some ⟨rb,0,none⟩)] 166 (0,0))) ⟨Hst.out,zq w _,zc w _⟩ ?_
        rintro W ⟨hIW,hBW,hQW⟩
        obtain ⟨s0,s1,sf,sz⟩:=zp hIW.x1
        obtain ⟨p0,pf,pz⟩:=zu hIW.x2
        obtain ⟨m0,m1,m2,m3,m4,m5,mf,mz⟩:=zt ((hBW.block b hbz).trans HBk.out)
        have HIW:=za hIW
        have HBW:=za hBW
        have HQW:=za hQW
        have hqz:=ze hQW
        have HQ:=za (HNv.out W.drew (zo hBW))
        rw [hsm] at HQ
        have HD:=za (zgt t.s (t.nm:Int) W.drew (hIW.sc.old (λ_ _=>rfl)) (by show N<=W.heap.size;exact hIW.hN))
        have hhas':(c.nd.find t.s).isSome=false:=hhas
        rw [hhas'] at HD
        clear hIW hBW hQW m0 m1 m4 m5 mf sf pf
        go_region_held3 (λw'=>w'.cell? ⟨b1,0,none⟩=some (.slice xe c.er.length cpe)/\w'.cell? ⟨b1,1,none⟩=some (.pointer (some ⟨nb,0,none⟩))/\w'.cell? ⟨b,2,none⟩=some (.string t.s)/\w'.cell? ⟨b,3,none⟩=some (.int .i64 t.nm))
         (first|(refine ⟨?_,?_,?_,?_⟩ <;> repeat (first|with_reducible exact s0|with_reducible exact s1|with_reducible exact m2|with_reducible exact m3|with_reducible refine zg ?_|with_reducible refine zj _ ?_|with_reducible refine zk (by omega) ?_|with_reducible refine zd HB1.out ?_ (by first|omega|(rw [zsb];omega))))|go_keep)
         (first
           | (go_at_call 98;refine HD.out.mono ?_;rintro e w1 ⟨rfl,hB1⟩;have HB1:=za (zw hB1);clear hB1)
           | (go_at_call 101;refine HQ.out.mono ?_;rintro e w1 ⟨rfl,rfl⟩))
        go_upto_region 2 with fail
        have g1:=zd HB1.out p0 pz
        have g2:=zd HB1.out m3 mz
        have HTell:=za (zaa S kd lb bb sb nmv askv st t.nm w1.drew ((HIW.out.keep HB1.out).rp.keep (zo (Below.refl _ _))))
        unfold zam at g1
        go_region_held3 (λw'=>w'.cell? ⟨b2,0,none⟩=some (.func (.func 117) #[] #[.pointer (some ⟨lb,0,none⟩),.pointer (some ⟨bb,0,none⟩),.pointer (some ⟨sb,0,none⟩)])/\w'.cell? ⟨b,3,none⟩=some (.int .i64 t.nm))
         (first|(refine ⟨?_,?_⟩ <;> first|with_reducible exact zg g1|with_reducible exact zg g2|with_reducible exact zS HFt.out g1 (by omega) (by omega)|with_reducible exact zS HFt.out g2 (by omega) (by omega))|go_keep)
         (first
           | (go_at_call 117;refine (HTell.out).mono ?_;rintro e w2 ⟨rfl,hRt,hFt'⟩;have HRt:=za hRt;have HFt:=za hFt'.undrew;clear hRt hFt'))
        go_upto_region 3 with fail
        refine zn (λW2=>zas S kd lb bb sb nmv askv N c (.slice xe c.er.length cpe) (.pointer (some ⟨nb,0,none⟩)) b1 b2 (rep st t.nm) W2/\Fr (RT lb bb) w W2/\W2.heap[w.heap.size]?=some (.cells #[.slice xl q.ns.length cl,.int .i64 q.a,.pointer (some ⟨rb,0,none⟩)] 166 (0,0))) ⟨(HIW.out.keep HB1.out).told HRt.out HFt.out,(zy (HBW.out.trans (HB1.out.mono HBW.out.size))).trans HFt.out,(HFt.out.block _ (by have:=HB1.out.size;omega) (λe=>by rcases e with e|e;exact hne1 e;exact hne2 e)).trans ((HB1.out.block _ hqz).trans HQW.out)⟩ ?_
        rintro W2 ⟨hI2,hF2,hQ2⟩
        obtain ⟨s0,s1,sf,sz⟩:=zp hI2.x1
        obtain ⟨p0,pf,pz⟩:=zu hI2.x2
        obtain ⟨r0,r1,r2,rf,rz⟩:=zL hQ2
        have hO2:=HI.out.old hF2
        obtain ⟨m0,m1,m2,m3,m4,m5,mf,mz⟩:=zt ((hO2 b hb).trans HBk.out)
        have HI2:=za hI2
        have HF2:=za hF2
        clear hI2 hF2 hQ2 hO2 m1 m2 m3 m4 m5 mf sf pf rf
        go_quiet (fail)
        go_wp2_with fail
        go_ret
        refine ⟨rfl,?_,HF2.out.trans (zy (zI (Below.refl _ _) _))⟩
        rw [HT.out]
        exact HI2.out.keep (zI (Below.refl _ _) _)
end
end Go.Proofs.YtedmpgjebafcjaaGreatDoor
