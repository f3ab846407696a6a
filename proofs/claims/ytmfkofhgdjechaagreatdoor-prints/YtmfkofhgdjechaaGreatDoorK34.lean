/- Part 35 of the proof: ChkK. -/
import Derived.Test.YtmfkofhgdjechaaGreatDoorK33
set_option maxRecDepth 100000
set_option maxHeartbeats 8000000
namespace Go.Proofs.YtmfkofhgdjechaaGreatDoor
open Go.Proofs.Tryz
open Go.RowKit
section
attribute [local go_sem ↓] Go.wp_at_zero Go.wp_at_succ
theorem zkL (S:Nat->Addr)(kd lb bb sb:Nat)(nmv askv:Value)(N:Nat)(c:Sc)(h6:c.er.length<=6)(ev nv:Value)(b1 b2:Nat)(l1:N<=lb)(l2:N<=bb) :
 zjB N (RT lb bb) 105 #[xP b1,xP b2] (λ_=>True) c.nd (λst q t=>(zaL c q t).foldl rep st) (zas S kd lb bb sb nmv askv N c ev nv b1 b2) where
 enters:=zqp
 hT:=λk e=>by rcases e with e|e;exact e▸l1;exact e▸l2
 keep:=λs w w' h hB=>h.keep hB
 sub:=λt u h hu=>trivial
 root:=λ_ _=>trivial
 call:=by
  intro q lv rv t v st w hq hE hT hW hN hI hO;have HI:=za hI;have HTT:=za hT;have HEq:=za hE;have HWi:=za hW;obtain⟨xe,cpe,nb,rfl,rfl,hnb⟩:=hI.sc.shape;obtain⟨b,args,vs,rfl,hb,hblk,_⟩:=hT.ptr;have hbz:=ze hblk;have HBk:=za hblk;obtain⟨xl,cl,rfl⟩:=zB hE.own;obtain⟨rb,_,_,rfl,_⟩:=hE.tt.ptr;have z1:=ze hI.x1;have z2:=ze hI.x2;have zl:=ze hI.rp.l;have zb:=ze hI.rp.b;have d1:=hI.d1;have d2:=hI.d2;have d3:=hI.d3;have d4:=hI.d4;have hblb:¬b=lb:=by omega
  have hbbb:¬b=bb:=by omega
  have HNv:=za (λW (hB:xB w W)=>zf2 W (hT.old (zm hB hN)));have HUs:=za (λW (hB:Old N w W)=>znj W (HEq.o.old hB) (HTT.o.old hB) HWi.o);have HFi:=za (λW (hB:Old N w W) (hz:N<=W.heap.size) (hs:ScV W N c (xE xe c cpe) (xP nb))=>znK (zda q t) W hs hz h6 (HTT.o.old hB));have hne1:¬w.heap.size=lb:=by omega
  have hne2:¬w.heap.size=bb:=by omega
  show Calls prog _ #[.agg #[.slice xl q.ns.length cl,xI q.a,xP rb],xP b,xP b1,xP b2] w _;have hstart:zas S kd lb bb sb nmv askv N c (xE xe c cpe) (xP nb) b1 b2 st (w.alloc (.cells #[.slice xl q.ns.length cl,xI q.a,xP rb] 161)):=HI.o.keep (zq w _);have Hst:=za hstart;by_cases hk4:t.k=4
  . have hsm:zaJ t.k=false:=by rw[hk4];rfl
    rw[hk4] at HBk;cases hfit:c.fits t (zda q t) with
    | true =>
      have HT:Hid ((zaL c q t).foldl rep st=st):=(by unfold Hid zaL;rw[hsm,hfit];simp);go_enter func105,ntmps105;go_upto_region 1 with fail;refine zn (λW=>zas S kd lb bb sb nmv askv N c (xE xe c cpe) (xP nb) b1 b2 st W/\xB w W/\xH W w.heap.size #[.slice xl q.ns.length cl,xI q.a,xP rb] 161) ⟨Hst.o,zq w _,zc w _⟩ ?_;rintro W ⟨hIW,hBW,hQW⟩;obtain⟨s0,s1,sf,sz⟩:=zp hIW.x1;obtain⟨p0,pf,pz⟩:=zu hIW.x2;obtain⟨m0,m1,m2,m3,m4,m5,mf,mz⟩:=zt ((hBW.block b hbz).trans HBk.o);have HIW:=za hIW;have HBW:=za hBW;have HQW:=za hQW;have hqz:=ze hQW;have HQ:=za (λqn=>zaX (HNv.o (W.drewN qn) (zI hBW qn)));rw[hsm] at HQ;go_quiet ((go_at_call 106;exact HQ.o _));go_upto_region 3 with fail;refine zn (λW2=>zas S kd lb bb sb nmv askv N c (xE xe c cpe) (xP nb) b1 b2 st W2/\Fr (RT lb bb) w W2/\xH W2 w.heap.size #[.slice xl q.ns.length cl,xI q.a,xP rb] 161) ⟨HIW.o.keep (zI (Below.refl _ _) _),zy (zI HBW.o _),HQW.o⟩ ?_;rintro W2 ⟨hI2,hF2,hQ2⟩;obtain⟨s0,s1,sf,sz⟩:=zp hI2.x1;obtain⟨p0,pf,pz⟩:=zu hI2.x2;obtain⟨r0,r1,r2,rf,rz⟩:=zL hQ2;have hO2:=HI.o.old hF2;obtain⟨m0,m1,m2,m3,m4,m5,mf,mz⟩:=zt ((hO2 b hb).trans HBk.o);have HI2:=za hI2;have HF2:=za hF2;have HU:=za (HUs.o W2.drew hO2);have hNW2:=hI2.hN;have m0':xC W2 b 0 (xI 4):=m0
      go_region_held3 (λw'=>w'.cell? (xD b1 0)=some (xE xe c cpe)/\w'.cell? (xD b1 1)=some (xP nb)/\w'.cell? (xD w.heap.size 0)=some (.slice xl q.ns.length cl)/\w'.cell? (xD w.heap.size 1)=some (xI q.a)/\w'.cell? (xD w.heap.size 2)=some (xP rb)/\w'.cell? (xD b 0)=some (xI 4))
       (first|(with_reducible (refine⟨?_,?_,?_,?_,?_,?_⟩ <;> repeat (first|assumption|refine zg ?_|refine zj _ ?_|refine zk (by omega) ?_|refine zd HB2.o ?_ (by first|omega|(rw[zsb];omega))|refine zd HB1.o ?_ (by first|omega|(rw[zsb];omega)))))|go_keep)
       (first
         | (go_at_call 107;refine HD2.o.mono ?_;rintro e w5 ⟨rfl,hB2⟩;have HB2:=za hB2)
         | (go_at_call 108;refine HU.o.mono ?_;rintro e w4 ⟨rfl,hB1⟩;have HB1:=za (zw hB1);(have hzw1:W2.heap.size<=w4.heap.size:=hB1.size);have HD2:=za (HFi.o w4 (hO2.trans (zm HB1.o hNW2)) (by omega) (HI2.o.keep HB1.o).sc);rw[hfit] at HD2))
      go_wp2_with fail;go_ret;refine⟨rfl,?_,HF2.o.trans (zy (HB1.o.trans (HB2.o.mono (by have:=HB1.o.size;omega))))⟩;rw[HT.o];exact HI2.o.keep (HB1.o.trans (HB2.o.mono (by have:=HB1.o.size;omega)))
    | false =>
      have HT:Hid ((zaL c q t).foldl rep st=rep st t.nm):=(by unfold Hid zaL;rw[hsm,hfit,hk4];rfl);go_enter func105,ntmps105;go_upto_region 1 with fail;refine zn (λW=>zas S kd lb bb sb nmv askv N c (xE xe c cpe) (xP nb) b1 b2 st W/\xB w W/\xH W w.heap.size #[.slice xl q.ns.length cl,xI q.a,xP rb] 161) ⟨Hst.o,zq w _,zc w _⟩ ?_;rintro W ⟨hIW,hBW,hQW⟩;obtain⟨s0,s1,sf,sz⟩:=zp hIW.x1;obtain⟨p0,pf,pz⟩:=zu hIW.x2;obtain⟨m0,m1,m2,m3,m4,m5,mf,mz⟩:=zt ((hBW.block b hbz).trans HBk.o);have HIW:=za hIW;have HBW:=za hBW;have HQW:=za hQW;have hqz:=ze hQW;have HQ:=za (λqn=>zaX (HNv.o (W.drewN qn) (zI hBW qn)));rw[hsm] at HQ;go_quiet ((go_at_call 106;exact HQ.o _));go_upto_region 3 with fail;refine zn (λW2=>zas S kd lb bb sb nmv askv N c (xE xe c cpe) (xP nb) b1 b2 st W2/\Fr (RT lb bb) w W2/\xH W2 w.heap.size #[.slice xl q.ns.length cl,xI q.a,xP rb] 161) ⟨HIW.o.keep (zI (Below.refl _ _) _),zy (zI HBW.o _),HQW.o⟩ ?_;rintro W2 ⟨hI2,hF2,hQ2⟩;obtain⟨s0,s1,sf,sz⟩:=zp hI2.x1;obtain⟨p0,pf,pz⟩:=zu hI2.x2;obtain⟨r0,r1,r2,rf,rz⟩:=zL hQ2;have hO2:=HI.o.old hF2;obtain⟨m0,m1,m2,m3,m4,m5,mf,mz⟩:=zt ((hO2 b hb).trans HBk.o);have HI2:=za hI2;have HF2:=za hF2;have HU:=za (HUs.o W2.drew hO2);have hNW2:=hI2.hN;have m0':xC W2 b 0 (xI 4):=m0
      go_region_held3 (λw'=>w'.cell? (xD b1 0)=some (xE xe c cpe)/\w'.cell? (xD b1 1)=some (xP nb)/\w'.cell? (xD w.heap.size 0)=some (.slice xl q.ns.length cl)/\w'.cell? (xD w.heap.size 1)=some (xI q.a)/\w'.cell? (xD w.heap.size 2)=some (xP rb)/\w'.cell? (xD b 0)=some (xI 4))
       (first|(with_reducible (refine⟨?_,?_,?_,?_,?_,?_⟩ <;> repeat (first|assumption|refine zg ?_|refine zj _ ?_|refine zk (by omega) ?_|refine zd HB2.o ?_ (by first|omega|(rw[zsb];omega))|refine zd HB1.o ?_ (by first|omega|(rw[zsb];omega)))))|go_keep)
       (first
         | (go_at_call 107;refine HD2.o.mono ?_;rintro e w5 ⟨rfl,hB2⟩;have HB2:=za hB2)
         | (go_at_call 108;refine HU.o.mono ?_;rintro e w4 ⟨rfl,hB1⟩;have HB1:=za (zw hB1);(have hzw1:W2.heap.size<=w4.heap.size:=hB1.size);have HD2:=za (HFi.o w4 (hO2.trans (zm HB1.o hNW2)) (by omega) (HI2.o.keep HB1.o).sc);rw[hfit] at HD2))
      go_upto_region 4 with fail;have HB3:=za (HB1.o.trans (HB2.o.mono (by have:=HB1.o.size;omega)));have g1:=zd HB3.o p0 pz;have g2:=zd HB3.o m3 mz;have HTell:=za (zaa S kd lb bb sb nmv askv st t.nm w5.drew ((HI2.o.keep HB3.o).rp.keep (zo (Below.refl _ _))));unfold zam at g1
      go_region_held3 (λw'=>w'.cell? (xD b2 0)=some (.func (.func 124) #[] #[xP lb,xP bb,xP sb])/\w'.cell? (xD b 3)=some (xI t.nm))
       (first|(with_reducible (refine⟨?_,?_⟩ <;> repeat (first|assumption|refine zg ?_|refine zS HFt.o ?_ (by omega) (by omega))))|go_keep)
       (first
         | (go_at_call 124;refine (HTell.o).mono ?_;rintro e w6 ⟨rfl,hRt,hFt'⟩;have HRt:=za hRt;have HFt:=za hFt'.undrew))
      go_wp2_with fail;go_ret;refine⟨rfl,?_,(HF2.o.trans (zy HB3.o)).trans HFt.o⟩;rw[HT.o];exact (HI2.o.keep HB3.o).told HRt.o HFt.o
  . have hk4':((t.k:Int)==4)=false:=by simp;omega
    have hk4b:(t.k==4)=false:=(by simp[hk4]);cases hsm:zaJ t.k with
    | false => have HT:Hid ((zaL c q t).foldl rep st=st):=(by unfold Hid zaL;rw[hsm,hk4b];rfl);go_enter func105,ntmps105;go_upto_region 1 with fail;refine zn (λW=>zas S kd lb bb sb nmv askv N c (xE xe c cpe) (xP nb) b1 b2 st W/\xB w W/\xH W w.heap.size #[.slice xl q.ns.length cl,xI q.a,xP rb] 161) ⟨Hst.o,zq w _,zc w _⟩ ?_;rintro W ⟨hIW,hBW,hQW⟩;obtain⟨s0,s1,sf,sz⟩:=zp hIW.x1;obtain⟨p0,pf,pz⟩:=zu hIW.x2;obtain⟨m0,m1,m2,m3,m4,m5,mf,mz⟩:=zt ((hBW.block b hbz).trans HBk.o);have HIW:=za hIW;have HBW:=za hBW;have HQW:=za hQW;have hqz:=ze hQW;have HQ:=za (λqn=>zaX (HNv.o (W.drewN qn) (zI hBW qn)));rw[hsm] at HQ;go_quiet ((go_at_call 106;exact HQ.o _));go_upto_region 3 with fail;refine zn (λW2=>zas S kd lb bb sb nmv askv N c (xE xe c cpe) (xP nb) b1 b2 st W2/\Fr (RT lb bb) w W2/\xH W2 w.heap.size #[.slice xl q.ns.length cl,xI q.a,xP rb] 161) ⟨HIW.o.keep (zI (Below.refl _ _) _),zy (zI HBW.o _),HQW.o⟩ ?_;rintro W2 ⟨hI2,hF2,hQ2⟩;obtain⟨s0,s1,sf,sz⟩:=zp hI2.x1;obtain⟨p0,pf,pz⟩:=zu hI2.x2;obtain⟨r0,r1,r2,rf,rz⟩:=zL hQ2;have hO2:=HI.o.old hF2;obtain⟨m0,m1,m2,m3,m4,m5,mf,mz⟩:=zt ((hO2 b hb).trans HBk.o);have HI2:=za hI2;have HF2:=za hF2;go_quiet (fail);go_wp2_with fail;go_ret;refine⟨rfl,?_,HF2.o.trans (zy (zI (Below.refl _ _) _))⟩;rw[HT.o];exact HI2.o.keep (zI (Below.refl _ _) _)
    | true =>
      cases hhas:c.has t.s with
      | true =>
        have HT:Hid ((zaL c q t).foldl rep st=st):=(by unfold Hid zaL;rw[hsm,hk4b,hhas];rfl);go_enter func105,ntmps105;go_upto_region 1 with fail;refine zn (λW=>zas S kd lb bb sb nmv askv N c (xE xe c cpe) (xP nb) b1 b2 st W/\xB w W/\xH W w.heap.size #[.slice xl q.ns.length cl,xI q.a,xP rb] 161) ⟨Hst.o,zq w _,zc w _⟩ ?_;rintro W ⟨hIW,hBW,hQW⟩;obtain⟨s0,s1,sf,sz⟩:=zp hIW.x1;obtain⟨p0,pf,pz⟩:=zu hIW.x2;obtain⟨m0,m1,m2,m3,m4,m5,mf,mz⟩:=zt ((hBW.block b hbz).trans HBk.o);have HIW:=za hIW;have HBW:=za hBW;have HQW:=za hQW;have hqz:=ze hQW;have HQ:=za (HNv.o W.drew (zo hBW));rw[hsm] at HQ;have HD:=za (zgt t.s (t.nm:Int) W.drew (hIW.sc.old (λ_ _=>rfl)) (by show N<=W.heap.size;exact hIW.hN));have hhas':(c.nd.find t.s).isSome=true:=hhas;rw[hhas'] at HD
        go_region_held3 (λw'=>w'.cell? (xD b1 0)=some (xE xe c cpe)/\w'.cell? (xD b1 1)=some (xP nb)/\w'.cell? (xD b 2)=some (.string t.s)/\w'.cell? (xD b 3)=some (xI t.nm))
         (first|(with_reducible (refine⟨?_,?_,?_,?_⟩ <;> repeat (first|assumption|refine zg ?_|refine zj _ ?_|refine zk (by omega) ?_|refine zd HB1.o ?_ (by first|omega|(rw[zsb];omega)))))|go_keep)
         (first
           | (go_at_call 102;refine HD.o.mono ?_;rintro e w1 ⟨rfl,hB1⟩;have HB1:=za (zw hB1))
           | (go_at_call 106;refine HQ.o.mono ?_;rintro e w1 ⟨rfl,rfl⟩))
        go_upto_region 3 with fail;refine zn (λW2=>zas S kd lb bb sb nmv askv N c (xE xe c cpe) (xP nb) b1 b2 st W2/\Fr (RT lb bb) w W2/\xH W2 w.heap.size #[.slice xl q.ns.length cl,xI q.a,xP rb] 161) ⟨HIW.o.keep HB1.o,zy (HBW.o.trans (HB1.o.mono HBW.o.size)),(HB1.o.block _ hqz).trans HQW.o⟩ ?_;rintro W2 ⟨hI2,hF2,hQ2⟩;obtain⟨s0,s1,sf,sz⟩:=zp hI2.x1;obtain⟨p0,pf,pz⟩:=zu hI2.x2;obtain⟨r0,r1,r2,rf,rz⟩:=zL hQ2;have hO2:=HI.o.old hF2;obtain⟨m0,m1,m2,m3,m4,m5,mf,mz⟩:=zt ((hO2 b hb).trans HBk.o);have HI2:=za hI2;have HF2:=za hF2;go_quiet (fail);go_wp2_with fail;go_ret;refine⟨rfl,?_,HF2.o.trans (zy (zI (Below.refl _ _) _))⟩;rw[HT.o];exact HI2.o.keep (zI (Below.refl _ _) _)
      | false =>
        have HT:Hid ((zaL c q t).foldl rep st=rep st t.nm):=(by unfold Hid zaL;rw[hsm,hk4b,hhas];rfl);go_enter func105,ntmps105;go_upto_region 1 with fail;refine zn (λW=>zas S kd lb bb sb nmv askv N c (xE xe c cpe) (xP nb) b1 b2 st W/\xB w W/\xH W w.heap.size #[.slice xl q.ns.length cl,xI q.a,xP rb] 161) ⟨Hst.o,zq w _,zc w _⟩ ?_;rintro W ⟨hIW,hBW,hQW⟩;obtain⟨s0,s1,sf,sz⟩:=zp hIW.x1;obtain⟨p0,pf,pz⟩:=zu hIW.x2;obtain⟨m0,m1,m2,m3,m4,m5,mf,mz⟩:=zt ((hBW.block b hbz).trans HBk.o);have HIW:=za hIW;have HBW:=za hBW;have HQW:=za hQW;have hqz:=ze hQW;have HQ:=za (HNv.o W.drew (zo hBW));rw[hsm] at HQ;have HD:=za (zgt t.s (t.nm:Int) W.drew (hIW.sc.old (λ_ _=>rfl)) (by show N<=W.heap.size;exact hIW.hN));have hhas':(c.nd.find t.s).isSome=false:=hhas;rw[hhas'] at HD
        go_region_held3 (λw'=>w'.cell? (xD b1 0)=some (xE xe c cpe)/\w'.cell? (xD b1 1)=some (xP nb)/\w'.cell? (xD b 2)=some (.string t.s)/\w'.cell? (xD b 3)=some (xI t.nm))
         (first|(with_reducible (refine⟨?_,?_,?_,?_⟩ <;> repeat (first|assumption|refine zg ?_|refine zj _ ?_|refine zk (by omega) ?_|refine zd HB1.o ?_ (by first|omega|(rw[zsb];omega)))))|go_keep)
         (first
           | (go_at_call 102;refine HD.o.mono ?_;rintro e w1 ⟨rfl,hB1⟩;have HB1:=za (zw hB1))
           | (go_at_call 106;refine HQ.o.mono ?_;rintro e w1 ⟨rfl,rfl⟩))
        go_upto_region 2 with fail;have g1:=zd HB1.o p0 pz;have g2:=zd HB1.o m3 mz;have HTell:=za (zaa S kd lb bb sb nmv askv st t.nm w1.drew ((HIW.o.keep HB1.o).rp.keep (zo (Below.refl _ _))));unfold zam at g1
        go_region_held3 (λw'=>w'.cell? (xD b2 0)=some (.func (.func 124) #[] #[xP lb,xP bb,xP sb])/\w'.cell? (xD b 3)=some (xI t.nm))
         (first|(with_reducible (refine⟨?_,?_⟩ <;> repeat (first|assumption|refine zg ?_|refine zS HFt.o ?_ (by omega) (by omega))))|go_keep)
         (first
           | (go_at_call 124;refine (HTell.o).mono ?_;rintro e w2 ⟨rfl,hRt,hFt'⟩;have HRt:=za hRt;have HFt:=za hFt'.undrew))
        go_upto_region 3 with fail;refine zn (λW2=>zas S kd lb bb sb nmv askv N c (xE xe c cpe) (xP nb) b1 b2 (rep st t.nm) W2/\Fr (RT lb bb) w W2/\xH W2 w.heap.size #[.slice xl q.ns.length cl,xI q.a,xP rb] 161) ⟨(HIW.o.keep HB1.o).told HRt.o HFt.o,(zy (HBW.o.trans (HB1.o.mono HBW.o.size))).trans HFt.o,(HFt.o.block _ (by have:=HB1.o.size;omega) (λe=>by rcases e with e|e;exact hne1 e;exact hne2 e)).trans ((HB1.o.block _ hqz).trans HQW.o)⟩ ?_;rintro W2 ⟨hI2,hF2,hQ2⟩;obtain⟨s0,s1,sf,sz⟩:=zp hI2.x1;obtain⟨p0,pf,pz⟩:=zu hI2.x2;obtain⟨r0,r1,r2,rf,rz⟩:=zL hQ2;have hO2:=HI.o.old hF2;obtain⟨m0,m1,m2,m3,m4,m5,mf,mz⟩:=zt ((hO2 b hb).trans HBk.o);have HI2:=za hI2;have HF2:=za hF2;go_quiet (fail);go_wp2_with fail;go_ret;refine⟨rfl,?_,HF2.o.trans (zy (zI (Below.refl _ _) _))⟩;rw[HT.o];exact HI2.o.keep (zI (Below.refl _ _) _)
end
end Go.Proofs.YtmfkofhgdjechaaGreatDoor
