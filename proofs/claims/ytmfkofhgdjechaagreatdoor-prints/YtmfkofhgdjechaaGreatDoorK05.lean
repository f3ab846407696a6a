/- Part 6 of the proof: RefQ RefR MdlN RefS. -/
import Derived.Test.YtmfkofhgdjechaaGreatDoorK04
set_option maxRecDepth 100000
set_option maxHeartbeats 8000000
namespace Go.Proofs.YtmfkofhgdjechaaGreatDoor
open Go.Proofs.Tryz
section
open Go.RowKit
variable {ra rx:Fn} {d:Nat} {st:St}
theorem zyU {k:Nat}{l:List UInt8}(h:st.is k l=true):st.t.k=k/\st.t.s.toList=l:=by simp[St.is] at h;exact h
theorem zE3 (rb:Nat)(F:Fx)(xs:Rw)(st:St)(p:Nat)(w:World)(hI:Inv p st)(_ho:18<=st.op+(d+1))(hR:zs w rb F xs st)(hX:zx8 w (rb+1) xs st.L)(he:st.er≠0):xK 312 #[xP rb] w (zyK rb F xs w (zap rx ra st).1 (zap rx ra st).2):=by
 have hM:zap rx ra st=(st,0):=by unfold zap;rw[if_pos he]
 rw[hM];obtain⟨h0,h1,h2,h3,h4,h5,h6,h7,h8,h9,h10,h11,h12,h13,h14⟩:=hR.cells;have hlt:=hR.lt;have n1:¬w.heap.size=rb:=by omega
 have he':((st.er:Int) != 0)=true:=by simp;omega
 have HR:=za hR;have HX:=za hX;have HI:=za hI;clear hR hX hI hM;go_enter func312,ntmps312;go_wp2_with fail;go_ret;exact⟨xs,rfl,HR.o.alloc _,HX.o.alloc _,(Ev.refl _ _ _).alloc_behind _⟩
theorem zCT (rb:Nat)(F:Fx)(xs:Rw)(st:St)(p:Nat)(w:World)(hI:Inv p st)(_ho:18<=st.op+(d+1))(hR:zs w rb F xs st)(hX:zx8 w (rb+1) xs st.L)(he:st.er=0)(hk:st.t.k=3):xK 312 #[xP rb] w (zyK rb F xs w (zap rx ra st).1 (zap rx ra st).2):=by
 have hM:zap rx ra st=zdP zcq st.t.n st:=by unfold zap;rw[if_neg (by omega),if_pos hk]
 rw[hM];obtain⟨h0,h1,h2,h3,h4,h5,h6,h7,h8,h9,h10,h11,h12,h13,h14⟩:=hR.cells;have hlt:=hR.lt;have n1:¬w.heap.size=rb:=by omega
 have he':((st.er:Int) != 0)=false:=by simp;omega
 have k3:((st.t.k:Int)==3)=true:=beq_iff_eq.2 (by omega);have HR:=za hR;have HX:=za hX;have HI:=za hI;clear hR hX hI hM;go_enter func312,ntmps312;go_wp2_with fail;refine (zAy rb F xs st p zcq _ st.t.n rfl _ HI.o (HR.o.alloc _) (HX.o.alloc _)).mono ?_;rintro e w3 ⟨xs3,rfl,k1,k2,k3⟩;go_wp2_with fail;go_ret;exact⟨xs3,rfl,k1,k2,k3.alloc _⟩
theorem zEz (rb:Nat)(F:Fx)(xs:Rw)(st:St)(p:Nat)(w:World)(hI:Inv p st)(ho:18<=st.op+(d+1))(hR:zs w rb F xs st)(hX:zx8 w (rb+1) xs st.L)(hC:∀(xs:Rw) (st:St) (p:Nat) (w:World) (t:Tk),Inv p st->st.er=0->18<=st.op+(d+1)->1<=st.t.a->zs w rb F xs st->zx8 w (rb+1) xs st.L->xK 259 #[xP rb,.agg #[xI t.k,xI t.a,xI t.t,.string t.s,xI t.n]] w (zyK rb F xs w (zao rx t st).1 (zao rx t st).2))(he:st.er=0)(hk:st.t.k=2)(hp:st.step.is 4 [40]=true):xK 312 #[xP rb] w (zyK rb F xs w (zap rx ra st).1 (zap rx ra st).2):=by
 have hM:zap rx ra st=zao rx st.t st.step:=by unfold zap;rw[if_neg (by omega),if_neg (by omega),if_pos hk,if_pos hp]
 rw[hM];obtain⟨h0,h1,h2,h3,h4,h5,h6,h7,h8,h9,h10,h11,h12,h13,h14⟩:=hR.cells;have hlt:=hR.lt;have n1:¬w.heap.size=rb:=by omega
 have he':((st.er:Int) != 0)=false:=by simp;omega
 have k3:((st.t.k:Int)==3)=false:=beq_eq_false_iff_ne.2 (by omega);have k2:((st.t.k:Int)==2)=true:=beq_iff_eq.2 (by omega);have hta:1<=st.step.t.a:=by have:=hI.tok (by omega);rw[St.step_ok he];have hf:=zV st.src st.t.t hI.ok.tt;simp only;omega
 have her:st.step.er=0:=by rw[St.step_er];exact he
 have HER:=za her;have HC:=za hC;clear he hk her hC;have HR:=za hR;have HX:=za hX;have HI:=za hI;clear hR hX hI hM;go_enter func312,ntmps312;go_wp2_with fail;refine (zyg rb F xs st (w.alloc (z8 st.t)) HI.o.ok (HR.o.alloc _)).mono ?_;rintro e w1 ⟨rfl,hL1,hF1⟩;have hB1:=(hF1.block w.heap.size (by simp) n1).trans (zc w (z8 st.t));obtain⟨t0,t1,t2,t3,t4⟩:=zyj hB1;clear hB1;have HL1:=za hL1;have HF1:=za hF1;clear hL1 hF1;go_wp2_with fail;refine (zya rb F xs st.step 4 4 rfl ⟨#[40]⟩ [40] (by decide +kernel) _ HL1.o).mono ?_;rintro e w' ⟨rfl,rfl⟩;go_wp2_with fail;refine (HC.o xs st.step p _ st.t (Fwd.step HI.o).inv HER.o (by rw[St.step_op];omega) hta HL1.o (by rw[St.step_L];exact (HX.o.alloc _).fr HF1.o)).mono ?_;rintro e w3 ⟨xs3,rfl,k1,k2,k3⟩;go_wp2_with fail;go_ret;exact⟨xs3,rfl,k1,k2,((Ev.of_fr HF1.o).trans k3).alloc _⟩
theorem zE7 (rb:Nat)(F:Fx)(xs:Rw)(st:St)(p:Nat)(w:World)(hI:Inv p st)(_ho:18<=st.op+(d+1))(hR:zs w rb F xs st)(hX:zx8 w (rb+1) xs st.L)(he:st.er=0)(hk:st.t.k=2)(hp:st.step.is 4 [40]=false):xK 312 #[xP rb] w (zyK rb F xs w (zap rx ra st).1 (zap rx ra st).2):=by
 have hM:zap rx ra st=st.step.put ⟨zfR,st.t.a,st.t.a,[],st.t.s,0⟩:=by unfold zap;rw[if_neg (by omega),if_neg (by omega),if_pos hk,if_neg (by rw[hp];simp)];rfl
 rw[hM];obtain⟨h0,h1,h2,h3,h4,h5,h6,h7,h8,h9,h10,h11,h12,h13,h14⟩:=hR.cells;have hlt:=hR.lt;have n1:¬w.heap.size=rb:=by omega
 have he':((st.er:Int) != 0)=false:=by simp;omega
 have k3:((st.t.k:Int)==3)=false:=beq_eq_false_iff_ne.2 (by omega);have k2:((st.t.k:Int)==2)=true:=beq_iff_eq.2 (by omega);clear he hk;have HR:=za hR;have HX:=za hX;have HI:=za hI;clear hR hX hI hM;go_enter func312,ntmps312;go_wp2_with fail;refine (zyg rb F xs st (w.alloc (z8 st.t)) HI.o.ok (HR.o.alloc _)).mono ?_;rintro e w1 ⟨rfl,hL1,hF1⟩;have hB1:=(hF1.block w.heap.size (by simp) n1).trans (zc w (z8 st.t));obtain⟨t0,t1,t2,t3,t4⟩:=zyj hB1;clear hB1;have HL1:=za hL1;have HF1:=za hF1;clear hL1 hF1;go_wp2_with fail;refine (zya rb F xs st.step 4 4 rfl ⟨#[40]⟩ [40] (by decide +kernel) _ HL1.o).mono ?_;rintro e w' ⟨rfl,rfl⟩;go_wp2_with fail;refine (zzr rb F xs st.step ⟨zfR,st.t.a,st.t.a,[],st.t.s,0⟩ _ _ _ _ _ _ _ rfl rfl rfl rfl rfl (by rw[St.step_L];exact HI.o.len) HL1.o (by rw[St.step_L];exact (HX.o.alloc _).fr HF1.o) (World.ownsRow_nil _ _ _ _) rfl).mono ?_;intro e w3 hq;obtain⟨xs3,rfl,k1,k2,k3⟩:=hq.post (Ev.of_fr HF1.o) (λk hk=>by cases hk);go_wp2_with fail;go_ret;exact⟨xs3,rfl,k1,k2,k3.alloc _⟩
theorem zDK (rb:Nat)(F:Fx)(xs:Rw)(st:St)(p:Nat)(w:World)(hI:Inv p st)(ho:18<=st.op+(d+1))(hR:zs w rb F xs st)(hX:zx8 w (rb+1) xs st.L)(hX':zyq d 260 rx)(gX:zv d rx)(hp:st.is 4 [40]=true):xK 312 #[xP rb] w (zyK rb F xs w (zap rx ra st).1 (zap rx ra st).2):=by
 have hM:zap rx ra st=zfQ rx st:=by have h1:=(zyU hp).1;have h2:=hI.is_ok (by omega) hp;unfold zap;rw[if_neg (by omega),if_neg (by omega),if_neg (by omega),if_pos hp]
 rw[hM];obtain⟨h0,h1,h2,h3,h4,h5,h6,h7,h8,h9,h10,h11,h12,h13,h14⟩:=hR.cells;have hlt:=hR.lt;have n1:¬w.heap.size=rb:=by omega
 obtain⟨hk,hx⟩:=zyU hp;have he:=hI.is_ok (by omega) hp;have he':((st.er:Int) != 0)=false:=by simp;omega
 have k3:((st.t.k:Int)==3)=false:=beq_eq_false_iff_ne.2 (by omega);have k2:((st.t.k:Int)==2)=false:=beq_eq_false_iff_ne.2 (by omega);have k4:((st.t.k:Int)==4)=true:=beq_iff_eq.2 (by omega);have e1:=Fwd.enter hI he (by omega);have g2:=gX st.enter (p+1) e1.inv (by rw[St.enter_op];omega);have hM2:zfQ rx st=(((rx st.enter).1.must 4 [41]).leave,(rx st.enter).2):=rfl;rw[hM2];have hop2:1<=((rx st.enter).1.must 4 [41]).op:=by rw[St.must_op,g2.op,St.enter_op];omega
 have hop3:((rx st.enter).1.must 4 [41]).op<=17:=by rw[St.must_op];exact g2.inv.op1
 have O1:Hid (18<=st.enter.op+d):=by unfold Hid;rw[St.enter_op];omega
 have E1:=za e1.inv;have G2:=za g2.inv;clear he hk hp hM2 e1 g2 gX;generalize hy:rx st.enter=y at *;have HY:=za hy;clear hy;have HR:=za hR;have HX:=za hX;have HI:=za hI;clear hR hX hI hM;go_enter func312,ntmps312;go_wp2_with fail;refine (zy9 rb F xs st _ HI.o.ok (by have:=HI.o.op1;omega) (HR.o.alloc _)).mono ?_;rintro e w1 ⟨rfl,hL1,hF1⟩;have HL1:=za hL1;have HF1:=za hF1;clear hL1 hF1;go_wp2_with fail;refine (hX' rb F xs st.enter (p+1) _ E1.o O1.o HL1.o (by rw[St.enter_L];exact (HX.o.alloc _).fr HF1.o)).mono ?_;rw[HY.o];rintro e w2 ⟨xs2,rfl,hL2,hX2,hV2⟩;have HL2:=za hL2;have HX2:=za hX2;have HV2:=za hV2;clear hL2 hX2 hV2;go_wp2_with fail;refine (zyc rb F xs2 y.1 4 4 rfl ⟨#[41]⟩ [41] (by decide +kernel) _ G2.o.ok HL2.o).mono ?_;rintro e w3 ⟨rfl,hL3,hF3⟩;obtain⟨q0,q1,q2,q3,q4,q5,q6,q7,q8,q9,q10,q11,q12,q13,q14⟩:=hL3.cells;have qf:=hL3.frozen;have HL3:=za hL3;have HF3:=za hF3;clear hL3 hF3;go_wp2_with fail;go_ret;refine⟨xs2,rfl,HL3.o.leave hop2,?_,?_⟩
 . have h:=(HX2.o.fr HF3.o).setOwn 7 (xI ((((y.1.must 4 [41]).op:Nat):Int)-1))
   show zx8 _ _ _ (y.1.must 4 [41]).L;rw[St.must_L];exact h
 . exact (((((Ev.of_fr HF1.o).trans HV2.o).fr HF3.o).fr ((Fr.refl _ _).set1 _ _))).alloc _
theorem zEh (rb:Nat)(F:Fx)(xs:Rw)(st:St)(p:Nat)(w:World)(hI:Inv p st)(_ho:18<=st.op+(d+1))(hR:zs w rb F xs st)(hX:zx8 w (rb+1) xs st.L)(hp:st.is 5 [116,114,117,101]=true):xK 312 #[xP rb] w (zyK rb F xs w (zap rx ra st).1 (zap rx ra st).2):=by
 have hM:zap rx ra st=zdP zcb 1 st:=by have h1:=(zyU hp).1;have h2:=hI.is_ok (by omega) hp;unfold zap;rw[if_neg (by omega),if_neg (by omega),if_neg (by omega),if_neg (by unfold St.is;simp;omega),if_pos hp]
 rw[hM];obtain⟨h0,h1,h2,h3,h4,h5,h6,h7,h8,h9,h10,h11,h12,h13,h14⟩:=hR.cells;have hlt:=hR.lt;have n1:¬w.heap.size=rb:=by omega
 obtain⟨hk,hx⟩:=zyU hp;have he:=hI.is_ok (by omega) hp;have he':((st.er:Int) != 0)=false:=by simp;omega
 have k3:((st.t.k:Int)==3)=false:=beq_eq_false_iff_ne.2 (by omega);have k2:((st.t.k:Int)==2)=false:=beq_eq_false_iff_ne.2 (by omega);have k4:((st.t.k:Int)==4)=false:=beq_eq_false_iff_ne.2 (by omega);have k5:((st.t.k:Int)==5)=true:=beq_iff_eq.2 (by omega);clear he hk hp;have HR:=za hR;have HX:=za hX;have HI:=za hI;clear hR hX hI hM;go_enter func312,ntmps312;go_wp2_with fail;refine (zAy rb F xs st p zcb _ 1 rfl _ HI.o (HR.o.alloc _) (HX.o.alloc _)).mono ?_;rintro e w3 ⟨xs3,rfl,k1,k2,k3⟩;go_wp2_with fail;go_ret;exact⟨xs3,rfl,k1,k2,k3.alloc _⟩
theorem zDH (rb:Nat)(F:Fx)(xs:Rw)(st:St)(p:Nat)(w:World)(hI:Inv p st)(_ho:18<=st.op+(d+1))(hR:zs w rb F xs st)(hX:zx8 w (rb+1) xs st.L)(hp:st.is 5 [102,97,108,115,101]=true)(c2:st.is 5 [116,114,117,101]=false):xK 312 #[xP rb] w (zyK rb F xs w (zap rx ra st).1 (zap rx ra st).2):=by
 have hM:zap rx ra st=zdP zcb 0 st:=by have h1:=(zyU hp).1;have h2:=hI.is_ok (by omega) hp;unfold zap;rw[if_neg (by omega),if_neg (by omega),if_neg (by omega),if_neg (by unfold St.is;simp;omega),if_neg (by rw[c2];simp),if_pos hp]
 rw[hM];obtain⟨h0,h1,h2,h3,h4,h5,h6,h7,h8,h9,h10,h11,h12,h13,h14⟩:=hR.cells;have hlt:=hR.lt;have n1:¬w.heap.size=rb:=by omega
 obtain⟨hk,hx⟩:=zyU hp;have he:=hI.is_ok (by omega) hp;have he':((st.er:Int) != 0)=false:=by simp;omega
 have k3:((st.t.k:Int)==3)=false:=beq_eq_false_iff_ne.2 (by omega);have k2:((st.t.k:Int)==2)=false:=beq_eq_false_iff_ne.2 (by omega);have k4:((st.t.k:Int)==4)=false:=beq_eq_false_iff_ne.2 (by omega);have k5:((st.t.k:Int)==5)=true:=beq_iff_eq.2 (by omega);clear he hk hp;have HR:=za hR;have HX:=za hX;have HI:=za hI;clear hR hX hI hM;go_enter func312,ntmps312;go_wp2_with fail;refine (zAy rb F xs st p zcb _ 0 rfl _ HI.o (HR.o.alloc _) (HX.o.alloc _)).mono ?_;rintro e w3 ⟨xs3,rfl,k1,k2,k3⟩;go_wp2_with fail;go_ret;exact⟨xs3,rfl,k1,k2,k3.alloc _⟩
theorem zFX (rb:Nat)(F:Fx)(xs:Rw)(st:St)(p:Nat)(w:World)(hI:Inv p st)(ho:18<=st.op+(d+1))(hR:zs w rb F xs st)(hX:zx8 w (rb+1) xs st.L)(hX':zyq d 260 rx)(gX:zv d rx)(hp:st.is 5 [105,102]=true):xK 312 #[xP rb] w (zyK rb F xs w (zap rx ra st).1 (zap rx ra st).2):=by
 have hM:zap rx ra st=zdx rx st:=by have h1:=zyU hp;have h2:=hI.is_ok (by omega) hp;unfold zap;rw[if_neg (by omega),if_neg (by omega),if_neg (by omega),if_neg (by unfold St.is;simp;omega),if_neg (by unfold St.is;simp[h1]),if_neg (by unfold St.is;simp[h1]),if_pos hp]
 rw[hM];obtain⟨h0,h1,h2,h3,h4,h5,h6,h7,h8,h9,h10,h11,h12,h13,h14⟩:=hR.cells;have hlt:=hR.lt;have n1:¬w.heap.size=rb:=by omega
 obtain⟨hk,hx⟩:=zyU hp;have he:=hI.is_ok (by omega) hp;have HC:=za (zDF hX' gX rb F xs st p (w.alloc (z8 st.t)) hI he (by omega) ho (hR.alloc _) (hX.alloc _));have he':((st.er:Int) != 0)=false:=by simp;omega
 have k3:((st.t.k:Int)==3)=false:=beq_eq_false_iff_ne.2 (by omega);have k2:((st.t.k:Int)==2)=false:=beq_eq_false_iff_ne.2 (by omega);have k4:((st.t.k:Int)==4)=false:=beq_eq_false_iff_ne.2 (by omega);have k5:((st.t.k:Int)==5)=true:=beq_iff_eq.2 (by omega);clear he hk hp hX' gX;have HR:=za hR;have HX:=za hX;have HI:=za hI;clear hR hX hI hM;go_enter func312,ntmps312;go_wp2_with fail;refine HC.o.mono ?_;rintro e w3 ⟨xs3,rfl,k1,k2,k3⟩;go_wp2_with fail;go_ret;exact⟨xs3,rfl,k1,k2,k3.alloc _⟩
theorem zDv (rb:Nat)(F:Fx)(xs:Rw)(st:St)(p:Nat)(w:World)(hI:Inv p st)(ho:18<=st.op+(d+1))(hR:zs w rb F xs st)(hX:zx8 w (rb+1) xs st.L)(hS:zyq d 319 (zch ra))(gS:zv d (zch ra))(hp:st.is 5 [109,101,114,103,101]=true):xK 312 #[xP rb] w (zyK rb F xs w (zap rx ra st).1 (zap rx ra st).2):=by
 have hM:zap rx ra st=zeE ra st:=by have h1:=zyU hp;have h2:=hI.is_ok (by omega) hp;unfold zap;rw[if_neg (by omega),if_neg (by omega),if_neg (by omega),if_neg (by unfold St.is;simp;omega),if_neg (by unfold St.is;simp[h1]),if_neg (by unfold St.is;simp[h1]),if_neg (by unfold St.is;simp[h1]),if_pos hp]
 rw[hM];obtain⟨h0,h1,h2,h3,h4,h5,h6,h7,h8,h9,h10,h11,h12,h13,h14⟩:=hR.cells;have hlt:=hR.lt;have n1:¬w.heap.size=rb:=by omega
 obtain⟨hk,hx⟩:=zyU hp;have he:=hI.is_ok (by omega) hp;have HC:=za (zEF hS gS rb F xs st p (w.alloc (z8 st.t)) hI he (by omega) ho (hR.alloc _) (hX.alloc _));have he':((st.er:Int) != 0)=false:=by simp;omega
 have k3:((st.t.k:Int)==3)=false:=beq_eq_false_iff_ne.2 (by omega);have k2:((st.t.k:Int)==2)=false:=beq_eq_false_iff_ne.2 (by omega);have k4:((st.t.k:Int)==4)=false:=beq_eq_false_iff_ne.2 (by omega);have k5:((st.t.k:Int)==5)=true:=beq_iff_eq.2 (by omega);clear he hk hp hS gS;have HR:=za hR;have HX:=za hX;have HI:=za hI;clear hR hX hI hM;go_enter func312,ntmps312;go_wp2_with fail;refine HC.o.mono ?_;rintro e w3 ⟨xs3,rfl,k1,k2,k3⟩;go_wp2_with fail;go_ret;exact⟨xs3,rfl,k1,k2,k3.alloc _⟩
theorem zEm (_h3:st.t.k≠3)(_h2:st.t.k≠2)(c1:st.is 4 [40]=false)(c2:st.is 5 [116,114,117,101]=false)(c3:st.is 5 [102,97,108,115,101]=false)(c4:st.is 5 [105,102]=false)(c5:st.is 5 [109,101,114,103,101]=false) :
 (((st.t.k:Int)==4)=true/\(st.t.s.toList==[40])=false)∨(((st.t.k:Int)==4)=false/\((st.t.k:Int)==5)=true/\(st.t.s.toList==[116,114,117,101])=false/\(st.t.s.toList==[102,97,108,115,101])=false/\(st.t.s.toList==[105,102])=false/\(st.t.s.toList==[109,101,114,103,101])=false)∨(((st.t.k:Int)==4)=false/\((st.t.k:Int)==5)=false):=by
 by_cases k4:st.t.k=4
 . left;refine⟨beq_iff_eq.2 (by omega),?_⟩;simpa [St.is,k4] using c1
 . by_cases k5:st.t.k=5
   . right;left;refine⟨beq_eq_false_iff_ne.2 (by omega),beq_iff_eq.2 (by omega),?_,?_,?_,?_⟩
     . simpa [St.is,k5] using c2
     . simpa [St.is,k5] using c3
     . simpa [St.is,k5] using c4
     . simpa [St.is,k5] using c5
   . right;right;exact⟨beq_eq_false_iff_ne.2 (by omega),beq_eq_false_iff_ne.2 (by omega)⟩
theorem zD8 (rb:Nat)(F:Fx)(xs:Rw)(st:St)(p:Nat)(w:World)(_hI:Inv p st)(_ho:18<=st.op+(d+1))(hR:zs w rb F xs st)(hX:zx8 w (rb+1) xs st.L)(he:st.er=0)(h3:st.t.k≠3)(h2:st.t.k≠2)(c1:st.is 4 [40]=false)(c2:st.is 5 [116,114,117,101]=false)(c3:st.is 5 [102,97,108,115,101]=false)(c4:st.is 5 [105,102]=false)(c5:st.is 5 [109,101,114,103,101]=false):xK 312 #[xP rb] w (zyK rb F xs w (zap rx ra st).1 (zap rx ra st).2):=by
 have hM:zap rx ra st=(st.fail 2 st.t.a,0):=by unfold zap;rw[if_neg (by omega),if_neg h3,if_neg h2,if_neg (by rw[c1];simp),if_neg (by rw[c2];simp),if_neg (by rw[c3];simp),if_neg (by rw[c4];simp),if_neg (by rw[c5];simp)]
 rw[hM];obtain⟨b0,b1,b2,b3,b4,b5,b6,b7,b8,b9,b10,b11,b12,b13,b14⟩:=hR.cells;have hlt:=hR.lt;have hw:=zEm h3 h2 c1 c2 c3 c4 c5;have he':((st.er:Int) != 0)=false:=by simp;omega
 have k3:((st.t.k:Int)==3)=false:=beq_eq_false_iff_ne.2 (by omega);have k2:((st.t.k:Int)==2)=false:=beq_eq_false_iff_ne.2 (by omega);have HR:=za hR;have HX:=za hX;clear hR hX _hI hM c1 c2 c3 c4 c5 he h3 h2;rcases hw with ⟨k4,y1⟩|⟨k4,k5,y1,y2,y3,y4⟩|⟨k4,k5⟩
 all_goals
  go_enter func312,ntmps312;go_wp2_with fail;refine (zzb rb F xs st _ 2 st.t.a rfl _ (HR.o.alloc _)).mono ?_;rintro e w3 ⟨rfl,hL3,hF3⟩;go_wp2_with fail;go_ret;exact⟨xs,rfl,hL3,by rw[St.fail_L];exact (HX.o.alloc _).fr hF3,(Ev.of_fr hF3).alloc _⟩
theorem zFx (hX':zyq d 260 rx)(gX:zv d rx)(hS:zyq d 319 (zch ra))(gA:zv d ra)
 (hC:∀(rb:Nat) (F:Fx) (xs:Rw) (st:St) (p:Nat) (w:World) (t:Tk),Inv p st->st.er=0->18<=st.op+(d+1)->1<=st.t.a->zs w rb F xs st->zx8 w (rb+1) xs st.L->xK 259 #[xP rb,.agg #[xI t.k,xI t.a,xI t.t,.string t.s,xI t.n]] w (zyK rb F xs w (zao rx t st).1 (zao rx t st).2)) :
 zyq (d+1) 312 (zap rx ra):=by
 intro rb F xs st p w hI ho hR hX;by_cases he:st.er=0
 . by_cases h3:st.t.k=3
   . exact zCT rb F xs st p w hI ho hR hX he h3
   . by_cases h2:st.t.k=2
     . cases hp:st.step.is 4 [40] with
       | true=>exact zEz rb F xs st p w hI ho hR hX (hC rb F) he h2 hp
       | false=>exact zE7 rb F xs st p w hI ho hR hX he h2 hp
     . cases c1:st.is 4 [40] with
       | true=>exact zDK rb F xs st p w hI ho hR hX hX' gX c1
       | false =>
         cases c2:st.is 5 [116,114,117,101] with
         | true=>exact zEh rb F xs st p w hI ho hR hX c2
         | false =>
           cases c3:st.is 5 [102,97,108,115,101] with
           | true=>exact zDH rb F xs st p w hI ho hR hX c3 c2
           | false =>
             cases c4:st.is 5 [105,102] with
             | true=>exact zFX rb F xs st p w hI ho hR hX hX' gX c4
             | false =>
               cases c5:st.is 5 [109,101,114,103,101] with
               | true=>exact zDv rb F xs st p w hI ho hR hX hS (zf0 gA) c5
               | false=>exact zD8 rb F xs st p w hI ho hR hX he h3 h2 c1 c2 c3 c4 c5
 . exact zE3 rb F xs st p w hI ho hR hX he
end
section
open Go.RowKit
theorem zA9 {d:Nat}{rx:Fn}(hX':zyq d 260 rx)(gX:zv d rx)(rb:Nat)(F:Fx)(xs:Rw)(st:St)(p:Nat)(w:World)(t:Tk)(hI:Inv p st)(ho:18<=st.op+(d+1))(ha:1<=st.t.a)(hR:zs w rb F xs st)(hX:zx8 w (rb+1) xs st.L) :
 xK 259 #[xP rb,.agg #[xI t.k,xI t.a,xI t.t,.string t.s,xI t.n]] w (zyK rb F xs w (zao rx t st).1 (zao rx t st).2):=by
 cases hc:st.is 4 [40] with
 | true=>exact zCn hX' gX rb F xs st p w t hI ho ha hc hR hX
 | false=>exact zCU rb F xs st w t hc hR hX
theorem zCv:∀d,zyq d 260 (lev d).ex/\zyq d 307 (lev d).un/\zyq d 312 (lev d).at':=by
 intro d;induction d with
 | zero =>
   have h:∀(f:FuncId) (M:Fn),zyq 0 f M:=λf M rb F xs st p w hI ho _ _=>by have:=hI.op1;omega
   exact⟨h _ _,h _ _,h _ _⟩
 | succ d ih => obtain⟨g1,g2,g3⟩:=zgP d;obtain⟨h1,h2,h3⟩:=ih;have ga:=zh7 g1 g3;have ha:=zFx h1 g1 (zFw h3) g3 (λrb F xs st p w t hI _ ho ht hR hX=>zA9 h1 g1 rb F xs st p w t hI ho ht hR hX);have gu:=zhu g2 (zfY ga);have hu:=zDU h2 g2 (zCM ha ga);have r3:=zAR 3 (zDY hu) gu;have s3:=zcF (lv:=3) gu;have r2:=zAR 2 (zDP r3) s3;have s2:=zcF (lv:=2) s3;have tt:=zE1 r2 s2;have st:=zh6 s2;have r1:=zAR 1 (zEA tt) st;have s1:=zcF (lv:=1) st;have r0:=zAR 0 (zEc r1) s1;have s0:=zcF (lv:=0) s1;exact⟨zET h1 g1 (zDJ r0) s0,hu,ha⟩
end
section
variable {p:Nat} {st:St}
structure Vr where
 nm:ByteArray
 a:Nat
 bl:Bool
 inn:Bool
 out:Bool
 on:Nat
 ck:ByteArray
 ca:Nat
 nt:Bool
 tm:Bool
def zbq:List UInt8:=[98,111,111,108]
def zlc:List UInt8:=[105,110,116]
def kOn:List UInt8:=[111,110]
def zet:List UInt8:=[110,111,116]
def z9 (st:St):St:=if st.is 5 zbq=true then st.step else st.must 5 zlc
def za3 (st:St):St:=if st.is 5 zet=true then st.step else st
def zx (i o:Bool)(st:St)(vars:List Vr):St×List Vr :=
 if 16<=vars.length then (st.fail 2 st.t.a,vars)
 else
  let s2:=st.name.must 4 [58]
  let s3:=z9 s2
  if (s3.is 5 kOn&&!i&&!o)=true then
   let s5:=za3 s3.step
   (s5.name,vars++[⟨st.t.s,st.t.a,s2.is 5 zbq,i,o,s3.t.a,s5.t.s,s5.t.a,s3.step.is 5 zet,true⟩])
  else (s3,vars++[⟨st.t.s,st.t.a,s2.is 5 zbq,i,o,0,sE,0,false,false⟩])
theorem Fwd.type (h:Inv p st):Fwd p st (z9 st):=by
 unfold z9;split
 . exact Fwd.step h
 . exact Fwd.must h _ _
theorem Fwd.nott (h:Inv p st):Fwd p st (za3 st):=by
 unfold za3;split
 . exact Fwd.step h
 . exact Fwd.refl h
theorem znk (st:St):(z9 st).op=st.op:=by unfold z9;split;exact st.step_op;exact st.must_op _ _
theorem zpp (st:St):(za3 st).op=st.op:=by unfold za3;split;exact st.step_op;rfl
theorem zqh (st:St):(z9 st).L=st.L:=by unfold z9;split;exact st.step_L;exact st.must_L _ _
theorem zqZ (st:St):(za3 st).L=st.L:=by unfold za3;split;exact st.step_L;rfl
theorem zbI {i o:Bool}{vars:List Vr}(hI:Inv p st):Fwd p st (zx i o st vars).1/\(zx i o st vars).1.op=st.op/\(zx i o st vars).1.L=st.L:=by
 unfold zx;split
 . exact⟨Fwd.fail hI (by omega) (by omega) hI.ok.ta_le,St.fail_op _ _ _,St.fail_L _ _ _⟩
 . have h1:=Fwd.name hI;have h2:=Fwd.must h1.inv 4 [58];have h3:=Fwd.type h2.inv;have o3:(z9 (st.name.must 4 [58])).op=st.op:=by rw[znk,St.must_op,St.name_op]
   have l3:(z9 (st.name.must 4 [58])).L=st.L:=(by rw[zqh,St.must_L,St.name_L]);simp only;split
   . have h4:=Fwd.step h3.inv;have h5:=Fwd.nott h4.inv;have h6:=Fwd.name h5.inv;exact⟨((((h1.trans h2).trans h3).trans h4).trans h5).trans h6,by rw[St.name_op,zpp,St.step_op,o3],by rw[St.name_L,zqZ,St.step_L,l3]⟩
   . exact⟨(h1.trans h2).trans h3,o3,l3⟩
end
section
open Go.RowKit
variable {l:List Vr} {b rb:Nat} {vs:Value} {v:Vr} {w w':World}
def zyz (v:Vr):List Value:=[.string v.nm,xI v.a,.bool v.bl,.bool v.inn,.bool v.out,xI v.on,.string v.ck,xI v.ca,.bool v.nt,.bool v.tm]
def zyv:List Vr->List Value
 | []=>[]
 | v::l=>zyz v++zyv l
theorem zB6:∀(l:List Vr) (v:Vr),zyv (l++[v])=zyv l++zyz v:=by
 intro l v;induction l with
 | nil=>simp[zyv]
 | cons u l ih=>simp only[List.cons_append,zyv,ih,List.append_assoc]
def zyh (w:World)(rb:Nat)(vs:Value)(l:List Vr):Prop:=w.ownsRow (rb+1) 181 10 vs l.length (zyv l)
def zx9 (v:Vr):Obj:=.cells #[.string v.nm,xI v.a,.bool v.bl,.bool v.inn,.bool v.out,xI v.on,.string v.ck,xI v.ca,.bool v.nt,.bool v.tm] 181 (0,0)
theorem zyd (h:w.heap[b]?=some (zx9 v)):w.cell? (xD b 0)=some (.string v.nm)/\w.cell? (xD b 1)=some (xI v.a)/\w.cell? (xD b 2)=some (.bool v.bl)/\w.cell? (xD b 3)=some (.bool v.inn)/\w.cell? (xD b 4)=some (.bool v.out)/\w.cell? (xD b 5)=some (xI v.on)/\w.cell? (xD b 6)=some (.string v.ck)/\w.cell? (xD b 7)=some (xI v.ca)/\w.cell? (xD b 8)=some (.bool v.nt)/\w.cell? (xD b 9)=some (.bool v.tm):=by simp[World.cell?,h,zx9]
theorem zyk (h:w.heap[b]?=some (zx9 v))(i:Nat):w.frozen? (xD b i)=false:=by simp[World.frozen?,h,zx9]
theorem zzg:∀u∈zyz v,u.oneCell'=true:=by intro u hu;simp only[zyz,List.mem_cons,List.not_mem_nil,or_false] at hu;rcases hu with rfl|rfl|rfl|rfl|rfl|rfl|rfl|rfl|rfl|rfl <;> rfl
theorem Tryz.infoVr:(prog.info? 181).map (λi=>(i.zero,i.size,i.bytes))=some (some (.agg #[.string ⟨#[]⟩,xI 0,.bool false,.bool false,.bool false,xI 0,.string ⟨#[]⟩,xI 0,.bool false,.bool false]),10,72):=by kernel_rfl
def FrV (rb:Nat)(vs:Value)(w w':World):Prop:=Fr (λk=>k=rb∨vs.ownBlock=some k) w w'
theorem FrV.of_fr (h:Fr (·=rb) w w'):FrV rb vs w w':=h.mono (λ_ _ h=>Or.inl h)
theorem zyh.fr (h:zyh w rb vs l)(hF:Fr (·=rb) w w'):zyh w' rb vs l :=
 zi h (λk h1 h2 _=>hF.block k h2 (by omega))
theorem zyh.alloc (h:zyh w rb vs l)(o:Obj):zyh (w.alloc o) rb vs l:=zD h o
theorem zyh.setNew (h:zyh w rb vs l)(hb:vs.ownBlock≠some b)(i:Nat)(v:Value):zyh (w.setCell (xD b i) v) rb vs l:=by refine zi h (λk _ _ hk=>Below.heap_setCell _ _ _ _ ?_);intro e;have e1:k=b:=e;exact hb (e1▸hk)
def zzp (rb:Nat)(F:Fx)(xs:Rw)(w:World)(st':St)(l':List Vr)(e:Ending)(w':World):Prop :=
 ∃vs',e=.returned (.tuple #[])/\zs w' rb { F with vs:=vs' } xs st'/\zyh w' rb vs' l'/\FrV rb F.vs w w'/\∀k,vs'.ownBlock=some k->F.vs.ownBlock=some k∨w.heap.size<=k
theorem zyW {F:Fx}{xs:Rw}{w9 w1:World}{st':St}{v':Value}{B:Obj}
 (hL:zs w1 rb F xs st') (hF:FrV rb F.vs w w9)
 (HOWN:w1.ownsRow (rb+1) 181 10 v' (l.length+1) (zyv l++zyz v)) (HG:(w9.alloc B).drew.grownBy w1 F.vs.ownBlock) (HNEW:∀k,v'.ownBlock=some k->F.vs.ownBlock=some k∨(w9.alloc B).drew.heap.size<=k) :
 zs (w1.setCell (xD rb 12) v') rb { F with vs:=v' } xs st'/\zyh (w1.setCell (xD rb 12) v') rb v' (l++[v])/\FrV rb F.vs w (w1.setCell (xD rb 12) v')/\∀k,v'.ownBlock=some k->F.vs.ownBlock=some k∨w.heap.size<=k:=by
 refine⟨hL.setVs v',?_,?_,?_⟩
 . have h:=ownsRow_setCell_below HOWN (a:=(xD rb 12)) (Nat.lt_succ_self rb) v';unfold zyh;rw[zB6];simpa using h
 . have h1:FrV rb F.vs w (w9.alloc B).drew:=(Fr.alloc hF _).drew;have h2:Fr (λk=>k=rb∨F.vs.ownBlock=some k) (w9.alloc B).drew w1:=⟨HG.os,HG.tape,HG.output,HG.size,λk hk hn=>HG.block k hk (λe=>hn (Or.inr e.symm))⟩;exact (Fr.trans h1 h2).setCell (Or.inl (Or.inl rfl)) v'
 . intro k hk;have hz:=hF.size;rcases HNEW k hk with h|h
   . exact Or.inl h
   . have h1:(w9.alloc B).drew.heap.size=w9.heap.size+1:=(by show (w9.heap.push B).size=_;simp);exact Or.inr (by omega)
theorem zyb {base e size n:Nat}{v:Value}{xs:List Value}(h:w.ownsRow base e size v n xs)(B:Obj):(w.alloc B).drew.ownsRow base e size v n xs:=zD h B
theorem zyy (w:World)(B:Obj):(w.alloc B).drew.heap[w.heap.size]?=some B:=zc w B
theorem zyM (h:rb<w.heap.size)(B:Obj):rb+1<=(w.alloc B).drew.heap.size:=by
 have h1:(w.alloc B).drew.heap.size=w.heap.size+1:=by show (w.heap.push B).size=_;simp
 omega
theorem zB5 (rb:Nat)(F:Fx)(xs:Rw)(st:St)(vars:List Vr)(p:Nat)(w:World)(_hI:Inv p st)(hR:zs w rb F xs st)(hV:zyh w rb F.vs vars)(i o:Bool)(hl:16<=vars.length):xK 258 #[xP rb,.bool i,.bool o] w (zzp rb F xs w (zx i o st vars).1 (zx i o st vars).2):=by
 have hM:zx i o st vars=(st.fail 2 st.t.a,vars):=by unfold zx;rw[if_pos hl]
 rw[hM];obtain⟨h0,h1,h2,h3,h4,h5,h6,h7,h8,h9,h10,h11,h12,h13,h14⟩:=hR.cells;rcases hV.2 with ⟨_,h0'⟩|⟨g,cap,cur,hvs,hg,hh,hcap,hmx,_⟩
 . omega
 . rw[hvs] at h12;have hl':(16:Int)<=(vars.length:Int):=by omega
   have HR:=za hR;have HV:=za hV;clear hR hV _hI hM hvs hh hcap hmx hl;go_enter func258,ntmps258;go_wp2_with fail;refine (zzb rb F xs st _ 2 st.t.a rfl _ HR.o).mono ?_;rintro e w1 ⟨rfl,hL1,hF1⟩;have HL1:=za hL1;have HF1:=za hF1;clear hL1 hF1;go_wp2_with fail;exact bodyPost_ret (results_none rfl _ _ _) rfl ⟨F.vs,rfl,HL1.o,HV.o.fr HF1.o,FrV.of_fr HF1.o,λ_ h=>Or.inl h⟩
end
end Go.Proofs.YtmfkofhgdjechaaGreatDoor
