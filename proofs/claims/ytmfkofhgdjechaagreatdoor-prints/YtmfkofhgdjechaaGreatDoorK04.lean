/- Part 5 of the proof: RefN RefO RefP. -/
import Derived.Test.YtmfkofhgdjechaaGreatDoorK03
set_option maxRecDepth 100000
set_option maxHeartbeats 8000000
namespace Go.Proofs.YtmfkofhgdjechaaGreatDoor
open Go.Proofs.Tryz
open Go.RowKit
section
variable {M:Fn} {d:Nat}
theorem zEH {rb:Nat}{F:Fx}{xs0 xs:Rw}{s:St}{w0 w:World}(b:Nat)(hb:b=w.heap.size)(e:Ex)(arr:Array Value)(n:Nat)(harr:arr=(zyp e.ins).toArray)(hn:n=e.ins.length)(hn2:n<=100000)(vop:ByteArray)(va vnm:Int)(vs:ByteArray)(vn:Int)
 (h1:vop=e.op) (h2:va=e.a) (h3:vnm=e.nm) (h4:vs=e.s) (h5:vn=e.n) (hlen:s.L.length<=100000)
 (hL:zs w rb F xs s) (hX:zx8 w (rb+1) xs s.L) (hE:Ev rb xs0 xs w0 w) :
 xK 283 #[xP rb,.agg #[.string vop,xI va,xI vnm,xS b n n,.string vs,xI vn]] (w.alloc (.cells arr 3)) (zyK rb F xs0 w0 (s.put e).1 (s.put e).2):=by
 subst hb;exact zAm e arr n harr hn hn2 vop va vnm vs vn h1 h2 h3 h4 h5 hlen hL hX hE
theorem zDJ (h:zzx d 297 0 M):zyq d 284 M:=by intro rb F xs st p w hI ho hR hX;have H1:=za (h rb F xs st p w hI ho hR hX);clear hR hX hI h;go_enter func284,ntmps284;go_wp2_with fail;refine H1.o.mono ?_;rintro e w1 ⟨xs1,rfl,k1,k2,k3⟩;go_wp2_with fail;go_ret;exact⟨xs1,rfl,k1,k2,k3⟩
theorem zEc (h:zzx d 297 1 M):zzx d 302 0 M:=by intro rb F xs st p w hI ho hR hX;have H1:=za (h rb F xs st p w hI ho hR hX);clear hR hX hI h;go_enter func302,ntmps302;go_wp2_with fail;refine H1.o.mono ?_;rintro e w1 ⟨xs1,rfl,k1,k2,k3⟩;go_wp2_with fail;go_ret;exact⟨xs1,rfl,k1,k2,k3⟩
theorem zEA (h:zyq d 306 M):zzx d 302 1 M:=by intro rb F xs st p w hI ho hR hX;have H1:=za (h rb F xs st p w hI ho hR hX);clear hR hX hI h;go_enter func302,ntmps302;go_wp2_with fail;refine H1.o.mono ?_;rintro e w1 ⟨xs1,rfl,k1,k2,k3⟩;go_wp2_with fail;go_ret;exact⟨xs1,rfl,k1,k2,k3⟩
theorem zDP (h:zzx d 297 3 M):zzx d 302 2 M:=by intro rb F xs st p w hI ho hR hX;have H1:=za (h rb F xs st p w hI ho hR hX);clear hR hX hI h;go_enter func302,ntmps302;go_wp2_with fail;refine H1.o.mono ?_;rintro e w1 ⟨xs1,rfl,k1,k2,k3⟩;go_wp2_with fail;go_ret;exact⟨xs1,rfl,k1,k2,k3⟩
theorem zDY (h:zyq d 307 M):zzx d 302 3 M:=by intro rb F xs st p w hI ho hR hX;have H1:=za (h rb F xs st p w hI ho hR hX);clear hR hX hI h;go_enter func302,ntmps302;go_wp2_with fail;refine H1.o.mono ?_;rintro e w1 ⟨xs1,rfl,k1,k2,k3⟩;go_wp2_with fail;go_ret;exact⟨xs1,rfl,k1,k2,k3⟩
theorem zCM {atm:Fn}(hA:zyq d 312 atm)(gA:zv d atm):zyq d 309 (zfu atm):=by
 intro rb F xs st p w hI ho hR hX;have g1:=gA st p hI ho;have H1:=za (hA rb F xs st p w hI ho hR hX);have hM:zfu atm st=zaY 1300 (atm st):=rfl;rw[hM];have G1:=za g1.inv;have N1:=za g1.num;clear hR hX hM g1 gA hA;generalize atm st=x0 at *;obtain⟨R,hRes⟩:∃R,zaY 1300 x0=R:=⟨_,rfl⟩;rw[hRes];have HRes:=za hRes;clear hRes;go_enter func309,ntmps309;go_wp2_with fail;refine H1.o.mono ?_;rintro e w1 ⟨xs1,rfl,hL1,hX1,hV1⟩;have HL1:=za hL1;have HX1:=za hX1;have HV1:=za hV1;clear hL1 hX1 hV1;go_wp2_with fail;go_loopg [3] 1300 (λk l wr=>∃(x:St×Nat) (xs':Rw),l=xI x.2/\Hid (zaY k x=R)/\rem x.1<k/\Hid (Inv p x.1)/\Hid (x.1.er=0->x.2<x.1.L.length)/\Hid (zs wr rb F xs' x.1)/\Hid (zx8 wr (rb+1) xs' x.1.L)/\Hid (Ev rb xs xs' w wr));case atStart => refine⟨x0,xs1,rfl,HRes.o,?_,G1.o,N1.o,HL1.o,HX1.o,HV1.o⟩;unfold rem;split <;> omega
 case round =>
  obtain⟨x,xs2,rfl,HF,hrem,HI2,HN2,HL2,HX2,HV2⟩:=hrel;obtain⟨a0,a1,a2,a3,a4,a5,a6,a7,a8,a9,a10,a11,a12,a13,a14⟩:=HL2.o.cells;have hlt2:=HL2.o.lt;have n2:¬wr.heap.size=rb:=by omega
  obtain⟨f,rfl⟩:∃f,gk=f+1:=⟨gk-1,by omega⟩;by_cases he:x.1.er=0
  . have he':((x.1.er:Int)==0)=true:=beq_iff_eq.2 (by omega);cases hb1:x.1.is 5 [119,104,101,110] with
    | true =>
      have hlv:zdi x.1=true:=(by unfold zdi;rw[hb1];rfl);have e3:=Fwd.use HI2.o he (zok hlv);have e4:=Fwd.name e3.inv;have HF2:Hid (zaY f (x.1.step.name.put ⟨x.1.t.s,x.1.t.a,x.1.step.t.a,[x.2],x.1.step.t.s,0⟩)=R):=by
       have h:=HF.o;unfold Hid;rw[<- h]
       show _=(if x.1.er=0/\zdi x.1=true then _ else x);rw[if_pos ⟨he,hlv⟩]
      have hlen4:x.1.step.name.L.length<=100000:=e4.inv.len;have hput:Hid (Inv p (x.1.step.name.put ⟨x.1.t.s,x.1.t.a,x.1.step.t.a,[x.2],x.1.step.t.s,0⟩).1):=(Fwd.put e4.inv _).inv;have hrem':Hid (rem (x.1.step.name.put ⟨x.1.t.s,x.1.t.a,x.1.step.t.a,[x.2],x.1.step.t.s,0⟩).1<f):=by
       unfold Hid rem
       show (if x.1.step.name.er=0 then 1201-x.1.step.name.t.a else 0)<f;have h1:rem x.1=1201-x.1.t.a:=(by unfold rem;rw[if_pos he]);have h2:=e4.ta;have h3:x.1.t.a+1<=x.1.step.t.a:=(by have:=HI2.o.tok (zok hlv);rw[St.step_ok he];have hf:=zV x.1.src x.1.t.t HI2.o.ok.tt;simp only;omega);have h4:=e4.inv.ok.ta_le;have h5:=HI2.o.ok.ta_le;split <;> omega
      have E3:=za e3.inv;clear he hlv e3 e4 HF;go_wp2_with fail;refine (zya rb F xs2 x.1 5 5 rfl ⟨#[119,104,101,110]⟩ [119,104,101,110] (by decide +kernel) _ HL2.o).mono ?_;rintro e w' ⟨rfl,rfl⟩;go_wp2_with fail;refine (zyg rb F xs2 x.1 (wr.alloc (z8 x.1.t)) HI2.o.ok (HL2.o.alloc _)).mono ?_;rintro e w4 ⟨rfl,hL4,hF4⟩;have hB4:=(hF4.block wr.heap.size (by simp) n2).trans (zc wr (z8 x.1.t));have HB4:=za hB4;clear hB4;have HL4:=za hL4;have HF4:=za hF4;clear hL4 hF4;go_wp2_with fail;refine (zyr rb F xs2 x.1.step _ E3.o.ok HL4.o).mono ?_;rintro e w5 ⟨rfl,hL5,hF5⟩;have hz5:=HF4.o.size;have hz6:=hF5.size;have hB5:=(hF5.block wr.heap.size (by simp at hz5;omega) n2).trans HB4.o;obtain⟨t0,t1,t2,t3,t4⟩:=zyj hB5;have hlt5:wr.heap.size<w5.heap.size:=(by simp at hz5;omega);clear hB5 hz5 hz6;have HL5:=za hL5;have HF5:=za hF5;clear hL5 hF5;go_wp2_with fail;have hX5:zx8 w5 (rb+1) xs2 x.1.step.name.L:=(by rw[St.name_L,St.step_L];exact ((HX2.o.alloc _).fr HF4.o).fr HF5.o);refine (zEH (w5.heap.size+1) (by simp) ⟨x.1.t.s,x.1.t.a,x.1.step.t.a,[x.2],x.1.step.t.s,0⟩ _ _ rfl rfl (by simp) _ _ _ _ _ rfl rfl rfl rfl rfl hlen4 (HL5.o.alloc _) (hX5.alloc _) (((HV2.o.trans ((Ev.of_fr HF4.o).alloc _)).fr HF5.o).alloc_behind _)).mono ?_;rintro e w6 ⟨xs6,rfl,k1,k2,k3⟩;have K1:=za k1;have K2:=za k2;have K3:=za k3;clear k1 k2 k3 hX5;go_wp2_with fail;go_roundg f;case measure=>omega
      case rel=>exact⟨_,xs6,rfl,HF2.o,hrem'.out,hput,za (λ_=>zgp _ _),K1,K2,K3⟩
    | false =>
      cases hb2:x.1.is 5 [119,104,101,110,111,116] with
      | true =>
        have hlv:zdi x.1=true:=(by unfold zdi;rw[hb1,hb2];rfl);have e3:=Fwd.use HI2.o he (zok hlv);have e4:=Fwd.name e3.inv;have HF2:Hid (zaY f (x.1.step.name.put ⟨x.1.t.s,x.1.t.a,x.1.step.t.a,[x.2],x.1.step.t.s,0⟩)=R):=by
         have h:=HF.o;unfold Hid;rw[<- h]
         show _=(if x.1.er=0/\zdi x.1=true then _ else x);rw[if_pos ⟨he,hlv⟩]
        have hlen4:x.1.step.name.L.length<=100000:=e4.inv.len;have hput:Hid (Inv p (x.1.step.name.put ⟨x.1.t.s,x.1.t.a,x.1.step.t.a,[x.2],x.1.step.t.s,0⟩).1):=(Fwd.put e4.inv _).inv;have hrem':Hid (rem (x.1.step.name.put ⟨x.1.t.s,x.1.t.a,x.1.step.t.a,[x.2],x.1.step.t.s,0⟩).1<f):=by
         unfold Hid rem
         show (if x.1.step.name.er=0 then 1201-x.1.step.name.t.a else 0)<f;have h1:rem x.1=1201-x.1.t.a:=(by unfold rem;rw[if_pos he]);have h2:=e4.ta;have h3:x.1.t.a+1<=x.1.step.t.a:=(by have:=HI2.o.tok (zok hlv);rw[St.step_ok he];have hf:=zV x.1.src x.1.t.t HI2.o.ok.tt;simp only;omega);have h4:=e4.inv.ok.ta_le;have h5:=HI2.o.ok.ta_le;split <;> omega
        have E3:=za e3.inv;clear he hlv e3 e4 HF;go_wp2_with fail;refine (zya rb F xs2 x.1 5 5 rfl ⟨#[119,104,101,110]⟩ [119,104,101,110] (by decide +kernel) _ HL2.o).mono ?_;rintro e w' ⟨rfl,rfl⟩;go_wp2_with fail;refine (zya rb F xs2 x.1 5 5 rfl ⟨#[119,104,101,110,111,116]⟩ [119,104,101,110,111,116] (by decide +kernel) _ HL2.o).mono ?_;rintro e w' ⟨rfl,rfl⟩;go_wp2_with fail;refine (zyg rb F xs2 x.1 (wr.alloc (z8 x.1.t)) HI2.o.ok (HL2.o.alloc _)).mono ?_;rintro e w4 ⟨rfl,hL4,hF4⟩;have hB4:=(hF4.block wr.heap.size (by simp) n2).trans (zc wr (z8 x.1.t));have HB4:=za hB4;clear hB4;have HL4:=za hL4;have HF4:=za hF4;clear hL4 hF4;go_wp2_with fail;refine (zyr rb F xs2 x.1.step _ E3.o.ok HL4.o).mono ?_;rintro e w5 ⟨rfl,hL5,hF5⟩;have hz5:=HF4.o.size;have hz6:=hF5.size;have hB5:=(hF5.block wr.heap.size (by simp at hz5;omega) n2).trans HB4.o;obtain⟨t0,t1,t2,t3,t4⟩:=zyj hB5;have hlt5:wr.heap.size<w5.heap.size:=(by simp at hz5;omega);clear hB5 hz5 hz6;have HL5:=za hL5;have HF5:=za hF5;clear hL5 hF5;go_wp2_with fail;have hX5:zx8 w5 (rb+1) xs2 x.1.step.name.L:=(by rw[St.name_L,St.step_L];exact ((HX2.o.alloc _).fr HF4.o).fr HF5.o);refine (zEH (w5.heap.size+1) (by simp) ⟨x.1.t.s,x.1.t.a,x.1.step.t.a,[x.2],x.1.step.t.s,0⟩ _ _ rfl rfl (by simp) _ _ _ _ _ rfl rfl rfl rfl rfl hlen4 (HL5.o.alloc _) (hX5.alloc _) (((HV2.o.trans ((Ev.of_fr HF4.o).alloc _)).fr HF5.o).alloc_behind _)).mono ?_;rintro e w6 ⟨xs6,rfl,k1,k2,k3⟩;have K1:=za k1;have K2:=za k2;have K3:=za k3;clear k1 k2 k3 hX5;go_wp2_with fail;go_roundg f;case measure=>omega
        case rel=>exact⟨_,xs6,rfl,HF2.o,hrem'.out,hput,za (λ_=>zgp _ _),K1,K2,K3⟩
      | false =>
        have HF2:Hid (R=x):=by
         have h:=HF.o;unfold Hid;rw[<- h]
         show (if x.1.er=0/\zdi x.1=true then _ else x)=x;rw[if_neg (by unfold zdi;rw[hb1,hb2];simp)]
        clear he HF;go_wp2_with fail;refine (zya rb F xs2 x.1 5 5 rfl ⟨#[119,104,101,110]⟩ [119,104,101,110] (by decide +kernel) _ HL2.o).mono ?_;rintro e w' ⟨rfl,rfl⟩;go_wp2_with fail;refine (zya rb F xs2 x.1 5 5 rfl ⟨#[119,104,101,110,111,116]⟩ [119,104,101,110,111,116] (by decide +kernel) _ HL2.o).mono ?_;rintro e w' ⟨rfl,rfl⟩;go_wp2_with fail;go_ret;rw[HF2.o];exact⟨xs2,rfl,HL2.o,HX2.o,HV2.o⟩
  . have he':((x.1.er:Int)==0)=false:=beq_eq_false_iff_ne.2 (by omega);have HF2:Hid (R=x):=by
     have h:=HF.o;unfold Hid;rw[<- h]
     show (if x.1.er=0/\zdi x.1=true then _ else x)=x;rw[if_neg (by simp[he])]
    clear he HF;go_wp2_with fail;go_ret;rw[HF2.o];exact⟨xs2,rfl,HL2.o,HX2.o,HV2.o⟩
end
section
variable {t:Tk}
theorem zDt (h:zcn t=true):t.k=4/\(t.s.toList=[61]∨t.s.toList=[60,62]∨t.s.toList=[60]∨t.s.toList=[60,61]):=by simp[zcn] at h;refine⟨h.1,?_⟩;rcases h.2 with ((h|h)|h)|h <;> simp[h]
theorem zD2 (h:zcn t=false):t.k≠4∨(t.k=4/\(t.s.toList != [61])=true/\(t.s.toList != [60,62])=true/\(t.s.toList != [60])=true/\(t.s.toList != [60,61])=true):=by
 by_cases hk:t.k=4
 . right;simp[zcn,hk] at h;simp[hk,h]
 . left;exact hk
theorem zE1 {d:Nat}{sum:Fn}(hP:zzx d 297 2 sum)(gP:zv d sum):zyq d 306 (zdJ sum):=by
 intro rb F xs st p w hI ho hR hX;have g1:=gP st p hI ho;have H1:=za (hP rb F xs st p w hI ho hR hX);by_cases hc:(sum st).1.er=0/\zcn (sum st).1.t=true
 . obtain⟨he,ht⟩:=hc;have e2:=Fwd.use g1.inv he (znN ht);have g3:=gP (sum st).1.step (p+1) e2.inv (by rw[St.step_op,g1.op];exact ho);have hM:zdJ sum st=(sum (sum st).1.step).1.put ⟨(sum st).1.t.s,(sum st).1.t.a,0,[(sum st).2,(sum (sum st).1.step).2],sE,0⟩:=by unfold zdJ;simp only;rw[if_pos ⟨he,ht⟩]
   rw[hM];have hlen4:(sum (sum st).1.step).1.L.length<=100000:=g3.inv.len;have O2:Hid (18<=(sum st).1.step.op+d):=(by unfold Hid;rw[St.step_op,g1.op];exact ho);have he':(((sum st).1.er:Int) != 0)=false:=(by simp;omega);obtain⟨hk,hss⟩:=zDt ht;have hk':(((sum st).1.t.k:Int) != 4)=false:=(by simp;omega);have G1:=za g1.inv;have E2:=za e2.inv;clear hR hX hM g1 e2 g3 he ht hk;generalize sum st=x at *;generalize hy:sum x.1.step=y at *;have HY:=za hy;clear hy;rcases hss with hx|hx|hx|hx
   all_goals
    go_enter func306,ntmps306;go_wp2_with fail;refine H1.o.mono ?_;rintro e w1 ⟨xs1,rfl,hL1,hX1,hV1⟩;obtain⟨a0,a1,a2,a3,a4,a5,a6,a7,a8,a9,a10,a11,a12,a13,a14⟩:=hL1.cells;have hlt1:=hL1.lt;have n1:¬w1.heap.size=rb:=(by omega);have HL1:=za hL1;have HX1:=za hX1;have HV1:=za hV1;clear hL1 hX1 hV1;go_wp2_with fail;refine (zyg rb F xs1 x.1 (w1.alloc (z8 x.1.t)) G1.o.ok (HL1.o.alloc _)).mono ?_;rintro e w4 ⟨rfl,hL4,hF4⟩;have hB4:=(hF4.block w1.heap.size (by simp) n1).trans (zc w1 (z8 x.1.t));have HB4:=za hB4;clear hB4;have HL4:=za hL4;have HF4:=za hF4;clear hL4 hF4;go_wp2_with fail;have hX4:zx8 w4 (rb+1) xs1 x.1.step.L:=(by rw[St.step_L];exact (HX1.o.alloc _).fr HF4.o);have HX4:=za hX4;clear hX4;refine (hP rb F xs1 x.1.step (p+1) _ E2.o O2.o HL4.o HX4.o).mono ?_;rw[HY.o];rintro e w5 ⟨xs5,rfl,hL5,hX5,hV5⟩;have hB5:=hV5.box HB4.o n1 HX4.o;obtain⟨t0,t1,t2,t3,t4⟩:=zyj hB5;clear hB5;have HL5:=za hL5;have HX5:=za hX5;have HV5:=za hV5;clear hL5 hX5 hV5;go_wp2_with fail;refine (zAm ⟨x.1.t.s,x.1.t.a,0,[x.2,y.2],sE,0⟩ _ _ rfl rfl (by simp) _ _ _ _ _ rfl rfl rfl rfl rfl hlen4 HL5.o HX5.o ((HV1.o.trans ((Ev.of_fr HF4.o).alloc _)).trans HV5.o)).mono ?_;rintro e w6 ⟨xs6,rfl,k1,k2,k3⟩;go_wp2_with fail;go_ret;exact⟨xs6,rfl,k1,k2,k3⟩
 . have hM:zdJ sum st=sum st:=by unfold zdJ;simp only;rw[if_neg hc]
   rw[hM];have hc':(((sum st).1.er:Int) != 0)=true∨((((sum st).1.er:Int) != 0)=false/\zcn (sum st).1.t=false):=by
    by_cases he:(sum st).1.er=0
    . right;refine⟨by simp;omega,?_⟩;cases ht:zcn (sum st).1.t with
      | false=>rfl
      | true=>exact absurd ⟨he,ht⟩ hc
    . left;simp;omega
   clear hR hX hM hc g1 gP hP;generalize sum st=x at *;have hd:(((x.1.er:Int) != 0)=true)∨(((x.1.er:Int) != 0)=false/\((x.1.t.k:Int) != 4)=true)∨(((x.1.er:Int) != 0)=false/\((x.1.t.k:Int) != 4)=false/\(x.1.t.s.toList != [61])=true/\(x.1.t.s.toList != [60,62])=true/\(x.1.t.s.toList != [60])=true/\(x.1.t.s.toList != [60,61])=true):=by
    rcases hc' with h|⟨h,h2⟩
    . exact Or.inl h
    . right;rcases zD2 h2 with h3|⟨h3,h4⟩
      . left;exact⟨h,by simp;omega⟩
      . right;exact⟨h,by simp;omega,h4⟩
   clear hc';rcases hd with he'|⟨he',hk'⟩|⟨he',hk',y1,y2,y3,y4⟩;case inr.inr => have z1:(x.1.t.s.toList==[61])=false:=(by simpa using y1);have z2:(x.1.t.s.toList==[60,62])=false:=(by simpa using y2);have z3:(x.1.t.s.toList==[60])=false:=(by simpa using y3);have z4:(x.1.t.s.toList==[60,61])=false:=(by simpa using y4);clear y1 y2 y3 y4;go_enter func306,ntmps306;go_wp2_with fail;refine H1.o.mono ?_;rintro e w1 ⟨xs1,rfl,hL1,hX1,hV1⟩;obtain⟨a0,a1,a2,a3,a4,a5,a6,a7,a8,a9,a10,a11,a12,a13,a14⟩:=hL1.cells;have hlt1:=hL1.lt;have HL1:=za hL1;have HX1:=za hX1;have HV1:=za hV1;clear hL1 hX1 hV1;go_wp2_with fail;go_ret;exact⟨xs1,rfl,HL1.o.alloc _,HX1.o.alloc _,HV1.o.alloc_behind _⟩
   all_goals
    go_enter func306,ntmps306;go_wp2_with fail;refine H1.o.mono ?_;rintro e w1 ⟨xs1,rfl,hL1,hX1,hV1⟩;obtain⟨a0,a1,a2,a3,a4,a5,a6,a7,a8,a9,a10,a11,a12,a13,a14⟩:=hL1.cells;have hlt1:=hL1.lt;have HL1:=za hL1;have HX1:=za hX1;have HV1:=za hV1;clear hL1 hX1 hV1;go_wp2_with fail;go_ret;exact⟨xs1,rfl,HL1.o.alloc _,HX1.o.alloc _,HV1.o.alloc_behind _⟩
end
section
variable {rx:Fn} {F:Fx} {l:List Nat} {b base e n rb size y:Nat} {o:Obj} {xs xs':Rw} {x x2:St} {t:Tk} {v:Value} {w w1 w2 wr:World}
theorem zyl {P:Program}(w:World){ops:Array Oper}{rest:List Oper}{o:Oper}{a:Act}{Q:Exit->Act->World->Prop}(hgd:o.guard=none)(s x:Operand)(t:TypeId)
 (ho:o.op=.call { callee:=.builtin .append,args:=#[s,x],argTypes:=#[t,t] })
 (base:Nat) (e:TypeId) (i:TypeInfo) (z:Value) (size bytes:Nat) (ht:P.underlying t=some (.slice e)) (hi:P.info? e=some i) (hz:i.zero=some z)
 (hsize:i.size=size) (hby:i.bytes=bytes) (hzs:z.cells.size=size) (hsz:0<size)
 (v:Value) (n:Nat) (xs:List Value) (hs:a.eval s=v) (hown:w.ownsRow base e size v n xs)
 (ad:Addr) (m c:Nat) (news:List Value) (hx:a.eval x=.slice (some ad) m c) (hl:news.length=m*size) (hnews:∀j u,news[j]?=some u->w.cell? (ad.add j)=some u) (h1:∀u∈news,u.oneCell'=true)
 (h63:n+m<=maxLen) (hbytes:(n+m)*bytes<=140737488355328) (hbase:base<=w.heap.size)
 (h:∀v' w',w'.ownsRow base e size v' (n+m) (xs++news)->w.grownBy w' v.ownBlock->(∀k,v'.ownBlock=some k->v.ownBlock=some k∨w.heap.size<=k)->wpList P ops Q rest (a.put o.dst v') w'):wpList P ops Q (o::rest) a w :=
 wpList_plain hgd λ_ hK=>zfG w s x t ho base e i z size bytes ht hi hz hsize hby hzs hsz v n xs hs hown ad m c news hx hl hnews h1 h63 hbytes hbase λv' w' h2 h3 h4=>hK _ _ (h v' w' h2 h3 h4)
def zzG (t:Tk)(v:Value):Obj:=.cells #[.string ⟨#[99,97,108,108]⟩,xI t.a,xI t.a,v,.string t.s,xI 0] 190 (0,0)
theorem zzu (h:w.heap[b]?=some (zzG t v)):w.cell? (xD b 0)=some (.string ⟨#[99,97,108,108]⟩)/\w.cell? (xD b 1)=some (xI t.a)/\w.cell? (xD b 2)=some (xI t.a)/\w.cell? (xD b 3)=some v/\w.cell? (xD b 4)=some (.string t.s)/\w.cell? (xD b 5)=some (xI 0):=by simp[World.cell?,h,zzG]
theorem zB0 (h:w.heap[b]?=some (zzG t v))(i:Nat):w.frozen? (xD b i)=false:=by simp[World.frozen?,h,zzG]
theorem zA (h:w.heap[b]?=some o):b<w.heap.size:=by
 rcases Nat.lt_or_ge b w.heap.size with h1|h1
 . exact h1
 . rw[Array.getElem?_eq_none h1] at h;cases h
theorem zyL {xs:List Value}(h:w.ownsRow base e size v n xs){c:Array Value}{e':TypeId}{f:Nat×Nat}(hb:w.heap[b]?=some (.cells c e' f))(he:e≠e'):v.ownBlock≠some b:=by
 intro hk;rcases h.2 with ⟨h1,_⟩|⟨g,cap,cur,h1,_,h2,_⟩
 . rw[h1] at hk;cases hk
 . rw[h1] at hk;have e1:g=b:=by simpa [Value.ownBlock] using hk
   rw[e1,hb] at h2;injection h2 with h3
   injection h3 with _ h5
   exact he h5.symm
theorem zx8.insLt {L:List Ex}(h:zx8 w base xs L){u:Value}(hu:u∈xs.ins):∃l:List Nat,w.ownsRow base 3 1 u l.length (zyp l):=by
 obtain⟨i,hi⟩:=List.getElem?_of_mem hu;have h1:=(List.getElem?_eq_some_iff.1 hi).1;have h2:i<L.length:=by rw[h.1];exact h1
 exact⟨_,h.2.2 i L[i] u (zsc h2) hi⟩
structure zzc (rb:Nat) (F:Fx) (xs:Rw) (w:World) (t:Tk) (wr:World) (x:St) (xs':Rw) (v:Value) (l:List Nat):Prop where
 lies:zs wr rb F xs' x
 rep:zx8 wr (rb+1) xs' x.L
 ev:Ev rb xs xs' w wr
 box:wr.heap[w.heap.size+1]?=some (zzG t v)
 own:wr.ownsRow w.heap.size 3 1 v l.length (zyp l)
 far:∀u,u∈xs'.ins->∀k,u.ownBlock=some k->v.ownBlock≠some k
 nb:xs'.v.ownBlock≠some (w.heap.size+1)
 lt:rb<w.heap.size
theorem zzc.sub {xs2:Rw}(h:zzc rb F xs w t wr x xs' v l)(hE:Ev rb xs' xs2 wr w2)(hL:zs w2 rb F xs2 x2)(hX:zx8 w2 (rb+1) xs2 x2.L):zzc rb F xs w t w2 x2 xs2 v l:=by
 have hb:=zA h.box;have hlt:=h.lt;refine⟨hL,hX,h.ev.trans hE,?_,?_,?_,?_,hlt⟩
 . rw[hE.cell hb (by omega) h.nb,h.box]
 . refine zi h.own (λk h1 h2 h3=>hE.cell h2 (by omega) ?_);exact zy2 h.own h.rep.2.1 (by decide) h3
 . obtain⟨_,E,g1,g2⟩:=hE;intro u hu k hk hv;rw[g1] at hu;rcases List.mem_append.1 hu with hu|hu
   . exact h.far u hu k hk hv
   . have h1:=g2 u hu k hk;have h2:=(h.own.lt k hv).2;omega
 . intro hk;rcases hE.1.2 _ hk with h1|h1
   . exact h.nb h1
   . omega
theorem zzc.fr (h:zzc rb F xs w t wr x xs' v l)(hF:Fr (·=rb) wr w2)(hL:zs w2 rb F xs' x2)(hx:x2.L=x.L):zzc rb F xs w t w2 x2 xs' v l :=
 h.sub (Ev.of_fr hF) hL (by rw[hx];exact h.rep.fr hF)
theorem zzc.grown_box (h:zzc rb F xs w t wr x xs' v l)(hown:(wr.alloc o).ownsRow w.heap.size 3 1 v l.length (zyp l))(hg:(wr.alloc o).grownBy w1 v.ownBlock):w1.heap[w.heap.size+1]?=some (zzG t v):=by have hb:=zA h.box;have hb1:(wr.alloc o).heap[w.heap.size+1]?=some (zzG t v):=(Below.heap_alloc wr o _ hb).trans h.box;rw[hg.block _ (zA hb1) (λe=>zyL hown hb1 (by decide) e.symm),hb1]
theorem zzc.append {v':Value}(h:zzc rb F xs w t wr x xs' v l)
 (hown:w1.ownsRow w.heap.size 3 1 v' (l.length+1) (zyp l++[xI y])) (hg:(wr.alloc o).grownBy w1 v.ownBlock) (hn:∀k,v'.ownBlock=some k->v.ownBlock=some k∨(wr.alloc o).heap.size<=k) :
 zzc rb F xs w t (w1.setCell (xD (w.heap.size+1) 3) v') x xs' v' (l++[y]):=by
 have hlt:=h.lt;have hz:=h.ev.1.1.size;have hbx:=h.grown_box (zD h.own o) hg;have hrow:∀k,v.ownBlock=some k->w.heap.size<=k:=λk hk=>(h.own.lt k hk).1;have hE1:Ev rb xs xs' w w1:=by obtain⟨⟨a1,a2⟩,a3⟩:=h.ev.alloc_behind o;refine⟨⟨⟨hg.os.trans a1.os,hg.tape.trans a1.tape,hg.output.trans a1.output,Nat.le_trans a1.size hg.size,?_⟩,a2⟩,a3⟩;intro k hk hs;rw[hg.block k (Nat.lt_of_lt_of_le hk a1.size) (λe=>by have:=hrow k e.symm;omega)];exact a1.block k hk hs
 have hv1:v'.ownBlock≠some (w.heap.size+1):=zyL hown hbx (by decide);refine⟨?_,⟨h.rep.1,?_,?_⟩,?_,?_,?_,?_,h.nb,hlt⟩
 . exact ((h.lies.alloc o).grown hg (λe=>by have:=hrow rb e;omega)).setOther (by omega) _ _
 . refine zi (w:=w1) (zyQ (zD h.rep.2.1 o) hg (λk hk hv=>zy2 (zD h.own o) (zD h.rep.2.1 o) (by decide) hv hk)) (λk _ _ hk=>Below.heap_setCell _ _ _ _ ?_);intro e;have e1:k=w.heap.size+1:=e;exact h.nb (e1▸hk)
 . intro i e' u hi hu;have hm:=List.mem_of_getElem? hu;have h0:=h.rep.2.2 i e' u hi hu;have h1:=zyQ (zD h0 o) hg (λk hk hv=>h.far u hm k hk hv);refine zi h1 (λk _ _ hk=>Below.heap_setCell _ _ _ _ ?_);intro e;have e1:k=w.heap.size+1:=e;exact zyL h1 hbx (by decide) (e1▸hk)
 . obtain⟨⟨a1,a2⟩,a3⟩:=hE1;exact⟨⟨a1.setCell (Or.inr (Nat.le_succ _)) _,a2⟩,a3⟩
 . exact zh _ _ _ _ hbx
 . have h1:(w1.setCell (xD (w.heap.size+1) 3) v').ownsRow w.heap.size 3 1 v' (l.length+1) (zyp l++[xI y]):=by refine zi hown (λk _ _ hk=>Below.heap_setCell _ _ _ _ ?_);intro e;have e1:k=w.heap.size+1:=e;exact hv1 (e1▸hk)
   simpa [zyp] using h1
 . intro u hu k hk hv;rcases hn k hv with h1|h1
   . exact h.far u hu k hk h1
   . obtain⟨l',h2⟩:=h.rep.insLt hu;have h3:=(h2.lt k hk).2;simp at h1;omega
theorem Tryz.infoInt:(prog.info? 3).map (λi=>(i.zero,i.size,i.bytes))=some (some (xI 0),1,8):=by kernel_rfl
theorem zzI:∀u∈([xI y]:List Value),u.oneCell'=true:=by intro u hu;simp at hu;subst hu;rfl
theorem zyI {xs:List Value}(h:w.ownsRow base e size v n xs):v.oneCell'=true:=by
 rcases h.2 with ⟨h1,_⟩|⟨g,cap,cur,h1,_⟩
 . rw[h1];rfl
 . rw[h1];rfl
theorem zCU (rb:Nat)(F:Fx)(xs:Rw)(st:St)(w:World)(t:Tk)(hc:st.is 4 [40]=false)(hR:zs w rb F xs st)(hX:zx8 w (rb+1) xs st.L) :
 xK 259 #[xP rb,.agg #[xI t.k,xI t.a,xI t.t,.string t.s,xI t.n]] w (zyK rb F xs w (zao rx t st).1 (zao rx t st).2):=by
 have hM:zao rx t st=(st.fail 2 st.t.a,0):=by unfold zao;rw[if_neg (by rw[hc];simp)]
 rw[hM];obtain⟨h0,h1,h2,h3,h4,h5,h6,h7,h8,h9,h10,h11,h12,h13,h14⟩:=hR.cells;have hlt:=hR.lt;have hlt2:rb<w.heap.size+1:=by omega
 have HR:=za hR;have HX:=za hX;clear hR hX hM;go_enter func259,ntmps259;go_wp2_with fail;refine (zya rb F xs st 4 4 rfl ⟨#[40]⟩ [40] (by decide +kernel) _ ((HR.o.alloc _).alloc _)).mono ?_;rintro e w' ⟨rfl,rfl⟩;go_wp2_with fail;refine (zzb rb F xs st _ 2 st.t.a rfl _ ((HR.o.alloc _).alloc _)).mono ?_;rintro e w3 ⟨rfl,hL3,hF3⟩;go_wp2_with fail;go_ret;exact⟨xs,rfl,hL3,by rw[St.fail_L];exact ((HX.o.alloc _).alloc _).fr hF3,((Ev.of_fr hF3).alloc _).alloc _⟩
theorem zCn {d:Nat}(hX':zyq d 260 rx)(gX:zv d rx)(rb:Nat)(F:Fx)(xs:Rw)(st:St)(p:Nat)(w:World)(t:Tk)(hI:Inv p st)(ho:18<=st.op+(d+1))(ha:1<=st.t.a)(hc:st.is 4 [40]=true)(hR:zs w rb F xs st)(hX:zx8 w (rb+1) xs st.L) :
 xK 259 #[xP rb,.agg #[xI t.k,xI t.a,xI t.t,.string t.s,xI t.n]] w (zyK rb F xs w (zao rx t st).1 (zao rx t st).2):=by
 have he:=hI.is_ok (by omega) hc;have e1:=Fwd.enter hI he (by have:=Inv.is_k hc;omega);have g2:=gX st.enter (p+1) e1.inv (by rw[St.enter_op];omega);have oE:st.enter.op=st.op+1:=St.enter_op;have hM:zao rx t st=((zc1 rx 1300 ((rx st.enter).1,[(rx st.enter).2])).1.must 4 [41]).leave.put ⟨zef,t.a,t.a,(zc1 rx 1300 ((rx st.enter).1,[(rx st.enter).2])).2,t.s,0⟩:=by unfold zao;rw[if_pos hc];rfl
 rw[hM];have hta1:1<=(rx st.enter).1.t.a:=Nat.le_trans ha (Nat.le_trans e1.ta g2.ta);have O2:Hid ((rx st.enter).1.op=st.op+1):=g2.op.trans oE;obtain⟨h0,h1,h2,h3,h4,h5,h6,h7,h8,h9,h10,h11,h12,h13,h14⟩:=hR.cells;have hlt:=hR.lt;have hlt2:rb<w.heap.size+1:=by omega
 obtain⟨i0,hi,hz0,hz1,hz2⟩:=info_parts Tryz.infoInt;have HR:=za hR;have HX:=za hX;have HI:=za hI;have E1:=za e1.inv;have G2:=za g2.inv;have hoo:18<=st.enter.op+d:=by omega
 clear hR hX hI hM he e1 g2 oE;generalize hy0:rx st.enter=y0 at *;have HY0:=za hy0;clear hy0;obtain⟨R,hRes⟩:∃R,zc1 rx 1300 (y0.1,[y0.2])=R:=⟨_,rfl⟩;rw[hRes];have HRes:=za hRes;clear hRes;go_enter func259,ntmps259;go_wp2_with fail;refine (zya rb F xs st 4 4 rfl ⟨#[40]⟩ [40] (by decide +kernel) _ ((HR.o.alloc _).alloc _)).mono ?_;rintro e w' ⟨rfl,rfl⟩;go_wp2_with fail;have hC0:zzc rb F xs w t ((w.alloc (z8 t)).alloc (zzG t (.slice none 0 0))) st xs (.slice none 0 0) []:=by
  refine⟨(HR.o.alloc _).alloc _,(HX.o.alloc _).alloc _,(((Ev.refl _ _ _).alloc_behind _).alloc_behind _),?_,World.ownsRow_nil _ _ _ _,(λ_ _ _ _ h=>by cases h),?_,hlt⟩
  . have h:=zc (w.alloc (z8 t)) (zzG t (.slice none 0 0));rw[show (w.alloc (z8 t)).heap.size=w.heap.size+1 by simp] at h;exact h
  . intro hk;have:=(HX.o.2.1.lt _ hk).2;omega
 have HC0:=za hC0;clear hC0;refine (zy9 rb F xs st _ HI.o.ok (by have:=HI.o.op1;omega) HC0.o.lies).mono ?_;rintro e w1 ⟨rfl,hL1,hF1⟩;have HC1:=za (HC0.o.fr hF1 hL1 (St.enter_L _));clear hL1 hF1;go_wp2_with fail;refine (hX' rb F xs st.enter (p+1) _ E1.o hoo HC1.o.lies HC1.o.rep).mono ?_;rw[HY0.o];rintro e w2 ⟨xs2,rfl,hL2,hX2,hV2⟩;have HC2:=za (HC1.o.sub hV2 hL2 hX2);clear hL2 hX2 hV2;obtain⟨d0,d1,d2,d3,d4,d5⟩:=zzu HC2.o.box;have mx:([]:List Nat).length+1<=maxLen:=by have h0:([]:List Nat).length=0:=rfl;unfold maxLen;omega
 have by':(([]:List Nat).length+1)*8<=140737488355328:=by have h0:([]:List Nat).length=0:=rfl;omega
 have bs:w.heap.size<=(w2.alloc (.cells #[xI (y0.2:Nat)] 3)).heap.size:=by simp;have:=HC2.o.ev.1.1.size;omega
 go_wp2_with (at_builtin;refine zyl _ rfl (.tmp 31) (.tmp 33) 188 rfl w.heap.size 3 i0 _ 1 8 underlying188 hi hz0 hz1 hz2 rfl (by decide) (.slice none 0 0) ([]:List Nat).length (zyp ([]:List Nat)) rfl (zD HC2.o.own _) (xD w2.heap.size 0) 1 1 [xI (y0.2:Nat)] rfl rfl (zN (zc w2 _) rfl) zzI mx by' bs ?_;intro v' w9 hown hgrow hnew;have HC9:=za (HC2.o.append hown hgrow hnew);have hbx:=HC2.o.grown_box (zD HC2.o.own _) hgrow;obtain⟨c0,c1,c2,c3,c4,c5⟩:=zzu hbx;have cf:=zB0 hbx;obtain⟨g9,cap9,rfl,_⟩:=zM hown (by omega);clear hown hgrow hnew hbx);clear mx by' bs c0 c1 c2 c3 c4 c5 cf d0 d1 d2 d3 d4 d5;go_loopg [7] 1300 (λk _ wr=>∃(x:St) (l:List Nat) (xs':Rw) (v:Value),Hid (zc1 rx k (x,l)=R)/\rem x<k/\l.length<=1200/\Hid (l.length<=x.t.a)/\Hid (Inv (p+1) x)/\Hid (x.op=st.op+1)/\Hid (zzc rb F xs w t wr x xs' v l));case atStart => refine⟨y0.1,[y0.2],xs2,_,HRes.o,?_,by simp,by unfold Hid;simp;omega,G2.o,O2.o,HC9.o⟩;unfold rem;split <;> omega
 case round =>
  obtain⟨x,l,xs3,v3,HF,hrem,hl,HLA,HI3,HO3,HC3⟩:=hrel;obtain⟨a0,a1,a2,a3,a4,a5,a6,a7,a8,a9,a10,a11,a12,a13,a14⟩:=HC3.o.lies.cells;obtain⟨f,rfl⟩:∃f,gk=f+1:=⟨gk-1,by omega⟩;by_cases he:x.er=0
  . have he':((x.er:Int)==0)=true:=beq_iff_eq.2 (by omega);cases hcm:x.is 4 [44] with
    | true =>
      have hk4:=Inv.is_k hcm;have e3:=Fwd.step HI3.o;have hta:x.t.a+1<=x.step.t.a:=(by have:=HI3.o.tok (by omega);rw[St.step_ok he];have hf:=zV x.src x.t.t HI3.o.ok.tt;simp only;omega);have g4:=gX x.step (p+1) e3.inv (by rw[St.step_op,HO3.o];omega);have HF2:Hid (zc1 rx f ((rx x.step).1,l++[(rx x.step).2])=R):=by
       have h:=HF.o;unfold Hid;rw[<- h]
       show _=(if x.er=0/\x.is 4 [44]=true then _ else (x,l));rw[if_pos ⟨he,hcm⟩]
      have hrem':Hid (rem (rx x.step).1<f):=(by unfold Hid rem;have h1:rem x=1201-x.t.a:=(by unfold rem;rw[if_pos he]);have h2:=g4.ta;have h4:=g4.inv.ok.ta_le;split <;> omega);have HL4:Hid ((l++[(rx x.step).2]).length<=(rx x.step).1.t.a):=(by unfold Hid;have h2:=g4.ta;have h3:=HLA.o;simp only[List.length_append,List.length_cons,List.length_nil];omega);have hl4:(l++[(rx x.step).2]).length<=1200:=Nat.le_trans HL4.o g4.inv.ok.ta_le;have HI4:=za g4.inv;have HO4:Hid ((rx x.step).1.op=st.op+1):=(by unfold Hid;rw[g4.op,St.step_op];exact HO3.o);have E3:=za e3.inv;clear he hk4 e3 g4 HF hta;generalize hy:rx x.step=y at *;have HY:=za hy;clear hy;go_wp2_with fail;refine (zya rb F xs3 x 4 4 rfl ⟨#[44]⟩ [44] (by decide +kernel) _ HC3.o.lies).mono ?_;rintro e w' ⟨rfl,rfl⟩;go_wp2_with fail;refine (zyg rb F xs3 x _ HI3.o.ok HC3.o.lies).mono ?_;rintro e w4 ⟨rfl,hL4,hF4⟩;have HC4:=za (HC3.o.fr hF4 hL4 (St.step_L _));clear hL4 hF4;go_wp2_with fail;refine (hX' rb F xs3 x.step (p+1) _ E3.o (by rw[St.step_op,HO3.o];omega) HC4.o.lies HC4.o.rep).mono ?_;rw[HY.o];rintro e w5 ⟨xs5,rfl,hL5,hX5,hV5⟩;have HC5:=za (HC4.o.sub hV5 hL5 hX5);clear hL5 hX5 hV5;obtain⟨d0,d1,d2,d3,d4,d5⟩:=zzu HC5.o.box;have mx:l.length+1<=maxLen:=(by unfold maxLen;omega);have by':(l.length+1)*8<=140737488355328:=(by omega);have bs:w.heap.size<=(w5.alloc (.cells #[xI (y.2:Nat)] 3)).heap.size:=(by simp;have:=HC5.o.ev.1.1.size;omega);go_wp2_with (at_builtin;refine zyl _ rfl (.tmp 50) (.tmp 52) 188 rfl w.heap.size 3 i0 _ 1 8 underlying188 hi hz0 hz1 hz2 rfl (by decide) v3 l.length (zyp l) rfl (zD HC5.o.own _) (xD w5.heap.size 0) 1 1 [xI (y.2:Nat)] rfl rfl (zN (zc w5 _) rfl) zzI mx by' bs ?_;intro v' w9 hown hgrow hnew;have HC9:=za (HC5.o.append hown hgrow hnew);have hbx:=HC5.o.grown_box (zD HC5.o.own _) hgrow;obtain⟨c0,c1,c2,c3,c4,c5⟩:=zzu hbx;have cf:=zB0 hbx;obtain⟨g9,cap9,rfl,_⟩:=zM hown (by omega);clear hown hgrow hnew hbx);go_roundg f;case measure=>omega
      case rel=>exact⟨y.1,l++[y.2],xs5,_,HF2.o,hrem'.out,hl4,HL4.o,HI4,HO4,HC9⟩
    | false =>
      have HF2:Hid (R=(x,l)):=by
       have h:=HF.o;unfold Hid;rw[<- h]
       show (if x.er=0/\x.is 4 [44]=true then _ else (x,l))=(x,l);rw[if_neg (by rw[hcm];simp)]
      clear he HF;go_wp2_with fail;refine (zya rb F xs3 x 4 4 rfl ⟨#[44]⟩ [44] (by decide +kernel) _ HC3.o.lies).mono ?_;rintro e w' ⟨rfl,rfl⟩;go_wp2_with fail;refine (zyc rb F xs3 x 4 4 rfl ⟨#[41]⟩ [41] (by decide +kernel) _ HI3.o.ok HC3.o.lies).mono ?_;rintro e w6 ⟨rfl,hL6,hF6⟩;have HC6:=za (HC3.o.fr hF6 hL6 (St.must_L _ _ _));clear hL6 hF6;obtain⟨q0,q1,q2,q3,q4,q5,q6,q7,q8,q9,q10,q11,q12,q13,q14⟩:=HC6.o.lies.cells;have qf:=HC6.o.lies.frozen;obtain⟨d0,d1,d2,d3,d4,d5⟩:=zzu HC6.o.box;have hne6:¬w.heap.size+1=rb:=(by omega);have hne7:¬rb=w.heap.size+1:=(by omega);have hop6:1<=(x.must 4 [41]).op:=(by rw[St.must_op,HO3.o];omega);have hop7:(x.must 4 [41]).op<=17:=(by rw[St.must_op];exact HI3.o.op1);go_wp2_with fail;have h1c:=zyI HC6.o.own;refine (zzr rb F xs3 (x.must 4 [41]).leave ⟨zef,t.a,t.a,l,t.s,0⟩ v3 _ _ _ _ _ _ rfl rfl rfl rfl rfl (by show (x.must 4 [41]).L.length<=100000;rw[St.must_L];exact HI3.o.len) (HC6.o.lies.leave hop6) (HC6.o.rep.setOwn _ _) (ownsRow_setCell_below (zR HC6.o.own hlt) (Nat.lt_succ_self rb) _) h1c).mono ?_;intro e w7 hq;obtain⟨xs7,rfl,k1,k2,k3⟩:=hq.post (HC6.o.ev.fr ((Fr.refl _ _).set1 _ _)) (λk hk=>(HC6.o.own.lt k hk).1);go_wp2_with fail;go_ret;rw[HF2.o];exact⟨xs7,rfl,k1,k2,k3⟩
  . have he':((x.er:Int)==0)=false:=beq_eq_false_iff_ne.2 (by omega);have HF2:Hid (R=(x,l)):=by
     have h:=HF.o;unfold Hid;rw[<- h]
     show (if x.er=0/\x.is 4 [44]=true then _ else (x,l))=(x,l);rw[if_neg (by simp[he])]
    clear he HF;go_wp2_with fail;refine (zyc rb F xs3 x 4 4 rfl ⟨#[41]⟩ [41] (by decide +kernel) _ HI3.o.ok HC3.o.lies).mono ?_;rintro e w6 ⟨rfl,hL6,hF6⟩;have HC6:=za (HC3.o.fr hF6 hL6 (St.must_L _ _ _));clear hL6 hF6;obtain⟨q0,q1,q2,q3,q4,q5,q6,q7,q8,q9,q10,q11,q12,q13,q14⟩:=HC6.o.lies.cells;have qf:=HC6.o.lies.frozen;obtain⟨d0,d1,d2,d3,d4,d5⟩:=zzu HC6.o.box;have hne6:¬w.heap.size+1=rb:=(by omega);have hne7:¬rb=w.heap.size+1:=(by omega);have hop6:1<=(x.must 4 [41]).op:=(by rw[St.must_op,HO3.o];omega);have hop7:(x.must 4 [41]).op<=17:=(by rw[St.must_op];exact HI3.o.op1);go_wp2_with fail;have h1c:=zyI HC6.o.own;refine (zzr rb F xs3 (x.must 4 [41]).leave ⟨zef,t.a,t.a,l,t.s,0⟩ v3 _ _ _ _ _ _ rfl rfl rfl rfl rfl (by show (x.must 4 [41]).L.length<=100000;rw[St.must_L];exact HI3.o.len) (HC6.o.lies.leave hop6) (HC6.o.rep.setOwn _ _) (ownsRow_setCell_below (zR HC6.o.own hlt) (Nat.lt_succ_self rb) _) h1c).mono ?_;intro e w7 hq;obtain⟨xs7,rfl,k1,k2,k3⟩:=hq.post (HC6.o.ev.fr ((Fr.refl _ _).set1 _ _)) (λk hk=>(HC6.o.own.lt k hk).1);go_wp2_with fail;go_ret;rw[HF2.o];exact⟨xs7,rfl,k1,k2,k3⟩
end
end Go.Proofs.YtmfkofhgdjechaaGreatDoor
