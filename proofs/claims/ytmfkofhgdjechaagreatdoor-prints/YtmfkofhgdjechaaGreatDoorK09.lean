/- Part 10 of the proof: MdlQ2 RefX RefY MdlD. -/
import Derived.Test.YtmfkofhgdjechaaGreatDoorK08
set_option maxRecDepth 100000
set_option maxHeartbeats 8000000
namespace Go.Proofs.YtmfkofhgdjechaaGreatDoor
open Go.Proofs.Tryz
section
variable {r17 r18:Fn} {f p:Nat} {R:Nms} {st:St}
def zeh (st:St):Nms:=⟨(st.step.name.must 4 [44]).name,[st.step.t.s,(st.step.name.must 4 [44]).t.s],[st.step.t.a,(st.step.name.must 4 [44]).t.a]⟩
structure zrA (st:St) (R:Nms) (p:Nat):Prop where
 many:zdH st=⟨R.st.must 4 [41],R.ns,R.ps⟩
 x0:Inv p (zeh st).st
 r:Inv p R.st
 rL:R.st.L=st.L
 rop:R.st.op=st.op
 ta:1<=R.st.t.a
theorem zko (hf:f=1300)(h:zbO f (zeh st)=R):zdH st=⟨R.st.must 4 [41],R.ns,R.ps⟩:=by subst h;subst hf;rfl
theorem zkV (hI:Inv p st)(hm:st.is 4 [40]=true)(hf:f=1300)(h:zbO f (zeh st)=R):zrA st R p:=by
 have he:=hI.is_ok (by omega) hm;have hk:=Inv.is_k hm;have h1:1<=st.step.t.a:=by have:=hI.tok (by omega);rw[St.step_ok he];have hf:=zV st.src st.t.t hI.ok.tt;simp only;omega
 have e1:=Fwd.step hI;have e2:=Fwd.name e1.inv;have e3:=Fwd.must e2.inv 4 [44];have e4:=Fwd.name e3.inv;have e5:=zdO f p (zeh st) e4.inv;rw[h] at e5;refine⟨zko hf h,e4.inv,e5.1.inv,?_,?_,?_⟩
 . rw[e5.2.2];unfold zeh;simp only;rw[St.name_L,St.must_L,St.name_L,St.step_L]
 . rw[e5.2.1];unfold zeh;simp only;rw[St.name_op,St.must_op,St.name_op,St.step_op]
 . exact Nat.le_trans h1 (((e2.trans e3).trans e4).trans e5.1).ta
theorem zjK {eqs:List Eqn}(hm:st.is 4 [40]=true)(h:zdH st=⟨R.st.must 4 [41],R.ns,R.ps⟩) :
 zF r17 r18 st eqs=((zao r17 ((R.st.must 4 [41]).must 4 [61]).t ((R.st.must 4 [41]).must 4 [61]).name).1.must 4 [59],eqs++[⟨R.ns,R.ps,(R.st.must 4 [41]).t.a,(zao r17 ((R.st.must 4 [41]).must 4 [61]).t ((R.st.must 4 [41]).must 4 [61]).name).2⟩]):=by
 have h1:zaH st=⟨R.st.must 4 [41],R.ns,R.ps⟩:=by unfold zaH;rw[if_pos hm,h]
 unfold zF zck;simp only[h1];rw[if_pos hm]
theorem zGm (g17:zv 17 r17)(g18:zv 18 r18)(hI:Inv p st)(ho:st.op=0)(hta:1<=st.t.a):(zao r17 st.t st.name).1.Ok:=by have h:=(zfx g17 g18 (many:=true) hI ho (λ_=>hta)).1.inv.ok;simpa [zck] using h
end
section
open Go.RowKit
variable {F:Fx} {ns:List ByteArray} {ps:List Nat} {a b ex rb:Nat} {xs xs':Rw} {x:St} {av nv:Value} {w wr:World}
theorem zAh (w:World)(p0 p1 p2 p3 p4:Addr)(v0 v1 v2 v3 v4:Value)(o:Obj):((((((w.setCell p0 v0).setCell p1 v1).setCell p2 v2).setCell p3 v3).setCell p4 v4).alloc o).heap[w.heap.size]?=some o:=by have h:=zc (((((w.setCell p0 v0).setCell p1 v1).setCell p2 v2).setCell p3 v3).setCell p4 v4) o;rw[show (((((w.setCell p0 v0).setCell p1 v1).setCell p2 v2).setCell p3 v3).setCell p4 v4).heap.size=w.heap.size by simp[World.setCell]] at h;exact h
theorem EqK.setT (h:EqK rb F xs w wr x xs' nv av ns ps a ex){c:Array Value}{f:Nat×Nat}(hb:wr.heap[b]?=some (.cells c 270 f))(hw:w.heap.size<b)(i:Nat)(v:Value):EqK rb F xs w (wr.setCell (xD b i) v) x xs' nv av ns ps a ex :=
 h.set hb (Nat.le_of_lt hw) (by decide) (by decide) (by decide) i v (by rw[Below.heap_setCell _ _ _ _ (show w.heap.size≠b by omega),h.box])
theorem EqK.setTok (h:EqK rb F xs w wr x xs' nv av ns ps a ex){t:Tk}(hb:wr.heap[b]?=some (z8 t))(hw:w.heap.size<b)(u:Tk) :
 EqK rb F xs w (((((wr.setCell (xD b 0) (xI u.k)).setCell (xD b 1) (xI u.a)).setCell (xD b 2) (xI u.t)).setCell (xD b 3) (.string u.s)).setCell (xD b 4) (xI u.n)) x xs' nv av ns ps a ex:=by
 have h0:=zh _ _ 0 (xI u.k) hb;have h1:=zh _ _ 1 (xI u.a) h0;have h2:=zh _ _ 2 (xI u.t) h1;have h3:=zh _ _ 3 (.string u.s) h2;exact ((((h.setT hb hw _ _).setT h0 hw _ _).setT h1 hw _ _).setT h2 hw _ _).setT h3 hw _ _
theorem zB7 {r17 r18:Fn}(h17:zyq 17 260 r17)(g17:zv 17 r17)(_h18:zyq 18 260 r18)(g18:zv 18 r18)(rb:Nat)(F:Fx)(xs:Rw)(q:Qw)(st:St)(eqs:List Eqn)(p:Nat)(w:World)(hI:Inv p st)(ho:st.op=0)(hq:eqs.length<=100000)(hfq:F.qs=q.v)(hR:zs w rb F xs st)(hX:zx8 w (rb+1) xs st.L)(hQ:zyH w rb q eqs)(hm:st.is 4 [40]=true):xK 212 #[xP rb] w (zCb rb F xs q w (zF r17 r18 st eqs).1 (zF r17 r18 st eqs).2):=by
 obtain⟨f0,hf0⟩:∃f0,f0=1300:=⟨_,rfl⟩;obtain⟨R,hRes⟩:∃R,zbO f0 (zeh st)=R:=⟨_,rfl⟩;have mf:=zkV hI hm hf0 hRes;rw[zjK hm mf.many];have e1:=Fwd.step hI;have e2:=Fwd.name e1.inv;have e3:=Fwd.must e2.inv 4 [44];have e6:=Fwd.must mf.r 4 [41];have e7:=Fwd.must e6.inv 4 [61];have e8:=Fwd.name e7.inv;have o7:((R.st.must 4 [41]).must 4 [61]).op=0:=by rw[St.must_op,St.must_op,mf.rop,ho]
 have HTA:Hid (1<=((R.st.must 4 [41]).must 4 [61]).name.t.a):=Nat.le_trans mf.ta (Nat.le_trans e6.ta (Nat.le_trans e7.ta e8.ta));have HOO:Hid (18<=((R.st.must 4 [41]).must 4 [61]).name.op+(17+1)):=by unfold Hid;rw[St.name_op,o7];omega
 have L6:Hid ((R.st.must 4 [41]).L=st.L):=by unfold Hid;rw[St.must_L,mf.rL]
 have G9:=za (zGm g17 g18 e7.inv o7 (Nat.le_trans mf.ta (Nat.le_trans e6.ta e7.ta)));obtain⟨h0,h1,h2,h3,h4,h5,h6,h7,h8,h9,h10,h11,h12,h13,h14⟩:=hR.cells;have hlt:=hR.lt;obtain⟨i0,hi,hz0,hz1,hz2⟩:=info_parts Tryz.infoInt;obtain⟨iS,hiS,hzS0,hzS1,hzS2⟩:=info_parts Tryz.infoStrR;obtain⟨iQ,hiQ,hzQ0,hzQ1,hzQ2⟩:=info_parts Tryz.infoEqR;have mxQ:eqs.length+1<=maxLen:=by unfold maxLen;omega
 have byQ:(eqs.length+1)*64<=140737488355328:=by omega
 have HFQ:=za hfq;have HR:=za hR;have HX:=za hX;have HQ:=za hQ;have HI:=za hI;have E1:=za e1.inv.ok;have E2:=za e2.inv.ok;have E3:=za e3.inv.ok;have E4:=za mf.x0;have E5:=za mf.r.ok;have E6:=za e6.inv.ok;have E7:=za e7.inv.ok;have E8:=za e8.inv;have HRes:=za hRes;have HF0:=za hf0;clear hR hX hQ hI mf e1 e2 e3 e6 e7 e8 o7 hfq hq hRes hf0;go_enter func212,ntmps212;go_wp2_with fail;have hC0:EqI rb F xs w (w.alloc (zzK (.slice none 0 0) (.slice none 0 0) 0 0)) st (.slice none 0 0) (.slice none 0 0) [] []:=⟨HR.o.alloc _,(Fr.refl _ _).alloc _,zc _ _,World.ownsRow_nil _ _ _ _,World.ownsRow_nil _ _ _ _,hlt⟩;have HC0:=za hC0;clear hC0;refine (zya rb F xs st 4 4 rfl ⟨#[40]⟩ [40] (by decide +kernel) _ HC0.o.lies).mono ?_;rintro e w' ⟨rfl,rfl⟩;go_wp2_with fail;refine (zyg rb F xs st _ HI.o.ok HC0.o.lies).mono ?_;rintro e w0 ⟨rfl,hL0,hF0⟩;have HC0b:=za (HC0.o.go hF0 hL0);have hz0':=hF0.size;have hbq0:w.heap.size<w0.heap.size:=by simp at hz0';omega
 clear hL0 hF0 hz0';go_wp2_with fail;refine (zyr rb F xs st.step _ E1.o HC0b.o.lies).mono ?_;rintro e w1 ⟨rfl,hL1,hF1⟩;have HC1:=za ((HC0b.o.go hF1 hL1).alloc (z8 st.step.t));have hz1':=hF1.size;have hbq:w.heap.size<w1.heap.size:=by omega
 have nbq:w1.heap.size≠w.heap.size:=by omega
 have nbq2:¬w.heap.size=w1.heap.size:=by omega
 have HB1:=za (zc w1 (z8 st.step.t));obtain⟨d0,d1,d2,d3⟩:=zyx (HC0b.o.go hF1 hL1).box;have nrb:¬w.heap.size=rb:=by omega
 have nrb2:¬rb=w.heap.size:=by omega
 have nrb3:w1.heap.size≠rb:=by omega
 have nrb4:¬rb=w1.heap.size:=by omega
 clear hL1 hF1 hz1';go_wp2_with (first|(at_builtin;refine zyl _ rfl (.tmp 20) (.tmp 23) 188 rfl w.heap.size 3 i0 _ 1 8 underlying188 hi hz0 hz1 hz2 rfl (by decide) (.slice none 0 0) ([]:List Nat).length (zyp ([]:List Nat)) rfl (zD HQN.o.ownA _) (xD wN.heap.size 0) 1 1 [xI (st.step.t.a:Nat)] rfl rfl (zN (zzm wN _ _ _) rfl) zzI (zzB (by simp)) (zzC (by simp) (by omega)) (HQN.o.up _) ?_;intro vA wA hown hgrow _;have HQA:=za (HQN.o.appA hown hgrow);have hbx:=HQN.o.grown_appA hgrow HQN.o.box (by decide);obtain⟨c0,c1,c2,c3⟩:=zyx hbx;have cf:=zyE hbx;have hbt:=HQN.o.grown_appA hgrow ((Below.heap_setCell _ _ _ _ nbq).trans HBN.o) (by decide);obtain⟨t0,t1,t2,t3,t4⟩:=zyj hbt;have HBA:=za hbt;have hlA:=(HQN.o.lies.alloc _).grown hgrow (zyB HQN.o.ownA hlt);obtain⟨l0,l1,l2,l3,l4,l5,l6,l7,l8,l9,l10,l11,l12,l13,l14⟩:=hlA.cells;have lf:=hlA.frozen;clear hlA;obtain⟨gA,capA,rfl,_⟩:=zM hown (by omega);clear hown hgrow hbx hbt)|(at_builtin;refine zyl _ rfl (.tmp 13) (.tmp 16) 79 rfl w.heap.size 9 iS _ 1 16 underlying79 hiS hzS0 hzS1 hzS2 rfl (by decide) (.slice none 0 0) ([]:List ByteArray).length (zzE ([]:List ByteArray)) rfl (zD HC1.o.ownN _) (xD (w1.heap.size+1) 0) 1 1 [.string st.step.t.s] rfl rfl (zN (zBH w1 _ _) rfl) zAM (zzB (by simp)) (zzC (by simp) (by omega)) (HC1.o.up _) ?_;intro vN wN hown hgrow _;have HQN:=za (HC1.o.appN hown hgrow);have hbx:=HC1.o.grown_appN hgrow HC1.o.box (by decide);obtain⟨c0,c1,c2,c3⟩:=zyx hbx;have cf:=zyE hbx;have hbt:=HC1.o.grown_appN hgrow HB1.o (by decide);obtain⟨t0,t1,t2,t3,t4⟩:=zyj hbt;have HBN:=za hbt;obtain⟨gN,capN,rfl,_⟩:=zM hown (by omega);clear hown hgrow hbx hbt));have HQA1:Hid (EqI rb F xs w _ st.step.name (xS gN 1 capN) (xS gA 1 capA) [st.step.t.s] [st.step.t.a]):=HQA;clear HQA HQN;refine (zyc rb F xs st.step.name 4 4 rfl ⟨#[44]⟩ [44] (by decide +kernel) _ E2.o HQA1.o.lies).mono ?_;rintro e w4 ⟨rfl,hL4,hF4⟩;have HC4:=za (HQA1.o.go hF4 hL4);have HB4:=za ((hF4.block w1.heap.size (zA ((Below.heap_setCell _ _ _ _ nbq).trans HBA.o)) nrb3).trans ((Below.heap_setCell _ _ _ _ nbq).trans HBA.o));clear hL4 hF4;go_wp2_with fail;refine (zyr rb F xs (st.step.name.must 4 [44]) _ E3.o HC4.o.lies).mono ?_;rintro e w5 ⟨rfl,hL5,hF5⟩;have HB5:=za ((hF5.block w1.heap.size (zA HB4.o) nrb3).trans HB4.o);have HC5:=za ((HC4.o.go hF5 hL5).setTok HB5.o hbq (st.step.name.must 4 [44]).t);have HB5t:=za (zDd HB5.o (st.step.name.must 4 [44]).t);clear c0 c1 c2 c3 cf t0 t1 t2 t3 t4 d0 d1 d2 d3 l0 l1 l2 l3 l4 l5 l6 l7 l8 l9 l10 l11 l12 l13 l14 lf;obtain⟨t0,t1,t2,t3,t4⟩:=zyj HB5.o;have tf:=zzH HB5.o;obtain⟨d0,d1,d2,d3⟩:=zyx (HC4.o.go hF5 hL5).box;clear hL5 hF5;go_wp2_with (first|(at_builtin;refine zyl _ rfl (.tmp 39) (.tmp 42) 188 rfl w.heap.size 3 i0 _ 1 8 underlying188 hi hz0 hz1 hz2 rfl (by decide) (xS gA 1 capA) [st.step.t.a].length (zyp [st.step.t.a]) rfl (zD HQN2.o.ownA _) (xD wN2.heap.size 0) 1 1 [xI ((st.step.name.must 4 [44]).t.a:Nat)] rfl rfl (zN (zzm wN2 _ _ _) rfl) zzI (zzB (by simp)) (zzC (by simp) (by omega)) (HQN2.o.up _) ?_;intro vA2 wA2 hown hgrow _;have HQA2:=za (HQN2.o.appA hown hgrow);have hbx:=HQN2.o.grown_appA hgrow HQN2.o.box (by decide);obtain⟨c0,c1,c2,c3⟩:=zyx hbx;have cf:=zyE hbx;have hbt:=HQN2.o.grown_appA hgrow ((Below.heap_setCell _ _ _ _ nbq).trans HBN2.o) (by decide);obtain⟨t0,t1,t2,t3,t4⟩:=zyj hbt;have HBA2:=za hbt;have hlA:=(HQN2.o.lies.alloc _).grown hgrow (zyB HQN2.o.ownA hlt);obtain⟨l0,l1,l2,l3,l4,l5,l6,l7,l8,l9,l10,l11,l12,l13,l14⟩:=hlA.cells;have lf:=hlA.frozen;clear hlA;obtain⟨gA2,capA2,rfl,_⟩:=zM hown (by omega);clear hown hgrow hbx hbt)|(at_builtin;refine zyl _ rfl (.tmp 32) (.tmp 35) 79 rfl w.heap.size 9 iS _ 1 16 underlying79 hiS hzS0 hzS1 hzS2 rfl (by decide) (xS gN 1 capN) [st.step.t.s].length (zzE [st.step.t.s]) rfl (zD HC5.o.ownN _) (xD w5.heap.size 0) 1 1 [.string (st.step.name.must 4 [44]).t.s] rfl rfl (zN (zAh w5 _ _ _ _ _ _ _ _ _ _ _) rfl) zAM (zzB (by simp)) (zzC (by simp) (by omega)) (HC5.o.up _) ?_;intro vN2 wN2 hown hgrow _;have HQN2:=za (HC5.o.appN hown hgrow);have hbx:=HC5.o.grown_appN hgrow HC5.o.box (by decide);obtain⟨c0,c1,c2,c3⟩:=zyx hbx;have cf:=zyE hbx;have hbt:=HC5.o.grown_appN hgrow HB5t.o (by decide);obtain⟨t0,t1,t2,t3,t4⟩:=zyj hbt;have HBN2:=za hbt;obtain⟨gN2,capN2,rfl,_⟩:=zM hown (by omega);clear hown hgrow hbx hbt));go_loopg [54] f0 (λk _ wr=>∃(x:Nms) (nv av:Value) (tt:Tk),Hid (zbO k x=R)/\rem x.st<k/\x.ns.length+k<=1302/\x.ps.length+k<=1302/\Hid (Inv p x.st)/\Hid (EqI rb F xs w wr x.st nv av x.ns x.ps)/\Hid (wr.heap[w1.heap.size]?=some (z8 tt)));case atStart =>
  have hf0:=HF0.o;refine⟨zeh st,_,_,(st.step.name.must 4 [44]).t,HRes.o,?_,?_,?_,E4.o,HQA2.o,(Below.heap_setCell _ _ _ _ nbq).trans HBA2.o⟩
  . unfold rem;split <;> omega
  . show 2+f0<=1302;omega
  . show 2+f0<=1302;omega
 case round =>
  obtain⟨x,nv3,av3,tt3,HF,hrem,hns,hps,HI3,HC3,HB3⟩:=hrel;have hfl:∀(n k:Nat),n+(k+1)<=1302->n<=1400:=λn k h=>by omega
  obtain⟨a0,a1,a2,a3,a4,a5,a6,a7,a8,a9,a10,a11,a12,a13,a14⟩:=HC3.o.lies.cells;obtain⟨f,rfl⟩:∃f,gk=f+1:=⟨gk-1,by omega⟩;have hns':x.ns.length<=1400:=by omega
  have hps':x.ps.length<=1400:=by omega
  clear hfl;by_cases he:x.st.er=0
  . have he':((x.st.er:Int)==0)=true:=beq_iff_eq.2 (by omega);cases hcm:x.st.is 4 [44] with
    | true =>
      have hk4:=Inv.is_k hcm;have z3:=Fwd.step HI3.o;have z4:=Fwd.name z3.inv;have hta:x.st.t.a+1<=x.st.step.t.a:=(by have:=HI3.o.tok (by omega);rw[St.step_ok he];have hf:=zV x.st.src x.st.t.t HI3.o.ok.tt;simp only;omega);have HF2:Hid (zbO f x.more=R):=by
       have h:=HF.o;unfold Hid;rw[<- h]
       show _=(if x.st.er=0/\x.st.is 4 [44]=true then _ else x);rw[if_pos ⟨he,hcm⟩]
      have hrem':Hid (rem x.st.step.name<f):=(by unfold Hid rem;have h1:rem x.st=1201-x.st.t.a:=(by unfold rem;rw[if_pos he]);have h2:=z4.ta;have h4:=z4.inv.ok.ta_le;split <;> omega);have Z3:=za z3.inv.ok;have Z4:=za z4.inv;clear he hk4 z3 z4 HF hta;go_wp2_with fail;refine (zya rb F xs x.st 4 4 rfl ⟨#[44]⟩ [44] (by decide +kernel) _ HC3.o.lies).mono ?_;rintro e w' ⟨rfl,rfl⟩;go_wp2_with fail;refine (zyg rb F xs x.st _ HI3.o.ok HC3.o.lies).mono ?_;rintro e w6 ⟨rfl,hL6,hF6⟩;have HC6:=za (HC3.o.go hF6 hL6);have HB6:=za ((hF6.block w1.heap.size (zA HB3.o) nrb3).trans HB3.o);clear hL6 hF6;go_wp2_with fail;refine (zyr rb F xs x.st.step _ Z3.o HC6.o.lies).mono ?_;rintro e w7 ⟨rfl,hL7,hF7⟩;have HB7:=za ((hF7.block w1.heap.size (zA HB6.o) nrb3).trans HB6.o);have HC7:=za ((HC6.o.go hF7 hL7).setTok HB7.o hbq x.st.step.t);have HB7t:=za (zDd HB7.o x.st.step.t);obtain⟨u0,u1,u2,u3,u4⟩:=zyj HB7.o;have uf:=zzH HB7.o;obtain⟨m0,m1,m2,m3⟩:=zyx (HC6.o.go hF7 hL7).box;clear hL7 hF7;go_wp2_with (first|(at_builtin;refine zyl _ rfl (.tmp 66) (.tmp 69) 188 rfl w.heap.size 3 i0 _ 1 8 underlying188 hi hz0 hz1 hz2 rfl (by decide) av3 x.ps.length (zyp x.ps) rfl (zD HQN3.o.ownA _) (xD wN3.heap.size 0) 1 1 [xI (x.st.step.t.a:Nat)] rfl rfl (zN (zzm wN3 _ _ _) rfl) zzI (zzB hps') (zzC hps' (by omega)) (HQN3.o.up _) ?_;intro vA3 wA3 hown hgrow _;have HQA3:=za (HQN3.o.appA hown hgrow);have hbx:=HQN3.o.grown_appA hgrow HQN3.o.box (by decide);obtain⟨c0,c1,c2,c3⟩:=zyx hbx;have cf:=zyE hbx;have hbt:=HQN3.o.grown_appA hgrow ((Below.heap_setCell _ _ _ _ nbq).trans HBN3.o) (by decide);obtain⟨t0,t1,t2,t3,t4⟩:=zyj hbt;have HBA3:=za hbt;have hlA:=(HQN3.o.lies.alloc _).grown hgrow (zyB HQN3.o.ownA hlt);obtain⟨l0,l1,l2,l3,l4,l5,l6,l7,l8,l9,l10,l11,l12,l13,l14⟩:=hlA.cells;have lf:=hlA.frozen;clear hlA;obtain⟨gA3,capA3,rfl,_⟩:=zM hown (by omega);clear hown hgrow hbx hbt)|(at_builtin;refine zyl _ rfl (.tmp 59) (.tmp 62) 79 rfl w.heap.size 9 iS _ 1 16 underlying79 hiS hzS0 hzS1 hzS2 rfl (by decide) nv3 x.ns.length (zzE x.ns) rfl (zD HC7.o.ownN _) (xD w7.heap.size 0) 1 1 [.string x.st.step.t.s] rfl rfl (zN (zAh w7 _ _ _ _ _ _ _ _ _ _ _) rfl) zAM (zzB hns') (zzC hns' (by omega)) (HC7.o.up _) ?_;intro vN3 wN3 hown hgrow _;have HQN3:=za (HC7.o.appN hown hgrow);have hbx:=HC7.o.grown_appN hgrow HC7.o.box (by decide);obtain⟨c0,c1,c2,c3⟩:=zyx hbx;have cf:=zyE hbx;have hbt:=HC7.o.grown_appN hgrow HB7t.o (by decide);obtain⟨t0,t1,t2,t3,t4⟩:=zyj hbt;have HBN3:=za hbt;obtain⟨gN3,capN3,rfl,_⟩:=zM hown (by omega);clear hown hgrow hbx hbt));go_roundg f;case measure=>omega
      case rel=>exact⟨x.more,_,_,x.st.step.t,HF2.o,hrem'.out,by simp[Nms.more];omega,by simp[Nms.more];omega,Z4,HQA3,za ((Below.heap_setCell _ _ _ _ nbq).trans HBA3.o)⟩
    | false =>
      have HF2:Hid (R=x):=by
       have h:=HF.o;unfold Hid;rw[<- h]
       show (if x.st.er=0/\x.st.is 4 [44]=true then _ else x)=x;rw[if_neg (by rw[hcm];simp)]
      clear he HF;have hRx:=HF2.o;subst hRx;go_wp2_with fail;refine (zya rb F xs R.st 4 4 rfl ⟨#[44]⟩ [44] (by decide +kernel) _ HC3.o.lies).mono ?_;rintro e w' ⟨rfl,rfl⟩;go_wp2_with fail;refine (zyc rb F xs R.st 4 4 rfl ⟨#[41]⟩ [41] (by decide +kernel) _ E5.o HC3.o.lies).mono ?_;rintro e w8 ⟨rfl,hL8,hF8⟩;have HC8:=za (HC3.o.go hF8 hL8);have HB8:=za ((hF8.block w1.heap.size (zA HB3.o) nrb3).trans HB3.o);obtain⟨k0,k1,k2,k3,k4,k5,k6,k7,k8,k9,k10,k11,k12,k13,k14⟩:=hL8.cells;obtain⟨m0,m1,m2,m3⟩:=zyx HC8.o.box;have mf:=zyE HC8.o.box;clear hL8 hF8;go_wp2_with fail;have HK2:=za ((HC8.o.k (by rw[L6.o];exact HX.o)).setA (R.st.must 4 [41]).t.a);have HB9:=za ((Below.heap_setCell w8 (xD w.heap.size 2) (xI ((R.st.must 4 [41]).t.a:Nat)) w1.heap.size nbq).trans HB8.o);refine (zyc rb F xs (R.st.must 4 [41]) 4 4 rfl ⟨#[61]⟩ [61] (by decide +kernel) _ E6.o HK2.o.lies).mono ?_;rintro e w9 ⟨rfl,hL9,hF9⟩;have HK9:=za (HK2.o.fr hF9 hL9 (St.must_L _ _ _));have HB10:=za ((hF9.block w1.heap.size (zA HB9.o) nrb3).trans HB9.o);clear hL9 hF9;go_wp2_with fail;refine (zyr rb F xs ((R.st.must 4 [41]).must 4 [61]) _ E7.o HK9.o.lies).mono ?_;rintro e w10 ⟨rfl,hL10,hF10⟩;have HB11:=za ((hF10.block w1.heap.size (zA HB10.o) nrb3).trans HB10.o);have HK10:=za ((HK9.o.fr hF10 hL10 (St.name_L _)).setTok HB11.o hbq ((R.st.must 4 [41]).must 4 [61]).t);obtain⟨v0,v1,v2,v3,v4⟩:=zyj HB11.o;have vf:=zzH HB11.o;clear hL10 hF10;go_wp2_with fail;have HCALL:=za (zA9 h17 g17 rb F xs ((R.st.must 4 [41]).must 4 [61]).name p _ ((R.st.must 4 [41]).must 4 [61]).t E8.o HOO.o HTA.o HK10.o.lies HK10.o.rep);generalize zao r17 ((R.st.must 4 [41]).must 4 [61]).t ((R.st.must 4 [41]).must 4 [61]).name=y at *;refine HCALL.o.mono ?_;rintro e w12 ⟨xs12,rfl,hL12,hX12,hV12⟩;have HK12:=za (HK10.o.sub hV12 hL12 hX12);clear hL12 hX12 hV12 m0 m1 m2 m3 mf;obtain⟨m0,m1,m2,m3⟩:=zyx HK12.o.box;have mf:=zyE HK12.o.box;go_wp2_with fail;have HK13:=za (HK12.o.setE y.2);refine (zyc rb F xs12 y.1 4 4 rfl ⟨#[59]⟩ [59] (by decide +kernel) _ G9.o HK13.o.lies).mono ?_;rintro e w14 ⟨rfl,hL14,hF14⟩;have HK14:=za (HK13.o.fr hF14 hL14 (St.must_L _ _ _));clear hL14 hF14 m0 m1 m2 m3 mf;go_wp2_with fail;refine zn (λw9=>EqK rb F xs w w9 (y.1.must 4 [59]) xs12 nv3 av3 R.ns R.ps (R.st.must 4 [41]).t.a y.2/\zyH w9 rb q eqs) ⟨HK14.o,HQ.o.ev HX.o HK14.o.ev⟩ ?_;rintro w9 ⟨hK9,hQ9⟩;obtain⟨b0,b1,b2,b3⟩:=zyx hK9.box;obtain⟨r0,r1,r2,r3,r4,r5,r6,r7,r8,r9,r10,r11,r12,r13,r14⟩:=hK9.lies.cells;rw[HFQ.o] at r14;have rf:=hK9.lies.frozen;have hlt9:=hK9.lies.lt;have o1:=zyI hK9.ownN;have o2:=zyI hK9.ownA;have HK9:=za hK9;have HQ9:=za hQ9;clear hK9 hQ9
      go_region_law (
       refine zJ _ rfl (.tmp 99) (.tmp 101) 101 rfl (rb+1) 275 iQ _ 4 64 underlying101 hiQ hzQ0 hzQ1 hzQ2 rfl (by decide) q.v eqs.length (zyP eqs q.subs) rfl (zyb HQ9.o.2.1 _) (xD w9.heap.size 0) 1 1 (zy4 ⟨R.ns,R.ps,(R.st.must 4 [41]).t.a,y.2⟩ (nv3,av3)) rfl rfl (zN (zyy w9 _) rfl) (zDM o1 o2) mxQ byQ (zyM hlt9 _) ?_;intro v' w10 hown hgrow hnew;have HOWN:=za hown;have HNEW:=za hnew;have HG:=za hgrow;have hL10:=(HK9.o.lies.alloc _).drew.grown hgrow (zyB HQ9.o.2.1 (Nat.lt_succ_self _));obtain⟨q0,q1,q2,q3,q4,q5,q6,q7,q8,q9,q10,q11,q12,q13,q14⟩:=hL10.cells;have qf:=hL10.frozen;have HL10:=za hL10;obtain⟨g,cap,rfl,hg⟩:=zM hown (by omega);clear hown hgrow hL10 hnew)
      all_goals go_wp2_with fail
      all_goals go_end0
      all_goals (obtain⟨xs2,q2,z1,z2,z3,z4,z5,z6⟩:=zBz HK9.o HQ9.o HL10.o HOWN.o HG.o HNEW.o;exact⟨xs2,q2,rfl,z1,z2,z3,z4,z5,z6⟩)
  . have he':((x.st.er:Int)==0)=false:=beq_eq_false_iff_ne.2 (by omega);have HF2:Hid (R=x):=by
     have h:=HF.o;unfold Hid;rw[<- h]
     show (if x.st.er=0/\x.st.is 4 [44]=true then _ else x)=x;rw[if_neg (by simp[he])]
    clear he HF;have hRx:=HF2.o;subst hRx;go_wp2_with fail;refine (zyc rb F xs R.st 4 4 rfl ⟨#[41]⟩ [41] (by decide +kernel) _ E5.o HC3.o.lies).mono ?_;rintro e w8 ⟨rfl,hL8,hF8⟩;have HC8:=za (HC3.o.go hF8 hL8);have HB8:=za ((hF8.block w1.heap.size (zA HB3.o) nrb3).trans HB3.o);obtain⟨k0,k1,k2,k3,k4,k5,k6,k7,k8,k9,k10,k11,k12,k13,k14⟩:=hL8.cells;obtain⟨m0,m1,m2,m3⟩:=zyx HC8.o.box;have mf:=zyE HC8.o.box;clear hL8 hF8;go_wp2_with fail;have HK2:=za ((HC8.o.k (by rw[L6.o];exact HX.o)).setA (R.st.must 4 [41]).t.a);have HB9:=za ((Below.heap_setCell w8 (xD w.heap.size 2) (xI ((R.st.must 4 [41]).t.a:Nat)) w1.heap.size nbq).trans HB8.o);refine (zyc rb F xs (R.st.must 4 [41]) 4 4 rfl ⟨#[61]⟩ [61] (by decide +kernel) _ E6.o HK2.o.lies).mono ?_;rintro e w9 ⟨rfl,hL9,hF9⟩;have HK9:=za (HK2.o.fr hF9 hL9 (St.must_L _ _ _));have HB10:=za ((hF9.block w1.heap.size (zA HB9.o) nrb3).trans HB9.o);clear hL9 hF9;go_wp2_with fail;refine (zyr rb F xs ((R.st.must 4 [41]).must 4 [61]) _ E7.o HK9.o.lies).mono ?_;rintro e w10 ⟨rfl,hL10,hF10⟩;have HB11:=za ((hF10.block w1.heap.size (zA HB10.o) nrb3).trans HB10.o);have HK10:=za ((HK9.o.fr hF10 hL10 (St.name_L _)).setTok HB11.o hbq ((R.st.must 4 [41]).must 4 [61]).t);obtain⟨v0,v1,v2,v3,v4⟩:=zyj HB11.o;have vf:=zzH HB11.o;clear hL10 hF10;go_wp2_with fail;have HCALL:=za (zA9 h17 g17 rb F xs ((R.st.must 4 [41]).must 4 [61]).name p _ ((R.st.must 4 [41]).must 4 [61]).t E8.o HOO.o HTA.o HK10.o.lies HK10.o.rep);generalize zao r17 ((R.st.must 4 [41]).must 4 [61]).t ((R.st.must 4 [41]).must 4 [61]).name=y at *;refine HCALL.o.mono ?_;rintro e w12 ⟨xs12,rfl,hL12,hX12,hV12⟩;have HK12:=za (HK10.o.sub hV12 hL12 hX12);clear hL12 hX12 hV12 m0 m1 m2 m3 mf;obtain⟨m0,m1,m2,m3⟩:=zyx HK12.o.box;have mf:=zyE HK12.o.box;go_wp2_with fail;have HK13:=za (HK12.o.setE y.2);refine (zyc rb F xs12 y.1 4 4 rfl ⟨#[59]⟩ [59] (by decide +kernel) _ G9.o HK13.o.lies).mono ?_;rintro e w14 ⟨rfl,hL14,hF14⟩;have HK14:=za (HK13.o.fr hF14 hL14 (St.must_L _ _ _));clear hL14 hF14 m0 m1 m2 m3 mf;go_wp2_with fail;refine zn (λw9=>EqK rb F xs w w9 (y.1.must 4 [59]) xs12 nv3 av3 R.ns R.ps (R.st.must 4 [41]).t.a y.2/\zyH w9 rb q eqs) ⟨HK14.o,HQ.o.ev HX.o HK14.o.ev⟩ ?_;rintro w9 ⟨hK9,hQ9⟩;obtain⟨b0,b1,b2,b3⟩:=zyx hK9.box;obtain⟨r0,r1,r2,r3,r4,r5,r6,r7,r8,r9,r10,r11,r12,r13,r14⟩:=hK9.lies.cells;rw[HFQ.o] at r14;have rf:=hK9.lies.frozen;have hlt9:=hK9.lies.lt;have o1:=zyI hK9.ownN;have o2:=zyI hK9.ownA;have HK9:=za hK9;have HQ9:=za hQ9;clear hK9 hQ9
    go_region_law (
     refine zJ _ rfl (.tmp 99) (.tmp 101) 101 rfl (rb+1) 275 iQ _ 4 64 underlying101 hiQ hzQ0 hzQ1 hzQ2 rfl (by decide) q.v eqs.length (zyP eqs q.subs) rfl (zyb HQ9.o.2.1 _) (xD w9.heap.size 0) 1 1 (zy4 ⟨R.ns,R.ps,(R.st.must 4 [41]).t.a,y.2⟩ (nv3,av3)) rfl rfl (zN (zyy w9 _) rfl) (zDM o1 o2) mxQ byQ (zyM hlt9 _) ?_;intro v' w10 hown hgrow hnew;have HOWN:=za hown;have HNEW:=za hnew;have HG:=za hgrow;have hL10:=(HK9.o.lies.alloc _).drew.grown hgrow (zyB HQ9.o.2.1 (Nat.lt_succ_self _));obtain⟨q0,q1,q2,q3,q4,q5,q6,q7,q8,q9,q10,q11,q12,q13,q14⟩:=hL10.cells;have qf:=hL10.frozen;have HL10:=za hL10;obtain⟨g,cap,rfl,hg⟩:=zM hown (by omega);clear hown hgrow hL10 hnew)
    all_goals go_wp2_with fail
    all_goals go_end0
    all_goals (obtain⟨xs2,q2,z1,z2,z3,z4,z5,z6⟩:=zBz HK9.o HQ9.o HL10.o HOWN.o HG.o HNEW.o;exact⟨xs2,q2,rfl,z1,z2,z3,z4,z5,z6⟩)
end
section
open Go.RowKit
theorem zAo {r17 r18:Fn}(h17:zyq 17 260 r17)(g17:zv 17 r17)(h18:zyq 18 260 r18)(g18:zv 18 r18)(rb:Nat)(F:Fx)(xs:Rw)(q:Qw)(st:St)(eqs:List Eqn)(p:Nat)(w:World)(hI:Inv p st)(ho:st.op=0)(hq:eqs.length<=100000)(hfq:F.qs=q.v)(hR:zs w rb F xs st)(hX:zx8 w (rb+1) xs st.L)(hQ:zyH w rb q eqs) :
 xK 212 #[xP rb] w (zCb rb F xs q w (zF r17 r18 st eqs).1 (zF r17 r18 st eqs).2):=by
 cases hm:st.is 4 [40] with
 | true=>exact zB7 h17 g17 h18 g18 rb F xs q st eqs p w hI ho hq hfq hR hX hQ hm
 | false=>exact zCm h17 g17 h18 g18 rb F xs q st eqs p w hI ho hq hfq hR hX hQ hm
end
section
variable {r17 r18:Fn} {vars:List Vr} {f p:Nat} {st:St}
structure Nd where
 nm:ByteArray
 a:Nat
 vars:List Vr
 exs:List Ex
 eqs:List Eqn
def zW:List UInt8:=[110,111,100,101]
def zi2:List UInt8:=[118,97,114]
def zbA:Nat->St×List Vr->St×List Vr
 | 0,x=>x
 | f+1,x=>if x.1.er=0/\x.1.t.k=2 then zbA f (zaR x.1 x.2) else x
def zd6 (r17 r18:Fn):Nat->St×List Eqn->St×List Eqn
 | 0,x=>x
 | f+1,x=>if x.1.er=0/\x.1.is 4 [125]=false then zd6 r17 r18 f (zF r17 r18 x.1 x.2) else x
def zaS (f:Nat)(st:St)(vars:List Vr):St×List Vr:=if st.is 5 zi2=true then zbA f (zaR st.step vars) else (st,vars)
def St.fresh (st:St):St:={ st with L:=[] }
def zaI (st:St):St×List Vr :=
 let x:=zab true (st.must 5 zW).name []
 zab false (x.1.must 4 [45,62]) x.2
def zeO (r17 r18:Fn)(f:Nat)(st:St):St×List Eqn :=
 let x:=zd6 r17 r18 f (zF r17 r18 (st.must 4 [123]) [])
 (x.1.must 4 [125],x.2)
def zei (r17 r18:Fn)(f:Nat)(st:St)(nodes:List Nd):St×List Nd :=
 if 6<=nodes.length then (st.fresh.fail 2 st.t.a,nodes)
 else
  let h:=zaI st.fresh
  let v:=zaS f h.1 h.2
  let b:=zeO r17 r18 f v.1
  (b.1,nodes++[⟨(st.fresh.must 5 zW).t.s,(st.fresh.must 5 zW).t.a,v.2,b.1.L,b.2⟩])
def zyS (r17 r18:Fn)(g:Nat):Nat->St×List Nd->St×List Nd
 | 0,x=>x
 | f+1,x=>if x.1.er=0/\x.1.t.k≠0 then zyS r17 r18 g f (zei r17 r18 g x.1 x.2) else x
def zAP (r17 r18:Fn)(g:Nat)(s:ByteArray):St×List Nd :=
 zyS r17 r18 g g (zei r17 r18 g (⟨s,zZ s 0,0,0,0,[]⟩:St) [])
theorem Fwd.fresh (h:Inv p st):Inv 0 st.fresh:=by have h0:=h.ok;refine⟨⟨h0.src,h0.tt,h0.ta,h0.tn,h0.op,h0.er,h0.at',h0.tk⟩,?_,h.op1,h.op0,h.bad,h.tok⟩;simp[St.fresh]
theorem zfI (hI:Inv p st)(he:st.er=0)(hs:st.name.er=0):st.t.a+1<=st.name.t.a:=by
 by_cases hk:st.t.k=2
 . have e:st.name=st.step:=by unfold St.name;rw[if_pos hk]
   have:=hI.tok (by omega);rw[e,St.step_ok he];have hf:=zV st.src st.t.t hI.ok.tt;simp only;omega
 . have e:st.name=st.fail 2 st.t.a:=by unfold St.name;rw[if_neg hk]
   rw[e] at hs;exact absurd hs (St.fail_er st (by omega))
theorem Fwd.back {a b:St}(h:Fwd p a b)(hb:b.er=0):a.er=0:=by
 by_cases he:a.er=0
 . exact he
 . exact absurd hb (h.er he)
theorem zix {i o:Bool}(hI:Inv p st)(he:st.er=0)(hs:(zx i o st vars).1.er=0):st.t.a+1<=(zx i o st vars).1.t.a:=by
 unfold zx at hs ⊢;split
 . rename_i hl
   rw[if_pos hl] at hs;exact absurd hs (St.fail_er st (by omega))
 . rename_i hl
   rw[if_neg hl] at hs;have h1:=Fwd.name hI;have h2:=Fwd.must h1.inv 4 [58];have h3:=Fwd.type h2.inv;simp only at hs ⊢;split
   . rename_i hc
     rw[if_pos hc] at hs;have h4:=Fwd.step h3.inv;have h5:=Fwd.nott h4.inv;have h6:=Fwd.name h5.inv;have hw:=(((h2.trans h3).trans h4).trans h5).trans h6;exact Nat.le_trans (zfI hI he (hw.back hs)) hw.ta
   . rename_i hc
     rw[if_neg hc] at hs;have hw:=h2.trans h3;exact Nat.le_trans (zfI hI he (hw.back hs)) hw.ta
theorem zlj (hI:Inv p st)(he:st.er=0)(hs:(zaR st vars).1.er=0):st.t.a+1<=(zaR st vars).1.t.a:=by have h1:=zbI (i:=false) (o:=false) (vars:=vars) hI;have h2:=Fwd.must h1.1.inv 4 [59];exact Nat.le_trans (zix hI he (h2.back hs)) h2.ta
theorem zmp (hI:Inv p st)(he:st.er=0)(hs:(zaH st).st.er=0):st.t.a+1<=(zaH st).st.t.a:=by
 unfold zaH at hs ⊢;split
 . rename_i hm
   rw[if_pos hm] at hs;have hk:=Inv.is_k hm;have h0:st.t.a+1<=st.step.t.a:=(by have:=hI.tok (by omega);rw[St.step_ok he];have hf:=zV st.src st.t.t hI.ok.tt;simp only;omega);have e1:=Fwd.step hI;have e2:=Fwd.name e1.inv;have e3:=Fwd.must e2.inv 4 [44];have e4:=Fwd.name e3.inv;have e5:=zdO 1300 p (zeh st) e4.inv;have e6:=Fwd.must e5.1.inv 4 [41];have hw:=(((e2.trans e3).trans e4).trans e5.1).trans e6;exact Nat.le_trans h0 hw.ta
 . rename_i hm
   rw[if_neg hm] at hs;exact zfI hI he hs
theorem ziF (g17:zv 17 r17)(g18:zv 18 r18){eqs:List Eqn}(hI:Inv p st)(ho:st.op=0)(he:st.er=0)(hs:(zF r17 r18 st eqs).1.er=0):st.t.a+1<=(zF r17 r18 st eqs).1.t.a:=by
 have h1:=zfO hI;have h2:=Fwd.must h1.1.inv 4 [61];have o2:((zaH st).st.must 4 [61]).op=0:=by rw[St.must_op,h1.2.1,ho]
 have h3:=zfx g17 g18 (many:=st.is 4 [40]) h2.inv o2 (λhm=>Nat.le_trans (zkp hI hm) h2.ta);have h4:=Fwd.must h3.1.inv 4 [59];have hw:=(h2.trans h3.1).trans h4;exact Nat.le_trans (zmp hI he (hw.back hs)) hw.ta
theorem ziS:∀(f p:Nat) (x:St×List Vr),Inv p x.1->Fwd p x.1 (zbA f x).1/\(zbA f x).1.op=x.1.op/\(zbA f x).1.L=x.1.L:=by
 intro f;induction f with
 | zero=>intro p x hI;exact⟨Fwd.refl hI,rfl,rfl⟩
 | succ f ih =>
   intro p x hI
   show Fwd p x.1 (if _ then _ else x).1/\(if _ then _ else x).1.op=x.1.op/\(if _ then _ else x).1.L=x.1.L;by_cases hc:x.1.er=0/\x.1.t.k=2
   . rw[if_pos hc];have h2:=zej (vars:=x.2) hI;have h3:=ih p _ h2.1.inv;exact⟨h2.1.trans h3.1,h3.2.1.trans h2.2.1,h3.2.2.trans h2.2.2⟩
   . rw[if_neg hc];exact⟨Fwd.refl hI,rfl,rfl⟩
theorem zh4 (g17:zv 17 r17)(g18:zv 18 r18):∀(f p:Nat) (x:St×List Eqn),Inv p x.1->x.1.op=0->Fwd p x.1 (zd6 r17 r18 f x).1/\(zd6 r17 r18 f x).1.op=0:=by
 intro f;induction f with
 | zero=>intro p x hI ho;exact⟨Fwd.refl hI,ho⟩
 | succ f ih =>
   intro p x hI ho
   show Fwd p x.1 (if _ then _ else x).1/\(if _ then _ else x).1.op=0;by_cases hc:x.1.er=0/\x.1.is 4 [125]=false
   . rw[if_pos hc];have h2:=za1 g17 g18 (eqs:=x.2) hI ho;have h3:=ih p _ h2.1.inv (h2.2.trans ho);exact⟨h2.1.trans h3.1,h3.2⟩
   . rw[if_neg hc];exact⟨Fwd.refl hI,ho⟩
theorem zeP (hI:Inv p st):Fwd p st (zaS f st vars).1/\(zaS f st vars).1.op=st.op/\(zaS f st vars).1.L=st.L:=by
 unfold zaS;split
 . have h1:=Fwd.step hI;have h2:=zej (vars:=vars) h1.inv;have h3:=ziS f p _ h2.1.inv;exact⟨(h1.trans h2.1).trans h3.1,h3.2.1.trans (h2.2.1.trans (St.step_op _)),h3.2.2.trans (h2.2.2.trans (St.step_L _))⟩
 . exact⟨Fwd.refl hI,rfl,rfl⟩
theorem zit (hI:Inv p st):Fwd p st (zaI st).1/\(zaI st).1.op=st.op/\(zaI st).1.L=st.L:=by
 have h1:=Fwd.must hI 5 zW;have h2:=Fwd.name h1.inv;have h3:=zbx (i:=true) (vars:=[]) h2.inv;have h4:=Fwd.must h3.1.inv 4 [45,62];have h5:=zbx (i:=false) (vars:=(zab true (st.must 5 zW).name []).2) h4.inv;refine⟨(((h1.trans h2).trans h3.1).trans h4).trans h5.1,?_,?_⟩
 . show (zab false ((zab true (st.must 5 zW).name []).1.must 4 [45,62]) (zab true (st.must 5 zW).name []).2).1.op=_;rw[h5.2.1,St.must_op,h3.2.1,St.name_op,St.must_op]
 . show (zab false ((zab true (st.must 5 zW).name []).1.must 4 [45,62]) (zab true (st.must 5 zW).name []).2).1.L=_;rw[h5.2.2,St.must_L,h3.2.2,St.name_L,St.must_L]
theorem zmn (g17:zv 17 r17)(g18:zv 18 r18)(hI:Inv p st)(ho:st.op=0):Fwd p st (zeO r17 r18 f st).1/\(zeO r17 r18 f st).1.op=0:=by
 have h1:=Fwd.must hI 4 [123];have h2:=za1 g17 g18 (eqs:=[]) h1.inv (by rw[St.must_op,ho]);have h3:=zh4 g17 g18 f p _ h2.1.inv (by rw[h2.2,St.must_op,ho]);have h4:=Fwd.must h3.1.inv 4 [125];refine⟨((h1.trans h2.1).trans h3.1).trans h4,?_⟩
 show ((zd6 r17 r18 f (zF r17 r18 (st.must 4 [123]) [])).1.must 4 [125]).op=0;rw[St.must_op,h3.2]
theorem zmW (g17:zv 17 r17)(g18:zv 18 r18){nodes:List Nd}(hI:Inv p st)(ho:st.op=0):Inv 0 (zei r17 r18 f st nodes).1/\(zei r17 r18 f st nodes).1.op=0/\st.t.a<=(zei r17 r18 f st nodes).1.t.a/\(st.er≠0->(zei r17 r18 f st nodes).1.er≠0):=by
 have h0:=Fwd.fresh hI;have hta:st.fresh.t.a=st.t.a:=rfl;have her:st.fresh.er=st.er:=rfl;have hop:st.fresh.op=0:=ho;unfold zei;split
 . have h1:=Fwd.fail h0 (e:=2) (a:=st.t.a) (by omega) (by omega) hI.ok.ta_le;exact⟨h1.inv,by rw[St.fail_op];exact hop,by have:=h1.ta;simp only;omega,λe=>h1.er (by rw[her];exact e)⟩
 . have h1:=zit h0;have h2:=zeP (f:=f) (vars:=(zaI st.fresh).2) h1.1.inv;have h3:=zmn g17 g18 (f:=f) h2.1.inv (by rw[h2.2.1,h1.2.1];exact hop);have hw:=(h1.1.trans h2.1).trans h3.1;exact⟨hw.inv,h3.2,by have:=hw.ta;simp only;omega,λe=>hw.er (by rw[her];exact e)⟩
end
end Go.Proofs.YtmfkofhgdjechaaGreatDoor
