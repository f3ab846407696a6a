/- Part 19 of the proof: CodZ CoeA CoeB CoeC CoeD CoeE1 CoeE. -/
import Derived.Test.YtmfkofhgdjechaaGreatDoorK17
set_option maxRecDepth 100000
set_option maxHeartbeats 8000000
namespace Go.Proofs.YtmfkofhgdjechaaGreatDoor
open Go.Proofs.Tryz
open Go.RowKit
section
variable {part:Fn} {d:Nat}
theorem zcD (w:World)(ks:List Nat)(arr:Array Value)(t:TypeId)(h:arr=(ks.map λk:Nat=>(xI (k:Int))).toArray):zhn (w.alloc (.cells arr t)) w.heap.size ks:=by intro i k hi;subst h;have:=zc w (.cells (ks.map λk:Nat=>(xI (k:Int))).toArray t);unfold World.cell?;rw[this];simp[hi]
theorem zaW.alloc {S:Nat->Addr}{pb B:Nat}{w:World}{o:Obj}{st':St}{r:Nat}{e:Ending}{w':World}(h:zaW S pb B (w.alloc o) st' r e w')(hB:w.heap.size<=B):zaW S pb w.heap.size w st' r e w':=by obtain⟨a,h1,h2,h3,h4⟩:=h;exact⟨a,h1,h2,λhe=>(h3.out he).down hB,((Fr.refl _ w).alloc o).trans h4⟩
theorem zaF (w:World)(o:Obj):w.heap.size<=(w.alloc o).heap.size:=by simp
theorem zqc:zH 276:=λ_ _=>by kernel_rfl
theorem zlW (hP:zX d 276 part)(gP:zv d part):zX d 241 (zcT 0 part):=by intro S pb st p w hI ho hR;have hlt:=hR.lt;have H1:=za (zgd zqc hP gP zpB (by decide) (by decide) S pb st p (w.alloc (.cells #[xI 13,xI 14] 213)) w.heap.size 2 rfl hI ho (hR.alloc _) (zcD w [13,14] _ _ rfl) hlt (by simp));generalize zcT 0 part st=R at *;go_enter func241,ntmps241;go_wp2_with fail;refine H1.o.mono ?_;rintro e w1 h1;obtain⟨a,rfl,h2,h3,h4⟩:=h1.alloc (zaF _ _);go_wp2_with fail;go_ret;exact⟨a,rfl,h2,h3,h4⟩
theorem zqk:zH 291:=λ_ _=>by kernel_rfl
theorem znl (hP:zX d 291 part)(gP:zv d part):zX d 276 (zcT 1 part):=by intro S pb st p w hI ho hR;have hlt:=hR.lt;have H1:=za (zgd zqk hP gP zpw (by decide) (by decide) S pb st p (w.alloc (.cells #[xI 12] 213)) w.heap.size 1 rfl hI ho (hR.alloc _) (zcD w [12] _ _ rfl) hlt (by simp));generalize zcT 1 part st=R at *;go_enter func276,ntmps276;go_wp2_with fail;refine H1.o.mono ?_;rintro e w1 h1;obtain⟨a,rfl,h2,h3,h4⟩:=h1.alloc (zaF _ _);go_wp2_with fail;go_ret;exact⟨a,rfl,h2,h3,h4⟩
theorem zk7:zH 305:=λ_ _=>by kernel_rfl
theorem zp2 (hP:zX d 305 part)(gP:zv d part):zX d 299 (zcT 2 part):=by intro S pb st p w hI ho hR;have hlt:=hR.lt;have H1:=za (zgd zk7 hP gP zqe (by decide) (by decide) S pb st p (w.alloc (.cells #[xI 19,xI 20] 213)) w.heap.size 2 rfl hI ho (hR.alloc _) (zcD w [19,20] _ _ rfl) hlt (by simp));generalize zcT 2 part st=R at *;go_enter func299,ntmps299;go_wp2_with fail;refine H1.o.mono ?_;rintro e w1 h1;obtain⟨a,rfl,h2,h3,h4⟩:=h1.alloc (zaF _ _);go_wp2_with fail;go_ret;exact⟨a,rfl,h2,h3,h4⟩
theorem zn6:zH 308:=λ_ _=>by kernel_rfl
theorem zkb (hP:zX d 308 part)(gP:zv d part):zX d 305 (zcT 3 part):=by intro S pb st p w hI ho hR;have hlt:=hR.lt;have H1:=za (zgd zn6 hP gP zpv (by decide) (by decide) S pb st p (w.alloc (.cells #[xI 21,xI 22,xI 23] 213)) w.heap.size 3 rfl hI ho (hR.alloc _) (zcD w [21,22,23] _ _ rfl) hlt (by simp));generalize zcT 3 part st=R at *;go_enter func305,ntmps305;go_wp2_with fail;refine H1.o.mono ?_;rintro e w1 h1;obtain⟨a,rfl,h2,h3,h4⟩:=h1.alloc (zaF _ _);go_wp2_with fail;go_ret;exact⟨a,rfl,h2,h3,h4⟩
theorem zqF:zH 299:=λ_ _=>by kernel_rfl
theorem zkz (st:St)(_hk:st.t.k<=5)(hT:Tx st.src st.t):opM st [15,16,17,18]=if zcn st.t=true then some (zag st.t.s.toList 0) else none:=by
 obtain⟨_,_,_,_,_,_,_,e15,e16,e17,e18,_⟩:=wdl;by_cases h:st.t.k=4∨st.t.k=5
 . simp only[opM,zff h,e15,e16,e17,e18];by_cases hq:st.t.s.toList=[61]∨st.t.s.toList=[60,62]∨st.t.s.toList=[60]∨st.t.s.toList=[60,61]
   . have h4:st.t.k=4:=by
      rcases h with h|h
      . exact h
      . have:=hT.kw h;unfold zcW at this;rcases hq with hq|hq|hq|hq <;> (rw[hq] at this;exact absurd this (by decide))
     unfold zcn;rw[h4];rcases hq with hq|hq|hq|hq <;> (rw[hq];decide)
   . simp only[not_or] at hq;obtain⟨h1,h2,h3,h4⟩:=hq;unfold zcn;simp[h1,h2,h3,h4]
 . rw[zf1 (by omega) (by omega)]
   have:zcn st.t=false:=by unfold zcn;have:(st.t.k==4)=false:=by simp;omega
                           rw[this];rfl
   rw[this];rfl
theorem zne (HP:zX d 299 part)(GP:zv d part):zX d 291 (zdJ part):=by
 intro S pb st p w hI ho hR;have hlt:=hR.lt;have H1:=za (HP S pb st p w hI ho hR);have g1:=GP st p hI ho;have G1:=za g1.inv;have O1:Hid (18<=(part st).1.op+d):=by unfold Hid;rw[g1.op];exact ho
 have hM:zdJ part st=if (part st).1.er=0/\zcn (part st).1.t=true then (part (part st).1.step).1.put ⟨(part st).1.t.s,(part st).1.t.a,0,[(part st).2,(part (part st).1.step).2],sE,0⟩ else part st:=rfl;generalize part st=x at *;cases Hl:zcn x.1.t with
 | false => have hM2:zdJ part st=x:=(by rw[hM,if_neg (by rw[Hl];simp)]);rw[hM2];go_enter func291,ntmps291;go_wp2_with fail;refine H1.o.mono ?_;rintro e w1 ⟨a1,rfl,HL1,hT1,HF1⟩;have HOp:=za (zbd S pb x.1 w1.heap.size 4 [15,16,17,18] rfl (by decide) (w1.alloc (.cells #[xI 15,xI 16,xI 17,xI 18] 213)) (zcD w1 _ _ _ rfl) (by decide) G1.o.ok.tk (HL1.alloc _));rw[zkz x.1 G1.o.ok.tk HL1.tx,Hl,if_neg (by simp)] at HOp;simp only[opV] at HOp;go_wp2_with (go_at_call 289;refine HOp.o.mono ?_;rintro e w' ⟨rfl,rfl⟩);go_ret;exact⟨a1,rfl,HL1.alloc _,λhe=>(hT1.out he).fr ((Fr.refl (·=pb) w1).alloc _) (λk _ _ _=>by omega),HF1.alloc _⟩
 | true => have Hk4:4<=x.1.t.k:=(by unfold zcn at Hl;simp at Hl;omega);have he:=G1.o.toBad.er (by omega);have hM2:zdJ part st=(part x.1.step).1.put ⟨x.1.t.s,x.1.t.a,0,[x.2,(part x.1.step).2],sE,0⟩:=(by rw[hM,if_pos ⟨he,Hl⟩]);rw[hM2];go_enter func291,ntmps291;go_wp2_with fail;refine H1.o.mono ?_;rintro e w1 ⟨a1,rfl,HL1,hT1,HF1⟩;have HOp:=za (zbd S pb x.1 w1.heap.size 4 [15,16,17,18] rfl (by decide) (w1.alloc (.cells #[xI 15,xI 16,xI 17,xI 18] 213)) (zcD w1 _ _ _ rfl) (by decide) G1.o.ok.tk (HL1.alloc _));rw[zkz x.1 G1.o.ok.tk HL1.tx,Hl,if_pos rfl] at HOp;simp only[opV] at HOp;have hz:=HF1.size;have HBe:=za (zhc zqF HP GP S pb x.1 p (w1.alloc (.cells #[xI 15,xI 16,xI 17,xI 18] 213)) a1 x.2 _ w.heap.size G1.o O1.o Hk4 rfl (HL1.alloc _) (by simp;omega) hlt (λhe=>(hT1.out he).fr ((Fr.refl (·=pb) w1).alloc _) (λk _ _ _=>by omega)));generalize (part x.1.step).1.put ⟨x.1.t.s,x.1.t.a,0,[x.2,(part x.1.step).2],sE,0⟩=y at *;generalize zag x.1.t.s.toList 0=kk at *;go_wp2_with (first|(go_at_call 289;refine HOp.o.mono ?_;rintro e w' ⟨rfl,rfl⟩)|(go_at_call 290;refine HBe.o.mono ?_;rintro e w3 ⟨a3,rfl,HL3,hT3,HF3⟩));go_ret;exact⟨a3,rfl,HL3,hT3,(HF1.alloc _).trans HF3⟩
end
section
variable {st:St}
theorem zd0 (h:st.op=16):st.enter.leave=st.fail 3 st.t.a:=by unfold St.enter St.leave St.fail;rw[if_pos (by omega)];cases st;split <;> simp_all
theorem zoJ (h:st.op<16):st.enter=({ st with op:=st.op+1 }:St).step:=by unfold St.enter;rw[if_neg (by omega)]
theorem ziD (fv:Value)(S:Nat->Addr)(pb:Nat)(st:St)(w:World)(hop:st.op=16)(HR:PL S w pb st) :
 xK 239 #[xP pb,fv] w λe w'=>e=.returned (.tuple #[])/\PL S w' pb (st.fail 3 st.t.a)/\Fr (·=pb) w w':=by
 obtain⟨q0,q1,q2,q3,q4,q5,q6⟩:=HR.cells;have hde:xC w 9 0 (.iface 399 (.pointer (some (S 3)))):=HR.gl.deep;rw[hop] at q5;clear hop;go_enter func239,ntmps239;go_wp2_with (go_at_call 75;refine (zc5 S pb st 3 (by decide) _ HR).mono ?_;rintro e w1 ⟨rfl,HL1,HF1⟩);first|go_end0|refine bodyPost_ret (results_none rfl _ _ _) rfl ?_
 exact⟨rfl,HL1,HF1⟩
theorem zj8 (F:FuncId)(caps:Array Value)(hcf:zH F)(S:Nat->Addr)(pb:Nat)(st:St)(w:World)(hB:Bad st)(Hk:2<=st.t.k)(hop:st.op<16)(hR:PL S w pb st)(R:Ending->World->Prop)
 (Hin:∀w1,PL S w1 pb st.enter->Fr (·=pb) w w1->xK F caps w1 λe w2=>e=.returned (.tuple #[])/\∃st2,PL S w2 pb st2/\1<=st2.op/\st2.op<=100/\∀w3,PL S w3 pb st2.leave->Fr (·=pb) w2 w3->R (.returned (.tuple #[])) w3) :
 xK 239 #[xP pb,.func (.func F) #[] caps] w R:=by
 obtain⟨q0,q1,q2,q3,q4,q5,q6⟩:=hR.cells;have hf:=hR.frozen;have hb16:((st.op:Int)==16)=false:=beq_eq_false_iff_ne.2 (by omega);have HR:=hR.setOp (st.op+1);have ec:((st.op+1:Nat):Int)=(st.op:Int)+1:=by omega
 rw[ec] at HR;have HB:Bad { st with op:=st.op+1 }:=⟨hB.bad,hB.ok.opened (by omega)⟩;have Hs:=zc8 HB (by show st.t.k≠1;omega);rw[<- zoJ hop] at Hs;have Hcf:=za hcf;unfold zH at hcf;clear hR hB ec;go_enter func239,ntmps239;go_wp2_with (go_at_call 190;refine (zb9 S pb { st with op:=st.op+1 } _ HB.ok Hk HR).mono ?_;rintro e w1 ⟨rfl,HL1,hF1⟩;rw[Hs] at HL1;have HF1:Hid (Fr (·=pb) w w1):=((Fr.refl (·=pb) w).set1 _ _).trans hF1;clear hF1);refine (Hin w1 HL1 HF1.o).mono ?_;rintro e w2 ⟨rfl,st2,HL2,ho1,ho2,HR3⟩;obtain⟨r0,r1,r2,r3,r4,r5,r6⟩:=HL2.cells;have rf:=HL2.frozen;go_wp2_with fail;go_end0;refine HR3 _ ?_ ((Fr.refl _ _).set1 _ _);have:=HL2.setOp (st2.op-1);rw[show ((st2.op-1:Nat):Int)=(st2.op:Int)-1 by omega] at this;exact this
theorem zdz (F:FuncId)(caps:Array Value)(hcf:zH F)(S:Nat->Addr)(pb:Nat)(st:St)(p:Nat)(w:World)(hI:Inv p st)(hk:2<=st.t.k)(hR:PL S w pb st)(R:Ending->World->Prop)
 (hin:st.op<16->∀w1,PL S w1 pb st.enter->Fr (·=pb) w w1->xK F caps w1 λe w2=>e=.returned (.tuple #[])/\∃st2,PL S w2 pb st2/\1<=st2.op/\st2.op<=100/\∀w3,PL S w3 pb st2.leave->Fr (·=pb) w2 w3->R (.returned (.tuple #[])) w3)
 (hdeep:st.op=16->∀w3,PL S w3 pb (st.fail 3 st.t.a)->Fr (·=pb) w w3->R (.returned (.tuple #[])) w3) :
 xK 239 #[xP pb,.func (.func F) #[] caps] w R:=by
 have he:=hI.toBad.er (by omega);have h16:=hI.op0 he;rcases Nat.lt_or_ge st.op 16 with h|h
 . exact zj8 F caps hcf S pb st w hI.toBad hk h hR R (hin h)
 . have h':st.op=16:=by omega
   refine (ziD _ S pb st w h' hR).mono ?_;rintro e w1 ⟨rfl,h1,h2⟩;exact hdeep h' w1 h1 h2
end
section
variable {ex:Ex} {L:List Ex} {B b eb g pb y:Nat} {t:TypeId} {u v:Value} {w w' w1:World}
theorem TR.one (hB:B<=b)(hg:B<=g)
 (hb:xH w b #[xI (zag ex.op.toList ex.n:Nat),xI ex.a,.string ex.s,xI ex.nm,xI (zbF ex.op.toList ex.n:Nat),xS g 1 1] 216)
 (hgg:xH w g #[u] 159) (hi:ex.ins=[y]) (hu:TR w B L y u):TR w B (L++[ex]) L.length (xP b):=by
 refine TR.mk L.length ex b _ [u] (by simp) hB hb ⟨by simp,Or.inr ⟨g,1,#[u],rfl,hg,hgg,by simp,by decide,by simp,by simp⟩⟩ (by simp[hi]) ?_;intro i s t hs ht;rw[hi] at hs
 match i with
 | 0=>simp at hs ht;subst hs ht;exact hu.more _
 | i+1=>simp at hs
theorem TR.three {x z:Nat}{t:Value}(hB:B<=b)(hg:B<=g)
 (hb:xH w b #[xI (zag ex.op.toList ex.n:Nat),xI ex.a,.string ex.s,xI ex.nm,xI (zbF ex.op.toList ex.n:Nat),xS g 3 3] 216)
 (hgg:xH w g #[t,u,v] 159) (hi:ex.ins=[x,y,z]) (ht:TR w B L x t) (hu:TR w B L y u) (hv:TR w B L z v):TR w B (L++[ex]) L.length (xP b):=by
 refine TR.mk L.length ex b _ [t,u,v] (by simp) hB hb ⟨by simp,Or.inr ⟨g,3,#[t,u,v],rfl,hg,hgg,by simp,by decide,by simp,by simp⟩⟩ (by simp[hi]) ?_;intro i s q hs hq;rw[hi] at hs
 match i with
 | 0=>simp at hs hq;subst hs hq;exact ht.more _
 | 1=>simp at hs hq;subst hs hq;exact hu.more _
 | 2=>simp at hs hq;subst hs hq;exact hv.more _
 | i+3=>simp at hs
theorem Fr.with2 (h:Fr (·=pb) w w1)(eb i:Nat)(u:Value):Fr (λk=>k=pb∨k=eb) w (w1.setCell (xD eb i) u) :=
 (h.mono (S':=λk=>k=pb∨k=eb) (λ_ _ h=>Or.inl h)).setCell (Or.inl (Or.inr rfl)) u
theorem Fr.drop2 {w0:World}(h0:Fr (·=pb) w w0)(h:Fr (λk=>k=pb∨k=eb) w0 w1)(hn:w.heap.size<=eb):Fr (·=pb) w w1 :=
 h0.trans' h (λi hi hs=>by rcases hs with hs|hs;exact hs;omega)
def Box (w:World)(b:Nat)(t:TypeId)(v:Value):Prop:=w.heap[b]?=some (.cells #[v] t (0,0))
theorem Box.fr (h:Box w b t v)(hf:Fr (·=pb) w w')(hne:¬b=pb):Box w' b t v:=(hf.block b (ze h) hne).trans h
theorem Fr.keep2 (hf:Fr (λk=>k=pb∨k=eb) w w')(h:Box w b t v)(h1:¬b=pb)(h2:¬b=eb):Box w' b t v:=(hf.block b (ze h) (λhs=>hs.elim h1 h2)).trans h
theorem zrv (st:St)(hT:Tx st.src st.t):opM st [10,11]=if st.is 4 [45]=true then some 10 else if st.is 5 [110,111,116]=true then some 11 else none:=by obtain⟨_,_,e10,e11,_⟩:=wdl;simp only[opM,e10,e11];rw[zaB hT (by decide),zar hT (by decide)]
theorem zlC {d:Nat}{ru:Fn}(hU:zX d 308 ru)(S:Nat->Addr)(pb:Nat)(st:St)(p:Nat)(w:World)(bp be eb:Nat)(v0 v1 v2 v3 v4 v5:Value)(hI:Inv p st)(ho:18<=st.op+d)(HR:PL S w pb st)(hbp:Box w bp 136 (xP pb))(Hbe:Box w be 159 (xP eb))(Heb:w.heap[eb]?=some (.cells #[v0,v1,v2,v3,v4,v5] 216 (0,0)))(n1:¬be=pb)(n3:pb<eb) :
 xK 311 #[xP bp,xP be] w λe w'=>e=.returned (.tuple #[])/\∃a g,PL S w' pb (ru st).1/\Hid ((ru st).1.er=0->TR w' w.heap.size (ru st).1.L (ru st).2 (.pointer a)) /\
  w'.heap[eb]?=some (.cells #[v0,v1,v2,v3,v4,xS g 1 1] 216 (0,0))/\w'.heap[g]?=some (.cells #[.pointer a] 159 (0,0))/\w.heap.size<=g/\Fr (λk=>k=pb∨k=eb) w w':=by
 have n2:¬eb=pb:=by omega
 have HU:=za (λw1 h1=>hU S pb st p w1 hI ho h1);obtain⟨c0,cf,cz⟩:=zu hbp;obtain⟨e0,ef,ez⟩:=zu Hbe;have hzb:=ze Heb;have hlt:=HR.lt;clear hI hU hbp;go_enter func311,ntmps311;go_region_with (go_at_call 308;refine (HU.o _ HR.drew).mono ?_;rintro e w1 ⟨a1,rfl,HL1,hT1,hF1'⟩;have HF1:Fr (·=pb) w w1:=hF1'.undrew;have hz1:=HF1.size;have Heb1:=(HF1.block eb hzb n2).trans Heb;obtain⟨d0,d1,d2,d3,d4,d5,df,dz⟩:=zt Heb1;obtain⟨f0,ff,fz⟩:=zu (Hbe.fr HF1 n1);have hlt1:=HL1.lt;clear hF1')
 all_goals go_wp2_with fail
 all_goals go_end0
 all_goals
  have hk5:(w1.setCell (xD eb 5) (xS w1.heap.size 1 1)).heap.size=w1.heap.size:=by simp[World.setCell]
  refine⟨rfl,a1,w1.heap.size,?_,?_,?_,?_,hz1,?_⟩
  . exact (HL1.setOther n3 _ _).alloc _
  . exact λhe=>(hT1.out he).fr (((Fr.refl (·=eb) w1).set1 _ _).alloc _) (λk h1 _ h2=>by have h1':w.heap.size<=k:=h1;omega)
  . exact (Below.heap_alloc _ _ _ (by rw[hk5];exact dz)).trans (zh _ _ _ _ Heb1)
  . have:=zc (w1.setCell (xD eb 5) (xS w1.heap.size 1 1)) (.cells #[.pointer a1] 159);rw[hk5] at this;exact this
  . exact (HF1.with2 eb _ _).alloc _
end
section
variable {d:Nat}
theorem zl9:zH 311:=λ_ _=>by kernel_rfl
theorem zjz {M:Fn}(gM:zv d M){st:St}{p:Nat}(hI:Inv p st)(he:st.er=0)(hk:2<=st.t.k)(ho:18<=st.op+(d+1))(h16:st.op=16):(M st.enter).1.leave=st.fail 3 st.t.a:=by
 have h1:=Fwd.enter hI he hk;have h2:=gM st.enter (p+1) h1.inv (by rw[St.enter_op];omega);have h3:st.enter.er≠0:=by unfold St.enter;rw[if_pos (by omega)];exact St.fail_er _ (by decide)
 rw[h2.er h3,zd0 h16]
theorem zm9 {ru smp:Fn}(HU:zX d 308 ru)(gU:zv d ru)(hS:zX (d+1) 310 smp):zX (d+1) 308 (zdn ru smp):=by
 intro S pb st p w HI ho HR;have hlt:=HR.lt;have HOp:=za (zbd S pb st _ 2 [10,11] rfl (by decide) ((w.alloc (.cells #[xP pb] 136)).alloc (.cells #[xI 10,xI 11] 213)) (zcD _ _ _ _ rfl) (by decide) HI.ok.tk ((HR.alloc _).alloc _));rw[zrv st HR.tx,zsb] at HOp;have hmf:∀(fn:Go.Fn) (first cap:Array Value) (w:World),(Instr.makeFunc fn first cap).run prog w=.ok (.func fn first cap) w:=λ_ _ _ _=>rfl;by_cases hc:(st.is 4 [45]||st.is 5 [110,111,116])=true
 . obtain⟨kk,hkk,Hkl⟩:∃kk,(if st.is 4 [45]=true then some 10 else if st.is 5 [110,111,116]=true then some 11 else none)=some kk/\zag (if st.is 4 [45]=true then zlo else zk5).toList 0=kk:=by
    by_cases h1:st.is 4 [45]=true
    . exact⟨10,by rw[if_pos h1],by rw[if_pos h1];decide +kernel⟩
    . have h2:st.is 5 [110,111,116]=true:=(by simpa [h1] using hc);exact⟨11,by rw[if_neg h1,if_pos h2],by rw[if_neg h1];decide +kernel⟩
   have Hk4:4<=st.t.k:=by
    simp only[Bool.or_eq_true] at hc;rcases hc with h|h
    . rw[Inv.is_k h];omega
    . rw[Inv.is_k h];omega
   have he:=HI.toBad.er (by omega);have hM:zdn ru smp st=(ru st.enter).1.leave.put ⟨if st.is 4 [45]=true then zlo else zk5,st.t.a,0,[(ru st.enter).2],sE,0⟩:=(by unfold zdn;rw[if_pos ⟨he,hc⟩]);rw[hkk] at HOp;simp only[opV] at HOp;rw[hM];generalize (if st.is 4 [45]=true then zlo else zk5)=op at *;have e1:=Fwd.enter HI he (by omega:2<=st.t.k);have HoE:18<=st.enter.op+d:=(by rw[St.enter_op];omega);have HgE:=gU st.enter (p+1) e1.inv HoE;have HD:=za (λh16=>zjz gU HI he (by omega:2<=st.t.k) ho h16);have HE:=za e1.inv;have HB:=za HI.toBad;go_enter func308,ntmps308;go_wp2_with (first|(go_at_call 289;refine HOp.o.mono ?_;rintro e w' ⟨rfl,rfl⟩)|(go_at_call 242;refine (zb8 S pb st kk _ ((HR.alloc _).alloc _)).mono ?_;rintro e w' ⟨rfl,rfl⟩));obtain⟨w0,hw0⟩:∃w0,((((w.alloc (.cells #[xP pb] 136)).alloc (.cells #[xI 10,xI 11] 213)).alloc (.cells #[xI kk,xI st.t.a,.string ⟨#[]⟩,xI 0,xI 0,.slice none 0 0] 216)).alloc (.cells #[xP (w.heap.size+1+1)] 159))=w0:=⟨_,rfl⟩;have b0:Box w0 w.heap.size 136 (xP pb):=(by rw[<- hw0];exact (Below.heap_alloc _ _ _ (by simp;omega)).trans ((Below.heap_alloc _ _ _ (by simp;omega)).trans ((Below.heap_alloc _ _ _ (by simp)).trans (zc w _))));have b2:xH w0 (w.heap.size+1+1) #[xI kk,xI st.t.a,.string ⟨#[]⟩,xI 0,xI 0,.slice none 0 0] 216:=(by rw[<- hw0];refine (Below.heap_alloc _ _ _ (by simp)).trans ?_;have:=zc ((w.alloc (.cells #[xP pb] 136)).alloc (.cells #[xI 10,xI 11] 213)) (.cells #[xI kk,xI st.t.a,.string ⟨#[]⟩,xI 0,xI 0,.slice none 0 0] 216);simpa using this);have b3:Box w0 (w.heap.size+1+1+1) 159 (xP (w.heap.size+1+1)):=(by rw[<- hw0];have:=zc (((w.alloc (.cells #[xP pb] 136)).alloc (.cells #[xI 10,xI 11] 213)).alloc (.cells #[xI kk,xI st.t.a,.string ⟨#[]⟩,xI 0,xI 0,.slice none 0 0] 216)) (.cells #[xP (w.heap.size+1+1)] 159);unfold Box;simpa using this);have hF0:Fr (·=pb) w w0:=(by rw[<- hw0];exact ((((Fr.refl _ w).alloc _).alloc _).alloc _).alloc _);have hL0:PL S w0 pb st:=(by rw[<- hw0];exact (((HR.alloc _).alloc _).alloc _).alloc _);rw[hw0];refine (zdz _ _ zl9 S pb st p w0 HI (Nat.le_trans (by decide) Hk4) hL0 (λe w'=>e=.returned (.tuple #[])/\Box w' (w.heap.size+1+1+1) 159 (xP (w.heap.size+1+1))/\zaW S pb w.heap.size w ((ru st.enter).1.leave.put ⟨op,st.t.a,0,[(ru st.enter).2],sE,0⟩).1 ((ru st.enter).1.leave.put ⟨op,st.t.a,0,[(ru st.enter).2],sE,0⟩).2 (.returned (xP (w.heap.size+1+1))) w') ?_ ?_).mono ?_
   . intro hlt16 w1 hL1 hF1;refine (zlC HU S pb st.enter (p+1) w1 w.heap.size (w.heap.size+1+1+1) (w.heap.size+1+1) _ _ _ _ _ _ HE.o HoE hL1 (b0.fr hF1 (by omega)) (b3.fr hF1 (by omega)) ((hF1.block _ (ze b2) (by omega)).trans b2) (by omega) (by omega)).mono ?_;rintro e w2 ⟨rfl,a2,g,hL2,hT2,hb2,hg2,hzg,hF2⟩;refine⟨rfl,(ru st.enter).1,hL2,by rw[HgE.op,St.enter_op];omega,by rw[HgE.op,St.enter_op];omega,?_⟩;intro w3 hL3 hF3;have hFw:Fr (·=pb) w w3:=(Fr.drop2 (hF0.trans hF1) hF2 (by omega)).trans hF3;have hz1:w0.heap.size<=w1.heap.size:=hF1.size;have hz0:w.heap.size<=w0.heap.size:=hF0.size;refine⟨rfl,Box.fr (Fr.keep2 hF2 (b3.fr hF1 (by omega)) (by omega) (by omega)) hF3 (by omega),_,rfl,hL3.put _,?_,hFw⟩;intro he';have t2:=hT2.out he';refine TR.one (y:=(ru st.enter).2) (g:=g) (u:=.pointer a2) (by omega) (by omega) ?_ ((hF3.block g (ze hg2) (by omega)).trans hg2) rfl ?_
     . show _=some (Obj.cells #[xI (zag op.toList 0:Nat),xI st.t.a,.string ⟨#[]⟩,xI (0:Nat),xI (zbF op.toList 0:Nat),xS g 1 1] 216 (0,0));rw[Hkl,zbK];exact (hF3.block _ (ze hb2) (by omega)).trans hb2
     . exact (t2.fr hF3 (λk h1 _ h2=>by omega)).down (by omega)
   . intro h16 w3 hL3 hF3;rw[HD.o h16];exact⟨rfl,b3.fr hF3 (by omega),_,rfl,hL3.put _,λhe'=>absurd he' (St.fail_er st (by decide)),hF0.trans hF3⟩
   . rintro e w4 ⟨rfl,hb4,HQ⟩;obtain⟨f0,ff,fz⟩:=zu hb4;go_wp2_with fail;go_ret;exact HQ
 . have hM:zdn ru smp st=smp st:=by unfold zdn;rw[if_neg (λh=>hc h.2)]
   have hn:(if st.is 4 [45]=true then some 10 else if st.is 5 [110,111,116]=true then some 11 else none)=(none:Option Nat):=(by simp only[Bool.or_eq_true,not_or] at hc;rw[if_neg hc.1,if_neg hc.2]);rw[hn] at HOp;simp only[opV] at HOp;rw[hM];have H1:=za (hS S pb st p ((w.alloc (.cells #[xP pb] 136)).alloc (.cells #[xI 10,xI 11] 213)) HI ho ((HR.alloc _).alloc _));generalize smp st=R at *;go_enter func308,ntmps308;go_wp2_with (go_at_call 289;refine HOp.o.mono ?_;rintro e w' ⟨rfl,rfl⟩);refine H1.o.mono ?_;rintro e w1 h1;obtain⟨a,rfl,h2,h3,h4⟩:=(h1.alloc (zaF _ _)).alloc (zaF _ _);go_wp2_with fail;go_ret;exact⟨a,rfl,h2,h3,h4⟩
end
section
variable {rx:Fn} {a d e:Nat}
theorem St.fail_fail (s:St){e' a':Nat}(he:e≠0):(s.fail e a).fail e' a'=s.fail e a:=by unfold St.fail;by_cases h:s.er=0 <;> simp[h,he]
theorem St.fail_must (s:St){k:Nat}{l:List UInt8}(he:e≠0)(hk:k≠1):(s.fail e a).must k l=s.fail e a:=by
 unfold St.must;have:(s.fail e a).is k l=false:=by
  unfold St.is;have:(s.fail e a).t.k=1:=by unfold St.fail;split <;> rfl
  rw[this];have h1:((1:Nat)==k)=false:=by simp;omega
  rw[h1];rfl
 rw[this];exact St.fail_fail s he
theorem St.enter_deep {s:St}(h:s.op=16):s.enter=({ s with op:=s.op+1 }:St).fail 3 s.t.a:=by unfold St.enter;rw[if_pos (by omega)]
theorem zl4:zH 323:=λ_ _=>by kernel_rfl
theorem zlq:(⟨#[41]⟩:ByteArray).toList=[41]:=by decide +kernel
theorem zlw (hX:zX d 194 rx)(gX:zv d rx)(S:Nat->Addr)(pb:Nat)(st:St)(p:Nat)(w:World)(bp be:Nat)(v:Value)(hI:Inv p st)(ho:18<=st.op+d)(hR:PL S w pb st)(Hbp:Box w bp 136 (xP pb))(Hbe:Box w be 159 v)(n1:pb<be)(n2:¬bp=pb)(n3:¬bp=be) :
 xK 323 #[xP bp,xP be] w λe w'=>e=.returned (.tuple #[])/\∃a,Box w' be 159 (.pointer a)/\PL S w' pb ((rx st).1.must 4 [41])/\Hid (((rx st).1.must 4 [41]).er=0->TR w' w.heap.size (rx st).1.L (rx st).2 (.pointer a))/\Fr (λk=>k=pb∨k=be) w w':=by
 have H1:=za (hX S pb st p w hI ho hR);have g1:=gX st p hI ho;have HB1:=za g1.inv.toBad;obtain⟨c0,cf,cz⟩:=zu Hbp;have hze:=ze Hbe;have hlt:=hR.lt;generalize rx st=y at *;go_enter func323,ntmps323;go_wp2_with fail;refine H1.o.mono ?_;rintro e w1 ⟨a1,rfl,HL1,hT1,HF1⟩;have hz1:=HF1.size;have hbp1:=Hbp.fr HF1 n2;have Hbe1:=Hbe.fr HF1 (by omega);obtain⟨d0,df,dz⟩:=zu hbp1;obtain⟨f0,ff,fz⟩:=zu Hbe1;go_wp2_with (go_at_call 134;refine (zP S pb y.1 _ [41] zlq _ HB1.o (HL1.setOther n1 _ _)).mono ?_;rintro e w2 ⟨rfl,HL2,HF2⟩);go_end0;have hm:y.1.expM [41]=y.1.must 4 [41]:=zan HL1.tx (by decide);have hb2:Box (w1.setCell (xD be 0) (.pointer a1)) be 159 (.pointer a1):=zh _ _ _ _ Hbe1;refine⟨rfl,a1,hb2.fr HF2 (by omega),hm▸HL2,?_,?_⟩
 . intro he;have he1:y.1.er=0:=by
    by_cases h:y.1.er=0
    . exact h
    . exfalso;revert he;unfold St.must;split
      . rw[St.step_er];exact h
      . exact λhe=>St.fail_er _ (by decide) he
   exact ((hT1.out he1).fr ((Fr.refl (·=be) w1).set1 _ _) (λk h1 _ h2=>by omega)).fr HF2 (λk h1 _ h2=>by omega)
 . exact (HF1.with2 be _ _).trans (HF2.mono (λ_ _ h=>Or.inl h))
theorem zme (HX:zX d 194 rx)(GX:zv d rx)(S:Nat->Addr)(pb:Nat)(st:St)(p:Nat)(w:World)(HI:Inv p st)(hk:2<=st.t.k)(ho:18<=st.op+(d+1))(HR:PL S w pb st) :
 xK 320 #[xP pb] w (zaW S pb w.heap.size w (zfQ rx st).1 (zfQ rx st).2):=by
 have hlt:=HR.lt;have hmf:∀(fn:Go.Fn) (first cap:Array Value) (w:World),(Instr.makeFunc fn first cap).run prog w=.ok (.func fn first cap) w:=λ_ _ _ _=>rfl;have he:=HI.toBad.er (by omega);have e1:=Fwd.enter HI he hk;have HoE:18<=st.enter.op+d:=by rw[St.enter_op];omega
 have HgE:=GX st.enter (p+1) e1.inv HoE;have HD:Hid (st.op=16->((rx st.enter).1.must 4 [41]).leave=st.fail 3 st.t.a):=by
  intro h16;have h3:st.enter.er≠0:=by unfold St.enter;rw[if_pos (by omega)];exact St.fail_er _ (by decide)
  rw[HgE.er h3];have h4:st.enter.must 4 [41]=st.enter:=by rw[St.enter_deep h16];exact St.fail_must _ (by decide) (by decide)
  rw[h4,zd0 h16]
 show Calls _ _ _ _ (zaW S pb w.heap.size w ((rx st.enter).1.must 4 [41]).leave (rx st.enter).2);have HE:=za e1.inv;go_enter func320,ntmps320;go_wp2_with fail;obtain⟨w0,hw0⟩:∃w0,((w.alloc (.cells #[xP pb] 136)).alloc (.cells #[.pointer none] 159))=w0:=⟨_,rfl⟩;have b0:Box w0 w.heap.size 136 (xP pb):=by rw[<- hw0];exact (Below.heap_alloc _ _ _ (by simp)).trans (zc w _)
 have b1:Box w0 (w.heap.size+1) 159 (.pointer none):=by rw[<- hw0];have:=zc (w.alloc (.cells #[xP pb] 136)) (.cells #[.pointer none] 159);unfold Box;simpa using this
 have hF0:Fr (·=pb) w w0:=by rw[<- hw0];exact ((Fr.refl _ w).alloc _).alloc _
 have hL0:PL S w0 pb st:=by rw[<- hw0];exact (HR.alloc _).alloc _
 rw[hw0];refine (zdz _ _ zl4 S pb st p w0 HI hk hL0 (λe w'=>e=.returned (.tuple #[])/\∃a,Box w' (w.heap.size+1) 159 (.pointer a)/\zaW S pb w.heap.size w ((rx st.enter).1.must 4 [41]).leave (rx st.enter).2 (.returned (.pointer a)) w') ?_ ?_).mono ?_
 . intro hlt16 w1 hL1 hF1;refine (zlw HX GX S pb st.enter (p+1) w1 w.heap.size (w.heap.size+1) _ HE.o HoE hL1 (b0.fr hF1 (by omega)) (b1.fr hF1 (by omega)) (by omega) (by omega) (by omega)).mono ?_;rintro e w2 ⟨rfl,a2,hb2,hL2,hT2,hF2⟩;refine⟨rfl,(rx st.enter).1.must 4 [41],hL2,by rw[St.must_op,HgE.op,St.enter_op];omega,by rw[St.must_op,HgE.op,St.enter_op];omega,?_⟩;intro w3 hL3 hF3;have hFw:Fr (·=pb) w w3:=(Fr.drop2 (hF0.trans hF1) hF2 (by omega)).trans hF3;have hz1:w0.heap.size<=w1.heap.size:=hF1.size;have hz0:w.heap.size<=w0.heap.size:=hF0.size;refine⟨rfl,a2,hb2.fr hF3 (by omega),a2,rfl,hL3,?_,hFw⟩;intro he';have t2:=hT2.out he';have hLL:((rx st.enter).1.must 4 [41]).leave.L=(rx st.enter).1.L:=St.must_L _ _ _;rw[hLL];exact (t2.fr hF3 (λk h1 _ h2=>by omega)).down (by omega)
 . intro h16 w3 hL3 hF3;rw[HD.o h16];exact⟨rfl,none,b1.fr hF3 (by omega),none,rfl,hL3,λhe'=>absurd he' (St.fail_er st (by decide)),hF0.trans hF3⟩
 . rintro e w4 ⟨rfl,a4,hb4,HQ⟩;obtain⟨f0,ff,fz⟩:=zu hb4;go_wp2_with fail;go_ret;exact HQ
end
section
theorem znA:zH 243:=λ_ _=>by kernel_rfl
theorem zo8:(⟨#[102,98,121]⟩:ByteArray).toList=[102,98,121]:=by decide +kernel
theorem zmP {d:Nat}{rx:Fn}(hX:zX d 194 rx)(S:Nat->Addr)(pb:Nat)(st:St)(p:Nat)(w:World)(bf bp be eb:Nat)(a0:Option Addr)(v0 v1 v2 v3 v4 v5:Value)(hI:Inv p st)(ho:18<=st.op+d)(HR:PL S w pb st)(Hbf:Box w bf 159 (.pointer a0))(hbp:Box w bp 136 (xP pb))(Hbe:Box w be 159 (xP eb))(Heb:w.heap[eb]?=some (.cells #[v0,v1,v2,v3,v4,v5] 216 (0,0)))(n0:¬bf=pb)(n1:¬be=pb)(n3:pb<eb) :
 xK 243 #[xP bf,xP bp,xP be] w λe w'=>e=.returned (.tuple #[])/\∃a g,PL S w' pb (rx st).1/\Hid ((rx st).1.er=0->TR w' w.heap.size (rx st).1.L (rx st).2 (.pointer a)) /\
  w'.heap[eb]?=some (.cells #[v0,v1,v2,v3,v4,xS g 2 2] 216 (0,0))/\w'.heap[g]?=some (.cells #[.pointer a0,.pointer a] 159 (0,0))/\w.heap.size<=g/\Fr (λk=>k=pb∨k=eb) w w':=by
 have n2:¬eb=pb:=by omega
 have HU:=za (λw1 h1=>hX S pb st p w1 hI ho h1);obtain⟨g0,gf,gz⟩:=zu Hbf;obtain⟨c0,cf,cz⟩:=zu hbp;obtain⟨e0,ef,ez⟩:=zu Hbe;have hzb:=ze Heb;have hlt:=HR.lt;clear hI hX hbp;generalize rx st=y at *;go_enter func243,ntmps243;go_region_with (go_at_call 194;refine (HU.o _ HR.drew).mono ?_;rintro e w1 ⟨a1,rfl,HL1,hT1,hF1'⟩;have HF1:Fr (·=pb) w w1:=hF1'.undrew;have hz1:=HF1.size;have Heb1:=(HF1.block eb hzb n2).trans Heb;obtain⟨d0,d1,d2,d3,d4,d5,df,dz⟩:=zt Heb1;obtain⟨f0,ff,fz⟩:=zu (Hbe.fr HF1 n1);obtain⟨i0,if',iz⟩:=zu (Hbf.fr HF1 n0);have hlt1:=HL1.lt;clear hF1')
 all_goals go_wp2_with fail
 all_goals go_end0
 all_goals
  have hk5:(w1.setCell (xD eb 5) (xS w1.heap.size 2 2)).heap.size=w1.heap.size:=by simp[World.setCell]
  refine⟨rfl,a1,w1.heap.size,?_,?_,?_,?_,hz1,?_⟩
  . exact (HL1.setOther n3 _ _).alloc _
  . exact λhe=>(hT1.out he).fr (((Fr.refl (·=eb) w1).set1 _ _).alloc _) (λk h1 _ h2=>by have h1':w.heap.size<=k:=h1;omega)
  . exact (Below.heap_alloc _ _ _ (by rw[hk5];exact dz)).trans (zh _ _ _ _ Heb1)
  . have:=zc (w1.setCell (xD eb 5) (xS w1.heap.size 2 2)) (.cells #[.pointer a0,.pointer a1] 159);rw[hk5] at this;exact this
  . exact (HF1.with2 eb _ _).alloc _
theorem zrL:zag zgW.toList 0=9:=by decide +kernel
theorem zoz {d:Nat}{rx eith:Fn}(HX:zX d 194 rx)(GX:zv d rx)(hE:zX (d+1) 241 eith)(gE:zv (d+1) eith):zX (d+1) 194 (zgk rx eith):=by
 intro S pb st p w hI ho hR;have hlt:=hR.lt;have hmf:∀(fn:Go.Fn) (first cap:Array Value) (w:World),(Instr.makeFunc fn first cap).run prog w=.ok (.func fn first cap) w:=λ_ _ _ _=>rfl;have g1:=gE st p hI ho;have H1:=za (hE S pb st p (w.alloc (.cells #[xP pb] 136)) hI ho (hR.alloc _));have hM:zgk rx eith st=if (eith st).1.er=0/\(eith st).1.is 5 [102,98,121]=true then (rx (eith st).1.enter).1.leave.put ⟨zgW,(eith st).1.t.a,0,[(eith st).2,(rx (eith st).1.enter).2],sE,0⟩ else eith st:=rfl;have G1:=za g1.inv;have O1:Hid (18<=(eith st).1.op+(d+1)):=by unfold Hid;rw[g1.op];exact ho
 generalize eith st=x at *;cases Hc:x.1.is 5 [102,98,121] with
 | false => rw[hM,if_neg (by rw[Hc];simp)];go_enter func194,ntmps194;go_wp2_with fail;refine H1.o.mono ?_;rintro e w1 h1;obtain⟨a0,e0,_,_,hFa⟩:=id h1;have hz1:=hFa.size;have hz1':w.heap.size<w1.heap.size:=(by simp at hz1;omega);have Hb0:Box w1 w.heap.size 136 (xP pb):=(hFa.block _ (by simp) (by omega)).trans (zc w _);obtain⟨p0,pf,pz⟩:=zu Hb0;obtain⟨a1,rfl,HL1,hT1,HF1⟩:=h1.alloc (zaF _ _);have HA:=za (zaP S pb x.1 ⟨#[102,98,121]⟩ _ zo8 (w1.alloc (.cells #[.pointer a1] 159)) G1.o.ok.tk (HL1.alloc _));rw[zar HL1.tx (by decide),Hc] at HA;have hlt1:=HL1.lt;go_wp2_with (go_at_call 73;refine HA.o.mono ?_;rintro e w' ⟨rfl,rfl⟩);go_ret;exact⟨a1,rfl,HL1.alloc _,λhe=>(hT1.out he).fr ((Fr.refl (·=pb) w1).alloc _) (λk _ _ _=>by omega),HF1.alloc _⟩
 | true =>
   have Hk5:x.1.t.k=5:=Inv.is_k Hc;have he:=G1.o.toBad.er (by omega);rw[hM,if_pos ⟨he,Hc⟩];have e1:=Fwd.enter G1.o he (by omega:2<=x.1.t.k);have HoE:18<=x.1.enter.op+d:=(by rw[St.enter_op];have:=O1.o;omega);have gE2:=GX x.1.enter (p+1) e1.inv HoE;obtain⟨E,HEL⟩:=gE2.L;rw[St.enter_L] at HEL;have HEr:=za (λ(h:(rx x.1.enter).1.er=0)=>(show x.1.er=0 from he));have HD:=za (λh16=>zjz GX G1.o he (by omega:2<=x.1.t.k) O1.o h16);have HgO:=za gE2.op;have HE:=za e1.inv;go_enter func194,ntmps194;go_wp2_with fail;refine H1.o.mono ?_;rintro e w1 ⟨a1,rfl,HL1,hT1,HF1⟩;have hz1:=HF1.size;have hz1':w.heap.size<w1.heap.size:=(by simp at hz1;omega);have hz2':w.heap.size<w1.heap.size+1:=(by omega);have hz3':w.heap.size<w1.heap.size+1+1:=(by omega);have Hb0:Box w1 w.heap.size 136 (xP pb):=(HF1.block _ (by simp) (by omega)).trans (zc w _);obtain⟨p0,pf,pz⟩:=zu Hb0;have HA:=za (zaP S pb x.1 ⟨#[102,98,121]⟩ _ zo8 (w1.alloc (.cells #[.pointer a1] 159)) G1.o.ok.tk (HL1.alloc _));rw[zar HL1.tx (by decide),Hc] at HA;have hlt1:=HL1.lt;go_wp2_with (first|(go_at_call 73;refine HA.o.mono ?_;rintro e w' ⟨rfl,rfl⟩)|(go_at_call 242;refine (zb8 S pb x.1 9 _ (HL1.alloc _)).mono ?_;rintro e w' ⟨rfl,rfl⟩));obtain⟨w0,hw0⟩:∃w0,(((w1.alloc (.cells #[.pointer a1] 159)).alloc (.cells #[xI 9,xI x.1.t.a,.string ⟨#[]⟩,xI 0,xI 0,.slice none 0 0] 216)).alloc (.cells #[xP (w1.heap.size+1)] 159))=w0:=⟨_,rfl⟩;have b0:Box w0 w.heap.size 136 (xP pb):=(by rw[<- hw0];exact (Below.heap_alloc _ _ _ (by simp;omega)).trans ((Below.heap_alloc _ _ _ (by simp;omega)).trans ((Below.heap_alloc _ _ _ hz1').trans Hb0)));have b1:Box w0 w1.heap.size 159 (.pointer a1):=(by rw[<- hw0];exact (Below.heap_alloc _ _ _ (by simp;omega)).trans ((Below.heap_alloc _ _ _ (by simp)).trans (zc w1 _)));have b2:xH w0 (w1.heap.size+1) #[xI 9,xI x.1.t.a,.string ⟨#[]⟩,xI 0,xI 0,.slice none 0 0] 216:=(by rw[<- hw0];refine (Below.heap_alloc _ _ _ (by simp)).trans ?_;have:=zc (w1.alloc (.cells #[.pointer a1] 159)) (.cells #[xI 9,xI x.1.t.a,.string ⟨#[]⟩,xI 0,xI 0,.slice none 0 0] 216);simpa using this);have b3:Box w0 (w1.heap.size+1+1) 159 (xP (w1.heap.size+1)):=(by rw[<- hw0];have:=zc ((w1.alloc (.cells #[.pointer a1] 159)).alloc (.cells #[xI 9,xI x.1.t.a,.string ⟨#[]⟩,xI 0,xI 0,.slice none 0 0] 216)) (.cells #[xP (w1.heap.size+1)] 159);unfold Box;simpa using this);have hF01:Fr (·=pb) w1 w0:=(by rw[<- hw0];exact (((Fr.refl _ w1).alloc _).alloc _).alloc _);have hF0:Fr (·=pb) w w0:=(((Fr.refl _ w).alloc _).trans HF1).trans hF01;have hL0:PL S w0 pb x.1:=(by rw[<- hw0];exact ((HL1.alloc _).alloc _).alloc _);rw[hw0];refine (zdz _ _ znA S pb x.1 p w0 G1.o (by rw[Hk5];decide) hL0 (λe w'=>e=.returned (.tuple #[])/\Box w' (w1.heap.size+1+1) 159 (xP (w1.heap.size+1))/\zaW S pb w.heap.size w ((rx x.1.enter).1.leave.put ⟨zgW,x.1.t.a,0,[x.2,(rx x.1.enter).2],sE,0⟩).1 ((rx x.1.enter).1.leave.put ⟨zgW,x.1.t.a,0,[x.2,(rx x.1.enter).2],sE,0⟩).2 (.returned (xP (w1.heap.size+1))) w') ?_ ?_).mono ?_
   . intro hlt16 w2 hL2 hF2;refine (zmP HX S pb x.1.enter (p+1) w2 w1.heap.size w.heap.size (w1.heap.size+1+1) (w1.heap.size+1) a1 _ _ _ _ _ _ HE.o HoE hL2 (b1.fr hF2 (by omega)) (b0.fr hF2 (by omega)) (b3.fr hF2 (by omega)) ((hF2.block _ (ze b2) (by omega)).trans b2) (by omega) (by omega) (by omega)).mono ?_;rintro e w3 ⟨rfl,a3,g,hL3,hT3,hb3,hg3,hzg,hF3⟩;refine⟨rfl,(rx x.1.enter).1,hL3,by rw[HgO.o,St.enter_op];omega,by rw[HgO.o,St.enter_op];omega,?_⟩;intro w4 hL4 hF4;have hFw:Fr (·=pb) w w4:=(Fr.drop2 (hF0.trans hF2) hF3 (by omega)).trans hF4;have hFw1:Fr (·=pb) w1 w4:=(Fr.drop2 (hF01.trans hF2) hF3 (by omega)).trans hF4;have hz02:w0.heap.size<=w2.heap.size:=hF2.size;have hz01:w1.heap.size<=w0.heap.size:=hF01.size;refine⟨rfl,Box.fr (Fr.keep2 hF3 (b3.fr hF2 (by omega)) (by omega) (by omega)) hF4 (by omega),_,rfl,hL4.put _,?_,hFw⟩;intro he';have t3:=hT3.out he';have t1:=hT1.out (HEr.o he');refine TR.two (y:=x.2) (z:=(rx x.1.enter).2) (g:=g) (u:=.pointer a1) (v:=.pointer a3) (by omega) (by omega) ?_ ((hF4.block g (ze hg3) (by omega)).trans hg3) rfl ?_ ?_
     . show _=some (Obj.cells #[xI (zag zgW.toList 0:Nat),xI x.1.t.a,.string ⟨#[]⟩,xI (0:Nat),xI (zbF zgW.toList 0:Nat),xS g 2 2] 216 (0,0));rw[zrL,zbK];exact (hF4.block _ (ze hb3) (by omega)).trans hb3
     . show TR w4 w.heap.size (rx x.1.enter).1.L x.2 (.pointer a1);rw[HEL];exact ((t1.down (zaF _ _)).fr hFw1 (λk h1 _ h2=>by omega)).more E
     . exact (t3.fr hF4 (λk h1 _ h2=>by omega)).down (by omega)
   . intro h16 w3 hL3 hF3;rw[HD.o h16];exact⟨rfl,b3.fr hF3 (by omega),_,rfl,hL3.put _,λhe'=>absurd he' (St.fail_er x.1 (by decide)),hF0.trans hF3⟩
   . rintro e w4 ⟨rfl,hb4,HQ⟩;obtain⟨f0,ff,fz⟩:=zu hb4;go_wp2_with fail;go_ret;exact HQ
end
end Go.Proofs.YtmfkofhgdjechaaGreatDoor
