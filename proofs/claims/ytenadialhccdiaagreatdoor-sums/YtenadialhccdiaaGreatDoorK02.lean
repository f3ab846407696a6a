/- Part 3. -/
import Derived.Test.YtenadialhccdiaaGreatDoorK01
set_option maxRecDepth 100000
set_option maxHeartbeats 8000000
namespace Go.Proofs.YtenadialhccdiaaGreatDoor
open Go.Proofs.Tryz
open Go.RowKit
section
variable {st:St}
theorem zd0 (h:st.op=16):st.enter.leave=st.fail 3 st.t.a:=by unfold St.enter St.leave St.fail;rw[zM2 (by omega)];cases st;split <;> simp_all
theorem zoJ (h:st.op<16):st.enter=({ st with op:=st.op+1 }:St).step:=by unfold St.enter;rw[zM1 (by omega)]
theorem ziD (fv:Xv)(S:Xs)(pb:Nat)(st:St)(w:Xw)(hop:st.op=16)(HR:PL S w pb st) :
 xK 168 #[xP pb,fv] w λe w'=>e=.returned (.tuple #[])/\PL S w' pb (st.fail 3 st.t.a)/\Fr (·=pb) w w':=by
 obtain⟨q0,q1,q2,q3,q4,q5,q6⟩:=HR.cells;have hde:xC w 9 0 (.iface 290 (.pointer (some (S 3)))):=HR.gl.deep;rw[hop] at q5;clear hop;go_enter func168,ntmps168;go_wp2_with (go_at_call 87;refine (zc5 S pb st 3 (by decide) _ HR).mono ?_;rintro e w1 ⟨rfl,HL1,HF1⟩);first|go_end0|refine zWR (results_none rfl _ _ _) rfl ?_
 exact⟨rfl,HL1,HF1⟩
theorem zj8 (F:FuncId)(caps:Xa)(hcf:zH F)(S:Xs)(pb:Nat)(st:St)(w:Xw)(hB:Bad st)(Hk:2<=st.t.k)(hop:st.op<16)(hR:PL S w pb st)(R:Ending->World->Prop)
 (Hin:∀w1,PL S w1 pb st.enter->Fr (·=pb) w w1->xK F caps w1 λe w2=>e=.returned (.tuple #[])/\∃st2,PL S w2 pb st2/\1<=st2.op/\st2.op<=100/\∀w3,PL S w3 pb st2.leave->Fr (·=pb) w2 w3->R (.returned (.tuple #[])) w3) :
 xK 168 #[xP pb,.func (.func F) #[] caps] w R:=by
 obtain⟨q0,q1,q2,q3,q4,q5,q6⟩:=hR.cells;have hf:=hR.frozen;have hb16:((st.op:Int)==16)=false:=zM0.2 (by omega);have HR:=hR.setOp (st.op+1);have ec:((st.op+1:Nat):Int)=(st.op:Int)+1:=by omega
 rw[ec] at HR;have HB:Bad { st with op:=st.op+1 }:=⟨hB.bad,hB.ok.opened (by omega)⟩;have Hs:=zc8 HB (by show st.t.k≠1;omega);rw[<- zoJ hop] at Hs;have Hcf:=za hcf;unfold zH at hcf;clear hR hB ec;go_enter func168,ntmps168;go_wp2_with (go_at_call 155;refine (zb9 S pb { st with op:=st.op+1 } _ HB.ok Hk HR).mono ?_;rintro e w1 ⟨rfl,HL1,hF1⟩;rw[Hs] at HL1;have HF1:Hid (Fr (·=pb) w w1):=((Fr.refl (·=pb) w).set1 _ _).trans hF1;clear hF1);refine (Hin w1 HL1 HF1.o).mono ?_;rintro e w2 ⟨rfl,st2,HL2,ho1,ho2,HR3⟩;obtain⟨r0,r1,r2,r3,r4,r5,r6⟩:=HL2.cells;have rf:=HL2.frozen;go_wp2_with fail;go_end0;refine HR3 _ ?_ ((Fr.refl _ _).set1 _ _);have:=HL2.setOp (st2.op-1);rw[show ((st2.op-1:Nat):Int)=(st2.op:Int)-1 by omega] at this;exact this
theorem zdz (F:FuncId)(caps:Xa)(hcf:zH F)(S:Xs)(pb:Nat)(st:St)(p:Nat)(w:Xw)(hI:Inv p st)(hk:2<=st.t.k)(hR:PL S w pb st)(R:Ending->World->Prop)
 (hin:st.op<16->∀w1,PL S w1 pb st.enter->Fr (·=pb) w w1->xK F caps w1 λe w2=>e=.returned (.tuple #[])/\∃st2,PL S w2 pb st2/\1<=st2.op/\st2.op<=100/\∀w3,PL S w3 pb st2.leave->Fr (·=pb) w2 w3->R (.returned (.tuple #[])) w3)
 (hdeep:st.op=16->∀w3,PL S w3 pb (st.fail 3 st.t.a)->Fr (·=pb) w w3->R (.returned (.tuple #[])) w3) :
 xK 168 #[xP pb,.func (.func F) #[] caps] w R:=by
 have he:=hI.toBad.er (by omega);have h16:=hI.op0 he;rcases Nat.lt_or_ge st.op 16 with h|h
 . exact zj8 F caps hcf S pb st w hI.toBad hk h hR R (hin h)
 have h':st.op=16:=by omega
 refine (ziD _ S pb st w h' hR).mono ?_;rintro e w1 ⟨rfl,h1,h2⟩;exact hdeep h' w1 h1 h2
end
section
variable {ex:Ex} {L:List Ex} {B b eb g pb y:Nat} {t:Xy} {u v:Xv} {w w' w1:Xw}
theorem TR.one (hB:B<=b)(hg:B<=g)
 (hb:xH w b #[xI (zag ex.op.toList ex.n:Nat),xI ex.a,.string ex.s,xI ex.nm,xI (zbF ex.op.toList ex.n:Nat),xS g 1 1] 198)
 (hgg:xH w g #[u] 156) (hi:ex.ins=[y]) (hu:TR w B L y u):TR w B (L++[ex]) L.length (xP b):=by
 refine TR.mk L.length ex b _ [u] (by simp) hB hb ⟨by simp,zM4 ⟨g,1,#[u],rfl,hg,hgg,by simp,by decide,by simp,by simp⟩⟩ (by simp[hi]) ?_;intro i s t hs ht;rw[hi] at hs
 match i with
 | 0=>simp at hs ht;subst hs ht;exact hu.more _
 | i+1=>simp at hs
theorem TR.three {x z:Nat}{t:Xv}(hB:B<=b)(hg:B<=g)
 (hb:xH w b #[xI (zag ex.op.toList ex.n:Nat),xI ex.a,.string ex.s,xI ex.nm,xI (zbF ex.op.toList ex.n:Nat),xS g 3 3] 198)
 (hgg:xH w g #[t,u,v] 156) (hi:ex.ins=[x,y,z]) (ht:TR w B L x t) (hu:TR w B L y u) (hv:TR w B L z v):TR w B (L++[ex]) L.length (xP b):=by
 refine TR.mk L.length ex b _ [t,u,v] (by simp) hB hb ⟨by simp,zM4 ⟨g,3,#[t,u,v],rfl,hg,hgg,by simp,by decide,by simp,by simp⟩⟩ (by simp[hi]) ?_;intro i s q hs hq;rw[hi] at hs
 match i with
 | 0=>simp at hs hq;subst hs hq;exact ht.more _
 | 1=>simp at hs hq;subst hs hq;exact hu.more _
 | 2=>simp at hs hq;subst hs hq;exact hv.more _
 | i+3=>simp at hs
theorem Fr.with2 (h:Fr (·=pb) w w1)(eb i:Nat)(u:Xv):Fr (λk=>k=pb∨k=eb) w (w1.setCell (xD eb i) u) :=
 (h.mono (S':=λk=>k=pb∨k=eb) (λ_ _ h=>zM3 h)).setCell (zM3 (zM4 rfl)) u
theorem Fr.drop2 {w0:Xw}(h0:Fr (·=pb) w w0)(h:Fr (λk=>k=pb∨k=eb) w0 w1)(hn:w.heap.size<=eb):Fr (·=pb) w w1 :=
 h0.trans' h (λi hi hs=>by rcases hs with hs|hs;exact hs;omega)
def Box (w:Xw)(b:Nat)(t:Xy)(v:Xv):Prop:=w.heap[b]?=some (.cells #[v] t (0,0))
theorem Box.fr (h:Box w b t v)(hf:Fr (·=pb) w w')(hne:¬b=pb):Box w' b t v:=(hf.block b (ze h) hne).trans h
theorem Fr.keep2 (hf:Fr (λk=>k=pb∨k=eb) w w')(h:Box w b t v)(h1:¬b=pb)(h2:¬b=eb):Box w' b t v:=(hf.block b (ze h) (λhs=>hs.elim h1 h2)).trans h
theorem zrv (st:St)(hT:Tx st.src st.t):opM st [10,11]=if st.is 4 [45]=true then some 10 else if st.is 5 [110,111,116]=true then some 11 else none:=by obtain⟨_,_,e10,e11,_⟩:=wdl;simp only[opM,e10,e11];rw[zaB hT (by decide),zar hT (by decide)]
theorem zlC {d:Nat}{ru:Fn}(hU:zX d 198 ru)(S:Xs)(pb:Nat)(st:St)(p:Nat)(w:Xw)(bp be eb:Nat)(v0 v1 v2 v3 v4 v5:Xv)(hI:Inv p st)(ho:18<=st.op+d)(HR:PL S w pb st)(hbp:Box w bp 181 (xP pb))(Hbe:Box w be 156 (xP eb))(Heb:w.heap[eb]?=some (.cells #[v0,v1,v2,v3,v4,v5] 198 (0,0)))(n1:¬be=pb)(n3:pb<eb) :
 xK 202 #[xP bp,xP be] w λe w'=>e=.returned (.tuple #[])/\∃a g,PL S w' pb (ru st).1/\Hid ((ru st).1.er=0->TR w' w.heap.size (ru st).1.L (ru st).2 (.pointer a)) /\
  w'.heap[eb]?=some (.cells #[v0,v1,v2,v3,v4,xS g 1 1] 198 (0,0))/\w'.heap[g]?=some (.cells #[.pointer a] 156 (0,0))/\w.heap.size<=g/\Fr (λk=>k=pb∨k=eb) w w':=by
 have n2:¬eb=pb:=by omega
 have HU:=za (λw1 h1=>hU S pb st p w1 hI ho h1);obtain⟨c0,cf,cz⟩:=zu hbp;obtain⟨e0,ef,ez⟩:=zu Hbe;have hzb:=ze Heb;have hlt:=HR.lt;clear hI hU hbp;go_enter func202,ntmps202;go_region_with (go_at_call 198;refine (HU.o _ HR.drew).mono ?_;rintro e w1 ⟨a1,rfl,HL1,hT1,hF1'⟩;have HF1:Fr (·=pb) w w1:=hF1'.undrew;have hz1:=HF1.size;have Heb1:=(HF1.block eb hzb n2).trans Heb;obtain⟨d0,d1,d2,d3,d4,d5,df,dz⟩:=zt Heb1;obtain⟨f0,ff,fz⟩:=zu (Hbe.fr HF1 n1);have hlt1:=HL1.lt;clear hF1')
 all_goals go_wp2_with fail
 all_goals go_end0
 all_goals
  have hk5:(w1.setCell (xD eb 5) (xS w1.heap.size 1 1)).heap.size=w1.heap.size:=by simp[World.setCell]
  refine⟨rfl,a1,w1.heap.size,?_,?_,?_,?_,hz1,?_⟩
  . exact (HL1.setOther n3 _ _).alloc _
  . exact λhe=>(hT1.out he).fr (((Fr.refl (·=eb) w1).set1 _ _).alloc _) (λk h1 _ h2=>by have h1':w.heap.size<=k:=h1;omega)
  . exact (zWP _ _ _ (by rw[hk5];exact dz)).trans (zh _ _ _ _ Heb1)
  . have:=zc (w1.setCell (xD eb 5) (xS w1.heap.size 1 1)) (.cells #[.pointer a1] 156);rw[hk5] at this;exact this
  exact (HF1.with2 eb _ _).alloc _
end
section
variable {d:Nat}
theorem zl9:zH 202:=λ_ _=>by kernel_rfl
theorem zjz {M:Fn}(gM:zv d M){st:St}{p:Nat}(hI:Inv p st)(he:st.er=0)(hk:2<=st.t.k)(ho:18<=st.op+(d+1))(h16:st.op=16):(M st.enter).1.leave=st.fail 3 st.t.a:=by
 have h1:=Fwd.enter hI he hk;have h2:=gM st.enter (p+1) h1.inv (by rw[St.enter_op];omega);have h3:st.enter.er≠0:=by unfold St.enter;rw[zM2 (by omega)];exact St.fail_er _ (by decide)
 rw[h2.er h3,zd0 h16]
theorem zm9 {ru smp:Fn}(HU:zX d 198 ru)(gU:zv d ru)(hS:zX (d+1) 201 smp):zX (d+1) 198 (zdn ru smp):=by
 intro S pb st p w HI ho HR;have hlt:=HR.lt;have HOp:=za (zbd S pb st _ 2 [10,11] rfl (by decide) ((w.alloc (.cells #[xP pb] 181)).alloc (.cells #[xI 10,xI 11] 195)) (zcD _ _ _ _ rfl) (by decide) HI.ok.tk ((HR.alloc _).alloc _));rw[zrv st HR.tx,zsb] at HOp;have hmf:∀(fn:Go.Fn) (first cap:Xa) (w:Xw),(Instr.makeFunc fn first cap).run prog w=.ok (.func fn first cap) w:=λ_ _ _ _=>rfl;by_cases hc:(st.is 4 [45]||st.is 5 [110,111,116])=true
 . obtain⟨kk,hkk,Hkl⟩:∃kk,(if st.is 4 [45]=true then some 10 else if st.is 5 [110,111,116]=true then some 11 else none)=some kk/\zag (if st.is 4 [45]=true then zlo else zk5).toList 0=kk:=by
    by_cases h1:st.is 4 [45]=true
    . exact⟨10,by rw[zM2 h1],by rw[zM2 h1];decide +kernel⟩
    have h2:st.is 5 [110,111,116]=true:=(by simpa [h1] using hc);exact⟨11,by rw[zM1 h1,zM2 h2],by rw[zM1 h1];decide +kernel⟩
   have Hk4:4<=st.t.k:=by
    simp only[Bool.or_eq_true] at hc;rcases hc with h|h
    . rw[Inv.is_k h];omega
    rw[Inv.is_k h];omega
   have he:=HI.toBad.er (by omega);have hM:zdn ru smp st=(ru st.enter).1.leave.put ⟨if st.is 4 [45]=true then zlo else zk5,st.t.a,0,[(ru st.enter).2],sE,0⟩:=(by unfold zdn;rw[zM2 ⟨he,hc⟩]);rw[hkk] at HOp;simp only[opV] at HOp;rw[hM];generalize (if st.is 4 [45]=true then zlo else zk5)=op at *;have e1:=Fwd.enter HI he (by omega:2<=st.t.k);have HoE:18<=st.enter.op+d:=(by rw[St.enter_op];omega);have HgE:=gU st.enter (p+1) e1.inv HoE;have HD:=za (λh16=>zjz gU HI he (by omega:2<=st.t.k) ho h16);have HE:=za e1.inv;have HB:=za HI.toBad;go_enter func198,ntmps198;go_wp2_with (first|(go_at_call 182;refine HOp.o.mono ?_;rintro e w' ⟨rfl,rfl⟩)|(go_at_call 171;refine (zb8 S pb st kk _ ((HR.alloc _).alloc _)).mono ?_;rintro e w' ⟨rfl,rfl⟩));obtain⟨w0,hw0⟩:∃w0,((((w.alloc (.cells #[xP pb] 181)).alloc (.cells #[xI 10,xI 11] 195)).alloc (.cells #[xI kk,xI st.t.a,.string ⟨#[]⟩,xI 0,xI 0,.slice none 0 0] 198)).alloc (.cells #[xP (w.heap.size+1+1)] 156))=w0:=⟨_,rfl⟩;have b0:Box w0 w.heap.size 181 (xP pb):=(by rw[<- hw0];exact (zWP _ _ _ (by simp;omega)).trans ((zWP _ _ _ (by simp;omega)).trans ((zWP _ _ _ (by simp)).trans (zc w _))));have b2:xH w0 (w.heap.size+1+1) #[xI kk,xI st.t.a,.string ⟨#[]⟩,xI 0,xI 0,.slice none 0 0] 198:=(by rw[<- hw0];refine (zWP _ _ _ (by simp)).trans ?_;have:=zc ((w.alloc (.cells #[xP pb] 181)).alloc (.cells #[xI 10,xI 11] 195)) (.cells #[xI kk,xI st.t.a,.string ⟨#[]⟩,xI 0,xI 0,.slice none 0 0] 198);simpa using this);have b3:Box w0 (w.heap.size+1+1+1) 156 (xP (w.heap.size+1+1)):=(by rw[<- hw0];have:=zc (((w.alloc (.cells #[xP pb] 181)).alloc (.cells #[xI 10,xI 11] 195)).alloc (.cells #[xI kk,xI st.t.a,.string ⟨#[]⟩,xI 0,xI 0,.slice none 0 0] 198)) (.cells #[xP (w.heap.size+1+1)] 156);unfold Box;simpa using this);have hF0:Fr (·=pb) w w0:=(by rw[<- hw0];exact ((((Fr.refl _ w).alloc _).alloc _).alloc _).alloc _);have hL0:PL S w0 pb st:=(by rw[<- hw0];exact (((HR.alloc _).alloc _).alloc _).alloc _);rw[hw0];refine (zdz _ _ zl9 S pb st p w0 HI (zMO (by decide) Hk4) hL0 (λe w'=>e=.returned (.tuple #[])/\Box w' (w.heap.size+1+1+1) 156 (xP (w.heap.size+1+1))/\zaW S pb w.heap.size w ((ru st.enter).1.leave.put ⟨op,st.t.a,0,[(ru st.enter).2],sE,0⟩).1 ((ru st.enter).1.leave.put ⟨op,st.t.a,0,[(ru st.enter).2],sE,0⟩).2 (.returned (xP (w.heap.size+1+1))) w') ?_ ?_).mono ?_
   . intro hlt16 w1 hL1 hF1;refine (zlC HU S pb st.enter (p+1) w1 w.heap.size (w.heap.size+1+1+1) (w.heap.size+1+1) _ _ _ _ _ _ HE.o HoE hL1 (b0.fr hF1 (by omega)) (b3.fr hF1 (by omega)) ((hF1.block _ (ze b2) (by omega)).trans b2) (by omega) (by omega)).mono ?_;rintro e w2 ⟨rfl,a2,g,hL2,hT2,hb2,hg2,hzg,hF2⟩;refine⟨rfl,(ru st.enter).1,hL2,by rw[HgE.op,St.enter_op];omega,by rw[HgE.op,St.enter_op];omega,?_⟩;intro w3 hL3 hF3;have hFw:Fr (·=pb) w w3:=(Fr.drop2 (hF0.trans hF1) hF2 (by omega)).trans hF3;have hz1:w0.heap.size<=w1.heap.size:=hF1.size;have hz0:w.heap.size<=w0.heap.size:=hF0.size;refine⟨rfl,Box.fr (Fr.keep2 hF2 (b3.fr hF1 (by omega)) (by omega) (by omega)) hF3 (by omega),_,rfl,hL3.put _,?_,hFw⟩;intro he';have t2:=hT2.out he';refine TR.one (y:=(ru st.enter).2) (g:=g) (u:=.pointer a2) (by omega) (by omega) ?_ ((hF3.block g (ze hg2) (by omega)).trans hg2) rfl ?_
     . show _=some (Obj.cells #[xI (zag op.toList 0:Nat),xI st.t.a,.string ⟨#[]⟩,xI (0:Nat),xI (zbF op.toList 0:Nat),xS g 1 1] 198 (0,0));rw[Hkl,zbK];exact (hF3.block _ (ze hb2) (by omega)).trans hb2
     exact (t2.fr hF3 (λk h1 _ h2=>by omega)).down (by omega)
   . intro h16 w3 hL3 hF3;rw[HD.o h16];exact⟨rfl,b3.fr hF3 (by omega),_,rfl,hL3.put _,λhe'=>absurd he' (St.fail_er st (by decide)),hF0.trans hF3⟩
   rintro e w4 ⟨rfl,hb4,HQ⟩;obtain⟨f0,ff,fz⟩:=zu hb4;go_wp2_with fail;go_ret;exact HQ
 have hM:zdn ru smp st=smp st:=by unfold zdn;rw[zM1 (λh=>hc h.2)]
 have hn:(if st.is 4 [45]=true then some 10 else if st.is 5 [110,111,116]=true then some 11 else none)=(none:Xo):=by simp only[Bool.or_eq_true,not_or] at hc;rw[zM1 hc.1,zM1 hc.2]
 rw[hn] at HOp;simp only[opV] at HOp;rw[hM];have H1:=za (hS S pb st p ((w.alloc (.cells #[xP pb] 181)).alloc (.cells #[xI 10,xI 11] 195)) HI ho ((HR.alloc _).alloc _));generalize smp st=R at *;go_enter func198,ntmps198;go_wp2_with (go_at_call 182;refine HOp.o.mono ?_;rintro e w' ⟨rfl,rfl⟩);refine H1.o.mono ?_;rintro e w1 h1;obtain⟨a,rfl,h2,h3,h4⟩:=(h1.alloc (zaF _ _)).alloc (zaF _ _);go_wp2_with fail;go_ret;exact⟨a,rfl,h2,h3,h4⟩
end
section
variable {rx:Fn} {a d e:Nat}
theorem St.fail_fail (s:St){e' a':Nat}(he:e≠0):(s.fail e a).fail e' a'=s.fail e a:=by unfold St.fail;by_cases h:s.er=0 <;> simp[h,he]
theorem St.fail_must (s:St){k:Nat}{l:Xu}(he:e≠0)(hk:k≠1):(s.fail e a).must k l=s.fail e a:=by
 unfold St.must;have:(s.fail e a).is k l=false:=by
  unfold St.is;have:(s.fail e a).t.k=1:=by unfold St.fail;split <;> rfl
  rw[this];have h1:((1:Nat)==k)=false:=by simp;omega
  rw[h1];rfl
 rw[this];exact St.fail_fail s he
theorem St.enter_deep {s:St}(h:s.op=16):s.enter=({ s with op:=s.op+1 }:St).fail 3 s.t.a:=by unfold St.enter;rw[zM2 (by omega)]
theorem zl4:zH 209:=λ_ _=>by kernel_rfl
theorem zlq:(⟨#[41]⟩:Xb).toList=[41]:=by decide +kernel
theorem zlw (hX:zX d 159 rx)(gX:zv d rx)(S:Xs)(pb:Nat)(st:St)(p:Nat)(w:Xw)(bp be:Nat)(v:Xv)(hI:Inv p st)(ho:18<=st.op+d)(hR:PL S w pb st)(Hbp:Box w bp 181 (xP pb))(Hbe:Box w be 156 v)(n1:pb<be)(n2:¬bp=pb)(n3:¬bp=be) :
 xK 209 #[xP bp,xP be] w λe w'=>e=.returned (.tuple #[])/\∃a,Box w' be 156 (.pointer a)/\PL S w' pb ((rx st).1.must 4 [41])/\Hid (((rx st).1.must 4 [41]).er=0->TR w' w.heap.size (rx st).1.L (rx st).2 (.pointer a))/\Fr (λk=>k=pb∨k=be) w w':=by
 have H1:=za (hX S pb st p w hI ho hR);have g1:=gX st p hI ho;have HB1:=za g1.inv.toBad;obtain⟨c0,cf,cz⟩:=zu Hbp;have hze:=ze Hbe;have hlt:=hR.lt;generalize rx st=y at *;go_enter func209,ntmps209;go_wp2_with fail;refine H1.o.mono ?_;rintro e w1 ⟨a1,rfl,HL1,hT1,HF1⟩;have hz1:=HF1.size;have hbp1:=Hbp.fr HF1 n2;have Hbe1:=Hbe.fr HF1 (by omega);obtain⟨d0,df,dz⟩:=zu hbp1;obtain⟨f0,ff,fz⟩:=zu Hbe1;go_wp2_with (go_at_call 128;refine (zP S pb y.1 _ [41] zlq _ HB1.o (HL1.setOther n1 _ _)).mono ?_;rintro e w2 ⟨rfl,HL2,HF2⟩);go_end0;have hm:y.1.expM [41]=y.1.must 4 [41]:=zan HL1.tx (by decide);have hb2:Box (w1.setCell (xD be 0) (.pointer a1)) be 156 (.pointer a1):=zh _ _ _ _ Hbe1;refine⟨rfl,a1,hb2.fr HF2 (by omega),hm▸HL2,?_,?_⟩
 . intro he;have he1:y.1.er=0:=by
    by_cases h:y.1.er=0
    . exact h
    exfalso;revert he;unfold St.must;split
    . rw[St.step_er];exact h
    exact λhe=>St.fail_er _ (by decide) he
   exact ((hT1.out he1).fr ((Fr.refl (·=be) w1).set1 _ _) (λk h1 _ h2=>by omega)).fr HF2 (λk h1 _ h2=>by omega)
 exact (HF1.with2 be _ _).trans (HF2.mono (λ_ _ h=>zM3 h))
theorem zme (HX:zX d 159 rx)(GX:zv d rx)(S:Xs)(pb:Nat)(st:St)(p:Nat)(w:Xw)(HI:Inv p st)(hk:2<=st.t.k)(ho:18<=st.op+(d+1))(HR:PL S w pb st) :
 xK 206 #[xP pb] w (zaW S pb w.heap.size w (zfQ rx st).1 (zfQ rx st).2):=by
 have hlt:=HR.lt;have hmf:∀(fn:Go.Fn) (first cap:Xa) (w:Xw),(Instr.makeFunc fn first cap).run prog w=.ok (.func fn first cap) w:=λ_ _ _ _=>rfl;have he:=HI.toBad.er (by omega);have e1:=Fwd.enter HI he hk;have HoE:18<=st.enter.op+d:=by rw[St.enter_op];omega
 have HgE:=GX st.enter (p+1) e1.inv HoE;have HD:Hid (st.op=16->((rx st.enter).1.must 4 [41]).leave=st.fail 3 st.t.a):=by
  intro h16;have h3:st.enter.er≠0:=by unfold St.enter;rw[zM2 (by omega)];exact St.fail_er _ (by decide)
  rw[HgE.er h3];have h4:st.enter.must 4 [41]=st.enter:=by rw[St.enter_deep h16];exact St.fail_must _ (by decide) (by decide)
  rw[h4,zd0 h16]
 show Calls _ _ _ _ (zaW S pb w.heap.size w ((rx st.enter).1.must 4 [41]).leave (rx st.enter).2);have HE:=za e1.inv;go_enter func206,ntmps206;go_wp2_with fail;obtain⟨w0,hw0⟩:∃w0,((w.alloc (.cells #[xP pb] 181)).alloc (.cells #[.pointer none] 156))=w0:=⟨_,rfl⟩;have b0:Box w0 w.heap.size 181 (xP pb):=by rw[<- hw0];exact (zWP _ _ _ (by simp)).trans (zc w _)
 have b1:Box w0 (w.heap.size+1) 156 (.pointer none):=by rw[<- hw0];have:=zc (w.alloc (.cells #[xP pb] 181)) (.cells #[.pointer none] 156);unfold Box;simpa using this
 have hF0:Fr (·=pb) w w0:=by rw[<- hw0];exact ((Fr.refl _ w).alloc _).alloc _
 have hL0:PL S w0 pb st:=by rw[<- hw0];exact (HR.alloc _).alloc _
 rw[hw0];refine (zdz _ _ zl4 S pb st p w0 HI hk hL0 (λe w'=>e=.returned (.tuple #[])/\∃a,Box w' (w.heap.size+1) 156 (.pointer a)/\zaW S pb w.heap.size w ((rx st.enter).1.must 4 [41]).leave (rx st.enter).2 (.returned (.pointer a)) w') ?_ ?_).mono ?_
 . intro hlt16 w1 hL1 hF1;refine (zlw HX GX S pb st.enter (p+1) w1 w.heap.size (w.heap.size+1) _ HE.o HoE hL1 (b0.fr hF1 (by omega)) (b1.fr hF1 (by omega)) (by omega) (by omega) (by omega)).mono ?_;rintro e w2 ⟨rfl,a2,hb2,hL2,hT2,hF2⟩;refine⟨rfl,(rx st.enter).1.must 4 [41],hL2,by rw[St.must_op,HgE.op,St.enter_op];omega,by rw[St.must_op,HgE.op,St.enter_op];omega,?_⟩;intro w3 hL3 hF3;have hFw:Fr (·=pb) w w3:=(Fr.drop2 (hF0.trans hF1) hF2 (by omega)).trans hF3;have hz1:w0.heap.size<=w1.heap.size:=hF1.size;have hz0:w.heap.size<=w0.heap.size:=hF0.size;refine⟨rfl,a2,hb2.fr hF3 (by omega),a2,rfl,hL3,?_,hFw⟩;intro he';have t2:=hT2.out he';have hLL:((rx st.enter).1.must 4 [41]).leave.L=(rx st.enter).1.L:=St.must_L _ _ _;rw[hLL];exact (t2.fr hF3 (λk h1 _ h2=>by omega)).down (by omega)
 . intro h16 w3 hL3 hF3;rw[HD.o h16];exact⟨rfl,none,b1.fr hF3 (by omega),none,rfl,hL3,λhe'=>absurd he' (St.fail_er st (by decide)),hF0.trans hF3⟩
 rintro e w4 ⟨rfl,a4,hb4,HQ⟩;obtain⟨f0,ff,fz⟩:=zu hb4;go_wp2_with fail;go_ret;exact HQ
end
section
theorem znA:zH 172:=λ_ _=>by kernel_rfl
theorem zo8:(⟨#[102,98,121]⟩:Xb).toList=[102,98,121]:=by decide +kernel
theorem zmP {d:Nat}{rx:Fn}(hX:zX d 159 rx)(S:Xs)(pb:Nat)(st:St)(p:Nat)(w:Xw)(bf bp be eb:Nat)(a0:Xp)(v0 v1 v2 v3 v4 v5:Xv)(hI:Inv p st)(ho:18<=st.op+d)(HR:PL S w pb st)(Hbf:Box w bf 156 (.pointer a0))(hbp:Box w bp 181 (xP pb))(Hbe:Box w be 156 (xP eb))(Heb:w.heap[eb]?=some (.cells #[v0,v1,v2,v3,v4,v5] 198 (0,0)))(n0:¬bf=pb)(n1:¬be=pb)(n3:pb<eb) :
 xK 172 #[xP bf,xP bp,xP be] w λe w'=>e=.returned (.tuple #[])/\∃a g,PL S w' pb (rx st).1/\Hid ((rx st).1.er=0->TR w' w.heap.size (rx st).1.L (rx st).2 (.pointer a)) /\
  w'.heap[eb]?=some (.cells #[v0,v1,v2,v3,v4,xS g 2 2] 198 (0,0))/\w'.heap[g]?=some (.cells #[.pointer a0,.pointer a] 156 (0,0))/\w.heap.size<=g/\Fr (λk=>k=pb∨k=eb) w w':=by
 have n2:¬eb=pb:=by omega
 have HU:=za (λw1 h1=>hX S pb st p w1 hI ho h1);obtain⟨g0,gf,gz⟩:=zu Hbf;obtain⟨c0,cf,cz⟩:=zu hbp;obtain⟨e0,ef,ez⟩:=zu Hbe;have hzb:=ze Heb;have hlt:=HR.lt;clear hI hX hbp;generalize rx st=y at *;go_enter func172,ntmps172;go_region_with (go_at_call 159;refine (HU.o _ HR.drew).mono ?_;rintro e w1 ⟨a1,rfl,HL1,hT1,hF1'⟩;have HF1:Fr (·=pb) w w1:=hF1'.undrew;have hz1:=HF1.size;have Heb1:=(HF1.block eb hzb n2).trans Heb;obtain⟨d0,d1,d2,d3,d4,d5,df,dz⟩:=zt Heb1;obtain⟨f0,ff,fz⟩:=zu (Hbe.fr HF1 n1);obtain⟨i0,if',iz⟩:=zu (Hbf.fr HF1 n0);have hlt1:=HL1.lt;clear hF1')
 all_goals go_wp2_with fail
 all_goals go_end0
 all_goals
  have hk5:(w1.setCell (xD eb 5) (xS w1.heap.size 2 2)).heap.size=w1.heap.size:=by simp[World.setCell]
  refine⟨rfl,a1,w1.heap.size,?_,?_,?_,?_,hz1,?_⟩
  . exact (HL1.setOther n3 _ _).alloc _
  . exact λhe=>(hT1.out he).fr (((Fr.refl (·=eb) w1).set1 _ _).alloc _) (λk h1 _ h2=>by have h1':w.heap.size<=k:=h1;omega)
  . exact (zWP _ _ _ (by rw[hk5];exact dz)).trans (zh _ _ _ _ Heb1)
  . have:=zc (w1.setCell (xD eb 5) (xS w1.heap.size 2 2)) (.cells #[.pointer a0,.pointer a1] 156);rw[hk5] at this;exact this
  exact (HF1.with2 eb _ _).alloc _
theorem zrL:zag zgW.toList 0=9:=by decide +kernel
theorem zoz {d:Nat}{rx eith:Fn}(HX:zX d 159 rx)(GX:zv d rx)(hE:zX (d+1) 170 eith)(gE:zv (d+1) eith):zX (d+1) 159 (zgk rx eith):=by
 intro S pb st p w hI ho hR;have hlt:=hR.lt;have hmf:∀(fn:Go.Fn) (first cap:Xa) (w:Xw),(Instr.makeFunc fn first cap).run prog w=.ok (.func fn first cap) w:=λ_ _ _ _=>rfl;have g1:=gE st p hI ho;have H1:=za (hE S pb st p (w.alloc (.cells #[xP pb] 181)) hI ho (hR.alloc _));have hM:zgk rx eith st=if (eith st).1.er=0/\(eith st).1.is 5 [102,98,121]=true then (rx (eith st).1.enter).1.leave.put ⟨zgW,(eith st).1.t.a,0,[(eith st).2,(rx (eith st).1.enter).2],sE,0⟩ else eith st:=rfl;have G1:=za g1.inv;have O1:Hid (18<=(eith st).1.op+(d+1)):=by unfold Hid;rw[g1.op];exact ho
 generalize eith st=x at *;cases Hc:x.1.is 5 [102,98,121] with
 | false => rw[hM,zM1 (by rw[Hc];simp)];go_enter func159,ntmps159;go_wp2_with fail;refine H1.o.mono ?_;rintro e w1 h1;obtain⟨a0,e0,_,_,hFa⟩:=id h1;have hz1:=hFa.size;have hz1':w.heap.size<w1.heap.size:=(by simp at hz1;omega);have Hb0:Box w1 w.heap.size 181 (xP pb):=(hFa.block _ (by simp) (by omega)).trans (zc w _);obtain⟨p0,pf,pz⟩:=zu Hb0;obtain⟨a1,rfl,HL1,hT1,HF1⟩:=h1.alloc (zaF _ _);have HA:=za (zaP S pb x.1 ⟨#[102,98,121]⟩ _ zo8 (w1.alloc (.cells #[.pointer a1] 156)) G1.o.ok.tk (HL1.alloc _));rw[zar HL1.tx (by decide),Hc] at HA;have hlt1:=HL1.lt;go_wp2_with (go_at_call 85;refine HA.o.mono ?_;rintro e w' ⟨rfl,rfl⟩);go_ret;exact⟨a1,rfl,HL1.alloc _,λhe=>(hT1.out he).fr ((Fr.refl (·=pb) w1).alloc _) (λk _ _ _=>by omega),HF1.alloc _⟩
 | true =>
   have Hk5:x.1.t.k=5:=Inv.is_k Hc;have he:=G1.o.toBad.er (by omega);rw[hM,zM2 ⟨he,Hc⟩];have e1:=Fwd.enter G1.o he (by omega:2<=x.1.t.k);have HoE:18<=x.1.enter.op+d:=(by rw[St.enter_op];have:=O1.o;omega);have gE2:=GX x.1.enter (p+1) e1.inv HoE;obtain⟨E,HEL⟩:=gE2.L;rw[St.enter_L] at HEL;have HEr:=za (λ(h:(rx x.1.enter).1.er=0)=>(show x.1.er=0 from he));have HD:=za (λh16=>zjz GX G1.o he (by omega:2<=x.1.t.k) O1.o h16);have HgO:=za gE2.op;have HE:=za e1.inv;go_enter func159,ntmps159;go_wp2_with fail;refine H1.o.mono ?_;rintro e w1 ⟨a1,rfl,HL1,hT1,HF1⟩;have hz1:=HF1.size;have hz1':w.heap.size<w1.heap.size:=(by simp at hz1;omega);have hz2':w.heap.size<w1.heap.size+1:=(by omega);have hz3':w.heap.size<w1.heap.size+1+1:=(by omega);have Hb0:Box w1 w.heap.size 181 (xP pb):=(HF1.block _ (by simp) (by omega)).trans (zc w _);obtain⟨p0,pf,pz⟩:=zu Hb0;have HA:=za (zaP S pb x.1 ⟨#[102,98,121]⟩ _ zo8 (w1.alloc (.cells #[.pointer a1] 156)) G1.o.ok.tk (HL1.alloc _));rw[zar HL1.tx (by decide),Hc] at HA;have hlt1:=HL1.lt;go_wp2_with (first|(go_at_call 85;refine HA.o.mono ?_;rintro e w' ⟨rfl,rfl⟩)|(go_at_call 171;refine (zb8 S pb x.1 9 _ (HL1.alloc _)).mono ?_;rintro e w' ⟨rfl,rfl⟩));obtain⟨w0,hw0⟩:∃w0,(((w1.alloc (.cells #[.pointer a1] 156)).alloc (.cells #[xI 9,xI x.1.t.a,.string ⟨#[]⟩,xI 0,xI 0,.slice none 0 0] 198)).alloc (.cells #[xP (w1.heap.size+1)] 156))=w0:=⟨_,rfl⟩;have b0:Box w0 w.heap.size 181 (xP pb):=(by rw[<- hw0];exact (zWP _ _ _ (by simp;omega)).trans ((zWP _ _ _ (by simp;omega)).trans ((zWP _ _ _ hz1').trans Hb0)));have b1:Box w0 w1.heap.size 156 (.pointer a1):=(by rw[<- hw0];exact (zWP _ _ _ (by simp;omega)).trans ((zWP _ _ _ (by simp)).trans (zc w1 _)));have b2:xH w0 (w1.heap.size+1) #[xI 9,xI x.1.t.a,.string ⟨#[]⟩,xI 0,xI 0,.slice none 0 0] 198:=(by rw[<- hw0];refine (zWP _ _ _ (by simp)).trans ?_;have:=zc (w1.alloc (.cells #[.pointer a1] 156)) (.cells #[xI 9,xI x.1.t.a,.string ⟨#[]⟩,xI 0,xI 0,.slice none 0 0] 198);simpa using this);have b3:Box w0 (w1.heap.size+1+1) 156 (xP (w1.heap.size+1)):=(by rw[<- hw0];have:=zc ((w1.alloc (.cells #[.pointer a1] 156)).alloc (.cells #[xI 9,xI x.1.t.a,.string ⟨#[]⟩,xI 0,xI 0,.slice none 0 0] 198)) (.cells #[xP (w1.heap.size+1)] 156);unfold Box;simpa using this);have hF01:Fr (·=pb) w1 w0:=(by rw[<- hw0];exact (((Fr.refl _ w1).alloc _).alloc _).alloc _);have hF0:Fr (·=pb) w w0:=(((Fr.refl _ w).alloc _).trans HF1).trans hF01;have hL0:PL S w0 pb x.1:=(by rw[<- hw0];exact ((HL1.alloc _).alloc _).alloc _);rw[hw0];refine (zdz _ _ znA S pb x.1 p w0 G1.o (by rw[Hk5];decide) hL0 (λe w'=>e=.returned (.tuple #[])/\Box w' (w1.heap.size+1+1) 156 (xP (w1.heap.size+1))/\zaW S pb w.heap.size w ((rx x.1.enter).1.leave.put ⟨zgW,x.1.t.a,0,[x.2,(rx x.1.enter).2],sE,0⟩).1 ((rx x.1.enter).1.leave.put ⟨zgW,x.1.t.a,0,[x.2,(rx x.1.enter).2],sE,0⟩).2 (.returned (xP (w1.heap.size+1))) w') ?_ ?_).mono ?_
   . intro hlt16 w2 hL2 hF2;refine (zmP HX S pb x.1.enter (p+1) w2 w1.heap.size w.heap.size (w1.heap.size+1+1) (w1.heap.size+1) a1 _ _ _ _ _ _ HE.o HoE hL2 (b1.fr hF2 (by omega)) (b0.fr hF2 (by omega)) (b3.fr hF2 (by omega)) ((hF2.block _ (ze b2) (by omega)).trans b2) (by omega) (by omega) (by omega)).mono ?_;rintro e w3 ⟨rfl,a3,g,hL3,hT3,hb3,hg3,hzg,hF3⟩;refine⟨rfl,(rx x.1.enter).1,hL3,by rw[HgO.o,St.enter_op];omega,by rw[HgO.o,St.enter_op];omega,?_⟩;intro w4 hL4 hF4;have hFw:Fr (·=pb) w w4:=(Fr.drop2 (hF0.trans hF2) hF3 (by omega)).trans hF4;have hFw1:Fr (·=pb) w1 w4:=(Fr.drop2 (hF01.trans hF2) hF3 (by omega)).trans hF4;have hz02:w0.heap.size<=w2.heap.size:=hF2.size;have hz01:w1.heap.size<=w0.heap.size:=hF01.size;refine⟨rfl,Box.fr (Fr.keep2 hF3 (b3.fr hF2 (by omega)) (by omega) (by omega)) hF4 (by omega),_,rfl,hL4.put _,?_,hFw⟩;intro he';have t3:=hT3.out he';have t1:=hT1.out (HEr.o he');refine TR.two (y:=x.2) (z:=(rx x.1.enter).2) (g:=g) (u:=.pointer a1) (v:=.pointer a3) (by omega) (by omega) ?_ ((hF4.block g (ze hg3) (by omega)).trans hg3) rfl ?_ ?_
     . show _=some (Obj.cells #[xI (zag zgW.toList 0:Nat),xI x.1.t.a,.string ⟨#[]⟩,xI (0:Nat),xI (zbF zgW.toList 0:Nat),xS g 2 2] 198 (0,0));rw[zrL,zbK];exact (hF4.block _ (ze hb3) (by omega)).trans hb3
     . show TR w4 w.heap.size (rx x.1.enter).1.L x.2 (.pointer a1);rw[HEL];exact ((t1.down (zaF _ _)).fr hFw1 (λk h1 _ h2=>by omega)).more E
     exact (t3.fr hF4 (λk h1 _ h2=>by omega)).down (by omega)
   . intro h16 w3 hL3 hF3;rw[HD.o h16];exact⟨rfl,b3.fr hF3 (by omega),_,rfl,hL3.put _,λhe'=>absurd he' (St.fail_er x.1 (by decide)),hF0.trans hF3⟩
   rintro e w4 ⟨rfl,hb4,HQ⟩;obtain⟨f0,ff,fz⟩:=zu hb4;go_wp2_with fail;go_ret;exact HQ
end
section
variable {st:St}
theorem TR.leaf {w:Xw}{B:Nat}{L:List Ex}{ex:Ex}{b:Nat}(hB:B<=b)
 (hb:xH w b #[xI (zag ex.op.toList ex.n:Nat),xI ex.a,.string ex.s,xI ex.nm,xI (zbF ex.op.toList ex.n:Nat),.slice none 0 0] 198)
 (hi:ex.ins=[]):TR w B (L++[ex]) L.length (xP b):=by
 refine TR.mk L.length ex b _ [] (by simp) hB hb (World.ownsRow_nil _ _ _ _) (by simp[hi]) ?_;intro i s t hs _;rw[hi] at hs;simp at hs
theorem zoZ:zag zfR.toList 0=3:=by decide +kernel
theorem zfU (s:Xb)(a:Nat)(w:Xw):xK 205 #[.agg #[.string s,xI a]] w λe w'=>e=.returned (xP (w.heap.size+1))/\xB w w'/\xH w' (w.heap.size+1) #[xI 3,xI a,.string s,xI a,xI 0,.slice none 0 0] 198:=by go_enter func205,ntmps205;go_wp2;go_ret;refine⟨rfl,((zWQ _ _).alloc (zMK _) _).alloc (by simp) _,?_⟩;have:=zc (w.alloc (.cells #[.string s,xI a] 84)) (.cells #[xI 3,xI a,.string s,xI a,xI 0,.slice none 0 0] 198);rw[zsb] at this;exact this
def ziL (d:Nat)(M:Fn):Prop:=∀(S:Xs) (pb:Nat) (st:St) (p:Nat) (w:Xw),Inv p st->st.t.k≠2->18<=st.op+d->PL S w pb st ->
 xK 204 #[xP pb] w (zaW S pb w.heap.size w (M st).1 (M st).2)
def zdI (d:Nat)(rx:Fn):Prop:=∀(S:Xs) (pb:Nat) (st:St) (p:Nat) (w:Xw) (t:Tk),Inv p st->18<=st.op+d->1<=st.t.a->PL S w pb st ->
 xK 158 #[xP pb,.agg #[.string t.s,xI t.a]] w (zaW S pb w.heap.size w (zao rx t st).1 (zao rx t st).2)
theorem zhL {t:Tk}:(((ck t:Nat):Int) != 3)=!(t.k==2):=by
 by_cases h:t.k=2
 . simp[ck,h]
 have:ck t≠3:=by unfold ck;(repeat' split) <;> first|decide|(exfalso;omega)
 have h2:(t.k==2)=false:=by simp[h]
 rw[h2];simp;omega
theorem zkE (hk:st.t.k=2):st.name=st.step:=by unfold St.name;rw[zM2 hk]
theorem zgJ (hk:st.t.k=2):zcc st=.agg #[.string st.t.s,xI st.t.a]:=by unfold zcc;rw[zM2 hk]
theorem znY {d:Nat}{atm:Fn}(hU:ziL d atm):zX d 212 (zch atm):=by
 intro S pb st p w hI ho hR;obtain⟨q0,q1,q2,q3,q4,q5,q6⟩:=hR.cells;have hck:=zhL (t:=st.t);have hlt:=hR.lt;by_cases hk:st.t.k=2
 . have he:=hI.toBad.er (by omega);have hM:zch atm st=zjx st:=by unfold zch;rw[zM1 (by omega)]
   rw[hM];have hk2:(st.t.k==2)=true:=(by simp[hk]);rw[hk2] at hck;have HN:=za (zaZ S pb st w hI.toBad hR);rw[zkE hk,zgJ hk] at HN;clear hR hI hU hM hk hk2 he;go_enter func212,ntmps212;go_wp2_with (first|(go_at_call 205;refine (zfU _ _ _).mono ?_;rintro e w2 ⟨rfl,Hb2,Hh2⟩)|(go_at_call 129;refine HN.o.mono ?_;rintro e w1 ⟨rfl,HL1,HF1⟩));go_ret;have hz1:=HF1.size;refine⟨_,rfl,(HL1.below Hb2).put _,λ_=>TR.leaf (ex:=⟨zfR,st.t.a,st.t.a,[],st.t.s,0⟩) (by omega) ?_ rfl,HF1.belowed Hb2⟩
   show _=some (Obj.cells #[xI (zag zfR.toList 0:Nat),xI st.t.a,.string st.t.s,xI st.t.a,xI (zbF zfR.toList 0:Nat),.slice none 0 0] 198 (0,0));rw[zoZ,zbK];exact Hh2
 have hM:zch atm st=atm st:=by unfold zch;rw[zM2 (zM4 hk)]
 rw[hM];have hk2:(st.t.k==2)=false:=by simp[hk]
 rw[hk2] at hck;have H1:=za (hU S pb st p w hI hk ho hR);clear hR hI hU hM hk hk2;generalize atm st=R at *;go_enter func212,ntmps212;go_wp2_with (go_at_call 204;refine H1.o.mono ?_;rintro e w1 ⟨a1,rfl,H2,h3,H4⟩);go_ret;exact⟨a1,rfl,H2,h3,H4⟩
end
section
theorem zfn:(⟨#[40]⟩:Xb).toList=[40]:=by decide +kernel
theorem znf {d:Nat}{rx ra:Fn}(hU:ziL (d+1) (zap rx ra))(hK:zdI (d+1) rx):zX (d+1) 203 (zap rx ra):=by
 intro S pb st p w hI ho hR;obtain⟨q0,q1,q2,q3,q4,q5,q6⟩:=hR.cells;have hck:=zhL (t:=st.t);have hlt:=hR.lt;by_cases hk:st.t.k=2
 . have he:=hI.toBad.er (by omega);have hM:zap rx ra st=if st.step.is 4 [40]=true then zao rx st.t st.step else zjx st:=by unfold zap;rw[zM1 (by simp[he]),zM1 (by omega),zM2 hk]
   rw[hM];have hk2:(st.t.k==2)=true:=(by simp[hk]);rw[hk2] at hck;have e1:=Fwd.use hI he (by omega:2<=st.t.k);have hta:1<=st.step.t.a:=(by have h1:=hI.tok (by omega);have H2:=zV st.src st.t.t hI.ok.tt;rw[St.step_ok he];simp only;omega);have HN:=za (zaZ S pb st w hI.toBad hR);rw[zkE hk,zgJ hk] at HN;have HB1:=za e1.inv.toBad;cases Hc:st.step.is 4 [40] with
   | true => rw[zM2 rfl];have HK:=za (λw1 h1=>hK S pb st.step (p+1) w1 st.t e1.inv (by rw[St.step_op];exact ho) hta h1);generalize zao rx st.t st.step=R at *;go_enter func203,ntmps203;go_wp2_with (go_at_call 129;refine HN.o.mono ?_;rintro e w1 ⟨rfl,HL1,HF1⟩;have hz1:=HF1.size;have hlt1:=HL1.lt;have HA:=za (zaP S pb st.step ⟨#[40]⟩ _ zfn (w1.alloc (.cells #[.string st.t.s,xI st.t.a] 84)) HB1.o.ok.tk (HL1.alloc _));rw[zaB HL1.tx (by decide),Hc] at HA);go_wp2_with (first|(go_at_call 85;refine HA.o.mono ?_;rintro e w' ⟨rfl,rfl⟩)|(go_at_call 158;refine (HK.o _ (HL1.alloc _)).mono ?_;rintro e w2 H2;obtain⟨a2,rfl,K2,k3,K4⟩:=H2.alloc (zaF _ _)));go_ret;exact⟨a2,rfl,K2,λhe=>(k3.out he).down hz1,HF1.trans K4⟩
   | false =>
     rw[zM1 (by simp)];go_enter func203,ntmps203;go_wp2_with (go_at_call 129;refine HN.o.mono ?_;rintro e w1 ⟨rfl,HL1,HF1⟩;have hz1:=HF1.size;have hlt1:=HL1.lt;have HA:=za (zaP S pb st.step ⟨#[40]⟩ _ zfn (w1.alloc (.cells #[.string st.t.s,xI st.t.a] 84)) HB1.o.ok.tk (HL1.alloc _));rw[zaB HL1.tx (by decide),Hc] at HA);go_wp2_with (first|(go_at_call 85;refine HA.o.mono ?_;rintro e w' ⟨rfl,rfl⟩)|(go_at_call 205;refine (zfU _ _ _).mono ?_;rintro e w2 ⟨rfl,Hb2,Hh2⟩));go_ret;have hh:=Hh2;simp only[zsb] at hh;refine⟨some (xD (w1.heap.size+1+1) 0),rfl,((HL1.alloc _).below Hb2).put _,λ_=>TR.leaf (b:=w1.heap.size+1+1) (ex:=⟨zfR,st.t.a,st.t.a,[],st.t.s,0⟩) (by omega) ?_ rfl,(HF1.alloc _).belowed Hb2⟩
     show _=some (Obj.cells #[xI (zag zfR.toList 0:Nat),xI st.t.a,.string st.t.s,xI st.t.a,xI (zbF zfR.toList 0:Nat),.slice none 0 0] 198 (0,0));rw[zoZ,zbK];exact hh
 have hk2:(st.t.k==2)=false:=by simp[hk]
 rw[hk2] at hck;have H1:=za (hU S pb st p w hI hk ho hR);generalize zap rx ra st=R at *;go_enter func203,ntmps203;go_wp2_with (go_at_call 204;refine H1.o.mono ?_;rintro e w1 ⟨a1,rfl,H2,h3,H4⟩);go_ret;exact⟨a1,rfl,H2,h3,H4⟩
theorem zpZ (st:St)(_hk:st.t.k<=5)(hT:Tx st.src st.t):opM st [7,8]=if zdi st=true then some (zag st.t.s.toList 0) else none:=by
 obtain⟨e7,e8,_⟩:=wdl;simp only[opM,e7,e8];rw[zar hT (by decide),zar hT (by decide)];unfold zdi;by_cases h1:st.is 5 [119,104,101,110]=true
 . have:st.t.s.toList=[119,104,101,110]:=by unfold St.is at h1;simp at h1;exact h1.2
   rw[h1,this,Bool.true_or,zM2 rfl,zM2 rfl];decide
 by_cases h2:st.is 5 [119,104,101,110,111,116]=true
 . have:st.t.s.toList=[119,104,101,110,111,116]:=by unfold St.is at h2;simp at h2;exact h2.2
   have h1':st.is 5 [119,104,101,110]=false:=(by simpa using h1);rw[h1',h2,this];decide
 simp[h1,h2]
theorem zjf (st:St):∃(ns:Xb) (na:Nat),zcc st=.agg #[.string ns,xI na]/\(st.t.k=2->ns=st.t.s/\na=st.t.a):=by
 by_cases h:st.t.k=2
 . exact⟨st.t.s,st.t.a,zgJ h,λ_=>⟨rfl,rfl⟩⟩
 exact⟨⟨#[]⟩,0,by unfold zcc;rw[zM1 h];rfl,λh2=>absurd h2 h⟩
theorem zjU (k:Int)(s:Xb)(a n:Int)(w:Xw):(Instr.field 121 (.agg #[xI k,.string s,xI a,xI n]) 2).run prog w=.ok (xI a) w:=by kernel_rfl
theorem zka (k:Int)(s:Xb)(a n:Int)(w:Xw):(Instr.field 121 (.agg #[xI k,.string s,xI a,xI n]) 3).run prog w=.ok (xI n) w:=by kernel_rfl
theorem zjM {d:Nat}{atm:Fn}(hA:zX d 203 atm)(gA:zv d atm):zX d 201 (zfu atm):=by
 intro S pb st p w hI ho hR;have hlt:=hR.lt;have g1:=gA st p hI ho;have H1:=za (hA S pb st p w hI ho hR);have hM:zfu atm st=zaY 1300 (atm st):=rfl;rw[hM];have G1:=za g1.inv;generalize atm st=x0 at *;obtain⟨R,HRes⟩:∃R,zaY 1300 x0=R:=⟨_,rfl⟩;rw[HRes];go_enter func201,ntmps201;go_wp2_with fail;refine H1.o.mono ?_;rintro e w1 ⟨a1,rfl,HL1,hT1,HF1⟩;go_wp2_with fail;go_loopg [3] 1300 (λk l wr=>∃(x:St×Nat) (a:Xp),l=.pointer a/\Hid (zaY k x=R)/\rem x.1<k/\Hid (Inv p x.1)/\Hid (PL S wr pb x.1)/\Hid (x.1.er=0->TR wr w.heap.size x.1.L x.2 (.pointer a))/\Hid (Fr (·=pb) w wr));case atStart => refine⟨x0,a1,rfl,HRes,?_,G1.o,HL1,hT1.out,HF1⟩;unfold rem;split <;> omega
 case round =>
  obtain⟨x,a,rfl,HF,hrem,HI2,HL2,HT2,HF2⟩:=hrel;have hlt2:=HL2.o.lt;obtain⟨g,rfl⟩:∃g,gk=g+1:=⟨gk-1,by omega⟩;have HOp:=za (zbd S pb x.1 wr.heap.size 2 [7,8] rfl (by decide) (wr.alloc (.cells #[xI 7,xI 8] 195)) (zcD wr _ _ _ rfl) (by decide) HI2.o.ok.tk (HL2.o.alloc _));rw[zpZ x.1 HI2.o.ok.tk HL2.o.tx] at HOp;have hz2:=HF2.o.size;cases hl:zdi x.1 with
  | false =>
    rw[hl,zM1 (by simp)] at HOp;have HR2:R=x:=by
     rw[<- HF.o]
     show (if x.1.er=0/\zdi x.1=true then _ else x)=x;rw[zM1 (by rw[hl];simp)]
    simp only[opV] at HOp;go_wp2_with (go_at_call 182;refine HOp.o.mono ?_;rintro e w' ⟨rfl,rfl⟩);go_ret;rw[HR2];exact⟨a,rfl,HL2.o.alloc _,λHe=>(HT2.o He).fr ((Fr.refl (·=pb) wr).alloc _) (λk _ _ _=>by omega),HF2.o.alloc _⟩
  | true =>
    rw[hl,zM2 rfl] at HOp;simp only[opV] at HOp;have Hk5:x.1.t.k=5:=(by unfold zdi at hl;simp only[Bool.or_eq_true] at hl;rcases hl with h|h <;> exact Inv.is_k h);have He:=HI2.o.toBad.er (by omega);have e3:=Fwd.use HI2.o He (by omega:2<=x.1.t.k);have e4:=Fwd.name e3.inv;have HFn:Hid (zaY g (x.1.step.name.put ⟨x.1.t.s,x.1.t.a,x.1.step.t.a,[x.2],x.1.step.t.s,0⟩)=R):=by
     have h:=HF.o;unfold Hid;rw[<- h]
     show _=(if x.1.er=0/\zdi x.1=true then _ else x);rw[zM2 ⟨He,hl⟩]
    have hput:Hid (Inv p (x.1.step.name.put ⟨x.1.t.s,x.1.t.a,x.1.step.t.a,[x.2],x.1.step.t.s,0⟩).1):=(Fwd.put e4.inv _).inv;have hrem':Hid (rem (x.1.step.name.put ⟨x.1.t.s,x.1.t.a,x.1.step.t.a,[x.2],x.1.step.t.s,0⟩).1<g):=by
     unfold Hid rem
     show (if x.1.step.name.er=0 then 1201-x.1.step.name.t.a else 0)<g;have h1:rem x.1=1201-x.1.t.a:=(by unfold rem;rw[zM2 He]);have h2:=e4.ta;have h3:x.1.t.a+1<=x.1.step.t.a:=(by have:=HI2.o.tok (by omega);rw[St.step_ok He];have hf:=zV x.1.src x.1.t.t HI2.o.ok.tt;simp only;omega);have h4:=e4.inv.ok.ta_le;have h5:=HI2.o.ok.ta_le;split <;> omega
    have HB2:=za HI2.o.toBad;have HB3:=za e3.inv.toBad;have Hst:=za (zc8 HI2.o.toBad (by omega:x.1.t.k≠1));obtain⟨kk,Hkk⟩:∃kk,zag x.1.t.s.toList 0=kk:=⟨_,rfl⟩;rw[Hkk] at HOp;have HLs:Hid (x.1.step.name.L=x.1.L):=(by unfold Hid;rw[St.name_L,St.step_L]);have HEn:Hid (x.1.step.name.er=0->x.1.step.t.k=2):=by
     intro h;by_cases h2:x.1.step.t.k=2
     . exact h2
     exfalso;unfold St.name at h;rw[zM1 h2] at h;exact St.fail_er _ (by decide) h
    have hfd:=zjU;go_wp2_with (first|(go_at_call 182;refine HOp.o.mono ?_;rintro e w' ⟨rfl,rfl⟩)|(go_at_call 155;refine (zb9 S pb x.1 _ HB2.o.ok (zMO (by decide) (Nat.le_of_eq Hk5.symm)) (HL2.o.alloc _)).mono ?_;rintro e w3 ⟨rfl,HL3,HF3⟩;rw[Hst.o] at HL3;simp only[Tk.cval]));obtain⟨ns,na,hnv,HNk⟩:=zjf x.1.step;have HN:=za (zaZ S pb x.1.step w3 HB3.o HL3);rw[hnv] at HN;go_wp2_with (go_at_call 129;refine HN.o.mono ?_;rintro e w4 ⟨rfl,HL4,HF4⟩);go_roundg g;case measure=>omega
    have hF34:Fr (·=pb) wr w4:=(((Fr.refl _ wr).alloc _).trans HF3).trans HF4;refine⟨(x.1.step.name.put ⟨x.1.t.s,x.1.t.a,x.1.step.t.a,[x.2],x.1.step.t.s,0⟩),some (xD (w4.heap.size+1) 0),rfl,HFn,hrem'.out,hput,((HL4.alloc _).alloc _).put _,?_,(((HF2.o.trans hF34).alloc _).alloc _)⟩;intro he';obtain⟨r1,r2⟩:=HNk (HEn.o he');have hz4:=hF34.size;refine TR.one (y:=x.2) (b:=w4.heap.size+1) (g:=w4.heap.size) (u:=.pointer a) (by omega) (by omega) ?_ ((zWP _ _ _ (by simp)).trans (zc w4 _)) rfl ?_
    . show _=some (Obj.cells #[xI (zag x.1.t.s.toList 0:Nat),xI x.1.t.a,.string x.1.step.t.s,xI x.1.step.t.a,xI (zbF x.1.t.s.toList 0:Nat),xS w4.heap.size 1 1] 198 (0,0));rw[Hkk,zbK,<- r1,<- r2];have:=zc (w4.alloc (.cells #[.pointer a] 156)) (.cells #[xI kk,xI x.1.t.a,.string ns,xI na,xI 0,xS w4.heap.size 1 1] 198);simpa using this
    show TR _ w.heap.size x.1.step.name.L x.2 (.pointer a);rw[HLs.o];exact (HT2.o He).fr ((hF34.alloc _).alloc _) (λk h1 _ h2=>by omega)
theorem zqJ:(⟨#[116,104,101,110]⟩:Xb).toList=[116,104,101,110]:=by decide +kernel
theorem zq2:(⟨#[101,108,115,101]⟩:Xb).toList=[101,108,115,101]:=by decide +kernel
theorem Fwd.er0 {p:Nat}{a b:St}(h:Fwd p a b)(hb:b.er=0):a.er=0:=by
 by_cases ha:a.er=0
 . exact ha
 exact absurd hb (h.er ha)
theorem zjN {d:Nat}{rx:Fn}(hX:zX d 159 rx)(gX:zv d rx)(S:Xs)(pb:Nat)(st:St)(p:Nat)(w:Xw)(bp be eb:Nat)(v0 v1 v2 v3 v4 v5:Xv)(s1 s2 s3:St×Nat)(h1:rx st=s1)(h2:rx (s1.1.must 5 [116,104,101,110])=s2)(h3:rx (s2.1.must 5 [101,108,115,101])=s3)
 (hI:Inv p st) (ho:18<=st.op+d) (hR:PL S w pb st) (Hbp:Box w bp 181 (xP pb)) (Hbe:Box w be 156 (xP eb)) (Heb:w.heap[eb]?=some (.cells #[v0,v1,v2,v3,v4,v5] 198 (0,0))) (n0:¬bp=pb) (n1:¬be=pb) (n3:pb<eb) :
 xK 210 #[xP bp,xP be] w λe w'=>e=.returned (.tuple #[])/\∃a1 a2 a3 g,PL S w' pb s3.1/\Hid (s3.1.er=0->TR w' w.heap.size s3.1.L s1.2 (.pointer a1)/\TR w' w.heap.size s3.1.L s2.2 (.pointer a2)/\TR w' w.heap.size s3.1.L s3.2 (.pointer a3)) /\
  w'.heap[eb]?=some (.cells #[v0,v1,v2,v3,v4,xS g 3 3] 198 (0,0))/\w'.heap[g]?=some (.cells #[.pointer a1,.pointer a2,.pointer a3] 156 (0,0))/\w.heap.size<=g/\Fr (λk=>k=pb∨k=eb) w w':=by
 have n2:¬eb=pb:=by omega
 have g1:=gX st p hI ho;have H1:=za (hX S pb st p w hI ho hR);have g1i:Inv p s1.1:=by rw[<- h1];exact g1.inv
 have g1o:s1.1.op=st.op:=by rw[<- h1];exact g1.op
 rw[h1] at H1;have m1:=Fwd.must g1i 5 [116,104,101,110];have o1:18<=(s1.1.must 5 [116,104,101,110]).op+d:=by rw[St.must_op,g1o];exact ho
 have g2:=gX _ p m1.inv o1;have H2:=za (λw1 h=>hX S pb _ p w1 m1.inv o1 h);have g2i:Inv p s2.1:=by rw[<- h2];exact g2.inv
 have g2o:s2.1.op=st.op:=by rw[<- h2,g2.op,St.must_op,g1o]
 rw[h2] at H2;have m2:=Fwd.must g2i 5 [101,108,115,101];have o2:18<=(s2.1.must 5 [101,108,115,101]).op+d:=by rw[St.must_op,g2o];exact ho
 have g3:=gX _ p m2.inv o2;have H3:=za (λw1 h=>hX S pb _ p w1 m2.inv o2 h);rw[h3] at H3;have f2:Fwd p (s1.1.must 5 [116,104,101,110]) s2.1:=by rw[<- h2];exact g2.fwd
 have f3:Fwd p (s2.1.must 5 [101,108,115,101]) s3.1:=by rw[<- h3];exact g3.fwd
 obtain⟨E2,HE2⟩:=f2.L;obtain⟨E3,HE3⟩:=f3.L;rw[St.must_L] at HE2 HE3;have HR32:=za (λh:s3.1.er=0=>m2.er0 (f3.er0 h));have HR21:=za (λh:s2.1.er=0=>m1.er0 (f2.er0 h));have HB1:=za g1i.toBad;have HB2:=za g2i.toBad;obtain⟨c0,cf,cz⟩:=zu Hbp;obtain⟨e0,ef,ez⟩:=zu Hbe;have hzb:=ze Heb;have hlt:=hR.lt;go_enter func210,ntmps210;go_wp2_with fail;refine H1.o.mono ?_;rintro e w1 ⟨a1,rfl,HL1,hT1,HF1⟩;have hz1:=HF1.size;obtain⟨d0,df,dz⟩:=zu (Hbp.fr HF1 n0);have HX1:=za (zP S pb s1.1 _ _ zqJ w1 HB1.o HL1);rw[ze6 HL1.tx (by decide)] at HX1;go_wp2_with (go_at_call 128;refine HX1.o.mono ?_;rintro e w2 ⟨rfl,HL2,HF2⟩;obtain⟨i0,if',iz⟩:=zu ((Hbp.fr HF1 n0).fr HF2 n0);have hz2:=HF2.size);refine (H2.o w2 HL2).mono ?_;rintro e w3 ⟨a3,rfl,HL3,hT3,HF3⟩;have hz3:=HF3.size;have F13:=za ((HF1.trans HF2).trans HF3);obtain⟨j0,jf,jz⟩:=zu (Hbp.fr F13.o n0);have HX2:=za (zP S pb s2.1 _ _ zq2 w3 HB2.o HL3);rw[ze6 HL3.tx (by decide)] at HX2;go_wp2_with (go_at_call 128;refine HX2.o.mono ?_;rintro e w4 ⟨rfl,HL4,HF4⟩;have hz4:=HF4.size;have F14:=za (F13.o.trans HF4);obtain⟨k0,kf,kz⟩:=zu (Hbp.fr F14.o n0);obtain⟨l0,lf,lz⟩:=zu (Hbe.fr F14.o n1);have Heb4:=za ((F14.o.block eb hzb n2).trans Heb));go_region_with (go_at_call 159;refine (H3.o _ HL4.drew).mono ?_;rintro e w5 ⟨a5,rfl,HL5,hT5,hF5'⟩;have HF5:Fr (·=pb) w4 w5:=hF5'.undrew;have hz5:=HF5.size;have F15:=za (F14.o.trans HF5);have Heb5:=(HF5.block eb (ze Heb4.o) n2).trans Heb4.o;obtain⟨d0,d1,d2,d3,d4,d5,df,dz⟩:=zt Heb5;obtain⟨f0,ff,fz⟩:=zu (Hbe.fr F15.o n1))
 all_goals go_wp2_with fail
 all_goals go_end0
 all_goals
  have hk5:(w5.setCell (xD eb 5) (xS w5.heap.size 3 3)).heap.size=w5.heap.size:=by simp[World.setCell]
  refine⟨rfl,a1,a3,a5,w5.heap.size,?_,?_,?_,?_,by omega,?_⟩
  . exact (HL5.setOther n3 _ _).alloc _
  . intro he3;have t5:=hT5.out he3;have t3:=hT3.out (HR32.o he3);have t1:=hT1.out (HR21.o (HR32.o he3));have F35:Fr (·=pb) w3 w5:=HF4.trans HF5;have F15':Fr (·=pb) w1 w5:=(HF2.trans HF3).trans F35;have Fend:Fr (·=eb) w5 ((w5.setCell (xD eb 5) (xS w5.heap.size 3 3)).alloc (.cells #[.pointer a1,.pointer a3,.pointer a5] 156)):=((Fr.refl _ w5).set1 _ _).alloc _;refine⟨?_,?_,?_⟩
    . rw[HE3,HE2];exact (((t1.fr F15' (λk h1 _ h2=>by omega)).fr Fend (λk h1 _ h2=>by omega)).more E2).more E3
    . rw[HE3];exact (((t3.down (by omega:w.heap.size<=w2.heap.size)).fr F35 (λk h1 _ h2=>by omega)).fr Fend (λk h1 _ h2=>by omega)).more E3
    exact (t5.down (by show w.heap.size<=w4.heap.size;omega)).fr Fend (λk h1 _ h2=>by omega)
  . exact (zWP _ _ _ (by rw[hk5];exact dz)).trans (zh _ _ _ _ Heb5)
  . have:=zc (w5.setCell (xD eb 5) (xS w5.heap.size 3 3)) (.cells #[.pointer a1,.pointer a3,.pointer a5] 156);rw[hk5] at this;exact this
  exact (F15.o.with2 eb _ _).alloc _
theorem zkR:zH 210:=λ_ _=>by kernel_rfl
theorem kIf:zag sIf.toList 0=5:=by decide +kernel
structure zlO (w w0:Xw) (pb:Nat) (k a:Nat):Prop where
 bp:Box w0 w.heap.size 181 (xP pb)
 eb:xH w0 (w.heap.size+1) #[xI k,xI a,.string ⟨#[]⟩,xI 0,xI 0,.slice none 0 0] 198
 be:Box w0 (w.heap.size+1+1) 156 (xP (w.heap.size+1))
 fr:Fr (·=pb) w w0
 size:w0.heap.size=w.heap.size+1+1+1
theorem zoW (w:Xw)(pb k a:Nat):zlO w (((w.alloc (.cells #[xP pb] 181)).alloc (.cells #[xI k,xI a,.string ⟨#[]⟩,xI 0,xI 0,.slice none 0 0] 198)).alloc (.cells #[xP (w.heap.size+1)] 156)) pb k a:=by
 refine⟨?_,?_,?_,(((Fr.refl _ w).alloc _).alloc _).alloc _,by simp⟩
 . exact (zWP _ _ _ (by simp;omega)).trans ((zWP _ _ _ (by simp)).trans (zc w _))
 . refine (zWP _ _ _ (by simp)).trans ?_;have:=zc (w.alloc (.cells #[xP pb] 181)) (.cells #[xI k,xI a,.string ⟨#[]⟩,xI 0,xI 0,.slice none 0 0] 198);simpa using this
 have:=zc ((w.alloc (.cells #[xP pb] 181)).alloc (.cells #[xI k,xI a,.string ⟨#[]⟩,xI 0,xI 0,.slice none 0 0] 198)) (.cells #[xP (w.heap.size+1)] 156);unfold Box;simpa using this
theorem zkZ {d:Nat}{rx:Fn}(hX:zX d 159 rx)(gX:zv d rx)(S:Xs)(pb:Nat)(st:St)(p:Nat)(w:Xw)(HI:Inv p st)(hk:2<=st.t.k)(ho:18<=st.op+(d+1))(HR:PL S w pb st) :
 xK 207 #[xP pb] w (zaW S pb w.heap.size w (zdx rx st).1 (zdx rx st).2):=by
 have hlt:=HR.lt;have hmf:∀(fn:Go.Fn) (first cap:Xa) (w:Xw),(Instr.makeFunc fn first cap).run prog w=.ok (.func fn first cap) w:=λ_ _ _ _=>rfl;have he:=HI.toBad.er (by omega);have e1:=Fwd.enter HI he hk;have hoE:18<=st.enter.op+d:=by rw[St.enter_op];omega
 obtain⟨s1,h1⟩:∃s,rx st.enter=s:=⟨_,rfl⟩;obtain⟨s2,h2⟩:∃s,rx (s1.1.must 5 [116,104,101,110])=s:=⟨_,rfl⟩;obtain⟨s3,h3⟩:∃s,rx (s2.1.must 5 [101,108,115,101])=s:=⟨_,rfl⟩;have hM:zdx rx st=s3.1.leave.put ⟨sIf,st.t.a,0,[s1.2,s2.2,s3.2],sE,0⟩:=by unfold zdx;simp only[h1,h2,h3]
 rw[hM];have g1:=gX st.enter (p+1) e1.inv hoE;have g1i:Inv (p+1) s1.1:=by rw[<- h1];exact g1.inv
 have g1o:s1.1.op=st.op+1:=by rw[<- h1,g1.op,St.enter_op]
 have m1:=Fwd.must g1i 5 [116,104,101,110];have g2:=gX _ (p+1) m1.inv (by rw[St.must_op,g1o];omega);have g2i:Inv (p+1) s2.1:=by rw[<- h2];exact g2.inv
 have g2o:s2.1.op=st.op+1:=by rw[<- h2,g2.op,St.must_op,g1o]
 have m2:=Fwd.must g2i 5 [101,108,115,101];have g3:=gX _ (p+1) m2.inv (by rw[St.must_op,g2o];omega);have HgO:s3.1.op=st.op+1:=by rw[<- h3,g3.op,St.must_op,g2o]
 have HD:Hid (st.op=16->s3.1.leave=st.fail 3 st.t.a):=by
  intro h16;have hE:=St.enter_deep h16;have he3:st.enter.er≠0:=by rw[hE];exact St.fail_er _ (by decide)
  have q1:s1.1=st.enter:=by rw[<- h1,g1.er he3]
  have q2:s1.1.must 5 [116,104,101,110]=st.enter:=by rw[q1,hE];exact St.fail_must _ (by decide) (by decide)
  have q3:s2.1=st.enter:=by rw[<- h2,g2.er (by rw[q2];exact he3),q2]
  have q4:s2.1.must 5 [101,108,115,101]=st.enter:=by rw[q3,hE];exact St.fail_must _ (by decide) (by decide)
  have q5:s3.1=st.enter:=by rw[<- h3,g3.er (by rw[q4];exact he3),q4]
  rw[q5,zd0 h16]
 have HC:=za (λw1 b0 b1 b2 hR1=>zjN hX gX S pb st.enter (p+1) w1 w.heap.size (w.heap.size+1+1) (w.heap.size+1) (xI 5) (xI st.t.a) (.string ⟨#[]⟩) (xI 0) (xI 0) (.slice none 0 0) s1 s2 s3 h1 h2 h3 e1.inv hoE hR1 b0 b1 b2 (by omega) (by omega) (by omega));go_enter func207,ntmps207;go_wp2_with (go_at_call 171;refine (zb8 S pb st 5 _ (HR.alloc _)).mono ?_;rintro e w' ⟨rfl,rfl⟩);have T0:=zoW w pb 5 st.t.a;have hL0:=((HR.alloc (.cells #[xP pb] 181)).alloc (.cells #[xI 5,xI st.t.a,.string ⟨#[]⟩,xI 0,xI 0,.slice none 0 0] 198)).alloc (.cells #[xP (w.heap.size+1)] 156);obtain⟨w0,hw0⟩:∃w0,(((w.alloc (.cells #[xP pb] 181)).alloc (.cells #[xI 5,xI st.t.a,.string ⟨#[]⟩,xI 0,xI 0,.slice none 0 0] 198)).alloc (.cells #[xP (w.heap.size+1)] 156))=w0:=⟨_,rfl⟩;have T1:zlO w w0 pb 5 st.t.a:=hw0▸T0;have hL1:PL S w0 pb st:=hw0▸hL0;refine Eq.mpr (congrArg (λz=>xK 168 _ z _) hw0) ?_;refine (zdz _ _ zkR S pb st p w0 HI hk hL1 (λe w'=>e=.returned (.tuple #[])/\Box w' (w.heap.size+1+1) 156 (xP (w.heap.size+1))/\zaW S pb w.heap.size w (s3.1.leave.put ⟨sIf,st.t.a,0,[s1.2,s2.2,s3.2],sE,0⟩).1 (s3.1.leave.put ⟨sIf,st.t.a,0,[s1.2,s2.2,s3.2],sE,0⟩).2 (.returned (xP (w.heap.size+1))) w') ?_ ?_).mono ?_
 . intro hlt16 w2 hL2 hF2;refine (HC.o w2 (T1.bp.fr hF2 (by omega)) (T1.be.fr hF2 (by omega)) ((hF2.block _ (ze T1.eb) (by omega)).trans T1.eb) hL2).mono ?_;rintro e w3 ⟨rfl,a1,a2,a3,g,hL3,hT3,hb3,hg3,hzg,hF3⟩;refine⟨rfl,s3.1,hL3,by rw[HgO];omega,by rw[HgO];omega,?_⟩;intro w4 hL4 hF4;have hFw:Fr (·=pb) w w4:=(Fr.drop2 (T1.fr.trans hF2) hF3 (by omega)).trans hF4;have hz02:w0.heap.size<=w2.heap.size:=hF2.size;have hz0:=T1.size;refine⟨rfl,Box.fr (Fr.keep2 hF3 (T1.be.fr hF2 (by omega)) (by omega) (by omega)) hF4 (by omega),_,rfl,hL4.put _,?_,hFw⟩;intro he';obtain⟨t1,t2,t3⟩:=hT3.out he';refine TR.three (x:=s1.2) (y:=s2.2) (z:=s3.2) (g:=g) (t:=.pointer a1) (u:=.pointer a2) (v:=.pointer a3) (by omega) (by omega) ?_ ((hF4.block g (ze hg3) (by omega)).trans hg3) rfl ?_ ?_ ?_
   . show _=some (Obj.cells #[xI (zag sIf.toList 0:Nat),xI st.t.a,.string ⟨#[]⟩,xI (0:Nat),xI (zbF sIf.toList 0:Nat),xS g 3 3] 198 (0,0));rw[kIf,zbK];exact (hF4.block _ (ze hb3) (by omega)).trans hb3
   . exact (t1.fr hF4 (λk h1 _ h2=>by omega)).down (by omega)
   . exact (t2.fr hF4 (λk h1 _ h2=>by omega)).down (by omega)
   exact (t3.fr hF4 (λk h1 _ h2=>by omega)).down (by omega)
 . intro h16 w3 hL3 hF3;rw[HD.o h16];exact⟨rfl,T1.be.fr hF3 (by omega),_,rfl,hL3.put _,λhe'=>absurd he' (St.fail_er st (by decide)),T1.fr.trans hF3⟩
 rintro e w4 ⟨rfl,hb4,HQ⟩;obtain⟨f0,ff,fz⟩:=zu hb4;go_wp2_with fail;go_ret;exact HQ
theorem zli {d:Nat}{sd:Fn}(hS:zX d 212 sd)(gS:zv d sd)(S:Xs)(pb:Nat)(st:St)(p:Nat)(w:Xw)(bp be eb:Nat)(v0 v1 v2 v3 v4 v5:Xv)(ns:Xb)(na:Nat)(hnv:zcc st=.agg #[.string ns,xI na])(s1 s2:St×Nat)(h1:sd st.name=s1)(h2:sd s1.1=s2)
 (hI:Inv p st) (ho:18<=st.op+d) (hR:PL S w pb st) (hbp:Box w bp 181 (xP pb)) (hbe:Box w be 156 (xP eb)) (heb:w.heap[eb]?=some (.cells #[v0,v1,v2,v3,v4,v5] 198 (0,0))) (n0:¬bp=pb) (n1:¬be=pb) (n3:pb<eb) (n4:¬bp=eb) (n5:¬be=eb) :
 xK 211 #[xP bp,xP be] w λe w'=>e=.returned (.tuple #[])/\∃a1 a2 g,PL S w' pb s2.1/\Hid (s2.1.er=0->TR w' w.heap.size s2.1.L s1.2 (.pointer a1)/\TR w' w.heap.size s2.1.L s2.2 (.pointer a2)) /\
  w'.heap[eb]?=some (.cells #[v0,v1,.string ns,xI na,v4,xS g 2 2] 198 (0,0))/\w'.heap[g]?=some (.cells #[.pointer a1,.pointer a2] 156 (0,0))/\w.heap.size<=g/\Fr (λk=>k=pb∨k=eb) w w':=by
 have n2:¬eb=pb:=by omega
 have f0:=Fwd.name hI;have HN:=za (λw1 h=>zaZ S pb st w1 hI.toBad h);rw[hnv] at HN;have o0:18<=st.name.op+d:=by rw[St.name_op];exact ho
 have g1:=gS st.name p f0.inv o0;have H1:=za (λw1 h=>hS S pb st.name p w1 f0.inv o0 h);have g1i:Inv p s1.1:=by rw[<- h1];exact g1.inv
 have g1o:s1.1.op=st.op:=by rw[<- h1,g1.op,St.name_op]
 rw[h1] at H1;have o1:18<=s1.1.op+d:=by rw[g1o];exact ho
 have g2:=gS _ p g1i o1;have H2:=za (λw1 h=>hS S pb s1.1 p w1 g1i o1 h);rw[h2] at H2;have f2:Fwd p s1.1 s2.1:=by rw[<- h2];exact g2.fwd
 obtain⟨E2,HE2⟩:=f2.L;have HR21:=za (λh:s2.1.er=0=>f2.er0 h);obtain⟨c0,cf,cz⟩:=zu hbp;obtain⟨e0,ef,ez⟩:=zu hbe;have HR:=za hR;have Hbp:=za hbp;have Hbe:=za hbe;have Heb:=za heb;have hzb:=ze heb;have hlt:=hR.lt;go_enter func211,ntmps211;go_wp2_with fail;go_region_with (go_at_call 129;refine (HN.o _ HR.o.drew).mono ?_;rintro e w1 ⟨rfl,hL1,hF1'⟩;have hF1:Fr (·=pb) w w1:=hF1'.undrew;have hz1:=hF1.size;have heb1:=(hF1.block eb hzb n2).trans Heb.o;obtain⟨d0,d1,d2,d3,d4,d5,df,dz⟩:=zt heb1;obtain⟨f0,ff,fz⟩:=zu (Hbe.o.fr hF1 n1);have HL1:=za hL1;have HF1:=za hF1;have Heb1:=za heb1)
 all_goals
  have HF2:Fr (λk=>k=pb∨k=eb) w ((w1.setCell (xD eb 2) (.string ns)).setCell (xD eb 3) (xI na)):=(HF1.o.with2 eb _ _).setCell (zM3 (zM4 rfl)) _;have Heb2:((w1.setCell (xD eb 2) (.string ns)).setCell (xD eb 3) (xI na)).heap[eb]?=some (.cells #[v0,v1,.string ns,xI na,v4,v5] 198 (0,0)):=zh _ _ _ _ (zh _ _ _ _ Heb1.o);have HL2:PL S ((w1.setCell (xD eb 2) (.string ns)).setCell (xD eb 3) (xI na)) pb st.name:=(HL1.o.setOther n3 _ _).setOther n3 _ _;have Hbe2:=HF2.keep2 Hbe.o n1 n5;have Hbp2:=HF2.keep2 Hbp.o n0 n4;generalize ((w1.setCell (xD eb 2) (.string ns)).setCell (xD eb 3) (xI na))=w2 at *;obtain⟨p0,pf,pz⟩:=zu Hbp2;have hz2:=HF2.size;go_wp2_with fail;refine (H1.o w2 HL2).mono ?_;rintro e w3 ⟨a3,rfl,HL3,hT3,HF3⟩;have hz3:=HF3.size;have Heb3:=za ((HF3.block eb (ze Heb2) n2).trans Heb2);obtain⟨k0,kf,kz⟩:=zu (Hbp2.fr HF3 n0);obtain⟨l0,lf,lz⟩:=zu (Hbe2.fr HF3 n1);go_wp2_with fail;go_region_with (go_at_call 212;refine (H2.o _ HL3.drew).mono ?_;rintro e w5 ⟨a5,rfl,HL5,hT5,hF5'⟩;have HF5:Fr (·=pb) w3 w5:=hF5'.undrew;have hz5:=HF5.size;have Heb5:=(HF5.block eb (ze Heb3.o) n2).trans Heb3.o;obtain⟨d0,d1,d2,d3,d4,d5,df,dz⟩:=zt Heb5;obtain⟨f0,ff,fz⟩:=zu ((Hbe2.fr HF3 n1).fr HF5 n1))
  all_goals go_wp2_with fail
  all_goals go_end0
  all_goals
   have hk5:(w5.setCell (xD eb 5) (xS w5.heap.size 2 2)).heap.size=w5.heap.size:=(by simp[World.setCell]);refine⟨rfl,a3,a5,w5.heap.size,?_,?_,?_,?_,by omega,?_⟩
   . exact (HL5.setOther n3 _ _).alloc _
   . intro he2;have t5:=hT5.out he2;have t3:=hT3.out (HR21.o he2);have Fend:Fr (·=eb) w5 ((w5.setCell (xD eb 5) (xS w5.heap.size 2 2)).alloc (.cells #[.pointer a3,.pointer a5] 156)):=((Fr.refl _ w5).set1 _ _).alloc _;refine⟨?_,?_⟩
     . rw[HE2];exact (((t3.down hz2).fr HF5 (λk h1 _ h2=>by omega)).fr Fend (λk h1 _ h2=>by omega)).more E2
     exact (t5.down (by show w.heap.size<=w3.heap.size;omega)).fr Fend (λk h1 _ h2=>by omega)
   . exact (zWP _ _ _ (by rw[hk5];exact dz)).trans (zh _ _ _ _ Heb5)
   . have:=zc (w5.setCell (xD eb 5) (xS w5.heap.size 2 2)) (.cells #[.pointer a3,.pointer a5] 156);rw[hk5] at this;exact this
   exact ((((HF2.trans' HF3 (λ_ _ h=>zM3 h)).trans' HF5 (λ_ _ h=>zM3 h)).setCell (zM3 (zM4 rfl)) _).alloc _)
theorem zmY:zH 211:=λ_ _=>by kernel_rfl
theorem zqI:zag zep.toList 0=6:=by decide +kernel
theorem St.fail_name (s:St){e a:Nat}(he:e≠0):(s.fail e a).name=s.fail e a:=by
 unfold St.name;have:(s.fail e a).t.k=1:=by unfold St.fail;split <;> rfl
 rw[zM1 (by omega)];exact St.fail_fail s he
theorem zmk {d:Nat}{ra:Fn}(hS:zX d 212 (zch ra))(gA:zv d ra)(S:Xs)(pb:Nat)(st:St)(p:Nat)(w:Xw)(HI:Inv p st)(hk:2<=st.t.k)(ho:18<=st.op+(d+1))(HR:PL S w pb st) :
 xK 208 #[xP pb] w (zaW S pb w.heap.size w (zeE ra st).1 (zeE ra st).2):=by
 have gS:zv d (zch ra):=zf0 gA;have hlt:=HR.lt;have hmf:∀(fn:Go.Fn) (first cap:Xa) (w:Xw),(Instr.makeFunc fn first cap).run prog w=.ok (.func fn first cap) w:=λ_ _ _ _=>rfl;have he:=HI.toBad.er (by omega);have e1:=Fwd.enter HI he hk;have hoE:18<=st.enter.op+d:=by rw[St.enter_op];omega
 obtain⟨s1,h1⟩:∃s,zch ra st.enter.name=s:=⟨_,rfl⟩;obtain⟨s2,h2⟩:∃s,zch ra s1.1=s:=⟨_,rfl⟩;obtain⟨ns,na,hnv,hnk⟩:=zjf st.enter;have hM:zeE ra st=s2.1.leave.put ⟨zep,st.t.a,st.enter.t.a,[s1.2,s2.2],st.enter.t.s,0⟩:=by unfold zeE;simp only[h1,h2]
 rw[hM];have f0:=Fwd.name e1.inv;have g1:=gS st.enter.name (p+1) f0.inv (by rw[St.name_op];exact hoE);have g1i:Inv (p+1) s1.1:=by rw[<- h1];exact g1.inv
 have g1o:s1.1.op=st.op+1:=by rw[<- h1,g1.op,St.name_op,St.enter_op]
 have g2:=gS _ (p+1) g1i (by rw[g1o];omega);have HgO:s2.1.op=st.op+1:=by rw[<- h2,g2.op,g1o]
 have f1:Fwd (p+1) st.enter.name s1.1:=by rw[<- h1];exact g1.fwd
 have f2:Fwd (p+1) s1.1 s2.1:=by rw[<- h2];exact g2.fwd
 have HNk:Hid (s2.1.er=0->ns=st.enter.t.s/\na=st.enter.t.a):=by
  intro h;apply hnk;have h3:=f1.er0 (f2.er0 h);by_cases h4:st.enter.t.k=2
  . exact h4
  exfalso;unfold St.name at h3;rw[zM1 h4] at h3;exact St.fail_er _ (by decide) h3
 have HD:Hid (st.op=16->s2.1.leave=st.fail 3 st.t.a):=by
  intro h16;have hE:=St.enter_deep h16;have he3:st.enter.er≠0:=by rw[hE];exact St.fail_er _ (by decide)
  have q0:st.enter.name=st.enter:=by rw[hE];exact St.fail_name _ (by decide)
  have q1:s1.1=st.enter:=by rw[<- h1,g1.er (by rw[q0];exact he3),q0]
  have q3:s2.1=st.enter:=by rw[<- h2,g2.er (by rw[q1];exact he3),q1]
  rw[q3,zd0 h16]
 have HC:=za (λw1 b0 b1 b2 hR1=>zli hS gS S pb st.enter (p+1) w1 w.heap.size (w.heap.size+1+1) (w.heap.size+1) (xI 6) (xI st.t.a) (.string ⟨#[]⟩) (xI 0) (xI 0) (.slice none 0 0) ns na hnv s1 s2 h1 h2 e1.inv hoE hR1 b0 b1 b2 (by omega) (by omega) (by omega) (by omega) (by omega));go_enter func208,ntmps208;go_wp2_with (go_at_call 171;refine (zb8 S pb st 6 _ (HR.alloc _)).mono ?_;rintro e w' ⟨rfl,rfl⟩);have T0:=zoW w pb 6 st.t.a;have hL0:=((HR.alloc (.cells #[xP pb] 181)).alloc (.cells #[xI 6,xI st.t.a,.string ⟨#[]⟩,xI 0,xI 0,.slice none 0 0] 198)).alloc (.cells #[xP (w.heap.size+1)] 156);obtain⟨w0,hw0⟩:∃w0,(((w.alloc (.cells #[xP pb] 181)).alloc (.cells #[xI 6,xI st.t.a,.string ⟨#[]⟩,xI 0,xI 0,.slice none 0 0] 198)).alloc (.cells #[xP (w.heap.size+1)] 156))=w0:=⟨_,rfl⟩;have T1:zlO w w0 pb 6 st.t.a:=hw0▸T0;have hL1:PL S w0 pb st:=hw0▸hL0;refine Eq.mpr (congrArg (λz=>xK 168 _ z _) hw0) ?_;refine (zdz _ _ zmY S pb st p w0 HI hk hL1 (λe w'=>e=.returned (.tuple #[])/\Box w' (w.heap.size+1+1) 156 (xP (w.heap.size+1))/\zaW S pb w.heap.size w (s2.1.leave.put ⟨zep,st.t.a,st.enter.t.a,[s1.2,s2.2],st.enter.t.s,0⟩).1 (s2.1.leave.put ⟨zep,st.t.a,st.enter.t.a,[s1.2,s2.2],st.enter.t.s,0⟩).2 (.returned (xP (w.heap.size+1))) w') ?_ ?_).mono ?_
 . intro hlt16 w2 hL2 hF2;refine (HC.o w2 (T1.bp.fr hF2 (by omega)) (T1.be.fr hF2 (by omega)) ((hF2.block _ (ze T1.eb) (by omega)).trans T1.eb) hL2).mono ?_;rintro e w3 ⟨rfl,a1,a2,g,hL3,hT3,hb3,hg3,hzg,hF3⟩;refine⟨rfl,s2.1,hL3,by rw[HgO];omega,by rw[HgO];omega,?_⟩;intro w4 hL4 hF4;have hFw:Fr (·=pb) w w4:=(Fr.drop2 (T1.fr.trans hF2) hF3 (by omega)).trans hF4;have hz02:w0.heap.size<=w2.heap.size:=hF2.size;have hz0:=T1.size;refine⟨rfl,Box.fr (Fr.keep2 hF3 (T1.be.fr hF2 (by omega)) (by omega) (by omega)) hF4 (by omega),_,rfl,hL4.put _,?_,hFw⟩;intro he';obtain⟨t1,t2⟩:=hT3.out he';obtain⟨r1,r2⟩:=HNk.o he';refine TR.two (y:=s1.2) (z:=s2.2) (g:=g) (u:=.pointer a1) (v:=.pointer a2) (by omega) (by omega) ?_ ((hF4.block g (ze hg3) (by omega)).trans hg3) rfl ?_ ?_
   . show _=some (Obj.cells #[xI (zag zep.toList 0:Nat),xI st.t.a,.string st.enter.t.s,xI st.enter.t.a,xI (zbF zep.toList 0:Nat),xS g 2 2] 198 (0,0));rw[zqI,zbK,<- r1,<- r2];exact (hF4.block _ (ze hb3) (by omega)).trans hb3
   . exact (t1.fr hF4 (λk h1 _ h2=>by omega)).down (by omega)
   exact (t2.fr hF4 (λk h1 _ h2=>by omega)).down (by omega)
 . intro h16 w3 hL3 hF3;rw[HD.o h16];exact⟨rfl,T1.be.fr hF3 (by omega),_,rfl,hL3.put _,λhe'=>absurd he' (St.fail_er st (by decide)),T1.fr.trans hF3⟩
 rintro e w4 ⟨rfl,hb4,HQ⟩;obtain⟨f0,ff,fz⟩:=zu hb4;go_wp2_with fail;go_ret;exact HQ
end
section
variable {rx:Fn} {L:List Ex} {d p y:Nat} {av u:Xv} {w wr:Xw}
theorem zpl:zH 159:=λ_ _=>by kernel_rfl
theorem Tryz.infoXp:(prog.info? 156).map (λi=>(i.zero,i.size,i.bytes))=some (some (.pointer none),1,8):=by kernel_rfl
theorem zlz:(⟨#[44]⟩:Xb).toList=[44]:=by decide +kernel
theorem Fwd.er0' {a b:St}(h:Fwd p a b)(hb:b.er=0):a.er=0:=h.er0 hb
def TRI (w wr:Xw)(av:Xv)(L:List Ex)(y:Nat)(u:Xv):Prop :=
 ∃(wi:Xw) (Bi:Nat),w.heap.size<=Bi/\TR wi Bi L y u/\(∀k,Bi<=k->k<wi.heap.size->wr.heap[k]?=wi.heap[k]?)/\(∀g,av.ownBlock=some g->g<Bi∨wi.heap.size<=g)/\wi.heap.size<=wr.heap.size
theorem TRI.now (h:TRI w wr av L y u):TR wr w.heap.size L y u:=by obtain⟨wi,Bi,h1,h2,h3,_,_⟩:=h;exact (h2.kept h3).down h1
theorem TRI.next {w':Xw}{av':Xv}(h:TRI w wr av L y u)(E:List Ex){T:Xj}(hf:Fr T wr w')(hT:∀k,T k->k<w.heap.size∨av.ownBlock=some k)(ha:∀k,av'.ownBlock=some k->av.ownBlock=some k∨wr.heap.size<=k):TRI w w' av' (L++E) y u:=by
 obtain⟨wi,Bi,h1,h2,h3,h4,h5⟩:=h;refine⟨wi,Bi,h1,h2.more E,λk hk1 hk2=>?_,λg hg=>?_,zMO h5 hf.size⟩
 . refine (hf.block k (zM9 hk2 h5) (λht=>?_)).trans (h3 k hk1 hk2);rcases hT k ht with h|h
   . omega
   rcases h4 k h with h|h <;> omega
 rcases ha g hg with h|h
 . exact h4 g h
 exact zM4 (zMO h5 h)
structure zjp (S:Xs) (pb eb p d:Nat) (w wr:Xw) (v0 v1 v2 v3 v4:Xv) (s:St) (l:Xn) (vs:Xm) (av:Xv):Prop where
 inv:Inv p s
 op:18<=s.op+d
 pl:PL S wr pb s
 blk:xH wr eb #[v0,v1,v2,v3,v4,av] 198
 own:wr.ownsRow w.heap.size 156 1 av vs.length vs
 len:vs.length=l.length
 tr:s.er=0->∀(i y:Nat) (u:Xv),l[i]?=some y->vs[i]?=some u->TRI w wr av s.L y u
 fr:Fr (λk=>k=pb∨k=eb) w wr
 few:l.length<=s.t.a
theorem zmt {S:Xs}{pb eb:Nat}{w1 w9:Xw}{v0 v1 v2 v3 v4:Xv}{s:St}{l:Xn}{vs:Xm}{v':Xv}{a1:Xp}{X:Obj}
 (HA:zjp S pb eb p d w wr v0 v1 v2 v3 v4 s l vs av) (g1:zaN rx s p) (hll:l.length+1<=s.t.a) (n3:pb<eb) (hzb:eb<w.heap.size) (hF1:Fr (·=pb) wr w1) (hT1:(rx s).1.er=0->TR w1 wr.heap.size (rx s).1.L (rx s).2 (.pointer a1))
 (hL9:PL S w9 pb (rx s).1) (hF9:Fr (λk=>av.ownBlock=some k) (w1.alloc X) w9) (heb9:w9.heap[eb]?=some (.cells #[v0,v1,v2,v3,v4,av] 198 (0,0))) (hown:w9.ownsRow w.heap.size 156 1 v' (vs.length+1) (vs++[.pointer a1]))
 (hnew:∀k,v'.ownBlock=some k->av.ownBlock=some k∨(w1.alloc X).heap.size<=k):zjp S pb eb p d w (w9.setCell (xD eb 5) v') v0 v1 v2 v3 v4 (rx s).1 (l++[(rx s).2]) (vs++[.pointer a1]) v':=by
 have hav:∀k,av.ownBlock=some k->w.heap.size<=k/\k<wr.heap.size:=λk hk=>HA.own.lt k hk;have hzr:=HA.fr.size;have hz1:=hF1.size;have hplt:=HA.pl.lt;have hzx:(w1.alloc X).heap.size=w1.heap.size+1:=by simp
 have hFa:Fr (λk=>k=pb∨k=eb∨av.ownBlock=some k) wr (w9.setCell (xD eb 5) v'):=by have h1:Fr (λk=>k=pb∨k=eb∨av.ownBlock=some k) wr (w1.alloc X):=(hF1.mono (λ_ _ h=>zM3 h)).alloc X;exact (h1.trans' hF9 (λ_ _ h=>zM4 (zM4 h))).setCell (zM3 (zM4 (zM3 rfl))) _
 obtain⟨E,hE⟩:=g1.L;have hv':∀k,v'.ownBlock=some k->w.heap.size<=k:=λk hk=>(hown.lt k hk).1;refine⟨g1.inv,by rw[g1.op];exact HA.op,hL9.setOther n3 _ _,zh _ _ _ _ heb9,?_,by simp[HA.len],?_,?_,?_⟩
 . rw[zMM];exact zi hown (λk h1 _ _=>zr (by omega) rfl)
 . intro he i y u hi hu;rcases Nat.lt_or_ge i l.length with h|h
   . rw[zM6 h] at hi;rw[zM6 (by rw[HA.len];exact h)] at hu;rw[hE];refine (HA.tr (g1.fwd.er0' he) i y u hi hu).next E hFa (λk hk=>?_) (λk hk=>?_)
     . rcases hk with h|h|h
       . left;omega
       . left;omega
       exact zM4 h
     rcases hnew k hk with h|h
     . exact zM3 h
     right;omega
   have h2:i=l.length:=(by have:=(zMJ.1 hi).1;simp at this;omega);subst h2;rw[zM5 (zMK _)] at hi;rw[<- HA.len,zM5 (zMK _)] at hu;simp at hi hu;subst hi hu;refine⟨w1,wr.heap.size,hzr,hT1 he,λk h1 h2=>?_,λg hg=>?_,?_⟩
   . refine zr (by omega) ((hF9.block k (by omega) (λh=>by have:=(hav k h).2;omega)).trans (zWP _ _ _ h2))
   . rcases hnew g hg with h|h
     . left;exact (hav g h).2
     right;omega
   have:=hF9.size;simp[World.setCell];omega
 . have h1:Fr (λk=>k=pb∨k=eb) w (w1.alloc X):=(HA.fr.trans' hF1 (λ_ _ h=>zM3 h)).alloc X;exact (h1.trans' hF9 (λi hi h=>by have:=(hav i h).1;omega)).setCell (zM3 (zM4 rfl)) _
 have:=g1.ta;simp;omega
theorem zku {a:Xp}:∀u∈[Value.pointer a],u.oneCell'=true:=by intro u hu;simp at hu;subst hu;rfl
theorem zmh (HX:zX d 159 rx)(GX:zv d rx)(S:Xs)(pb:Nat)(st:St)(p:Nat)(w:Xw)(bp be eb:Nat)(v0 v1 v2 v3 v4:Xv)(hI:Inv p st)(ho:18<=st.op+d)(ha:1<=st.t.a)(hR:PL S w pb st)(Hbp:Box w bp 181 (xP pb))(Hbe:Box w be 156 (xP eb))(heb:xH w eb #[v0,v1,v2,v3,v4,.slice none 0 0] 198)(n0:¬bp=pb)(n1:¬be=pb)(n3:pb<eb)(n4:¬bp=eb)(n5:¬be=eb) :
 xK 169 #[xP bp,xP be] w λe w'=>e=.returned (.tuple #[])/\∃vs av,PL S w' pb ((zbG rx st).1.must 4 [41])/\xH w' eb #[v0,v1,v2,v3,v4,av] 198/\w'.ownsRow w.heap.size 156 1 av vs.length vs/\vs.length=(zbG rx st).2.length /\
  Hid (((zbG rx st).1.must 4 [41]).er=0->∀(i y:Nat) (u:Xv),(zbG rx st).2[i]?=some y->vs[i]?=some u->TR w' w.heap.size (zbG rx st).1.L y u)/\Fr (λk=>k=pb∨k=eb) w w':=by
 have n2:¬eb=pb:=by omega
 have hzb:=ze heb;have hlt:=hR.lt;have HA0:zjp S pb eb p d w w v0 v1 v2 v3 v4 st [] [] (.slice none 0 0):=⟨hI,ho,hR,heb,World.ownsRow_nil _ _ _ _,rfl,λ_ i y u h _=>by simp at h,Fr.refl _ _,by simp⟩;have Hst:Hid (1201-st.t.a<1300):=by unfold Hid;omega
 have hRes0:zbG rx st=zc1 rx 1300 ((rx st).1,[]++[(rx st).2]):=rfl;obtain⟨i0,hi,hz0,hz1,hz2⟩:=info_parts Tryz.infoXp;obtain⟨R,hRes⟩:∃R,zbG rx st=R:=⟨_,rfl⟩;rw[hRes];rw[hRes] at hRes0;have HRes:=za hRes0.symm;clear hRes hRes0 hR hI ho heb;go_enter func169,ntmps169;go_wp2_with fail;go_loopg [2] 1300 (λk m wr=>∃(b:Bool) (s:St) (l:Xn) (vs:Xm) (av:Xv),m=.bool b/\Hid (zjp S pb eb p d w wr v0 v1 v2 v3 v4 s l vs av)/\Hid (b=true->zc1 rx k ((rx s).1,l++[(rx s).2])=R/\1201-s.t.a<k/\l.length+1<=s.t.a)/\Hid (b=false->(s,l)=R));case atStart=>exact⟨true,st,[],[],_,rfl,HA0,λ_=>⟨HRes.o,Hst.o,by simpa using ha⟩,λh=>by cases h⟩
 case round =>
  obtain⟨b,s,l,vs,av,rfl,HA,HT,HFa⟩:=hrel;have hz:=HA.o.fr.size;have hltr:=HA.o.pl.lt;have Hbp1:=HA.o.fr.keep2 Hbp n0 n4;have Hbe1:=HA.o.fr.keep2 Hbe n1 n5;obtain⟨p0,pf,pz⟩:=zu Hbp1;obtain⟨e0,ef,ez⟩:=zu Hbe1;cases b with
  | false => have HQ:=HFa.o rfl;have HBd:=za HA.o.inv.toBad;clear HT HFa;go_wp2_with (go_at_call 128;refine (zP S pb s _ [41] zlq _ HBd.o HA.o.pl).mono ?_;rintro e w2 ⟨rfl,HL2,HF2⟩);go_end0;rw[<- HQ];have hm:s.expM [41]=s.must 4 [41]:=zan HA.o.pl.tx (by decide);refine⟨rfl,vs,av,hm▸HL2,(HF2.block eb (ze HA.o.blk) n2).trans HA.o.blk,zi HA.o.own (λk h1 h2 _=>HF2.block k h2 (by omega)),HA.o.len,?_,HA.o.fr.trans' HF2 (λ_ _ h=>zM3 h)⟩;intro Her i y u h1 h2;exact (HA.o.tr ((Fwd.must HA.o.inv 4 [41]).er0 Her) i y u h1 h2).now.fr HF2 (λk h1 _ h2=>by omega)
  | true =>
    obtain⟨hR1,Hrem,Hll⟩:=HT.o rfl;have Hg:=GX s p HA.o.inv HA.o.op;have HXs:=za (λw1 h=>HX S pb s p w1 HA.o.inv HA.o.op h);obtain⟨E,HE⟩:=Hg.L;have HR1:=za hR1;have hvl:vs.length<=1200:=(by have:=HA.o.few;have:=HA.o.inv.ok.ta_le;have:=HA.o.len;omega);have mx:vs.length+1<=maxLen:=(by unfold maxLen;omega);have by':(vs.length+1)*8<=140737488355328:=(by omega);obtain⟨d0,d1,d2,d3,d4,Hd5,df,dz⟩:=zt HA.o.blk;clear HT HFa hR1;go_upto_block 1 with fail;go_cut [] (λwx=>∃vs' av',Hid (zjp S pb eb p d w wx v0 v1 v2 v3 v4 (rx s).1 (l++[(rx s).2]) vs' av'));case first =>
     go_wp2_with fail;go_region_law (first|(refine zbL rfl 159 (.tmp 11) 181 rfl zpl (xP pb) rfl (HXs.o _ HA.o.pl.drew) ?_;rintro e w1 ⟨a1,rfl,HL1,hT1,hF1'⟩;refine⟨_,rfl,?_⟩;have HF1:Fr (·=pb) wr w1:=hF1'.undrew;have hzc:=HF1.size;have Heb1:=(HF1.block eb (ze HA.o.blk) n2).trans HA.o.blk;obtain⟨f0,f1,f2,f3,f4,f5,ff,fz⟩:=zt Heb1;obtain⟨j0,jf,jz⟩:=zu (Hbe1.fr HF1 n1);obtain⟨k0,kf,kz⟩:=zu (Hbp1.fr HF1 n0);have Hown1:=za (zi HA.o.own (λk h1 h2 _=>HF1.block k h2 (by omega)));have hzw:w.heap.size<=w1.heap.size+1:=(by omega);clear hF1')|(refine zJ _ rfl (.tmp 10) (.tmp 13) 196 rfl w.heap.size 156 i0 _ 1 8 underlying196 hi hz0 hz1 hz2 rfl (by decide) av vs.length vs rfl (zD Hown1.o _) (xD w1.heap.size 0) 1 1 [.pointer a1] rfl rfl (zN (zc w1 _) rfl) zku mx by' (by simpa using hzw) ?_;intro v' w9 Hown9 hgrow Hnew9;obtain⟨g9,cap9,rfl,hg9⟩:=zM Hown9 (by omega);have Hav:∀k,av.ownBlock=some k->w.heap.size<=k:=λk hk=>(Hown1.o.lt k hk).1;have HF9:=Fr.of_grown hgrow;have hb9:∀k,k<w.heap.size->w9.heap[k]?=w1.heap[k]?:=(λk hk=>(HF9.block k (by rw[zsb];omega) (λh=>by have:=Hav k h;omega)).trans (zWP _ _ _ (by omega)));obtain⟨m0,m1,m2,m3,m4,m5,mf,mz⟩:=zt ((hb9 eb hzb).trans Heb1);have Heb9:=za ((hb9 eb hzb).trans Heb1);obtain⟨o0,of',oz⟩:=zu ((hb9 be (ze Hbe)).trans (Hbe1.fr HF1 n1));have Hbp9:=za ((hb9 bp (ze Hbp)).trans (Hbp1.fr HF1 n0));have HL9:Hid (PL S w9 pb (rx s).1):=(HL1.alloc _).fr HF9 (λk hk=>by have:=Hav k hk;omega);clear hgrow hb9));all_goals go_wp2_with fail
     all_goals go_meet
     all_goals exact⟨_,_,zmt HA.o Hg Hll n3 hzb HF1 hT1.out HL9.o HF9 Heb9.o Hown9 Hnew9⟩
    case rest =>
     obtain⟨vs2,av2,HA2⟩:=hcut;have hzq:=HA2.o.fr.size;obtain⟨p2,pf2,pz2⟩:=zu (HA2.o.fr.keep2 Hbp n0 n4);have HBd:=za HA2.o.inv.toBad;have HSk:=za (zbg S pb (rx s).1 ⟨#[44]⟩ [44] zlz wc HBd.o HA2.o.pl);rw[zaB HA2.o.pl.tx (by decide)] at HSk;have hska:(rx s).1.skipM [44]=if (rx s).1.is 4 [44]=true then (rx s).1.step else (rx s).1:=(by unfold St.skipM;rw[zaB HA2.o.pl.tx (by decide)]);rw[hska] at HSk;clear p0 pf pz e0 ef ez d0 d1 d2 d3 d4 df dz hska;obtain⟨g,rfl⟩:∃g,gk=g+1:=⟨gk-1,by have:=Hrem;omega⟩;have hR1:=HR1.o;have hunf:zc1 rx (g+1) ((rx s).1,l++[(rx s).2])=if (rx s).1.er=0/\(rx s).1.is 4 [44]=true then zc1 rx g ((rx (rx s).1.step).1,(l++[(rx s).2])++[(rx (rx s).1.step).2]) else ((rx s).1,l++[(rx s).2]):=rfl;rw[hunf] at hR1;cases hc:(rx s).1.is 4 [44] with
     | true =>
       have Her:(rx s).1.er=0:=HBd.o.er (by rw[Inv.is_k hc];decide);rw[zM2 ⟨Her,hc⟩] at hR1;have HR2:=za hR1;rw[hc,zM2 rfl] at HSk;have e5:=Fwd.use HA2.o.inv Her (by rw[Inv.is_k hc];decide);have e5':=Fwd.step HA2.o.inv;have Hta:(rx s).1.t.a+1<=(rx s).1.step.t.a:=(by have h1:=HA2.o.inv.tok (by rw[Inv.is_k hc];decide);have h2:=zV (rx s).1.src (rx s).1.t.t HA2.o.inv.ok.tt;rw[St.step_ok Her];simp only;omega);have HS5:(rx s).1.step.L=(rx s).1.L:=St.step_L _;have HN:Hid (zc1 rx g ((rx (rx s).1.step).1,(l++[(rx s).2])++[(rx (rx s).1.step).2])=R/\1201-(rx s).1.step.t.a<g/\(l++[(rx s).2]).length+1<=(rx s).1.step.t.a):=by
        refine⟨HR2.o,?_,?_⟩
        . have h1:=Hg.ta;have h2:=Hrem;have h3:=HA.o.inv.ok.ta_le;have h4:=e5'.inv.ok.ta_le;omega
        have h1:=HA2.o.few;omega
       have HI5:=za e5'.inv;clear hR1 hunf hc e5 e5';go_wp2_with (go_at_call 131;refine HSk.o.mono ?_;rintro e w3 ⟨rfl,HL3,HF3⟩);go_roundg g;case measure=>omega
       refine⟨true,(rx s).1.step,l++[(rx s).2],vs2,av2,rfl,⟨HI5.o,by rw[St.step_op];exact HA2.o.op,HL3,(HF3.block eb (ze HA2.o.blk) n2).trans HA2.o.blk,zi HA2.o.own (λk h1 h2 _=>HF3.block k h2 (by omega)),HA2.o.len,?_,HA2.o.fr.trans' HF3 (λ_ _ h=>zM3 h),?_⟩,λ_=>HN.o,λh=>by cases h⟩
       . intro _ i y u h1 h2;rw[HS5];have:=(HA2.o.tr Her i y u h1 h2).next [] HF3 (av':=av2) (λk hk=>by left;omega) (λk hk=>zM3 hk);rwa [List.append_nil] at this
       have h1:=HA2.o.few;have h2:=Hta;omega
     | false =>
       rw[zM1 (by rw[hc];simp)] at hR1;have HR2:=za hR1;rw[hc,zM1 (by simp)] at HSk;clear hR1 hunf hc;go_wp2_with (go_at_call 131;refine HSk.o.mono ?_;rintro e w3 ⟨rfl,HL3,HF3⟩);go_roundg g;case measure=>omega
       refine⟨false,(rx s).1,l++[(rx s).2],vs2,av2,rfl,⟨HA2.o.inv,HA2.o.op,HL3,(HF3.block eb (ze HA2.o.blk) n2).trans HA2.o.blk,zi HA2.o.own (λk h1 h2 _=>HF3.block k h2 (by omega)),HA2.o.len,?_,HA2.o.fr.trans' HF3 (λ_ _ h=>zM3 h),HA2.o.few⟩,(λh=>by cases h),λ_=>HR2.o⟩;intro Her i y u h1 h2;have:=(HA2.o.tr Her i y u h1 h2).next [] HF3 (av':=av2) (λk hk=>by left;omega) (λk hk=>zM3 hk);rwa [List.append_nil] at this
end
section
theorem zol:zH 169:=λ_ _=>by kernel_rfl
theorem zrg:zag zef.toList 0=4:=by decide +kernel
structure zrS (w w0:Xw) (pb:Nat) (s:Xb) (a:Nat):Prop where
 bp:Box w0 w.heap.size 181 (xP pb)
 eb:xH w0 (w.heap.size+1+1) #[xI 4,xI a,.string s,xI a,xI 0,.slice none 0 0] 198
 be:Box w0 (w.heap.size+1+1+1) 156 (xP (w.heap.size+1+1))
 fr:Fr (·=pb) w w0
 size:w0.heap.size=w.heap.size+1+1+1+1
def zee (w:Xw)(pb:Nat)(s:Xb)(a:Nat):World:=(((w.alloc (.cells #[xP pb] 181)).alloc (.cells #[.string s,xI a] 84)).alloc (.cells #[xI 4,xI a,.string s,xI a,xI 0,.slice none 0 0] 198)).alloc (.cells #[xP (w.heap.size+1+1)] 156)
theorem zrN (w:Xw)(pb:Nat)(s:Xb)(a:Nat):zrS w (zee w pb s a) pb s a:=by
 unfold zee;refine⟨?_,?_,?_,((((Fr.refl _ w).alloc _).alloc _).alloc _).alloc _,by simp⟩
 . exact (zWP _ _ _ (by simp;omega)).trans ((zWP _ _ _ (by simp;omega)).trans ((zWP _ _ _ (by simp)).trans (zc w _)))
 . refine (zWP _ _ _ (by simp)).trans ?_;have:=zc ((w.alloc (.cells #[xP pb] 181)).alloc (.cells #[.string s,xI a] 84)) (.cells #[xI 4,xI a,.string s,xI a,xI 0,.slice none 0 0] 198);simpa using this
 have:=zc (((w.alloc (.cells #[xP pb] 181)).alloc (.cells #[.string s,xI a] 84)).alloc (.cells #[xI 4,xI a,.string s,xI a,xI 0,.slice none 0 0] 198)) (.cells #[xP (w.heap.size+1+1)] 156);unfold Box;simpa using this
theorem zpo {S:Xs}{w:Xw}{pb:Nat}{st:St}(h:PL S w pb st)(s:Xb)(a:Nat):PL S (zee w pb s a) pb st:=(((h.alloc _).alloc _).alloc _).alloc _
theorem zof {d:Nat}{rx:Fn}(hX:zX d 159 rx)(gX:zv d rx):zdI (d+1) rx:=by
 intro S pb st p w t HI ho hta hR;have hlt:=hR.lt;have hmf:∀(fn:Go.Fn) (first cap:Xa) (w:Xw),(Instr.makeFunc fn first cap).run prog w=.ok (.func fn first cap) w:=λ_ _ _ _=>rfl;have HF4:=zrN w pb t.s t.a;have HL4:=zpo hR t.s t.a;have HAt:=za (zaP S pb st ⟨#[40]⟩ _ zfn (zee w pb t.s t.a) HI.ok.tk HL4);rw[zaB hR.tx (by decide)] at HAt;have hg8:8<w.heap.size:=zM9 (by decide) hR.gl.size;have hsyn:xC (zee w pb t.s t.a) 8 0 (.iface 290 (.pointer (some (S 2)))):=HL4.gl.syn;obtain⟨be0,bef,bez⟩:=zu HF4.be;obtain⟨bp0,bpf,bpz⟩:=zu HF4.bp;cases hc:st.is 4 [40] with
 | true =>
   have Hk4:st.t.k=4:=Inv.is_k hc;have he:=HI.toBad.er (by omega);have e1:=Fwd.enter HI he (by omega:2<=st.t.k);have hoE:18<=st.enter.op+d:=(by rw[St.enter_op];omega);have htaE:1<=st.enter.t.a:=(by have:=e1.ta;omega);obtain⟨ag1,HgO,ag3⟩:=zid gX e1.inv hoE htaE;have HC:=za (λw1 b0 b1 b2 hR1=>zmh hX gX S pb st.enter (p+1) w1 w.heap.size (w.heap.size+1+1+1) (w.heap.size+1+1) (xI 4) (xI t.a) (.string t.s) (xI t.a) (xI 0) e1.inv hoE htaE hR1 b0 b1 b2 (by omega) (by omega) (by omega) (by omega) (by omega));have hM:zao rx t st=(((zbG rx st.enter).1.must 4 [41]).leave.put ⟨zef,t.a,t.a,(zbG rx st.enter).2,t.s,0⟩):=(by unfold zao;rw[zM2 hc]);rw[hM];have HD:Hid (st.op=16->((zbG rx st.enter).1.must 4 [41]).leave=st.fail 3 st.t.a):=by
    intro h16;have hE:=St.enter_deep h16;have he3:st.enter.er≠0:=(by rw[hE];exact St.fail_er _ (by decide));have q1:(rx st.enter).1=st.enter:=(by rw[(gX st.enter (p+1) e1.inv hoE).er he3]);have q2:(zbG rx st.enter).1=st.enter:=by
     show (zc1 rx 1300 ((rx st.enter).1,[(rx st.enter).2])).1=st.enter
     show (if (rx st.enter).1.er=0/\(rx st.enter).1.is 4 [44]=true then _ else ((rx st.enter).1,[(rx st.enter).2])).1=st.enter;rw[zM1 (by rw[q1];exact λh=>he3 h.1)];exact q1
    have q3:(zbG rx st.enter).1.must 4 [41]=st.enter:=(by rw[q2,hE];exact St.fail_must _ (by decide) (by decide));rw[q3,zd0 h16]
   rw[hc] at HAt;generalize zbG rx st.enter=A at *;go_enter func158,ntmps158;go_wp2_with fail;refine Eq.mpr (congrArg (λz=>xK 85 _ z _) (show _=zee w pb t.s t.a from rfl)) ?_;refine HAt.o.mono ?_;rintro e w' ⟨rfl,rfl⟩;generalize zee w pb t.s t.a=w0 at *;go_wp2_with fail;refine (zdz _ _ zol S pb st p w0 HI (by rw[Hk4];decide) HL4 (λe w'=>e=.returned (.tuple #[])/\Box w' (w.heap.size+1+1+1) 156 (xP (w.heap.size+1+1))/\zaW S pb w.heap.size w ((A.1.must 4 [41]).leave.put ⟨zef,t.a,t.a,A.2,t.s,0⟩).1 ((A.1.must 4 [41]).leave.put ⟨zef,t.a,t.a,A.2,t.s,0⟩).2 (.returned (xP (w.heap.size+1+1))) w') ?_ ?_).mono ?_
   . intro hlt16 w2 hL2 hF2;have T1:=HF4;refine (HC.o w2 (T1.bp.fr hF2 (by omega)) (T1.be.fr hF2 (by omega)) ((hF2.block _ (ze T1.eb) (by omega)).trans T1.eb) hL2).mono ?_;rintro e w3 ⟨rfl,vs,av,hL3,hb3,hown3,hlen3,hT3,hF3⟩;refine⟨rfl,A.1.must 4 [41],hL3,by rw[St.must_op,HgO,St.enter_op];omega,by rw[St.must_op,HgO,St.enter_op];omega,?_⟩;intro w4 HL4 hF4;have hFw:Fr (·=pb) w w4:=(Fr.drop2 (T1.fr.trans hF2) hF3 (by omega)).trans hF4;have hz02:w0.heap.size<=w2.heap.size:=hF2.size;have hz0:=T1.size;refine⟨rfl,Box.fr (Fr.keep2 hF3 (T1.be.fr hF2 (by omega)) (by omega) (by omega)) hF4 (by omega),_,rfl,HL4.put _,?_,hFw⟩;intro he';have hLL:(A.1.must 4 [41]).leave.L=A.1.L:=St.must_L _ _ _
     show TR w4 w.heap.size ((A.1.must 4 [41]).leave.L++[⟨zef,t.a,t.a,A.2,t.s,0⟩]) (A.1.must 4 [41]).leave.L.length _;rw[hLL];have hown4:=zR (zi hown3 (λk h1 h2 _=>hF4.block k h2 (by omega))) (by omega:w.heap.size<=w2.heap.size);refine TR.mk A.1.L.length ⟨zef,t.a,t.a,A.2,t.s,0⟩ _ av vs (by simp) (by omega) ?_ hown4 hlen3 ?_
     . show _=some (Obj.cells #[xI (zag zef.toList 0:Nat),xI t.a,.string t.s,xI t.a,xI (zbF zef.toList 0:Nat),av] 198 (0,0));rw[zrg,zbK];exact (hF4.block _ (ze hb3) (by omega)).trans hb3
     intro i y u hi hu;exact (((hT3.out he' i y u hi hu).fr hF4 (λk h1 _ h2=>by omega)).down (by omega)).more _
   . intro h16 w3 hL3 hF3;rw[HD.o h16];exact⟨rfl,HF4.be.fr hF3 (by omega),_,rfl,hL3.put _,λhe'=>absurd he' (St.fail_er st (by decide)),HF4.fr.trans hF3⟩
   rintro e w4 ⟨rfl,hb4,HQ⟩;obtain⟨f0,ff,fz⟩:=zu hb4;go_wp2_with fail;go_ret;exact HQ
 | false => have hM:zao rx t st=(st.fail 2 st.t.a,0):=(by unfold zao;rw[zM1 (by rw[hc];simp)]);rw[hM];rw[hc] at HAt;go_enter func158,ntmps158;go_wp2_with fail;refine Eq.mpr (congrArg (λz=>xK 85 _ z _) (show _=zee w pb t.s t.a from rfl)) ?_;refine HAt.o.mono ?_;rintro e w' ⟨rfl,rfl⟩;generalize zee w pb t.s t.a=w0 at *;go_wp2_with (go_at_call 87;refine (zc5 S pb st 2 (by decide) _ HL4).mono ?_;rintro e w1 ⟨rfl,HL1,HF1⟩;obtain⟨f0,ff,fz⟩:=zu (HF4.be.fr HF1 (by omega)));go_ret;exact⟨_,rfl,HL1,λhe'=>absurd he' (St.fail_er st (by decide)),HF4.fr.trans HF1⟩
theorem PL.unfail {S:Xs}{w:Xw}{pb:Nat}{st:St}{e a:Nat}(h:PL S w pb (st.fail e a))(he:st.er≠0)(hk:st.t.k=1):PL S w pb st:=by
 have hf:st.fail e a={ st with t:=⟨1,st.t.a,st.t.t,⟨#[]⟩,0⟩ }:=by unfold St.fail;rw[zM1 he]
 rw[hf] at h;refine⟨⟨λh1=>by omega,λh1=>by omega,λh1=>by omega⟩,?_,h.gl,h.pb⟩;have:=h.heap;unfold zgL at this ⊢;simp only[ck,cs,cn] at this ⊢;rw[hk];exact this
theorem zls (st:St)(hT:Tx st.src st.t):opM st [1,2]=if st.is 5 [116,114,117,101]=true then some 1 else if st.is 5 [102,97,108,115,101]=true then some 2 else none:=by obtain⟨_,_,_,_,_,_,_,_,_,_,_,_,_,_,_,_,e1,e2⟩:=wdl;simp only[opM,e1,e2];rw[zar hT (by decide),zar hT (by decide)]
theorem zrY (n:Nat):zag zcq.toList n=0:=by
 have:zcq.toList=[110,117,109,98,101,114]:=by decide +kernel
 rw[this];rfl
theorem zrW (n:Nat):zbF zcq.toList n=n:=by
 have:zcq.toList=[110,117,109,98,101,114]:=by decide +kernel
 rw[this];rfl
theorem zrx:zag zcb.toList 1=1:=by decide +kernel
theorem zqG:zag zcb.toList 0=2:=by decide +kernel
theorem zrs (n:Nat):zbF zcb.toList n=0:=by
 have:zcb.toList=[98,111,111,108]:=by decide +kernel
 rw[this];rfl
theorem zqA:(⟨#[105,102]⟩:Xb).toList=[105,102]:=by decide +kernel
theorem zkr:(⟨#[109,101,114,103,101]⟩:Xb).toList=[109,101,114,103,101]:=by decide +kernel
theorem ziT {t:Tk}:(((ck t:Nat):Int)==4)=(t.k==3):=by
 by_cases h:t.k=3
 . simp[ck,h]
 have:ck t≠4:=by unfold ck;(repeat' split) <;> first|decide|(exfalso;omega)
 have h2:(t.k==3)=false:=by simp[h]
 rw[h2];simp;omega
theorem zlD (M:Fn)(S:Xs)(pb:Nat)(st:St)(p:Nat)(w:Xw)(HI:Inv p st)(Hk:st.t.k=3)(hM:M st=zdP zcq st.t.n st)(HR:PL S w pb st) :
 xK 204 #[xP pb] w (zaW S pb w.heap.size w (M st).1 (M st).2):=by
 rw[hM];obtain⟨q0,q1,q2,q3,q4,q5,q6⟩:=HR.cells;have hck:=ziT (t:=st.t);rw[show (st.t.k==3)=true by simp[Hk]] at hck;have Hcn:cn st.t=st.t.n:=by simp[cn,Hk]
 have hlt:=HR.lt;have hne:¬w.heap.size=pb:=by omega
 have hfv:=zka;have HB:=za HI.toBad;have Hs:=za (zc8 HI.toBad (by omega:st.t.k≠1));clear hM;go_enter func204,ntmps204;go_wp2_with (go_at_call 171;refine (zb8 S pb st 0 _ HR).mono ?_;rintro e w' ⟨rfl,rfl⟩);refine (zb9 S pb st _ HB.o.ok (by rw[Hk];decide) (HR.alloc _)).mono ?_;rintro e w1 ⟨rfl,HL1,HF1⟩;rw[Hs.o] at HL1;have Hh1:=(HF1.block w.heap.size (Nat.lt_of_lt_of_eq (zMV _) (by simp)) hne).trans (zc w _);obtain⟨d0,d1,d2,d3,d4,d5,df,dz⟩:=zt Hh1;simp only[Tk.cval];go_wp2_with fail;go_ret;refine⟨some (xD w.heap.size 0),rfl,(HL1.setOther hlt _ _).put _,λ_=>TR.leaf (b:=w.heap.size) (ex:=⟨zcq,st.t.a,0,[],sE,st.t.n⟩) (zMK _) ?_ rfl,(((Fr.refl _ w).alloc _).trans HF1).setNew (zMK _) _ _⟩
 show _=some (Obj.cells #[xI (zag zcq.toList st.t.n:Nat),xI st.t.a,.string ⟨#[]⟩,xI (0:Nat),xI (zbF zcq.toList st.t.n:Nat),.slice none 0 0] 198 (0,0));rw[zrY,zrW,<- Hcn];exact zh _ _ _ _ Hh1
theorem zil (M:Fn)(n kk:Nat)(S:Xs)(pb:Nat)(st:St)(p:Nat)(w:Xw)(hI:Inv p st)(Hk:st.t.k=5)(hop:opM st [1,2]=some kk)(Hkk:zag zcb.toList n=kk)(hM:M st=zdP zcb n st)(HR:PL S w pb st) :
 xK 204 #[xP pb] w (zaW S pb w.heap.size w (M st).1 (M st).2):=by
 rw[hM];obtain⟨q0,q1,q2,q3,q4,q5,q6⟩:=HR.cells;have hck:=ziT (t:=st.t);rw[show (st.t.k==3)=false by simp[Hk]] at hck;have hlt:=HR.lt;have hne:¬w.heap.size+1=pb:=by omega
 have HOp:=za (zbd S pb st _ 2 [1,2] rfl (by decide) (w.alloc (.cells #[xI 1,xI 2] 195)) (zcD _ _ _ _ rfl) (by decide) hI.ok.tk (HR.alloc _));rw[hop] at HOp;simp only[opV] at HOp;have HB:=za hI.toBad;have Hs:=za (zc8 hI.toBad (by omega:st.t.k≠1));clear hI hM hop;go_enter func204,ntmps204;go_wp2_with (first|(go_at_call 182;refine HOp.o.mono ?_;rintro e w' ⟨rfl,rfl⟩)|(go_at_call 171;refine (zb8 S pb st kk _ (HR.alloc _)).mono ?_;rintro e w' ⟨rfl,rfl⟩)|(go_at_call 155;refine (zb9 S pb st _ HB.o.ok (by rw[Hk];decide) ((HR.alloc _).alloc _)).mono ?_;rintro e w1 ⟨rfl,HL1,HF1⟩;rw[Hs.o] at HL1));go_ret;have hh1:xH w1 (w.heap.size+1) #[xI kk,xI st.t.a,.string ⟨#[]⟩,xI 0,xI 0,.slice none 0 0] 198:=by refine (HF1.block (w.heap.size+1) (by simp) hne).trans ?_;have:=zc (w.alloc (.cells #[xI 1,xI 2] 195)) (.cells #[xI kk,xI st.t.a,.string ⟨#[]⟩,xI 0,xI 0,.slice none 0 0] 198);simpa using this
 refine⟨some (xD (w.heap.size+1) 0),rfl,HL1.put _,λ_=>TR.leaf (b:=w.heap.size+1) (ex:=⟨zcb,st.t.a,0,[],sE,n⟩) (by omega) ?_ rfl,((((Fr.refl _ w).alloc _).alloc _).trans HF1)⟩
 show _=some (Obj.cells #[xI (zag zcb.toList n:Nat),xI st.t.a,.string ⟨#[]⟩,xI (0:Nat),xI (zbF zcb.toList n:Nat),.slice none 0 0] 198 (0,0));rw[Hkk,zrs];exact hh1
theorem hn3 {t:Tk}(h3:t.k≠3):(((ck t:Nat):Int)==4)=false:=by rw[ziT];simp[h3]
theorem zeN {st:St}{k:Nat}{l:Xu}(h:st.t.k≠k):st.is k l=false:=by
 unfold St.is;have:(st.t.k==k)=false:=by simp[h]
 rw[this];rfl
theorem zdG (f:FuncId)(M:Fn)(b1 b2 b3:Bool)(S:Xs)(pb:Nat)(st:St)(p:Nat)(w:Xw)(hI:Inv p st)(hk:st.t.k≠3)(hop:opM st [1,2]=none)(hR:PL S w pb st)(hb1:st.is 4 [40]=b1)(hb2:st.is 5 [105,102]=b2)(hb3:st.is 5 [109,101,114,103,101]=b3)
 (hf:(b1=true/\f=206)∨(b1=false/\b2=true/\f=207)∨(b1=false/\b2=false/\b3=true/\f=208))
 (h:∀w1,PL S w1 pb st->xK f #[xP pb] w1 (zaW S pb w1.heap.size w1 (M st).1 (M st).2)) :
 xK 204 #[xP pb] w (zaW S pb w.heap.size w (M st).1 (M st).2):=by
 obtain⟨q0,q1,q2,q3,q4,q5,q6⟩:=hR.cells;have hck:=hn3 hk;have hlt:=hR.lt;have HOp:=za (zbd S pb st _ 2 [1,2] rfl (by decide) (w.alloc (.cells #[xI 1,xI 2] 195)) (zcD _ _ _ _ rfl) (by decide) hI.ok.tk (hR.alloc _));rw[hop] at HOp;simp only[opV] at HOp;have HA1:=za (zaP S pb st ⟨#[40]⟩ _ zfn (w.alloc (.cells #[xI 1,xI 2] 195)) hI.ok.tk (hR.alloc _));have HA2:=za (zaP S pb st ⟨#[105,102]⟩ _ zqA (w.alloc (.cells #[xI 1,xI 2] 195)) hI.ok.tk (hR.alloc _));have HA3:=za (zaP S pb st ⟨#[109,101,114,103,101]⟩ _ zkr (w.alloc (.cells #[xI 1,xI 2] 195)) hI.ok.tk (hR.alloc _));rw[zaB hR.tx (by decide),hb1] at HA1;rw[zar hR.tx (by decide),hb2] at HA2;rw[zar hR.tx (by decide),hb3] at HA3;have H1:=za (h (w.alloc (.cells #[xI 1,xI 2] 195)) (hR.alloc _));generalize M st=R at *;rcases hf with ⟨rfl,rfl⟩|⟨rfl,rfl,rfl⟩|⟨rfl,rfl,rfl,rfl⟩
 all_goals
  go_enter func204,ntmps204;go_wp2_with (first|(go_at_call 182;refine HOp.o.mono ?_;rintro e w' ⟨rfl,rfl⟩)|(go_at_call 85;first|(with_reducible refine HA1.o.mono ?_;rintro e w' ⟨rfl,rfl⟩)|(with_reducible refine HA2.o.mono ?_;rintro e w' ⟨rfl,rfl⟩)|(with_reducible refine HA3.o.mono ?_;rintro e w' ⟨rfl,rfl⟩)));refine H1.o.mono ?_;rintro e w1 h1;obtain⟨a,rfl,h2,h3,h4⟩:=h1.alloc (zaF _ _);go_wp2_with fail;go_ret;exact⟨a,rfl,h2,h3,h4⟩
theorem ze8 (S:Xs)(pb:Nat)(st:St)(p:Nat)(w:Xw)(hI:Inv p st)(hk:st.t.k≠3)(hop:opM st [1,2]=none)(HR:PL S w pb st)(hb1:st.is 4 [40]=false)(hb2:st.is 5 [105,102]=false)(hb3:st.is 5 [109,101,114,103,101]=false) :
 xK 204 #[xP pb] w (zaW S pb w.heap.size w (st.fail 2 st.t.a) 0):=by
 obtain⟨q0,q1,q2,q3,q4,q5,q6⟩:=HR.cells;have hck:=hn3 hk;have hlt:=HR.lt;have hg8:8<w.heap.size:=zM9 (by decide) HR.gl.size;have hsyn:xC w 8 0 (.iface 290 (.pointer (some (S 2)))):=HR.gl.syn;have HOp:=za (zbd S pb st _ 2 [1,2] rfl (by decide) (w.alloc (.cells #[xI 1,xI 2] 195)) (zcD _ _ _ _ rfl) (by decide) hI.ok.tk (HR.alloc _));rw[hop] at HOp;simp only[opV] at HOp;have HA1:=za (zaP S pb st ⟨#[40]⟩ _ zfn (w.alloc (.cells #[xI 1,xI 2] 195)) hI.ok.tk (HR.alloc _));have HA2:=za (zaP S pb st ⟨#[105,102]⟩ _ zqA (w.alloc (.cells #[xI 1,xI 2] 195)) hI.ok.tk (HR.alloc _));have HA3:=za (zaP S pb st ⟨#[109,101,114,103,101]⟩ _ zkr (w.alloc (.cells #[xI 1,xI 2] 195)) hI.ok.tk (HR.alloc _));rw[zaB HR.tx (by decide),hb1] at HA1;rw[zar HR.tx (by decide),hb2] at HA2;rw[zar HR.tx (by decide),hb3] at HA3;go_enter func204,ntmps204;go_wp2_with (first|(go_at_call 171;refine (zb8 S pb (st.fail 2 st.t.a) 0 _ HL1).mono ?_;rintro e w' ⟨rfl,rfl⟩)|(go_at_call 182;refine HOp.o.mono ?_;rintro e w' ⟨rfl,rfl⟩)|(go_at_call 85;first|(with_reducible refine HA1.o.mono ?_;rintro e w' ⟨rfl,rfl⟩)|(with_reducible refine HA2.o.mono ?_;rintro e w' ⟨rfl,rfl⟩)|(with_reducible refine HA3.o.mono ?_;rintro e w' ⟨rfl,rfl⟩))|(go_at_call 87;refine (zc5 S pb st 2 (by decide) _ (HR.alloc _)).mono ?_;rintro e w1 ⟨rfl,HL1,HF1⟩));go_ret;exact⟨_,rfl,HL1.alloc _,λhe'=>absurd he' (St.fail_er st (by decide)),(((Fr.refl _ w).alloc _).trans HF1).alloc _⟩
theorem zhV {st:St}(hT:Tx st.src st.t)(h1:st.is 5 [116,114,117,101]=false)(h2:st.is 5 [102,97,108,115,101]=false):opM st [1,2]=none:=by rw[zls st hT,h1,h2];rfl
theorem zj9 {d:Nat}{rx ra:Fn}(hX:zX d 159 rx)(gX:zv d rx)(hS:zX d 212 (zch ra))(gA:zv d ra):ziL (d+1) (zap rx ra):=by
 intro S pb st p w hI hk2 ho hR;by_cases he:st.er=0
 . have h0:∀M:Fn,(M st=zap rx ra st)->zap rx ra st=M st:=λ_ h=>h.symm;by_cases h3:st.t.k=3
   . exact zlD (zap rx ra) S pb st p w hI h3 (by unfold zap;rw[zM1 (by simp[he]),zM2 h3]) hR
   have hM3:zap rx ra st=if st.is 4 [40]=true then zfQ rx st else if st.is 5 [116,114,117,101]=true then zdP zcb 1 st else if st.is 5 [102,97,108,115,101]=true then zdP zcb 0 st else if st.is 5 [105,102]=true then zdx rx st else if st.is 5 [109,101,114,103,101]=true then zeE ra st else (st.fail 2 st.t.a,0):=(by unfold zap;rw[zM1 (by simp[he]),zM1 h3,zM1 hk2]);cases hp:st.is 4 [40] with
   | true => have hk4:st.t.k=4:=Inv.is_k hp;rw[zM2 hp] at hM3;refine zdG 206 (zap rx ra) _ _ _ S pb st p w hI h3 (zhV hR.tx (zeN (by omega)) (zeN (by omega))) hR hp rfl rfl (zM3 ⟨rfl,rfl⟩) ?_;intro w1 h1;rw[hM3];exact zme hX gX S pb st p w1 hI (by omega) ho h1
   | false =>
     rw[hp,zM1 (by simp)] at hM3;cases ht:st.is 5 [116,114,117,101] with
     | true => rw[ht,zM2 rfl] at hM3;exact zil (zap rx ra) 1 1 S pb st p w hI (Inv.is_k ht) (by rw[zls st hR.tx,ht];rfl) zrx hM3 hR
     | false =>
       rw[ht,zM1 (by simp)] at hM3;cases hf:st.is 5 [102,97,108,115,101] with
       | true => rw[hf,zM2 rfl] at hM3;exact zil (zap rx ra) 0 2 S pb st p w hI (Inv.is_k hf) (by rw[zls st hR.tx,ht,hf];rfl) zqG hM3 hR
       | false =>
         rw[hf,zM1 (by simp)] at hM3;have hop:=zhV hR.tx ht hf;cases hi:st.is 5 [105,102] with
         | true => have hk5:st.t.k=5:=Inv.is_k hi;rw[hi,zM2 rfl] at hM3;refine zdG 207 (zap rx ra) _ _ _ S pb st p w hI h3 hop hR hp hi rfl (zM4 (zM3 ⟨rfl,rfl,rfl⟩)) ?_;intro w1 h1;rw[hM3];exact zkZ hX gX S pb st p w1 hI (by omega) ho h1
         | false =>
           rw[hi,zM1 (by simp)] at hM3;cases hm:st.is 5 [109,101,114,103,101] with
           | true => have hk5:st.t.k=5:=Inv.is_k hm;rw[hm,zM2 rfl] at hM3;refine zdG 208 (zap rx ra) _ _ _ S pb st p w hI h3 hop hR hp hi hm (zM4 (zM4 ⟨rfl,rfl,rfl,rfl⟩)) ?_;intro w1 h1;rw[hM3];exact zmk hS gA S pb st p w1 hI (by omega) ho h1
           | false => rw[hm,zM1 (by simp)] at hM3;rw[hM3];exact ze8 S pb st p w hI h3 hop hR hp hi hm
 have hk1:=hI.bad he;have hM:zap rx ra st=(st,0):=by unfold zap;rw[zM2 he]
 rw[hM];refine (ze8 S pb st p w hI (by omega) (zhV hR.tx (zeN (by omega)) (zeN (by omega))) hR (zeN (by omega)) (zeN (by omega)) (zeN (by omega))).mono ?_;rintro e w1 ⟨a,h1,h2,_,h4⟩;exact⟨a,h1,h2.unfail he hk1,λh=>absurd h he,h4⟩
theorem znu:∀d,zX d 159 (lev d).ex/\zX d 198 (lev d).un/\ziL d (lev d).at'/\zdI d (if d=0 then (lev 0).ex else (lev (d-1)).ex):=by
 intro d;induction d with
 | zero =>
   have h:∀(f:FuncId) (M:Fn),zX 0 f M:=λf M S pb st p w hI ho _=>by have:=hI.op1;omega
   exact⟨h _ _,h _ _,λS pb st p w hI _ ho _=>by have:=hI.op1;omega,λS pb st p w t hI ho _ _=>by have:=hI.op1;omega⟩
 | succ d ih => obtain⟨g1,g2,g3⟩:=zgP d;obtain⟨h1,h2,h3,_⟩:=ih;have hK:=zof h1 g1;have hN:=zj9 h1 g1 (znY h3) g3;have ga:=zh7 g1 g3;have ha:=znf hN hK;have gs:=zfY ga;have hs:=zjM ha ga;have gu:=zhu g2 gs;have hu:=zm9 h2 g2 hs;have r3:=zkb hu gu;have s3:=zcF (lv:=3) gu;have r2:=zp2 r3 s3;have s2:=zcF (lv:=2) s3;have tt:=zne r2 s2;have st:=zh6 s2;have r1:=znl tt st;have s1:=zcF (lv:=1) st;have r0:=zlW r1 s1;have s0:=zcF (lv:=0) s1;exact⟨zoz h1 g1 r0 s0,hu,hN,hK⟩
end
section
variable {st:St}
def za4 (st:St)(n:Nat):St:=z9 ((st.decl0 n).name.must 4 [58])
theorem zfH (S:Xs)(pb:Nat)(st:St)(w:Xw)(nb:Nat)(x:Xp)(n c:Nat)(hB:Bad st)(hn:n<=100)(hnb:nb<w.heap.size)(hc:xC w nb 2 (.slice x n c))(hR:PL S w pb st) :
 xK 156 #[xP pb,xP nb] w λe w'=>∃(ns:Xb) (na ty:Nat),e=.returned (.agg #[.string ns,xI na,xI ty,xI 0,xI 0,.string ⟨#[]⟩,xI 0])/\Hid (((st.decl0 n).t.k=2->ns=(st.decl0 n).t.s/\na=(st.decl0 n).t.a)/\ty=if ((st.decl0 n).name.must 4 [58]).is 5 zbq=true then 1 else 0)/\PL S w' pb (za4 st n)/\Fr (·=pb) w w':=by
 refine (zjk S pb st w nb x n c hB hn hnb hc hR).mono ?_;rintro e w1 ⟨ns,na,h1,h2,h3,h4⟩;exact⟨ns,na,_,h1,⟨h2,rfl⟩,h3,h4⟩
theorem Bad.type (h:Bad st):Bad (z9 st):=by
 unfold z9;split
 . exact h.step
 exact h.must _ _
theorem Bad.nott (h:Bad st):Bad (za3 st):=by
 unfold za3;split
 . exact h.step
 exact h
theorem Bad.decl0 (h:Bad st)(n:Nat):Bad (st.decl0 n):=by
 unfold St.decl0;split
 . exact h.fail (by omega)
 exact h
theorem Bad.declS (h:Bad st)(n:Nat):Bad (za4 st n):=((h.decl0 n).name.must _ _).type
def onM (s:St):St:=if s.is 5 kOn=true then (za3 s.step).name else s
def zkT (s:St)(sg pl:Nat)(os:Xb)(oa:Nat):Prop :=
 (s.is 5 kOn=true->sg=(if s.step.is 5 zet=true then 2 else 1)/\pl=s.t.a/\((za3 s.step).t.k=2->os=(za3 s.step).t.s/\oa=(za3 s.step).t.a))/\(s.is 5 kOn=false->sg=0/\pl=0/\os=⟨#[]⟩/\oa=0)
theorem Tryz.infoVar:(prog.info? 101).map (λi=>(i.zero,i.size,i.bytes))=some (some (.agg #[.string ⟨#[]⟩,xI 0,xI 0,xI 0,xI 0,.string ⟨#[]⟩,xI 0]),7,72):=by kernel_rfl
theorem zoU {s t:Xb}{a b c d e:Int}:∀u∈[Value.string s,xI a,xI b,xI c,xI d,.string t,xI e],u.oneCell'=true:=by intro u hu;simp at hu;rcases hu with rfl|rfl|rfl|rfl|rfl|rfl|rfl <;> rfl
def zkn (S:Xs)(pb nb B:Nat)(st:St)(w:Xw)(c0 c1 c3 c4 c5 vs:Xv)(n:Nat)(xs:Xm)(e:Ending)(w':Xw):Prop :=
 ∃(ns os:Xb) (na ty sg pl oa:Nat) (v':Xv),e=.returned (.tuple #[])/\PL S w' pb ((onM (za4 st n)).must 4 [59])/\w'.heap[nb]?=some (.cells #[c0,c1,v',c3,c4,c5] 88 (0,0)) /\
    w'.ownsRow B 101 7 v' (n+1) (xs++[.string ns,xI na,xI ty,xI sg,xI pl,.string os,xI oa])/\Hid (((st.decl0 n).t.k=2->ns=(st.decl0 n).t.s/\na=(st.decl0 n).t.a)/\ty=if ((st.decl0 n).name.must 4 [58]).is 5 zbq=true then 1 else 0)/\Hid (zkT (za4 st n) sg pl os oa) /\
    Fr (λk=>k=pb∨k=nb∨vs.ownBlock=some k) w w'/\Hid (∀k,v'.ownBlock=some k->vs.ownBlock=some k∨w.heap.size<=k)
theorem zkq {S:Xs}{pb nb B:Nat}{w w2 w9:Xw}{c0 c1 c3 c4 c5 vs v':Xv}{n:Nat}{xs:Xm}{ns os:Xb}{na ty sg pl oa:Nat}{X:Obj}
 (h1:Hid (((st.decl0 n).t.k=2->ns=(st.decl0 n).t.s/\na=(st.decl0 n).t.a)/\ty=if ((st.decl0 n).name.must 4 [58]).is 5 zbq=true then 1 else 0)) (h2:zkT (za4 st n) sg pl os oa) (h3:PL S w9 pb ((onM (za4 st n)).must 4 [59])) (hnp:pb<nb) (h4:xH w9 nb #[c0,c1,vs,c3,c4,c5] 88)
 (h5:w9.ownsRow B 101 7 v' (n+1) (xs++[.string ns,xI na,xI ty,xI sg,xI pl,.string os,xI oa])) (h6:∀k,v'.ownBlock=some k->vs.ownBlock=some k∨(w2.alloc X).drew.heap.size<=k) (hBn:nb<B) (_hBw:B<=w.heap.size) (h7:Fr (·=pb) w w2) (h8:Fr (λk=>vs.ownBlock=some k) (w2.alloc X) w9) :
 zkn S pb nb B st w c0 c1 c3 c4 c5 vs n xs (.returned (.tuple #[])) (w9.setCell (xD nb 2) v'):=by
 have hz:=h7.size;refine⟨ns,os,na,ty,sg,pl,oa,v',rfl,h3.setOther hnp _ _,zh _ _ _ _ h4,zi h5 (λk h _ _=>zr (by omega) rfl),h1,h2,?_,?_⟩
 . have g1:Fr (λk=>k=pb∨k=nb∨vs.ownBlock=some k) w (w2.alloc X):=(h7.mono (λ_ _ h=>zM3 h)).alloc X;exact (g1.trans' h8 (λ_ _ h=>zM4 (zM4 h))).setCell (zM3 (zM4 (zM3 rfl))) _
 intro k hk;rcases h6 k hk with h|h
 . exact zM3 h
 right;have:(w2.alloc X).drew.heap.size=w2.heap.size+1:=by show (w2.alloc X).heap.size=_;simp
 omega
theorem zm1 (S:Xs)(pb nb B:Nat)(st:St)(w:Xw)(c0 c1 c3 c4 c5 vs:Xv)(n:Nat)(xs:Xm)(hB:Bad st)(hn:n<=50)(hR:PL S w pb st)(hblk:xH w nb #[c0,c1,vs,c3,c4,c5] 88)(hown:w.ownsRow B 101 7 vs n xs)(hnp:pb<nb)(hBn:nb<B)(hBw:B<=w.heap.size) :
 xK 132 #[xP pb,xP nb] w (zkn S pb nb B st w c0 c1 c3 c4 c5 vs n xs):=by
 obtain⟨x,cp,hvs⟩:∃x cp,vs=.slice x n cp:=by
  rcases hown.2 with ⟨h1,h2⟩|⟨g,cap,cur,h1,_⟩
  . exact⟨none,0,by rw[h1,h2]⟩
  exact⟨_,cap,h1⟩
 obtain⟨q0,q1,q2,q3,q4,q5,qf,qz⟩:=zt hblk;have hlt:=hR.lt;have HR:=za hR;have HB:=za hB;rw[hvs] at q2;have HD:=za (zfH S pb st w nb x n cp hB (by omega) qz q2 hR);have Hown:=za hown;have Hblk:=za hblk;have HBs:=za (hB.declS n);have Hvs:=za hvs;obtain⟨s3,hs3⟩:∃s3,za4 st n=s3:=⟨_,rfl⟩;rw[hs3] at HD HBs;have Hs3:=za hs3;obtain⟨i0,hi,hi0,hi1,hi2⟩:=info_parts Tryz.infoVar;have mx:n+1<=maxLen:=by unfold maxLen;omega
 have by':(n+1)*72<=140737488355328:=by omega
 clear hR hB hown hblk hs3 q0 q1 q2 q3 q4 q5 qf hvs;cases hb:s3.is 5 kOn with
 | false =>
   have hE:onM s3=s3:=(by unfold onM;rw[zM1 (by rw[hb];simp)]);have HE0:=za hE;have Hb:=za hb;clear hb hE;go_enter func132,ntmps132;go_wp2_with fail;refine HD.o.mono ?_;rintro e w1 ⟨ns,na,ty,rfl,HK1,hL1,hF1⟩;have hz1:=hF1.size;have hlt1:=hL1.lt;have hh1:=(hF1.block nb qz (by omega)).trans Hblk.o;have Hh1:=za hh1;have HA:=za (zaP S pb s3 ⟨#[111,110]⟩ _ zq9 (w1.alloc (.cells #[.string ns,xI na,xI ty,xI 0,xI 0,.string ⟨#[]⟩,xI 0] 101)) HBs.o.ok.tk (hL1.alloc _));rw[zar hL1.tx (by decide),Hb.o] at HA;have HE:=za (zP S pb s3 ⟨#[59]⟩ _ zl1 (w1.alloc (.cells #[.string ns,xI na,xI ty,xI 0,xI 0,.string ⟨#[]⟩,xI 0] 101)) HBs.o (hL1.alloc _));rw[zan hL1.tx (by decide)] at HE;have HF1:=za hF1;clear hL1 hF1 hh1;go_wp2_with (first|(go_at_call 85;refine HA.o.mono ?_;rintro e w' ⟨rfl,rfl⟩)|(go_at_call 128;refine HE.o.mono ?_;rintro e w2 ⟨rfl,hL2,hF2⟩;have hz2:=hF2.size;have hv2:=(hF2.block w1.heap.size (by rw[zsb];omega) (by omega)).trans (zc w1 _);have hn2:=(hF2.block nb (by rw[zsb];omega) (by omega)).trans ((zWP _ _ _ (by omega)).trans Hh1.o);obtain⟨a0,a1,a2,a3,a4,a5,a6,af,az⟩:=zbZ hv2;obtain⟨q0,q1,q2,q3,q4,q5,qf,qz2⟩:=zt hn2;have Hn2:=za hn2;have Hv2:=za hv2;have HL2:=za hL2;have HF2:=za hF2;clear hL2 hF2 hv2 hn2));have Hown2:=za (zi Hown.o (λk h1 h2 _=>(HF2.o.block k (by rw[zsb];omega) (by omega)).trans ((zWP _ _ _ (by omega)).trans (HF1.o.block k h2 (by omega)))));have hBw2:B<=w2.heap.size:=(by rw[zsb] at hz2;omega);clear HA HE HD a0 a1 a2 a3 a4 a5 a6 af az;obtain⟨a0,a1,a2,a3,a4,a5,a6,af,az⟩:=zbZ Hv2.o
   go_region_law (
    refine zJ _ rfl (.tmp 19) (.tmp 21) 85 rfl B 101 i0 _ 7 72 underlying85 hi hi0 hi1 hi2 rfl (by decide) vs n xs rfl (zD (Hown2.o) _) (xD w2.heap.size 0) 1 1 [.string ns,xI na,xI ty,xI 0,xI 0,.string ⟨#[]⟩,xI 0] rfl rfl (zN (zc w2 _) rfl) zoU mx by' (by simp;omega) ?_;intro v' w9 hown9 hgrow hnew;obtain⟨g9,cap9,rfl,hg9⟩:=zM hown9 (by omega);have hF9:=(Fr.of_grown hgrow).undrew;have hb9:∀k,k<B->w9.heap[k]?=w2.heap[k]?:=(λk hk=>(hF9.block k (by simp;omega) (λh=>by have:=(Hown2.o.lt k h).1;omega)).trans (zWP _ _ _ (by omega)));have Hn9:=za ((hb9 nb hBn).trans Hn2.o);obtain⟨q0,q1,q2,q3,q4,q5,qf,qz2⟩:=zt Hn9.o;have HL9:=za (PL.fr (HL2.o.alloc _) hF9 (λk hk=>by have:=(Hown2.o.lt k hk).1;omega));have HF9:=za hF9;have Hown9:=za hown9;have Hnew9:=za hnew;clear hown9 hgrow hnew hF9 hb9)
   all_goals go_wp2_with fail
   all_goals go_end0
   all_goals exact zkq HK1 (by rw[Hs3.o];exact⟨λh=>(by rw[Hb.o] at h;cases h),λ_=>⟨rfl,rfl,rfl,rfl⟩⟩) (by rw[Hs3.o,HE0.o];exact HL9.o) hnp Hn9.o Hown9.o Hnew9.o hBn (by omega) (HF1.o.trans ((Fr.refl _ w1).alloc _ |>.trans HF2.o)) HF9.o
 | true =>
   have hE:onM s3=(za3 s3.step).name:=(by unfold onM;rw[zM2 hb]);have HE0:=za hE;have Hb:=za hb;have hk5:s3.t.k=5:=Inv.is_k hb;have HOn:=za (λw1 h=>zqH S pb s3 w1 HBs.o hk5 h);have HBn:=za HBs.o.step.nott.name;clear hb hE hk5;go_enter func132,ntmps132;go_wp2_with fail;refine HD.o.mono ?_;rintro e w1 ⟨ns,na,ty,rfl,HK1,hL1,hF1⟩;have hz1:=hF1.size;have hlt1:=hL1.lt;have hh1:=(hF1.block nb qz (by omega)).trans Hblk.o;have Hh1:=za hh1;have HA:=za (zaP S pb s3 ⟨#[111,110]⟩ _ zq9 (w1.alloc (.cells #[.string ns,xI na,xI ty,xI 0,xI 0,.string ⟨#[]⟩,xI 0] 101)) HBs.o.ok.tk (hL1.alloc _));rw[zar hL1.tx (by decide),Hb.o] at HA;have HF1:=za hF1;have HL1:=za hL1;clear hL1 hF1 hh1;go_wp2_with (go_at_call 85;refine HA.o.mono ?_;rintro e w' ⟨rfl,rfl⟩);refine (HOn.o _ (HL1.o.alloc _)).mono ?_;rintro e w4 ⟨os,oa,rfl,hk4,hL4,hF4⟩;obtain⟨sg,hsg⟩:∃sg:Nat,(if s3.step.is 5 zet=true then 2 else 1)=sg:=⟨_,rfl⟩;have hsg':(if s3.step.is 5 zet=true then (2:Int) else 1)=(sg:Nat):=(by rw[<- hsg];split <;> rfl);rw[hsg'];have hz4:=hF4.size;have hv4:=(hF4.block w1.heap.size (by rw[zsb];omega) (by omega)).trans (zc w1 _);have hn4:=(hF4.block nb (by rw[zsb];omega) (by omega)).trans ((zWP _ _ _ (by omega)).trans Hh1.o);have HK4:Hid (zkT s3 sg s3.t.a os oa):=⟨λ_=>⟨hsg.symm,rfl,hk4⟩,λh=>(by rw[Hb.o] at h;cases h)⟩;obtain⟨a0,a1,a2,a3,a4,a5,a6,af,az⟩:=zbZ hv4;have Hn4:=za hn4;have Hv4:=za hv4;have HL4:=za hL4;have HF4:=za hF4;clear hL4 hF4 hv4 hn4 hsg hsg' hk4;go_wp2_with fail;have hL5:=(((HL4.o.setOther (b:=w1.heap.size) hlt1 3 (xI sg)).setOther (b:=w1.heap.size) hlt1 4 (xI s3.t.a)).setOther (b:=w1.heap.size) hlt1 5 (.string os)).setOther (b:=w1.heap.size) hlt1 6 (xI oa);have hv5:=zh _ w1.heap.size 6 (xI oa) (zh _ w1.heap.size 5 (.string os) (zh _ w1.heap.size 4 (xI s3.t.a) (zh w4 w1.heap.size 3 (xI sg) Hv4.o)));have hn5:=zr (b:=w1.heap.size) (i:=6) (v:=(xI oa)) (by omega:¬nb=w1.heap.size) (zr (b:=w1.heap.size) (i:=5) (v:=.string os) (by omega:¬nb=w1.heap.size) (zr (b:=w1.heap.size) (i:=4) (v:=(xI s3.t.a)) (by omega:¬nb=w1.heap.size) (zr (b:=w1.heap.size) (i:=3) (v:=(xI sg)) (by omega:¬nb=w1.heap.size) Hn4.o)));have hF5:Fr (·=pb) w ((((w4.setCell (xD w1.heap.size 3) (xI sg)).setCell (xD w1.heap.size 4) (xI s3.t.a)).setCell (xD w1.heap.size 5) (.string os)).setCell (xD w1.heap.size 6) (xI oa)):=(((((HF1.o.alloc _).trans HF4.o).setNew hz1 _ _).setNew hz1 _ _).setNew hz1 _ _).setNew hz1 _ _;obtain⟨w5,hw5⟩:∃w5,((((w4.setCell (xD w1.heap.size 3) (xI sg)).setCell (xD w1.heap.size 4) (xI s3.t.a)).setCell (xD w1.heap.size 5) (.string os)).setCell (xD w1.heap.size 6) (xI oa))=w5:=⟨_,rfl⟩;rw[hw5] at hL5 hv5 hn5 hF5;have HE:=za (zP S pb (za3 s3.step).name ⟨#[59]⟩ _ zl1 w5 HBn.o hL5);rw[zan hL5.tx (by decide)] at HE;refine Eq.mpr (congrArg (λz=>xK 128 _ z _) hw5) ?_;refine HE.o.mono ?_;rintro e w2 ⟨rfl,hL2,hF2⟩;have hz2:=hF2.size;have hz5:=hF5.size;have hv5':xH w5 w1.heap.size #[.string ns,xI na,xI ty,xI sg,xI s3.t.a,.string os,xI oa] 101:=hv5;have Hv2:=za ((hF2.block w1.heap.size (ze hv5') (by omega)).trans hv5');have Hn2:=za ((hF2.block nb (ze hn5) (by omega)).trans hn5);have HL2:=za hL2;have HF2:=za (hF5.trans hF2);have Hown2:=za (zi Hown.o (λk h1 h2 _=>(hF5.trans hF2).block k h2 (by omega)));have hBw2:B<=w2.heap.size:=(by omega);clear hL2 hF2 hL5 hv5 hn5 hF5 hw5 hv5' a0 a1 a2 a3 a4 a5 a6 af az HL4 HF4 Hv4 Hn4;go_wp2_with fail;clear HA HE HD HOn;obtain⟨a0,a1,a2,a3,a4,a5,a6,af,az⟩:=zbZ Hv2.o;obtain⟨q0,q1,q2,q3,q4,q5,qf,qz2⟩:=zt Hn2.o
   go_region_law (
    refine zJ _ rfl (.tmp 19) (.tmp 21) 85 rfl B 101 i0 _ 7 72 underlying85 hi hi0 hi1 hi2 rfl (by decide) vs n xs rfl (zD (Hown2.o) _) (xD w2.heap.size 0) 1 1 [.string ns,xI na,xI ty,xI sg,xI s3.t.a,.string os,xI oa] rfl rfl (zN (zc w2 _) rfl) zoU mx by' (by simp;omega) ?_;intro v' w9 hown9 hgrow hnew;obtain⟨g9,cap9,rfl,hg9⟩:=zM hown9 (by omega);have hF9:=(Fr.of_grown hgrow).undrew;have hb9:∀k,k<B->w9.heap[k]?=w2.heap[k]?:=(λk hk=>(hF9.block k (by simp;omega) (λh=>by have:=(Hown2.o.lt k h).1;omega)).trans (zWP _ _ _ (by omega)));have Hn9:=za ((hb9 nb hBn).trans Hn2.o);obtain⟨q0,q1,q2,q3,q4,q5,qf,qz2⟩:=zt Hn9.o;have HL9:=za (PL.fr (HL2.o.alloc _) hF9 (λk hk=>by have:=(Hown2.o.lt k hk).1;omega));have HF9:=za hF9;have Hown9:=za hown9;have Hnew9:=za hnew;clear hown9 hgrow hnew hF9 hb9)
   all_goals go_wp2_with fail
   all_goals go_end0
   all_goals exact zkq HK1 (by rw[Hs3.o];exact HK4.o) (by rw[Hs3.o,HE0.o];exact HL9.o) hnp Hn9.o Hown9.o Hnew9.o hBn (by omega) HF2.o HF9.o
end
end Go.Proofs.YtenadialhccdiaaGreatDoor
