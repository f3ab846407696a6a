/- Part 4 of the proof. -/
import Derived.Test.YtbicmofihhjgbaaGreatDoorK02
set_option maxRecDepth 100000
set_option maxHeartbeats 8000000
namespace Go.Proofs.YtbicmofihhjgbaaGreatDoor
open Go.Proofs.Tryz
open Go.RowKit
section
variable {st:St}
theorem zd0 (h:st.op=16):st.enter.leave=st.fail 3 st.t.a:=by unfold St.enter St.leave St.fail;rw[zM2 (by omega)];cases st;split <;> simp_all
theorem zoJ (h:st.op<16):st.enter=({ st with op:=st.op+1 }:St).step:=by unfold St.enter;rw[zM1 (by omega)]
theorem ziD (fv:Xv)(S:Xs)(pb:Nat)(st:St)(w:Xw)(hop:st.op=16)(HR:PL S w pb st) :
 xK 205 #[xP pb,fv] w λe w'=>e=.returned (.tuple #[])/\PL S w' pb (st.fail 3 st.t.a)/\Fr (·=pb) w w':=by
 obtain⟨q0,q1,q2,q3,q4,q5,q6⟩:=HR.cells;have hde:xC w 9 0 (.iface 324 (.pointer (some (S 3)))):=HR.gl.deep;rw[hop] at q5;clear hop;go_enter func205,ntmps205;go_wp2_with (go_at_call 87;refine (zc5 S pb st 3 (by decide) _ HR).mono ?_;rintro e w1 ⟨rfl,HL1,HF1⟩);first|go_end0|refine bodyPost_ret (results_none rfl _ _ _) rfl ?_
 exact⟨rfl,HL1,HF1⟩
theorem zj8 (F:FuncId)(caps:Xa)(hcf:zH F)(S:Xs)(pb:Nat)(st:St)(w:Xw)(hB:Bad st)(Hk:2<=st.t.k)(hop:st.op<16)(hR:PL S w pb st)(R:Ending->World->Prop)
 (Hin:∀w1,PL S w1 pb st.enter->Fr (·=pb) w w1->xK F caps w1 λe w2=>e=.returned (.tuple #[])/\∃st2,PL S w2 pb st2/\1<=st2.op/\st2.op<=100/\∀w3,PL S w3 pb st2.leave->Fr (·=pb) w2 w3->R (.returned (.tuple #[])) w3) :
 xK 205 #[xP pb,.func (.func F) #[] caps] w R:=by
 obtain⟨q0,q1,q2,q3,q4,q5,q6⟩:=hR.cells;have hf:=hR.frozen;have hb16:((st.op:Int)==16)=false:=zM0.2 (by omega);have HR:=hR.setOp (st.op+1);have ec:((st.op+1:Nat):Int)=(st.op:Int)+1:=by omega
 rw[ec] at HR;have HB:Bad { st with op:=st.op+1 }:=⟨hB.bad,hB.ok.opened (by omega)⟩;have Hs:=zc8 HB (by show st.t.k≠1;omega);rw[<- zoJ hop] at Hs;have Hcf:=za hcf;unfold zH at hcf;clear hR hB ec;go_enter func205,ntmps205;go_wp2_with (go_at_call 186;refine (zb9 S pb { st with op:=st.op+1 } _ HB.ok Hk HR).mono ?_;rintro e w1 ⟨rfl,HL1,hF1⟩;rw[Hs] at HL1;have HF1:Hid (Fr (·=pb) w w1):=((Fr.refl (·=pb) w).set1 _ _).trans hF1;clear hF1);refine (Hin w1 HL1 HF1.o).mono ?_;rintro e w2 ⟨rfl,st2,HL2,ho1,ho2,HR3⟩;obtain⟨r0,r1,r2,r3,r4,r5,r6⟩:=HL2.cells;have rf:=HL2.frozen;go_wp2_with fail;go_end0;refine HR3 _ ?_ ((Fr.refl _ _).set1 _ _);have:=HL2.setOp (st2.op-1);rw[show ((st2.op-1:Nat):Int)=(st2.op:Int)-1 by omega] at this;exact this
theorem zdz (F:FuncId)(caps:Xa)(hcf:zH F)(S:Xs)(pb:Nat)(st:St)(p:Nat)(w:Xw)(hI:Inv p st)(hk:2<=st.t.k)(hR:PL S w pb st)(R:Ending->World->Prop)
 (hin:st.op<16->∀w1,PL S w1 pb st.enter->Fr (·=pb) w w1->xK F caps w1 λe w2=>e=.returned (.tuple #[])/\∃st2,PL S w2 pb st2/\1<=st2.op/\st2.op<=100/\∀w3,PL S w3 pb st2.leave->Fr (·=pb) w2 w3->R (.returned (.tuple #[])) w3)
 (hdeep:st.op=16->∀w3,PL S w3 pb (st.fail 3 st.t.a)->Fr (·=pb) w w3->R (.returned (.tuple #[])) w3) :
 xK 205 #[xP pb,.func (.func F) #[] caps] w R:=by
 have he:=hI.toBad.er (by omega);have h16:=hI.op0 he;rcases Nat.lt_or_ge st.op 16 with h|h
 . exact zj8 F caps hcf S pb st w hI.toBad hk h hR R (hin h)
 have h':st.op=16:=by omega
 refine (ziD _ S pb st w h' hR).mono ?_;rintro e w1 ⟨rfl,h1,h2⟩;exact hdeep h' w1 h1 h2
end
section
variable {ex:Ex} {L:List Ex} {B b eb g pb y:Nat} {t:Xy} {u v:Xv} {w w' w1:Xw}
theorem TR.one (hB:B<=b)(hg:B<=g)
 (hb:xH w b #[xI (zag ex.op.toList ex.n:Nat),xI ex.a,.string ex.s,xI ex.nm,xI (zbF ex.op.toList ex.n:Nat),xS g 1 1] 226)
 (hgg:xH w g #[u] 182) (hi:ex.ins=[y]) (hu:TR w B L y u):TR w B (L++[ex]) L.length (xP b):=by
 refine TR.mk L.length ex b _ [u] (by simp) hB hb ⟨by simp,zM4 ⟨g,1,#[u],rfl,hg,hgg,by simp,by decide,by simp,by simp⟩⟩ (by simp[hi]) ?_;intro i s t hs ht;rw[hi] at hs
 match i with
 | 0=>simp at hs ht;subst hs ht;exact hu.more _
 | i+1=>simp at hs
theorem TR.three {x z:Nat}{t:Xv}(hB:B<=b)(hg:B<=g)
 (hb:xH w b #[xI (zag ex.op.toList ex.n:Nat),xI ex.a,.string ex.s,xI ex.nm,xI (zbF ex.op.toList ex.n:Nat),xS g 3 3] 226)
 (hgg:xH w g #[t,u,v] 182) (hi:ex.ins=[x,y,z]) (ht:TR w B L x t) (hu:TR w B L y u) (hv:TR w B L z v):TR w B (L++[ex]) L.length (xP b):=by
 refine TR.mk L.length ex b _ [t,u,v] (by simp) hB hb ⟨by simp,zM4 ⟨g,3,#[t,u,v],rfl,hg,hgg,by simp,by decide,by simp,by simp⟩⟩ (by simp[hi]) ?_;intro i s q hs hq;rw[hi] at hs
 match i with
 | 0=>simp at hs hq;subst hs hq;exact ht.more _
 | 1=>simp at hs hq;subst hs hq;exact hu.more _
 | 2=>simp at hs hq;subst hs hq;exact hv.more _
 | i+3=>simp at hs
theorem Fr.with2 (h:Fr (·=pb) w w1)(eb i:Nat)(u:Xv):Fr (λk=>k=pb∨k=eb) w (w1.setCell (xD eb i) u) :=
 (h.mono (S':=λk=>k=pb∨k=eb) (λ_ _ h=>zM3 h)).setCell (zM3 (zM4 rfl)) u
theorem Fr.drop2 {w0:Xw}(h0:Fr (·=pb) w w0)(h:Fr (λk=>k=pb∨k=eb) w0 w1)(hn:w.heap.size<=eb):Fr (·=pb) w w1 :=
 h0.trans' h (λi hi hs=>by rcases hs with hs|hs;exact hs;omega)
def Box (w:Xw)(b:Nat)(t:Xy)(v:Xv):Prop:=w.heap[b]?=some (.cells #[v] t (0,0))
theorem Box.fr (h:Box w b t v)(hf:Fr (·=pb) w w')(hne:¬b=pb):Box w' b t v:=(hf.block b (ze h) hne).trans h
theorem Fr.keep2 (hf:Fr (λk=>k=pb∨k=eb) w w')(h:Box w b t v)(h1:¬b=pb)(h2:¬b=eb):Box w' b t v:=(hf.block b (ze h) (λhs=>hs.elim h1 h2)).trans h
theorem zrv (st:St)(hT:Tx st.src st.t):opM st [10,11]=if st.is 4 [45]=true then some 10 else if st.is 5 [110,111,116]=true then some 11 else none:=by obtain⟨_,_,e10,e11,_⟩:=wdl;simp only[opM,e10,e11];rw[zaB hT (by decide),zar hT (by decide)]
theorem zlC {d:Nat}{ru:Fn}(hU:zX d 238 ru)(S:Xs)(pb:Nat)(st:St)(p:Nat)(w:Xw)(bp be eb:Nat)(v0 v1 v2 v3 v4 v5:Xv)(hI:Inv p st)(ho:18<=st.op+d)(HR:PL S w pb st)(hbp:Box w bp 172 (xP pb))(Hbe:Box w be 182 (xP eb))(Heb:w.heap[eb]?=some (.cells #[v0,v1,v2,v3,v4,v5] 226 (0,0)))(n1:¬be=pb)(n3:pb<eb) :
 xK 240 #[xP bp,xP be] w λe w'=>e=.returned (.tuple #[])/\∃a g,PL S w' pb (ru st).1/\Hid ((ru st).1.er=0->TR w' w.heap.size (ru st).1.L (ru st).2 (.pointer a)) /\
  w'.heap[eb]?=some (.cells #[v0,v1,v2,v3,v4,xS g 1 1] 226 (0,0))/\w'.heap[g]?=some (.cells #[.pointer a] 182 (0,0))/\w.heap.size<=g/\Fr (λk=>k=pb∨k=eb) w w':=by
 have n2:¬eb=pb:=by omega
 have HU:=za (λw1 h1=>hU S pb st p w1 hI ho h1);obtain⟨c0,cf,cz⟩:=zu hbp;obtain⟨e0,ef,ez⟩:=zu Hbe;have hzb:=ze Heb;have hlt:=HR.lt;clear hI hU hbp;go_enter func240,ntmps240;go_region_with (go_at_call 238;refine (HU.o _ HR.drew).mono ?_;rintro e w1 ⟨a1,rfl,HL1,hT1,hF1'⟩;have HF1:Fr (·=pb) w w1:=hF1'.undrew;have hz1:=HF1.size;have Heb1:=(HF1.block eb hzb n2).trans Heb;obtain⟨d0,d1,d2,d3,d4,d5,df,dz⟩:=zt Heb1;obtain⟨f0,ff,fz⟩:=zu (Hbe.fr HF1 n1);have hlt1:=HL1.lt;clear hF1')
 all_goals go_wp2_with fail
 all_goals go_end0
 all_goals
  have hk5:(w1.setCell (xD eb 5) (xS w1.heap.size 1 1)).heap.size=w1.heap.size:=by simp[World.setCell]
  refine⟨rfl,a1,w1.heap.size,?_,?_,?_,?_,hz1,?_⟩
  . exact (HL1.setOther n3 _ _).alloc _
  . exact λhe=>(hT1.out he).fr (((Fr.refl (·=eb) w1).set1 _ _).alloc _) (λk h1 _ h2=>by have h1':w.heap.size<=k:=h1;omega)
  . exact (Below.heap_alloc _ _ _ (by rw[hk5];exact dz)).trans (zh _ _ _ _ Heb1)
  . have:=zc (w1.setCell (xD eb 5) (xS w1.heap.size 1 1)) (.cells #[.pointer a1] 182);rw[hk5] at this;exact this
  exact (HF1.with2 eb _ _).alloc _
end
section
variable {d:Nat}
theorem zl9:zH 240:=λ_ _=>by kernel_rfl
theorem zjz {M:Fn}(gM:zv d M){st:St}{p:Nat}(hI:Inv p st)(he:st.er=0)(hk:2<=st.t.k)(ho:18<=st.op+(d+1))(h16:st.op=16):(M st.enter).1.leave=st.fail 3 st.t.a:=by
 have h1:=Fwd.enter hI he hk;have h2:=gM st.enter (p+1) h1.inv (by rw[St.enter_op];omega);have h3:st.enter.er≠0:=by unfold St.enter;rw[zM2 (by omega)];exact St.fail_er _ (by decide)
 rw[h2.er h3,zd0 h16]
theorem zm9 {ru smp:Fn}(HU:zX d 238 ru)(gU:zv d ru)(hS:zX (d+1) 239 smp):zX (d+1) 238 (zdn ru smp):=by
 intro S pb st p w HI ho HR;have hlt:=HR.lt;have HOp:=za (zbd S pb st _ 2 [10,11] rfl (by decide) ((w.alloc (.cells #[xP pb] 172)).alloc (.cells #[xI 10,xI 11] 223)) (zcD _ _ _ _ rfl) (by decide) HI.ok.tk ((HR.alloc _).alloc _));rw[zrv st HR.tx,zsb] at HOp;have hmf:∀(fn:Go.Fn) (first cap:Xa) (w:Xw),(Instr.makeFunc fn first cap).run prog w=.ok (.func fn first cap) w:=λ_ _ _ _=>rfl;by_cases hc:(st.is 4 [45]||st.is 5 [110,111,116])=true
 . obtain⟨kk,hkk,Hkl⟩:∃kk,(if st.is 4 [45]=true then some 10 else if st.is 5 [110,111,116]=true then some 11 else none)=some kk/\zag (if st.is 4 [45]=true then zlo else zk5).toList 0=kk:=by
    by_cases h1:st.is 4 [45]=true
    . exact⟨10,by rw[zM2 h1],by rw[zM2 h1];decide +kernel⟩
    have h2:st.is 5 [110,111,116]=true:=(by simpa [h1] using hc);exact⟨11,by rw[zM1 h1,zM2 h2],by rw[zM1 h1];decide +kernel⟩
   have Hk4:4<=st.t.k:=by
    simp only[Bool.or_eq_true] at hc;rcases hc with h|h
    . rw[Inv.is_k h];omega
    rw[Inv.is_k h];omega
   have he:=HI.toBad.er (by omega);have hM:zdn ru smp st=(ru st.enter).1.leave.put ⟨if st.is 4 [45]=true then zlo else zk5,st.t.a,0,[(ru st.enter).2],sE,0⟩:=(by unfold zdn;rw[zM2 ⟨he,hc⟩]);rw[hkk] at HOp;simp only[opV] at HOp;rw[hM];generalize (if st.is 4 [45]=true then zlo else zk5)=op at *;have e1:=Fwd.enter HI he (by omega:2<=st.t.k);have HoE:18<=st.enter.op+d:=(by rw[St.enter_op];omega);have HgE:=gU st.enter (p+1) e1.inv HoE;have HD:=za (λh16=>zjz gU HI he (by omega:2<=st.t.k) ho h16);have HE:=za e1.inv;have HB:=za HI.toBad;go_enter func238,ntmps238;go_wp2_with (first|(go_at_call 226;refine HOp.o.mono ?_;rintro e w' ⟨rfl,rfl⟩)|(go_at_call 208;refine (zb8 S pb st kk _ ((HR.alloc _).alloc _)).mono ?_;rintro e w' ⟨rfl,rfl⟩));obtain⟨w0,hw0⟩:∃w0,((((w.alloc (.cells #[xP pb] 172)).alloc (.cells #[xI 10,xI 11] 223)).alloc (.cells #[xI kk,xI st.t.a,.string ⟨#[]⟩,xI 0,xI 0,.slice none 0 0] 226)).alloc (.cells #[xP (w.heap.size+1+1)] 182))=w0:=⟨_,rfl⟩;have b0:Box w0 w.heap.size 172 (xP pb):=(by rw[<- hw0];exact (Below.heap_alloc _ _ _ (by simp;omega)).trans ((Below.heap_alloc _ _ _ (by simp;omega)).trans ((Below.heap_alloc _ _ _ (by simp)).trans (zc w _))));have b2:xH w0 (w.heap.size+1+1) #[xI kk,xI st.t.a,.string ⟨#[]⟩,xI 0,xI 0,.slice none 0 0] 226:=(by rw[<- hw0];refine (Below.heap_alloc _ _ _ (by simp)).trans ?_;have:=zc ((w.alloc (.cells #[xP pb] 172)).alloc (.cells #[xI 10,xI 11] 223)) (.cells #[xI kk,xI st.t.a,.string ⟨#[]⟩,xI 0,xI 0,.slice none 0 0] 226);simpa using this);have b3:Box w0 (w.heap.size+1+1+1) 182 (xP (w.heap.size+1+1)):=(by rw[<- hw0];have:=zc (((w.alloc (.cells #[xP pb] 172)).alloc (.cells #[xI 10,xI 11] 223)).alloc (.cells #[xI kk,xI st.t.a,.string ⟨#[]⟩,xI 0,xI 0,.slice none 0 0] 226)) (.cells #[xP (w.heap.size+1+1)] 182);unfold Box;simpa using this);have hF0:Fr (·=pb) w w0:=(by rw[<- hw0];exact ((((Fr.refl _ w).alloc _).alloc _).alloc _).alloc _);have hL0:PL S w0 pb st:=(by rw[<- hw0];exact (((HR.alloc _).alloc _).alloc _).alloc _);rw[hw0];refine (zdz _ _ zl9 S pb st p w0 HI (zMO (by decide) Hk4) hL0 (λe w'=>e=.returned (.tuple #[])/\Box w' (w.heap.size+1+1+1) 182 (xP (w.heap.size+1+1))/\zaW S pb w.heap.size w ((ru st.enter).1.leave.put ⟨op,st.t.a,0,[(ru st.enter).2],sE,0⟩).1 ((ru st.enter).1.leave.put ⟨op,st.t.a,0,[(ru st.enter).2],sE,0⟩).2 (.returned (xP (w.heap.size+1+1))) w') ?_ ?_).mono ?_
   . intro hlt16 w1 hL1 hF1;refine (zlC HU S pb st.enter (p+1) w1 w.heap.size (w.heap.size+1+1+1) (w.heap.size+1+1) _ _ _ _ _ _ HE.o HoE hL1 (b0.fr hF1 (by omega)) (b3.fr hF1 (by omega)) ((hF1.block _ (ze b2) (by omega)).trans b2) (by omega) (by omega)).mono ?_;rintro e w2 ⟨rfl,a2,g,hL2,hT2,hb2,hg2,hzg,hF2⟩;refine⟨rfl,(ru st.enter).1,hL2,by rw[HgE.op,St.enter_op];omega,by rw[HgE.op,St.enter_op];omega,?_⟩;intro w3 hL3 hF3;have hFw:Fr (·=pb) w w3:=(Fr.drop2 (hF0.trans hF1) hF2 (by omega)).trans hF3;have hz1:w0.heap.size<=w1.heap.size:=hF1.size;have hz0:w.heap.size<=w0.heap.size:=hF0.size;refine⟨rfl,Box.fr (Fr.keep2 hF2 (b3.fr hF1 (by omega)) (by omega) (by omega)) hF3 (by omega),_,rfl,hL3.put _,?_,hFw⟩;intro he';have t2:=hT2.out he';refine TR.one (y:=(ru st.enter).2) (g:=g) (u:=.pointer a2) (by omega) (by omega) ?_ ((hF3.block g (ze hg2) (by omega)).trans hg2) rfl ?_
     . show _=some (Obj.cells #[xI (zag op.toList 0:Nat),xI st.t.a,.string ⟨#[]⟩,xI (0:Nat),xI (zbF op.toList 0:Nat),xS g 1 1] 226 (0,0));rw[Hkl,zbK];exact (hF3.block _ (ze hb2) (by omega)).trans hb2
     exact (t2.fr hF3 (λk h1 _ h2=>by omega)).down (by omega)
   . intro h16 w3 hL3 hF3;rw[HD.o h16];exact⟨rfl,b3.fr hF3 (by omega),_,rfl,hL3.put _,λhe'=>absurd he' (St.fail_er st (by decide)),hF0.trans hF3⟩
   rintro e w4 ⟨rfl,hb4,HQ⟩;obtain⟨f0,ff,fz⟩:=zu hb4;go_wp2_with fail;go_ret;exact HQ
 have hM:zdn ru smp st=smp st:=by unfold zdn;rw[zM1 (λh=>hc h.2)]
 have hn:(if st.is 4 [45]=true then some 10 else if st.is 5 [110,111,116]=true then some 11 else none)=(none:Xo):=by simp only[Bool.or_eq_true,not_or] at hc;rw[zM1 hc.1,zM1 hc.2]
 rw[hn] at HOp;simp only[opV] at HOp;rw[hM];have H1:=za (hS S pb st p ((w.alloc (.cells #[xP pb] 172)).alloc (.cells #[xI 10,xI 11] 223)) HI ho ((HR.alloc _).alloc _));generalize smp st=R at *;go_enter func238,ntmps238;go_wp2_with (go_at_call 226;refine HOp.o.mono ?_;rintro e w' ⟨rfl,rfl⟩);refine H1.o.mono ?_;rintro e w1 h1;obtain⟨a,rfl,h2,h3,h4⟩:=(h1.alloc (zaF _ _)).alloc (zaF _ _);go_wp2_with fail;go_ret;exact⟨a,rfl,h2,h3,h4⟩
end
section
variable {rx:Fn} {a d e:Nat}
theorem St.fail_fail (s:St){e' a':Nat}(he:e≠0):(s.fail e a).fail e' a'=s.fail e a:=by unfold St.fail;by_cases h:s.er=0 <;> simp[h,he]
theorem St.fail_must (s:St){k:Nat}{l:Xu}(he:e≠0)(hk:k≠1):(s.fail e a).must k l=s.fail e a:=by
 unfold St.must;have:(s.fail e a).is k l=false:=by
  unfold St.is;have:(s.fail e a).t.k=1:=by unfold St.fail;split <;> rfl
  rw[this];have h1:((1:Nat)==k)=false:=by simp;omega
  rw[h1];rfl
 rw[this];exact St.fail_fail s he
theorem St.enter_deep {s:St}(h:s.op=16):s.enter=({ s with op:=s.op+1 }:St).fail 3 s.t.a:=by unfold St.enter;rw[zM2 (by omega)]
theorem zl4:zH 247:=λ_ _=>by kernel_rfl
theorem zlq:(⟨#[41]⟩:Xb).toList=[41]:=by decide +kernel
theorem zlw (hX:zX d 190 rx)(gX:zv d rx)(S:Xs)(pb:Nat)(st:St)(p:Nat)(w:Xw)(bp be:Nat)(v:Xv)(hI:Inv p st)(ho:18<=st.op+d)(hR:PL S w pb st)(Hbp:Box w bp 172 (xP pb))(Hbe:Box w be 182 v)(n1:pb<be)(n2:¬bp=pb)(n3:¬bp=be) :
 xK 247 #[xP bp,xP be] w λe w'=>e=.returned (.tuple #[])/\∃a,Box w' be 182 (.pointer a)/\PL S w' pb ((rx st).1.must 4 [41])/\Hid (((rx st).1.must 4 [41]).er=0->TR w' w.heap.size (rx st).1.L (rx st).2 (.pointer a))/\Fr (λk=>k=pb∨k=be) w w':=by
 have H1:=za (hX S pb st p w hI ho hR);have g1:=gX st p hI ho;have HB1:=za g1.inv.toBad;obtain⟨c0,cf,cz⟩:=zu Hbp;have hze:=ze Hbe;have hlt:=hR.lt;generalize rx st=y at *;go_enter func247,ntmps247;go_wp2_with fail;refine H1.o.mono ?_;rintro e w1 ⟨a1,rfl,HL1,hT1,HF1⟩;have hz1:=HF1.size;have hbp1:=Hbp.fr HF1 n2;have Hbe1:=Hbe.fr HF1 (by omega);obtain⟨d0,df,dz⟩:=zu hbp1;obtain⟨f0,ff,fz⟩:=zu Hbe1;go_wp2_with (go_at_call 150;refine (zP S pb y.1 _ [41] zlq _ HB1.o (HL1.setOther n1 _ _)).mono ?_;rintro e w2 ⟨rfl,HL2,HF2⟩);go_end0;have hm:y.1.expM [41]=y.1.must 4 [41]:=zan HL1.tx (by decide);have hb2:Box (w1.setCell (xD be 0) (.pointer a1)) be 182 (.pointer a1):=zh _ _ _ _ Hbe1;refine⟨rfl,a1,hb2.fr HF2 (by omega),hm▸HL2,?_,?_⟩
 . intro he;have he1:y.1.er=0:=by
    by_cases h:y.1.er=0
    . exact h
    exfalso;revert he;unfold St.must;split
    . rw[St.step_er];exact h
    exact λhe=>St.fail_er _ (by decide) he
   exact ((hT1.out he1).fr ((Fr.refl (·=be) w1).set1 _ _) (λk h1 _ h2=>by omega)).fr HF2 (λk h1 _ h2=>by omega)
 exact (HF1.with2 be _ _).trans (HF2.mono (λ_ _ h=>zM3 h))
theorem zme (HX:zX d 190 rx)(GX:zv d rx)(S:Xs)(pb:Nat)(st:St)(p:Nat)(w:Xw)(HI:Inv p st)(hk:2<=st.t.k)(ho:18<=st.op+(d+1))(HR:PL S w pb st) :
 xK 244 #[xP pb] w (zaW S pb w.heap.size w (zfQ rx st).1 (zfQ rx st).2):=by
 have hlt:=HR.lt;have hmf:∀(fn:Go.Fn) (first cap:Xa) (w:Xw),(Instr.makeFunc fn first cap).run prog w=.ok (.func fn first cap) w:=λ_ _ _ _=>rfl;have he:=HI.toBad.er (by omega);have e1:=Fwd.enter HI he hk;have HoE:18<=st.enter.op+d:=by rw[St.enter_op];omega
 have HgE:=GX st.enter (p+1) e1.inv HoE;have HD:Hid (st.op=16->((rx st.enter).1.must 4 [41]).leave=st.fail 3 st.t.a):=by
  intro h16;have h3:st.enter.er≠0:=by unfold St.enter;rw[zM2 (by omega)];exact St.fail_er _ (by decide)
  rw[HgE.er h3];have h4:st.enter.must 4 [41]=st.enter:=by rw[St.enter_deep h16];exact St.fail_must _ (by decide) (by decide)
  rw[h4,zd0 h16]
 show Calls _ _ _ _ (zaW S pb w.heap.size w ((rx st.enter).1.must 4 [41]).leave (rx st.enter).2);have HE:=za e1.inv;go_enter func244,ntmps244;go_wp2_with fail;obtain⟨w0,hw0⟩:∃w0,((w.alloc (.cells #[xP pb] 172)).alloc (.cells #[.pointer none] 182))=w0:=⟨_,rfl⟩;have b0:Box w0 w.heap.size 172 (xP pb):=by rw[<- hw0];exact (Below.heap_alloc _ _ _ (by simp)).trans (zc w _)
 have b1:Box w0 (w.heap.size+1) 182 (.pointer none):=by rw[<- hw0];have:=zc (w.alloc (.cells #[xP pb] 172)) (.cells #[.pointer none] 182);unfold Box;simpa using this
 have hF0:Fr (·=pb) w w0:=by rw[<- hw0];exact ((Fr.refl _ w).alloc _).alloc _
 have hL0:PL S w0 pb st:=by rw[<- hw0];exact (HR.alloc _).alloc _
 rw[hw0];refine (zdz _ _ zl4 S pb st p w0 HI hk hL0 (λe w'=>e=.returned (.tuple #[])/\∃a,Box w' (w.heap.size+1) 182 (.pointer a)/\zaW S pb w.heap.size w ((rx st.enter).1.must 4 [41]).leave (rx st.enter).2 (.returned (.pointer a)) w') ?_ ?_).mono ?_
 . intro hlt16 w1 hL1 hF1;refine (zlw HX GX S pb st.enter (p+1) w1 w.heap.size (w.heap.size+1) _ HE.o HoE hL1 (b0.fr hF1 (by omega)) (b1.fr hF1 (by omega)) (by omega) (by omega) (by omega)).mono ?_;rintro e w2 ⟨rfl,a2,hb2,hL2,hT2,hF2⟩;refine⟨rfl,(rx st.enter).1.must 4 [41],hL2,by rw[St.must_op,HgE.op,St.enter_op];omega,by rw[St.must_op,HgE.op,St.enter_op];omega,?_⟩;intro w3 hL3 hF3;have hFw:Fr (·=pb) w w3:=(Fr.drop2 (hF0.trans hF1) hF2 (by omega)).trans hF3;have hz1:w0.heap.size<=w1.heap.size:=hF1.size;have hz0:w.heap.size<=w0.heap.size:=hF0.size;refine⟨rfl,a2,hb2.fr hF3 (by omega),a2,rfl,hL3,?_,hFw⟩;intro he';have t2:=hT2.out he';have hLL:((rx st.enter).1.must 4 [41]).leave.L=(rx st.enter).1.L:=St.must_L _ _ _;rw[hLL];exact (t2.fr hF3 (λk h1 _ h2=>by omega)).down (by omega)
 . intro h16 w3 hL3 hF3;rw[HD.o h16];exact⟨rfl,none,b1.fr hF3 (by omega),none,rfl,hL3,λhe'=>absurd he' (St.fail_er st (by decide)),hF0.trans hF3⟩
 rintro e w4 ⟨rfl,a4,hb4,HQ⟩;obtain⟨f0,ff,fz⟩:=zu hb4;go_wp2_with fail;go_ret;exact HQ
end
section
theorem znA:zH 209:=λ_ _=>by kernel_rfl
theorem zo8:(⟨#[102,98,121]⟩:Xb).toList=[102,98,121]:=by decide +kernel
theorem zmP {d:Nat}{rx:Fn}(hX:zX d 190 rx)(S:Xs)(pb:Nat)(st:St)(p:Nat)(w:Xw)(bf bp be eb:Nat)(a0:Xp)(v0 v1 v2 v3 v4 v5:Xv)(hI:Inv p st)(ho:18<=st.op+d)(HR:PL S w pb st)(Hbf:Box w bf 182 (.pointer a0))(hbp:Box w bp 172 (xP pb))(Hbe:Box w be 182 (xP eb))(Heb:w.heap[eb]?=some (.cells #[v0,v1,v2,v3,v4,v5] 226 (0,0)))(n0:¬bf=pb)(n1:¬be=pb)(n3:pb<eb) :
 xK 209 #[xP bf,xP bp,xP be] w λe w'=>e=.returned (.tuple #[])/\∃a g,PL S w' pb (rx st).1/\Hid ((rx st).1.er=0->TR w' w.heap.size (rx st).1.L (rx st).2 (.pointer a)) /\
  w'.heap[eb]?=some (.cells #[v0,v1,v2,v3,v4,xS g 2 2] 226 (0,0))/\w'.heap[g]?=some (.cells #[.pointer a0,.pointer a] 182 (0,0))/\w.heap.size<=g/\Fr (λk=>k=pb∨k=eb) w w':=by
 have n2:¬eb=pb:=by omega
 have HU:=za (λw1 h1=>hX S pb st p w1 hI ho h1);obtain⟨g0,gf,gz⟩:=zu Hbf;obtain⟨c0,cf,cz⟩:=zu hbp;obtain⟨e0,ef,ez⟩:=zu Hbe;have hzb:=ze Heb;have hlt:=HR.lt;clear hI hX hbp;generalize rx st=y at *;go_enter func209,ntmps209;go_region_with (go_at_call 190;refine (HU.o _ HR.drew).mono ?_;rintro e w1 ⟨a1,rfl,HL1,hT1,hF1'⟩;have HF1:Fr (·=pb) w w1:=hF1'.undrew;have hz1:=HF1.size;have Heb1:=(HF1.block eb hzb n2).trans Heb;obtain⟨d0,d1,d2,d3,d4,d5,df,dz⟩:=zt Heb1;obtain⟨f0,ff,fz⟩:=zu (Hbe.fr HF1 n1);obtain⟨i0,if',iz⟩:=zu (Hbf.fr HF1 n0);have hlt1:=HL1.lt;clear hF1')
 all_goals go_wp2_with fail
 all_goals go_end0
 all_goals
  have hk5:(w1.setCell (xD eb 5) (xS w1.heap.size 2 2)).heap.size=w1.heap.size:=by simp[World.setCell]
  refine⟨rfl,a1,w1.heap.size,?_,?_,?_,?_,hz1,?_⟩
  . exact (HL1.setOther n3 _ _).alloc _
  . exact λhe=>(hT1.out he).fr (((Fr.refl (·=eb) w1).set1 _ _).alloc _) (λk h1 _ h2=>by have h1':w.heap.size<=k:=h1;omega)
  . exact (Below.heap_alloc _ _ _ (by rw[hk5];exact dz)).trans (zh _ _ _ _ Heb1)
  . have:=zc (w1.setCell (xD eb 5) (xS w1.heap.size 2 2)) (.cells #[.pointer a0,.pointer a1] 182);rw[hk5] at this;exact this
  exact (HF1.with2 eb _ _).alloc _
theorem zrL:zag zgW.toList 0=9:=by decide +kernel
theorem zoz {d:Nat}{rx eith:Fn}(HX:zX d 190 rx)(GX:zv d rx)(hE:zX (d+1) 207 eith)(gE:zv (d+1) eith):zX (d+1) 190 (zgk rx eith):=by
 intro S pb st p w hI ho hR;have hlt:=hR.lt;have hmf:∀(fn:Go.Fn) (first cap:Xa) (w:Xw),(Instr.makeFunc fn first cap).run prog w=.ok (.func fn first cap) w:=λ_ _ _ _=>rfl;have g1:=gE st p hI ho;have H1:=za (hE S pb st p (w.alloc (.cells #[xP pb] 172)) hI ho (hR.alloc _));have hM:zgk rx eith st=if (eith st).1.er=0/\(eith st).1.is 5 [102,98,121]=true then (rx (eith st).1.enter).1.leave.put ⟨zgW,(eith st).1.t.a,0,[(eith st).2,(rx (eith st).1.enter).2],sE,0⟩ else eith st:=rfl;have G1:=za g1.inv;have O1:Hid (18<=(eith st).1.op+(d+1)):=by unfold Hid;rw[g1.op];exact ho
 generalize eith st=x at *;cases Hc:x.1.is 5 [102,98,121] with
 | false => rw[hM,zM1 (by rw[Hc];simp)];go_enter func190,ntmps190;go_wp2_with fail;refine H1.o.mono ?_;rintro e w1 h1;obtain⟨a0,e0,_,_,hFa⟩:=id h1;have hz1:=hFa.size;have hz1':w.heap.size<w1.heap.size:=(by simp at hz1;omega);have Hb0:Box w1 w.heap.size 172 (xP pb):=(hFa.block _ (by simp) (by omega)).trans (zc w _);obtain⟨p0,pf,pz⟩:=zu Hb0;obtain⟨a1,rfl,HL1,hT1,HF1⟩:=h1.alloc (zaF _ _);have HA:=za (zaP S pb x.1 ⟨#[102,98,121]⟩ _ zo8 (w1.alloc (.cells #[.pointer a1] 182)) G1.o.ok.tk (HL1.alloc _));rw[zar HL1.tx (by decide),Hc] at HA;have hlt1:=HL1.lt;go_wp2_with (go_at_call 85;refine HA.o.mono ?_;rintro e w' ⟨rfl,rfl⟩);go_ret;exact⟨a1,rfl,HL1.alloc _,λhe=>(hT1.out he).fr ((Fr.refl (·=pb) w1).alloc _) (λk _ _ _=>by omega),HF1.alloc _⟩
 | true =>
   have Hk5:x.1.t.k=5:=Inv.is_k Hc;have he:=G1.o.toBad.er (by omega);rw[hM,zM2 ⟨he,Hc⟩];have e1:=Fwd.enter G1.o he (by omega:2<=x.1.t.k);have HoE:18<=x.1.enter.op+d:=(by rw[St.enter_op];have:=O1.o;omega);have gE2:=GX x.1.enter (p+1) e1.inv HoE;obtain⟨E,HEL⟩:=gE2.L;rw[St.enter_L] at HEL;have HEr:=za (λ(h:(rx x.1.enter).1.er=0)=>(show x.1.er=0 from he));have HD:=za (λh16=>zjz GX G1.o he (by omega:2<=x.1.t.k) O1.o h16);have HgO:=za gE2.op;have HE:=za e1.inv;go_enter func190,ntmps190;go_wp2_with fail;refine H1.o.mono ?_;rintro e w1 ⟨a1,rfl,HL1,hT1,HF1⟩;have hz1:=HF1.size;have hz1':w.heap.size<w1.heap.size:=(by simp at hz1;omega);have hz2':w.heap.size<w1.heap.size+1:=(by omega);have hz3':w.heap.size<w1.heap.size+1+1:=(by omega);have Hb0:Box w1 w.heap.size 172 (xP pb):=(HF1.block _ (by simp) (by omega)).trans (zc w _);obtain⟨p0,pf,pz⟩:=zu Hb0;have HA:=za (zaP S pb x.1 ⟨#[102,98,121]⟩ _ zo8 (w1.alloc (.cells #[.pointer a1] 182)) G1.o.ok.tk (HL1.alloc _));rw[zar HL1.tx (by decide),Hc] at HA;have hlt1:=HL1.lt;go_wp2_with (first|(go_at_call 85;refine HA.o.mono ?_;rintro e w' ⟨rfl,rfl⟩)|(go_at_call 208;refine (zb8 S pb x.1 9 _ (HL1.alloc _)).mono ?_;rintro e w' ⟨rfl,rfl⟩));obtain⟨w0,hw0⟩:∃w0,(((w1.alloc (.cells #[.pointer a1] 182)).alloc (.cells #[xI 9,xI x.1.t.a,.string ⟨#[]⟩,xI 0,xI 0,.slice none 0 0] 226)).alloc (.cells #[xP (w1.heap.size+1)] 182))=w0:=⟨_,rfl⟩;have b0:Box w0 w.heap.size 172 (xP pb):=(by rw[<- hw0];exact (Below.heap_alloc _ _ _ (by simp;omega)).trans ((Below.heap_alloc _ _ _ (by simp;omega)).trans ((Below.heap_alloc _ _ _ hz1').trans Hb0)));have b1:Box w0 w1.heap.size 182 (.pointer a1):=(by rw[<- hw0];exact (Below.heap_alloc _ _ _ (by simp;omega)).trans ((Below.heap_alloc _ _ _ (by simp)).trans (zc w1 _)));have b2:xH w0 (w1.heap.size+1) #[xI 9,xI x.1.t.a,.string ⟨#[]⟩,xI 0,xI 0,.slice none 0 0] 226:=(by rw[<- hw0];refine (Below.heap_alloc _ _ _ (by simp)).trans ?_;have:=zc (w1.alloc (.cells #[.pointer a1] 182)) (.cells #[xI 9,xI x.1.t.a,.string ⟨#[]⟩,xI 0,xI 0,.slice none 0 0] 226);simpa using this);have b3:Box w0 (w1.heap.size+1+1) 182 (xP (w1.heap.size+1)):=(by rw[<- hw0];have:=zc ((w1.alloc (.cells #[.pointer a1] 182)).alloc (.cells #[xI 9,xI x.1.t.a,.string ⟨#[]⟩,xI 0,xI 0,.slice none 0 0] 226)) (.cells #[xP (w1.heap.size+1)] 182);unfold Box;simpa using this);have hF01:Fr (·=pb) w1 w0:=(by rw[<- hw0];exact (((Fr.refl _ w1).alloc _).alloc _).alloc _);have hF0:Fr (·=pb) w w0:=(((Fr.refl _ w).alloc _).trans HF1).trans hF01;have hL0:PL S w0 pb x.1:=(by rw[<- hw0];exact ((HL1.alloc _).alloc _).alloc _);rw[hw0];refine (zdz _ _ znA S pb x.1 p w0 G1.o (by rw[Hk5];decide) hL0 (λe w'=>e=.returned (.tuple #[])/\Box w' (w1.heap.size+1+1) 182 (xP (w1.heap.size+1))/\zaW S pb w.heap.size w ((rx x.1.enter).1.leave.put ⟨zgW,x.1.t.a,0,[x.2,(rx x.1.enter).2],sE,0⟩).1 ((rx x.1.enter).1.leave.put ⟨zgW,x.1.t.a,0,[x.2,(rx x.1.enter).2],sE,0⟩).2 (.returned (xP (w1.heap.size+1))) w') ?_ ?_).mono ?_
   . intro hlt16 w2 hL2 hF2;refine (zmP HX S pb x.1.enter (p+1) w2 w1.heap.size w.heap.size (w1.heap.size+1+1) (w1.heap.size+1) a1 _ _ _ _ _ _ HE.o HoE hL2 (b1.fr hF2 (by omega)) (b0.fr hF2 (by omega)) (b3.fr hF2 (by omega)) ((hF2.block _ (ze b2) (by omega)).trans b2) (by omega) (by omega) (by omega)).mono ?_;rintro e w3 ⟨rfl,a3,g,hL3,hT3,hb3,hg3,hzg,hF3⟩;refine⟨rfl,(rx x.1.enter).1,hL3,by rw[HgO.o,St.enter_op];omega,by rw[HgO.o,St.enter_op];omega,?_⟩;intro w4 hL4 hF4;have hFw:Fr (·=pb) w w4:=(Fr.drop2 (hF0.trans hF2) hF3 (by omega)).trans hF4;have hFw1:Fr (·=pb) w1 w4:=(Fr.drop2 (hF01.trans hF2) hF3 (by omega)).trans hF4;have hz02:w0.heap.size<=w2.heap.size:=hF2.size;have hz01:w1.heap.size<=w0.heap.size:=hF01.size;refine⟨rfl,Box.fr (Fr.keep2 hF3 (b3.fr hF2 (by omega)) (by omega) (by omega)) hF4 (by omega),_,rfl,hL4.put _,?_,hFw⟩;intro he';have t3:=hT3.out he';have t1:=hT1.out (HEr.o he');refine TR.two (y:=x.2) (z:=(rx x.1.enter).2) (g:=g) (u:=.pointer a1) (v:=.pointer a3) (by omega) (by omega) ?_ ((hF4.block g (ze hg3) (by omega)).trans hg3) rfl ?_ ?_
     . show _=some (Obj.cells #[xI (zag zgW.toList 0:Nat),xI x.1.t.a,.string ⟨#[]⟩,xI (0:Nat),xI (zbF zgW.toList 0:Nat),xS g 2 2] 226 (0,0));rw[zrL,zbK];exact (hF4.block _ (ze hb3) (by omega)).trans hb3
     . show TR w4 w.heap.size (rx x.1.enter).1.L x.2 (.pointer a1);rw[HEL];exact ((t1.down (zaF _ _)).fr hFw1 (λk h1 _ h2=>by omega)).more E
     exact (t3.fr hF4 (λk h1 _ h2=>by omega)).down (by omega)
   . intro h16 w3 hL3 hF3;rw[HD.o h16];exact⟨rfl,b3.fr hF3 (by omega),_,rfl,hL3.put _,λhe'=>absurd he' (St.fail_er x.1 (by decide)),hF0.trans hF3⟩
   rintro e w4 ⟨rfl,hb4,HQ⟩;obtain⟨f0,ff,fz⟩:=zu hb4;go_wp2_with fail;go_ret;exact HQ
end
section
variable {st:St}
theorem TR.leaf {w:Xw}{B:Nat}{L:List Ex}{ex:Ex}{b:Nat}(hB:B<=b)
 (hb:xH w b #[xI (zag ex.op.toList ex.n:Nat),xI ex.a,.string ex.s,xI ex.nm,xI (zbF ex.op.toList ex.n:Nat),.slice none 0 0] 226)
 (hi:ex.ins=[]):TR w B (L++[ex]) L.length (xP b):=by
 refine TR.mk L.length ex b _ [] (by simp) hB hb (World.ownsRow_nil _ _ _ _) (by simp[hi]) ?_;intro i s t hs _;rw[hi] at hs;simp at hs
theorem zoZ:zag zfR.toList 0=3:=by decide +kernel
theorem zfU (s:Xb)(a:Nat)(w:Xw):xK 243 #[.agg #[.string s,xI a]] w λe w'=>e=.returned (xP (w.heap.size+1))/\xB w w'/\xH w' (w.heap.size+1) #[xI 3,xI a,.string s,xI a,xI 0,.slice none 0 0] 226:=by go_enter func243,ntmps243;go_wp2;go_ret;refine⟨rfl,((Below.refl _ _).alloc (zMK _) _).alloc (by simp) _,?_⟩;have:=zc (w.alloc (.cells #[.string s,xI a] 117)) (.cells #[xI 3,xI a,.string s,xI a,xI 0,.slice none 0 0] 226);rw[zsb] at this;exact this
def ziL (d:Nat)(M:Fn):Prop:=∀(S:Xs) (pb:Nat) (st:St) (p:Nat) (w:Xw),Inv p st->st.t.k≠2->18<=st.op+d->PL S w pb st ->
 xK 242 #[xP pb] w (zaW S pb w.heap.size w (M st).1 (M st).2)
def zdI (d:Nat)(rx:Fn):Prop:=∀(S:Xs) (pb:Nat) (st:St) (p:Nat) (w:Xw) (t:Tk),Inv p st->18<=st.op+d->1<=st.t.a->PL S w pb st ->
 xK 189 #[xP pb,.agg #[.string t.s,xI t.a]] w (zaW S pb w.heap.size w (zao rx t st).1 (zao rx t st).2)
theorem zhL {t:Tk}:(((ck t:Nat):Int) != 3)=!(t.k==2):=by
 by_cases h:t.k=2
 . simp[ck,h]
 have:ck t≠3:=by unfold ck;(repeat' split) <;> first|decide|(exfalso;omega)
 have h2:(t.k==2)=false:=by simp[h]
 rw[h2];simp;omega
theorem zkE (hk:st.t.k=2):st.name=st.step:=by unfold St.name;rw[zM2 hk]
theorem zgJ (hk:st.t.k=2):zcc st=.agg #[.string st.t.s,xI st.t.a]:=by unfold zcc;rw[zM2 hk]
theorem znY {d:Nat}{atm:Fn}(hU:ziL d atm):zX d 250 (zch atm):=by
 intro S pb st p w hI ho hR;obtain⟨q0,q1,q2,q3,q4,q5,q6⟩:=hR.cells;have hck:=zhL (t:=st.t);have hlt:=hR.lt;by_cases hk:st.t.k=2
 . have he:=hI.toBad.er (by omega);have hM:zch atm st=zjx st:=by unfold zch;rw[zM1 (by omega)]
   rw[hM];have hk2:(st.t.k==2)=true:=(by simp[hk]);rw[hk2] at hck;have HN:=za (zaZ S pb st w hI.toBad hR);rw[zkE hk,zgJ hk] at HN;clear hR hI hU hM hk hk2 he;go_enter func250,ntmps250;go_wp2_with (first|(go_at_call 243;refine (zfU _ _ _).mono ?_;rintro e w2 ⟨rfl,Hb2,Hh2⟩)|(go_at_call 151;refine HN.o.mono ?_;rintro e w1 ⟨rfl,HL1,HF1⟩));go_ret;have hz1:=HF1.size;refine⟨_,rfl,(HL1.below Hb2).put _,λ_=>TR.leaf (ex:=⟨zfR,st.t.a,st.t.a,[],st.t.s,0⟩) (by omega) ?_ rfl,HF1.belowed Hb2⟩
   show _=some (Obj.cells #[xI (zag zfR.toList 0:Nat),xI st.t.a,.string st.t.s,xI st.t.a,xI (zbF zfR.toList 0:Nat),.slice none 0 0] 226 (0,0));rw[zoZ,zbK];exact Hh2
 have hM:zch atm st=atm st:=by unfold zch;rw[zM2 (zM4 hk)]
 rw[hM];have hk2:(st.t.k==2)=false:=by simp[hk]
 rw[hk2] at hck;have H1:=za (hU S pb st p w hI hk ho hR);clear hR hI hU hM hk hk2;generalize atm st=R at *;go_enter func250,ntmps250;go_wp2_with (go_at_call 242;refine H1.o.mono ?_;rintro e w1 ⟨a1,rfl,H2,h3,H4⟩);go_ret;exact⟨a1,rfl,H2,h3,H4⟩
end
section
theorem zfn:(⟨#[40]⟩:Xb).toList=[40]:=by decide +kernel
theorem znf {d:Nat}{rx ra:Fn}(hU:ziL (d+1) (zap rx ra))(hK:zdI (d+1) rx):zX (d+1) 241 (zap rx ra):=by
 intro S pb st p w hI ho hR;obtain⟨q0,q1,q2,q3,q4,q5,q6⟩:=hR.cells;have hck:=zhL (t:=st.t);have hlt:=hR.lt;by_cases hk:st.t.k=2
 . have he:=hI.toBad.er (by omega);have hM:zap rx ra st=if st.step.is 4 [40]=true then zao rx st.t st.step else zjx st:=by unfold zap;rw[zM1 (by simp[he]),zM1 (by omega),zM2 hk]
   rw[hM];have hk2:(st.t.k==2)=true:=(by simp[hk]);rw[hk2] at hck;have e1:=Fwd.use hI he (by omega:2<=st.t.k);have hta:1<=st.step.t.a:=(by have h1:=hI.tok (by omega);have H2:=zV st.src st.t.t hI.ok.tt;rw[St.step_ok he];simp only;omega);have HN:=za (zaZ S pb st w hI.toBad hR);rw[zkE hk,zgJ hk] at HN;have HB1:=za e1.inv.toBad;cases Hc:st.step.is 4 [40] with
   | true => rw[zM2 rfl];have HK:=za (λw1 h1=>hK S pb st.step (p+1) w1 st.t e1.inv (by rw[St.step_op];exact ho) hta h1);generalize zao rx st.t st.step=R at *;go_enter func241,ntmps241;go_wp2_with (go_at_call 151;refine HN.o.mono ?_;rintro e w1 ⟨rfl,HL1,HF1⟩;have hz1:=HF1.size;have hlt1:=HL1.lt;have HA:=za (zaP S pb st.step ⟨#[40]⟩ _ zfn (w1.alloc (.cells #[.string st.t.s,xI st.t.a] 117)) HB1.o.ok.tk (HL1.alloc _));rw[zaB HL1.tx (by decide),Hc] at HA);go_wp2_with (first|(go_at_call 85;refine HA.o.mono ?_;rintro e w' ⟨rfl,rfl⟩)|(go_at_call 189;refine (HK.o _ (HL1.alloc _)).mono ?_;rintro e w2 H2;obtain⟨a2,rfl,K2,k3,K4⟩:=H2.alloc (zaF _ _)));go_ret;exact⟨a2,rfl,K2,λhe=>(k3.out he).down hz1,HF1.trans K4⟩
   | false =>
     rw[zM1 (by simp)];go_enter func241,ntmps241;go_wp2_with (go_at_call 151;refine HN.o.mono ?_;rintro e w1 ⟨rfl,HL1,HF1⟩;have hz1:=HF1.size;have hlt1:=HL1.lt;have HA:=za (zaP S pb st.step ⟨#[40]⟩ _ zfn (w1.alloc (.cells #[.string st.t.s,xI st.t.a] 117)) HB1.o.ok.tk (HL1.alloc _));rw[zaB HL1.tx (by decide),Hc] at HA);go_wp2_with (first|(go_at_call 85;refine HA.o.mono ?_;rintro e w' ⟨rfl,rfl⟩)|(go_at_call 243;refine (zfU _ _ _).mono ?_;rintro e w2 ⟨rfl,Hb2,Hh2⟩));go_ret;have hh:=Hh2;simp only[zsb] at hh;refine⟨some (xD (w1.heap.size+1+1) 0),rfl,((HL1.alloc _).below Hb2).put _,λ_=>TR.leaf (b:=w1.heap.size+1+1) (ex:=⟨zfR,st.t.a,st.t.a,[],st.t.s,0⟩) (by omega) ?_ rfl,(HF1.alloc _).belowed Hb2⟩
     show _=some (Obj.cells #[xI (zag zfR.toList 0:Nat),xI st.t.a,.string st.t.s,xI st.t.a,xI (zbF zfR.toList 0:Nat),.slice none 0 0] 226 (0,0));rw[zoZ,zbK];exact hh
 have hk2:(st.t.k==2)=false:=by simp[hk]
 rw[hk2] at hck;have H1:=za (hU S pb st p w hI hk ho hR);generalize zap rx ra st=R at *;go_enter func241,ntmps241;go_wp2_with (go_at_call 242;refine H1.o.mono ?_;rintro e w1 ⟨a1,rfl,H2,h3,H4⟩);go_ret;exact⟨a1,rfl,H2,h3,H4⟩
theorem zpZ (st:St)(_hk:st.t.k<=5)(hT:Tx st.src st.t):opM st [7,8]=if zdi st=true then some (zag st.t.s.toList 0) else none:=by
 obtain⟨e7,e8,_⟩:=wdl;simp only[opM,e7,e8];rw[zar hT (by decide),zar hT (by decide)];unfold zdi;by_cases h1:st.is 5 [119,104,101,110]=true
 . have:st.t.s.toList=[119,104,101,110]:=by unfold St.is at h1;simp at h1;exact h1.2
   rw[h1,this,Bool.true_or,zM2 rfl,zM2 rfl];decide
 by_cases h2:st.is 5 [119,104,101,110,111,116]=true
 . have:st.t.s.toList=[119,104,101,110,111,116]:=by unfold St.is at h2;simp at h2;exact h2.2
   have h1':st.is 5 [119,104,101,110]=false:=(by simpa using h1);rw[h1',h2,this];decide
 simp[h1,h2]
theorem zjf (st:St):∃(ns:Xb) (na:Nat),zcc st=.agg #[.string ns,xI na]/\(st.t.k=2->ns=st.t.s/\na=st.t.a):=by
 by_cases h:st.t.k=2
 . exact⟨st.t.s,st.t.a,zgJ h,λ_=>⟨rfl,rfl⟩⟩
 exact⟨⟨#[]⟩,0,by unfold zcc;rw[zM1 h];rfl,λh2=>absurd h2 h⟩
theorem zjU (k:Int)(s:Xb)(a n:Int)(w:Xw):(Instr.field 79 (.agg #[xI k,.string s,xI a,xI n]) 2).run prog w=.ok (xI a) w:=by kernel_rfl
theorem zka (k:Int)(s:Xb)(a n:Int)(w:Xw):(Instr.field 79 (.agg #[xI k,.string s,xI a,xI n]) 3).run prog w=.ok (xI n) w:=by kernel_rfl
theorem zjM {d:Nat}{atm:Fn}(hA:zX d 241 atm)(gA:zv d atm):zX d 239 (zfu atm):=by
 intro S pb st p w hI ho hR;have hlt:=hR.lt;have g1:=gA st p hI ho;have H1:=za (hA S pb st p w hI ho hR);have hM:zfu atm st=zaY 1300 (atm st):=rfl;rw[hM];have G1:=za g1.inv;generalize atm st=x0 at *;obtain⟨R,HRes⟩:∃R,zaY 1300 x0=R:=⟨_,rfl⟩;rw[HRes];go_enter func239,ntmps239;go_wp2_with fail;refine H1.o.mono ?_;rintro e w1 ⟨a1,rfl,HL1,hT1,HF1⟩;go_wp2_with fail;go_loopg [3] 1300 (λk l wr=>∃(x:St×Nat) (a:Xp),l=.pointer a/\Hid (zaY k x=R)/\rem x.1<k/\Hid (Inv p x.1)/\Hid (PL S wr pb x.1)/\Hid (x.1.er=0->TR wr w.heap.size x.1.L x.2 (.pointer a))/\Hid (Fr (·=pb) w wr));case atStart => refine⟨x0,a1,rfl,HRes,?_,G1.o,HL1,hT1.out,HF1⟩;unfold rem;split <;> omega
 case round =>
  obtain⟨x,a,rfl,HF,hrem,HI2,HL2,HT2,HF2⟩:=hrel;have hlt2:=HL2.o.lt;obtain⟨g,rfl⟩:∃g,gk=g+1:=⟨gk-1,by omega⟩;have HOp:=za (zbd S pb x.1 wr.heap.size 2 [7,8] rfl (by decide) (wr.alloc (.cells #[xI 7,xI 8] 223)) (zcD wr _ _ _ rfl) (by decide) HI2.o.ok.tk (HL2.o.alloc _));rw[zpZ x.1 HI2.o.ok.tk HL2.o.tx] at HOp;have hz2:=HF2.o.size;cases hl:zdi x.1 with
  | false =>
    rw[hl,zM1 (by simp)] at HOp;have HR2:R=x:=by
     rw[<- HF.o]
     show (if x.1.er=0/\zdi x.1=true then _ else x)=x;rw[zM1 (by rw[hl];simp)]
    simp only[opV] at HOp;go_wp2_with (go_at_call 226;refine HOp.o.mono ?_;rintro e w' ⟨rfl,rfl⟩);go_ret;rw[HR2];exact⟨a,rfl,HL2.o.alloc _,λHe=>(HT2.o He).fr ((Fr.refl (·=pb) wr).alloc _) (λk _ _ _=>by omega),HF2.o.alloc _⟩
  | true =>
    rw[hl,zM2 rfl] at HOp;simp only[opV] at HOp;have Hk5:x.1.t.k=5:=(by unfold zdi at hl;simp only[Bool.or_eq_true] at hl;rcases hl with h|h <;> exact Inv.is_k h);have He:=HI2.o.toBad.er (by omega);have e3:=Fwd.use HI2.o He (by omega:2<=x.1.t.k);have e4:=Fwd.name e3.inv;have HFn:Hid (zaY g (x.1.step.name.put ⟨x.1.t.s,x.1.t.a,x.1.step.t.a,[x.2],x.1.step.t.s,0⟩)=R):=by
     have h:=HF.o;unfold Hid;rw[<- h]
     show _=(if x.1.er=0/\zdi x.1=true then _ else x);rw[zM2 ⟨He,hl⟩]
    have hput:Hid (Inv p (x.1.step.name.put ⟨x.1.t.s,x.1.t.a,x.1.step.t.a,[x.2],x.1.step.t.s,0⟩).1):=(Fwd.put e4.inv _).inv;have hrem':Hid (rem (x.1.step.name.put ⟨x.1.t.s,x.1.t.a,x.1.step.t.a,[x.2],x.1.step.t.s,0⟩).1<g):=by
     unfold Hid rem
     show (if x.1.step.name.er=0 then 1201-x.1.step.name.t.a else 0)<g;have h1:rem x.1=1201-x.1.t.a:=(by unfold rem;rw[zM2 He]);have h2:=e4.ta;have h3:x.1.t.a+1<=x.1.step.t.a:=(by have:=HI2.o.tok (by omega);rw[St.step_ok He];have hf:=zV x.1.src x.1.t.t HI2.o.ok.tt;simp only;omega);have h4:=e4.inv.ok.ta_le;have h5:=HI2.o.ok.ta_le;split <;> omega
    have HB2:=za HI2.o.toBad;have HB3:=za e3.inv.toBad;have Hst:=za (zc8 HI2.o.toBad (by omega:x.1.t.k≠1));obtain⟨kk,Hkk⟩:∃kk,zag x.1.t.s.toList 0=kk:=⟨_,rfl⟩;rw[Hkk] at HOp;have HLs:Hid (x.1.step.name.L=x.1.L):=(by unfold Hid;rw[St.name_L,St.step_L]);have HEn:Hid (x.1.step.name.er=0->x.1.step.t.k=2):=by
     intro h;by_cases h2:x.1.step.t.k=2
     . exact h2
     exfalso;unfold St.name at h;rw[zM1 h2] at h;exact St.fail_er _ (by decide) h
    have hfd:=zjU;go_wp2_with (first|(go_at_call 226;refine HOp.o.mono ?_;rintro e w' ⟨rfl,rfl⟩)|(go_at_call 186;refine (zb9 S pb x.1 _ HB2.o.ok (zMO (by decide) (Nat.le_of_eq Hk5.symm)) (HL2.o.alloc _)).mono ?_;rintro e w3 ⟨rfl,HL3,HF3⟩;rw[Hst.o] at HL3;simp only[Tk.cval]));obtain⟨ns,na,hnv,HNk⟩:=zjf x.1.step;have HN:=za (zaZ S pb x.1.step w3 HB3.o HL3);rw[hnv] at HN;go_wp2_with (go_at_call 151;refine HN.o.mono ?_;rintro e w4 ⟨rfl,HL4,HF4⟩);go_roundg g;case measure=>omega
    have hF34:Fr (·=pb) wr w4:=(((Fr.refl _ wr).alloc _).trans HF3).trans HF4;refine⟨(x.1.step.name.put ⟨x.1.t.s,x.1.t.a,x.1.step.t.a,[x.2],x.1.step.t.s,0⟩),some (xD (w4.heap.size+1) 0),rfl,HFn,hrem'.out,hput,((HL4.alloc _).alloc _).put _,?_,(((HF2.o.trans hF34).alloc _).alloc _)⟩;intro he';obtain⟨r1,r2⟩:=HNk (HEn.o he');have hz4:=hF34.size;refine TR.one (y:=x.2) (b:=w4.heap.size+1) (g:=w4.heap.size) (u:=.pointer a) (by omega) (by omega) ?_ ((Below.heap_alloc _ _ _ (by simp)).trans (zc w4 _)) rfl ?_
    . show _=some (Obj.cells #[xI (zag x.1.t.s.toList 0:Nat),xI x.1.t.a,.string x.1.step.t.s,xI x.1.step.t.a,xI (zbF x.1.t.s.toList 0:Nat),xS w4.heap.size 1 1] 226 (0,0));rw[Hkk,zbK,<- r1,<- r2];have:=zc (w4.alloc (.cells #[.pointer a] 182)) (.cells #[xI kk,xI x.1.t.a,.string ns,xI na,xI 0,xS w4.heap.size 1 1] 226);simpa using this
    show TR _ w.heap.size x.1.step.name.L x.2 (.pointer a);rw[HLs.o];exact (HT2.o He).fr ((hF34.alloc _).alloc _) (λk h1 _ h2=>by omega)
theorem zqJ:(⟨#[116,104,101,110]⟩:Xb).toList=[116,104,101,110]:=by decide +kernel
theorem zq2:(⟨#[101,108,115,101]⟩:Xb).toList=[101,108,115,101]:=by decide +kernel
theorem Fwd.er0 {p:Nat}{a b:St}(h:Fwd p a b)(hb:b.er=0):a.er=0:=by
 by_cases ha:a.er=0
 . exact ha
 exact absurd hb (h.er ha)
theorem zjN {d:Nat}{rx:Fn}(hX:zX d 190 rx)(gX:zv d rx)(S:Xs)(pb:Nat)(st:St)(p:Nat)(w:Xw)(bp be eb:Nat)(v0 v1 v2 v3 v4 v5:Xv)(s1 s2 s3:St×Nat)(h1:rx st=s1)(h2:rx (s1.1.must 5 [116,104,101,110])=s2)(h3:rx (s2.1.must 5 [101,108,115,101])=s3)
 (hI:Inv p st) (ho:18<=st.op+d) (hR:PL S w pb st) (Hbp:Box w bp 172 (xP pb)) (Hbe:Box w be 182 (xP eb)) (Heb:w.heap[eb]?=some (.cells #[v0,v1,v2,v3,v4,v5] 226 (0,0))) (n0:¬bp=pb) (n1:¬be=pb) (n3:pb<eb) :
 xK 248 #[xP bp,xP be] w λe w'=>e=.returned (.tuple #[])/\∃a1 a2 a3 g,PL S w' pb s3.1/\Hid (s3.1.er=0->TR w' w.heap.size s3.1.L s1.2 (.pointer a1)/\TR w' w.heap.size s3.1.L s2.2 (.pointer a2)/\TR w' w.heap.size s3.1.L s3.2 (.pointer a3)) /\
  w'.heap[eb]?=some (.cells #[v0,v1,v2,v3,v4,xS g 3 3] 226 (0,0))/\w'.heap[g]?=some (.cells #[.pointer a1,.pointer a2,.pointer a3] 182 (0,0))/\w.heap.size<=g/\Fr (λk=>k=pb∨k=eb) w w':=by
 have n2:¬eb=pb:=by omega
 have g1:=gX st p hI ho;have H1:=za (hX S pb st p w hI ho hR);have g1i:Inv p s1.1:=by rw[<- h1];exact g1.inv
 have g1o:s1.1.op=st.op:=by rw[<- h1];exact g1.op
 rw[h1] at H1;have m1:=Fwd.must g1i 5 [116,104,101,110];have o1:18<=(s1.1.must 5 [116,104,101,110]).op+d:=by rw[St.must_op,g1o];exact ho
 have g2:=gX _ p m1.inv o1;have H2:=za (λw1 h=>hX S pb _ p w1 m1.inv o1 h);have g2i:Inv p s2.1:=by rw[<- h2];exact g2.inv
 have g2o:s2.1.op=st.op:=by rw[<- h2,g2.op,St.must_op,g1o]
 rw[h2] at H2;have m2:=Fwd.must g2i 5 [101,108,115,101];have o2:18<=(s2.1.must 5 [101,108,115,101]).op+d:=by rw[St.must_op,g2o];exact ho
 have g3:=gX _ p m2.inv o2;have H3:=za (λw1 h=>hX S pb _ p w1 m2.inv o2 h);rw[h3] at H3;have f2:Fwd p (s1.1.must 5 [116,104,101,110]) s2.1:=by rw[<- h2];exact g2.fwd
 have f3:Fwd p (s2.1.must 5 [101,108,115,101]) s3.1:=by rw[<- h3];exact g3.fwd
 obtain⟨E2,HE2⟩:=f2.L;obtain⟨E3,HE3⟩:=f3.L;rw[St.must_L] at HE2 HE3;have HR32:=za (λh:s3.1.er=0=>m2.er0 (f3.er0 h));have HR21:=za (λh:s2.1.er=0=>m1.er0 (f2.er0 h));have HB1:=za g1i.toBad;have HB2:=za g2i.toBad;obtain⟨c0,cf,cz⟩:=zu Hbp;obtain⟨e0,ef,ez⟩:=zu Hbe;have hzb:=ze Heb;have hlt:=hR.lt;go_enter func248,ntmps248;go_wp2_with fail;refine H1.o.mono ?_;rintro e w1 ⟨a1,rfl,HL1,hT1,HF1⟩;have hz1:=HF1.size;obtain⟨d0,df,dz⟩:=zu (Hbp.fr HF1 n0);have HX1:=za (zP S pb s1.1 _ _ zqJ w1 HB1.o HL1);rw[ze6 HL1.tx (by decide)] at HX1;go_wp2_with (go_at_call 150;refine HX1.o.mono ?_;rintro e w2 ⟨rfl,HL2,HF2⟩;obtain⟨i0,if',iz⟩:=zu ((Hbp.fr HF1 n0).fr HF2 n0);have hz2:=HF2.size);refine (H2.o w2 HL2).mono ?_;rintro e w3 ⟨a3,rfl,HL3,hT3,HF3⟩;have hz3:=HF3.size;have F13:=za ((HF1.trans HF2).trans HF3);obtain⟨j0,jf,jz⟩:=zu (Hbp.fr F13.o n0);have HX2:=za (zP S pb s2.1 _ _ zq2 w3 HB2.o HL3);rw[ze6 HL3.tx (by decide)] at HX2;go_wp2_with (go_at_call 150;refine HX2.o.mono ?_;rintro e w4 ⟨rfl,HL4,HF4⟩;have hz4:=HF4.size;have F14:=za (F13.o.trans HF4);obtain⟨k0,kf,kz⟩:=zu (Hbp.fr F14.o n0);obtain⟨l0,lf,lz⟩:=zu (Hbe.fr F14.o n1);have Heb4:=za ((F14.o.block eb hzb n2).trans Heb));go_region_with (go_at_call 190;refine (H3.o _ HL4.drew).mono ?_;rintro e w5 ⟨a5,rfl,HL5,hT5,hF5'⟩;have HF5:Fr (·=pb) w4 w5:=hF5'.undrew;have hz5:=HF5.size;have F15:=za (F14.o.trans HF5);have Heb5:=(HF5.block eb (ze Heb4.o) n2).trans Heb4.o;obtain⟨d0,d1,d2,d3,d4,d5,df,dz⟩:=zt Heb5;obtain⟨f0,ff,fz⟩:=zu (Hbe.fr F15.o n1))
 all_goals go_wp2_with fail
 all_goals go_end0
 all_goals
  have hk5:(w5.setCell (xD eb 5) (xS w5.heap.size 3 3)).heap.size=w5.heap.size:=by simp[World.setCell]
  refine⟨rfl,a1,a3,a5,w5.heap.size,?_,?_,?_,?_,by omega,?_⟩
  . exact (HL5.setOther n3 _ _).alloc _
  . intro he3;have t5:=hT5.out he3;have t3:=hT3.out (HR32.o he3);have t1:=hT1.out (HR21.o (HR32.o he3));have F35:Fr (·=pb) w3 w5:=HF4.trans HF5;have F15':Fr (·=pb) w1 w5:=(HF2.trans HF3).trans F35;have Fend:Fr (·=eb) w5 ((w5.setCell (xD eb 5) (xS w5.heap.size 3 3)).alloc (.cells #[.pointer a1,.pointer a3,.pointer a5] 182)):=((Fr.refl _ w5).set1 _ _).alloc _;refine⟨?_,?_,?_⟩
    . rw[HE3,HE2];exact (((t1.fr F15' (λk h1 _ h2=>by omega)).fr Fend (λk h1 _ h2=>by omega)).more E2).more E3
    . rw[HE3];exact (((t3.down (by omega:w.heap.size<=w2.heap.size)).fr F35 (λk h1 _ h2=>by omega)).fr Fend (λk h1 _ h2=>by omega)).more E3
    exact (t5.down (by show w.heap.size<=w4.heap.size;omega)).fr Fend (λk h1 _ h2=>by omega)
  . exact (Below.heap_alloc _ _ _ (by rw[hk5];exact dz)).trans (zh _ _ _ _ Heb5)
  . have:=zc (w5.setCell (xD eb 5) (xS w5.heap.size 3 3)) (.cells #[.pointer a1,.pointer a3,.pointer a5] 182);rw[hk5] at this;exact this
  exact (F15.o.with2 eb _ _).alloc _
theorem zkR:zH 248:=λ_ _=>by kernel_rfl
theorem kIf:zag sIf.toList 0=5:=by decide +kernel
structure zlO (w w0:Xw) (pb:Nat) (k a:Nat):Prop where
 bp:Box w0 w.heap.size 172 (xP pb)
 eb:xH w0 (w.heap.size+1) #[xI k,xI a,.string ⟨#[]⟩,xI 0,xI 0,.slice none 0 0] 226
 be:Box w0 (w.heap.size+1+1) 182 (xP (w.heap.size+1))
 fr:Fr (·=pb) w w0
 size:w0.heap.size=w.heap.size+1+1+1
theorem zoW (w:Xw)(pb k a:Nat):zlO w (((w.alloc (.cells #[xP pb] 172)).alloc (.cells #[xI k,xI a,.string ⟨#[]⟩,xI 0,xI 0,.slice none 0 0] 226)).alloc (.cells #[xP (w.heap.size+1)] 182)) pb k a:=by
 refine⟨?_,?_,?_,(((Fr.refl _ w).alloc _).alloc _).alloc _,by simp⟩
 . exact (Below.heap_alloc _ _ _ (by simp;omega)).trans ((Below.heap_alloc _ _ _ (by simp)).trans (zc w _))
 . refine (Below.heap_alloc _ _ _ (by simp)).trans ?_;have:=zc (w.alloc (.cells #[xP pb] 172)) (.cells #[xI k,xI a,.string ⟨#[]⟩,xI 0,xI 0,.slice none 0 0] 226);simpa using this
 have:=zc ((w.alloc (.cells #[xP pb] 172)).alloc (.cells #[xI k,xI a,.string ⟨#[]⟩,xI 0,xI 0,.slice none 0 0] 226)) (.cells #[xP (w.heap.size+1)] 182);unfold Box;simpa using this
theorem zkZ {d:Nat}{rx:Fn}(hX:zX d 190 rx)(gX:zv d rx)(S:Xs)(pb:Nat)(st:St)(p:Nat)(w:Xw)(HI:Inv p st)(hk:2<=st.t.k)(ho:18<=st.op+(d+1))(HR:PL S w pb st) :
 xK 245 #[xP pb] w (zaW S pb w.heap.size w (zdx rx st).1 (zdx rx st).2):=by
 have hlt:=HR.lt;have hmf:∀(fn:Go.Fn) (first cap:Xa) (w:Xw),(Instr.makeFunc fn first cap).run prog w=.ok (.func fn first cap) w:=λ_ _ _ _=>rfl;have he:=HI.toBad.er (by omega);have e1:=Fwd.enter HI he hk;have hoE:18<=st.enter.op+d:=by rw[St.enter_op];omega
 obtain⟨s1,h1⟩:∃s,rx st.enter=s:=⟨_,rfl⟩;obtain⟨s2,h2⟩:∃s,rx (s1.1.must 5 [116,104,101,110])=s:=⟨_,rfl⟩;obtain⟨s3,h3⟩:∃s,rx (s2.1.must 5 [101,108,115,101])=s:=⟨_,rfl⟩;have hM:zdx rx st=s3.1.leave.put ⟨sIf,st.t.a,0,[s1.2,s2.2,s3.2],sE,0⟩:=by unfold zdx;simp only[h1,h2,h3]
 rw[hM];have g1:=gX st.enter (p+1) e1.inv hoE;have g1i:Inv (p+1) s1.1:=by rw[<- h1];exact g1.inv
 have g1o:s1.1.op=st.op+1:=by rw[<- h1,g1.op,St.enter_op]
 have m1:=Fwd.must g1i 5 [116,104,101,110];have g2:=gX _ (p+1) m1.inv (by rw[St.must_op,g1o];omega);have g2i:Inv (p+1) s2.1:=by rw[<- h2];exact g2.inv
 have g2o:s2.1.op=st.op+1:=by rw[<- h2,g2.op,St.must_op,g1o]
 have m2:=Fwd.must g2i 5 [101,108,115,101];have g3:=gX _ (p+1) m2.inv (by rw[St.must_op,g2o];omega);have HgO:s3.1.op=st.op+1:=by rw[<- h3,g3.op,St.must_op,g2o]
 have HD:Hid (st.op=16->s3.1.leave=st.fail 3 st.t.a):=by
  intro h16;have hE:=St.enter_deep h16;have he3:st.enter.er≠0:=by rw[hE];exact St.fail_er _ (by decide)
  have q1:s1.1=st.enter:=by rw[<- h1,g1.er he3]
  have q2:s1.1.must 5 [116,104,101,110]=st.enter:=by rw[q1,hE];exact St.fail_must _ (by decide) (by decide)
  have q3:s2.1=st.enter:=by rw[<- h2,g2.er (by rw[q2];exact he3),q2]
  have q4:s2.1.must 5 [101,108,115,101]=st.enter:=by rw[q3,hE];exact St.fail_must _ (by decide) (by decide)
  have q5:s3.1=st.enter:=by rw[<- h3,g3.er (by rw[q4];exact he3),q4]
  rw[q5,zd0 h16]
 have HC:=za (λw1 b0 b1 b2 hR1=>zjN hX gX S pb st.enter (p+1) w1 w.heap.size (w.heap.size+1+1) (w.heap.size+1) (xI 5) (xI st.t.a) (.string ⟨#[]⟩) (xI 0) (xI 0) (.slice none 0 0) s1 s2 s3 h1 h2 h3 e1.inv hoE hR1 b0 b1 b2 (by omega) (by omega) (by omega));go_enter func245,ntmps245;go_wp2_with (go_at_call 208;refine (zb8 S pb st 5 _ (HR.alloc _)).mono ?_;rintro e w' ⟨rfl,rfl⟩);have T0:=zoW w pb 5 st.t.a;have hL0:=((HR.alloc (.cells #[xP pb] 172)).alloc (.cells #[xI 5,xI st.t.a,.string ⟨#[]⟩,xI 0,xI 0,.slice none 0 0] 226)).alloc (.cells #[xP (w.heap.size+1)] 182);obtain⟨w0,hw0⟩:∃w0,(((w.alloc (.cells #[xP pb] 172)).alloc (.cells #[xI 5,xI st.t.a,.string ⟨#[]⟩,xI 0,xI 0,.slice none 0 0] 226)).alloc (.cells #[xP (w.heap.size+1)] 182))=w0:=⟨_,rfl⟩;have T1:zlO w w0 pb 5 st.t.a:=hw0▸T0;have hL1:PL S w0 pb st:=hw0▸hL0;refine Eq.mpr (congrArg (λz=>xK 205 _ z _) hw0) ?_;refine (zdz _ _ zkR S pb st p w0 HI hk hL1 (λe w'=>e=.returned (.tuple #[])/\Box w' (w.heap.size+1+1) 182 (xP (w.heap.size+1))/\zaW S pb w.heap.size w (s3.1.leave.put ⟨sIf,st.t.a,0,[s1.2,s2.2,s3.2],sE,0⟩).1 (s3.1.leave.put ⟨sIf,st.t.a,0,[s1.2,s2.2,s3.2],sE,0⟩).2 (.returned (xP (w.heap.size+1))) w') ?_ ?_).mono ?_
 . intro hlt16 w2 hL2 hF2;refine (HC.o w2 (T1.bp.fr hF2 (by omega)) (T1.be.fr hF2 (by omega)) ((hF2.block _ (ze T1.eb) (by omega)).trans T1.eb) hL2).mono ?_;rintro e w3 ⟨rfl,a1,a2,a3,g,hL3,hT3,hb3,hg3,hzg,hF3⟩;refine⟨rfl,s3.1,hL3,by rw[HgO];omega,by rw[HgO];omega,?_⟩;intro w4 hL4 hF4;have hFw:Fr (·=pb) w w4:=(Fr.drop2 (T1.fr.trans hF2) hF3 (by omega)).trans hF4;have hz02:w0.heap.size<=w2.heap.size:=hF2.size;have hz0:=T1.size;refine⟨rfl,Box.fr (Fr.keep2 hF3 (T1.be.fr hF2 (by omega)) (by omega) (by omega)) hF4 (by omega),_,rfl,hL4.put _,?_,hFw⟩;intro he';obtain⟨t1,t2,t3⟩:=hT3.out he';refine TR.three (x:=s1.2) (y:=s2.2) (z:=s3.2) (g:=g) (t:=.pointer a1) (u:=.pointer a2) (v:=.pointer a3) (by omega) (by omega) ?_ ((hF4.block g (ze hg3) (by omega)).trans hg3) rfl ?_ ?_ ?_
   . show _=some (Obj.cells #[xI (zag sIf.toList 0:Nat),xI st.t.a,.string ⟨#[]⟩,xI (0:Nat),xI (zbF sIf.toList 0:Nat),xS g 3 3] 226 (0,0));rw[kIf,zbK];exact (hF4.block _ (ze hb3) (by omega)).trans hb3
   . exact (t1.fr hF4 (λk h1 _ h2=>by omega)).down (by omega)
   . exact (t2.fr hF4 (λk h1 _ h2=>by omega)).down (by omega)
   exact (t3.fr hF4 (λk h1 _ h2=>by omega)).down (by omega)
 . intro h16 w3 hL3 hF3;rw[HD.o h16];exact⟨rfl,T1.be.fr hF3 (by omega),_,rfl,hL3.put _,λhe'=>absurd he' (St.fail_er st (by decide)),T1.fr.trans hF3⟩
 rintro e w4 ⟨rfl,hb4,HQ⟩;obtain⟨f0,ff,fz⟩:=zu hb4;go_wp2_with fail;go_ret;exact HQ
theorem zli {d:Nat}{sd:Fn}(hS:zX d 250 sd)(gS:zv d sd)(S:Xs)(pb:Nat)(st:St)(p:Nat)(w:Xw)(bp be eb:Nat)(v0 v1 v2 v3 v4 v5:Xv)(ns:Xb)(na:Nat)(hnv:zcc st=.agg #[.string ns,xI na])(s1 s2:St×Nat)(h1:sd st.name=s1)(h2:sd s1.1=s2)
 (hI:Inv p st) (ho:18<=st.op+d) (hR:PL S w pb st) (hbp:Box w bp 172 (xP pb)) (hbe:Box w be 182 (xP eb)) (heb:w.heap[eb]?=some (.cells #[v0,v1,v2,v3,v4,v5] 226 (0,0))) (n0:¬bp=pb) (n1:¬be=pb) (n3:pb<eb) (n4:¬bp=eb) (n5:¬be=eb) :
 xK 249 #[xP bp,xP be] w λe w'=>e=.returned (.tuple #[])/\∃a1 a2 g,PL S w' pb s2.1/\Hid (s2.1.er=0->TR w' w.heap.size s2.1.L s1.2 (.pointer a1)/\TR w' w.heap.size s2.1.L s2.2 (.pointer a2)) /\
  w'.heap[eb]?=some (.cells #[v0,v1,.string ns,xI na,v4,xS g 2 2] 226 (0,0))/\w'.heap[g]?=some (.cells #[.pointer a1,.pointer a2] 182 (0,0))/\w.heap.size<=g/\Fr (λk=>k=pb∨k=eb) w w':=by
 have n2:¬eb=pb:=by omega
 have f0:=Fwd.name hI;have HN:=za (λw1 h=>zaZ S pb st w1 hI.toBad h);rw[hnv] at HN;have o0:18<=st.name.op+d:=by rw[St.name_op];exact ho
 have g1:=gS st.name p f0.inv o0;have H1:=za (λw1 h=>hS S pb st.name p w1 f0.inv o0 h);have g1i:Inv p s1.1:=by rw[<- h1];exact g1.inv
 have g1o:s1.1.op=st.op:=by rw[<- h1,g1.op,St.name_op]
 rw[h1] at H1;have o1:18<=s1.1.op+d:=by rw[g1o];exact ho
 have g2:=gS _ p g1i o1;have H2:=za (λw1 h=>hS S pb s1.1 p w1 g1i o1 h);rw[h2] at H2;have f2:Fwd p s1.1 s2.1:=by rw[<- h2];exact g2.fwd
 obtain⟨E2,HE2⟩:=f2.L;have HR21:=za (λh:s2.1.er=0=>f2.er0 h);obtain⟨c0,cf,cz⟩:=zu hbp;obtain⟨e0,ef,ez⟩:=zu hbe;have HR:=za hR;have Hbp:=za hbp;have Hbe:=za hbe;have Heb:=za heb;have hzb:=ze heb;have hlt:=hR.lt;go_enter func249,ntmps249;go_wp2_with fail;go_region_with (go_at_call 151;refine (HN.o _ HR.o.drew).mono ?_;rintro e w1 ⟨rfl,hL1,hF1'⟩;have hF1:Fr (·=pb) w w1:=hF1'.undrew;have hz1:=hF1.size;have heb1:=(hF1.block eb hzb n2).trans Heb.o;obtain⟨d0,d1,d2,d3,d4,d5,df,dz⟩:=zt heb1;obtain⟨f0,ff,fz⟩:=zu (Hbe.o.fr hF1 n1);have HL1:=za hL1;have HF1:=za hF1;have Heb1:=za heb1)
 all_goals
  have HF2:Fr (λk=>k=pb∨k=eb) w ((w1.setCell (xD eb 2) (.string ns)).setCell (xD eb 3) (xI na)):=(HF1.o.with2 eb _ _).setCell (zM3 (zM4 rfl)) _;have Heb2:((w1.setCell (xD eb 2) (.string ns)).setCell (xD eb 3) (xI na)).heap[eb]?=some (.cells #[v0,v1,.string ns,xI na,v4,v5] 226 (0,0)):=zh _ _ _ _ (zh _ _ _ _ Heb1.o);have HL2:PL S ((w1.setCell (xD eb 2) (.string ns)).setCell (xD eb 3) (xI na)) pb st.name:=(HL1.o.setOther n3 _ _).setOther n3 _ _;have Hbe2:=HF2.keep2 Hbe.o n1 n5;have Hbp2:=HF2.keep2 Hbp.o n0 n4;generalize ((w1.setCell (xD eb 2) (.string ns)).setCell (xD eb 3) (xI na))=w2 at *;obtain⟨p0,pf,pz⟩:=zu Hbp2;have hz2:=HF2.size;go_wp2_with fail;refine (H1.o w2 HL2).mono ?_;rintro e w3 ⟨a3,rfl,HL3,hT3,HF3⟩;have hz3:=HF3.size;have Heb3:=za ((HF3.block eb (ze Heb2) n2).trans Heb2);obtain⟨k0,kf,kz⟩:=zu (Hbp2.fr HF3 n0);obtain⟨l0,lf,lz⟩:=zu (Hbe2.fr HF3 n1);go_wp2_with fail;go_region_with (go_at_call 250;refine (H2.o _ HL3.drew).mono ?_;rintro e w5 ⟨a5,rfl,HL5,hT5,hF5'⟩;have HF5:Fr (·=pb) w3 w5:=hF5'.undrew;have hz5:=HF5.size;have Heb5:=(HF5.block eb (ze Heb3.o) n2).trans Heb3.o;obtain⟨d0,d1,d2,d3,d4,d5,df,dz⟩:=zt Heb5;obtain⟨f0,ff,fz⟩:=zu ((Hbe2.fr HF3 n1).fr HF5 n1))
  all_goals go_wp2_with fail
  all_goals go_end0
  all_goals
   have hk5:(w5.setCell (xD eb 5) (xS w5.heap.size 2 2)).heap.size=w5.heap.size:=(by simp[World.setCell]);refine⟨rfl,a3,a5,w5.heap.size,?_,?_,?_,?_,by omega,?_⟩
   . exact (HL5.setOther n3 _ _).alloc _
   . intro he2;have t5:=hT5.out he2;have t3:=hT3.out (HR21.o he2);have Fend:Fr (·=eb) w5 ((w5.setCell (xD eb 5) (xS w5.heap.size 2 2)).alloc (.cells #[.pointer a3,.pointer a5] 182)):=((Fr.refl _ w5).set1 _ _).alloc _;refine⟨?_,?_⟩
     . rw[HE2];exact (((t3.down hz2).fr HF5 (λk h1 _ h2=>by omega)).fr Fend (λk h1 _ h2=>by omega)).more E2
     exact (t5.down (by show w.heap.size<=w3.heap.size;omega)).fr Fend (λk h1 _ h2=>by omega)
   . exact (Below.heap_alloc _ _ _ (by rw[hk5];exact dz)).trans (zh _ _ _ _ Heb5)
   . have:=zc (w5.setCell (xD eb 5) (xS w5.heap.size 2 2)) (.cells #[.pointer a3,.pointer a5] 182);rw[hk5] at this;exact this
   exact ((((HF2.trans' HF3 (λ_ _ h=>zM3 h)).trans' HF5 (λ_ _ h=>zM3 h)).setCell (zM3 (zM4 rfl)) _).alloc _)
theorem zmY:zH 249:=λ_ _=>by kernel_rfl
theorem zqI:zag zep.toList 0=6:=by decide +kernel
theorem St.fail_name (s:St){e a:Nat}(he:e≠0):(s.fail e a).name=s.fail e a:=by
 unfold St.name;have:(s.fail e a).t.k=1:=by unfold St.fail;split <;> rfl
 rw[zM1 (by omega)];exact St.fail_fail s he
theorem zmk {d:Nat}{ra:Fn}(hS:zX d 250 (zch ra))(gA:zv d ra)(S:Xs)(pb:Nat)(st:St)(p:Nat)(w:Xw)(HI:Inv p st)(hk:2<=st.t.k)(ho:18<=st.op+(d+1))(HR:PL S w pb st) :
 xK 246 #[xP pb] w (zaW S pb w.heap.size w (zeE ra st).1 (zeE ra st).2):=by
 have gS:zv d (zch ra):=zf0 gA;have hlt:=HR.lt;have hmf:∀(fn:Go.Fn) (first cap:Xa) (w:Xw),(Instr.makeFunc fn first cap).run prog w=.ok (.func fn first cap) w:=λ_ _ _ _=>rfl;have he:=HI.toBad.er (by omega);have e1:=Fwd.enter HI he hk;have hoE:18<=st.enter.op+d:=by rw[St.enter_op];omega
 obtain⟨s1,h1⟩:∃s,zch ra st.enter.name=s:=⟨_,rfl⟩;obtain⟨s2,h2⟩:∃s,zch ra s1.1=s:=⟨_,rfl⟩;obtain⟨ns,na,hnv,hnk⟩:=zjf st.enter;have hM:zeE ra st=s2.1.leave.put ⟨zep,st.t.a,st.enter.t.a,[s1.2,s2.2],st.enter.t.s,0⟩:=by unfold zeE;simp only[h1,h2]
 rw[hM];have f0:=Fwd.name e1.inv;have g1:=gS st.enter.name (p+1) f0.inv (by rw[St.name_op];exact hoE);have g1i:Inv (p+1) s1.1:=by rw[<- h1];exact g1.inv
 have g1o:s1.1.op=st.op+1:=by rw[<- h1,g1.op,St.name_op,St.enter_op]
 have g2:=gS _ (p+1) g1i (by rw[g1o];omega);have HgO:s2.1.op=st.op+1:=by rw[<- h2,g2.op,g1o]
 have f1:Fwd (p+1) st.enter.name s1.1:=by rw[<- h1];exact g1.fwd
 have f2:Fwd (p+1) s1.1 s2.1:=by rw[<- h2];exact g2.fwd
 have HNk:Hid (s2.1.er=0->ns=st.enter.t.s/\na=st.enter.t.a):=by
  intro h;apply hnk;have h3:=f1.er0 (f2.er0 h);by_cases h4:st.enter.t.k=2
  . exact h4
  exfalso;unfold St.name at h3;rw[zM1 h4] at h3;exact St.fail_er _ (by decide) h3
 have HD:Hid (st.op=16->s2.1.leave=st.fail 3 st.t.a):=by
  intro h16;have hE:=St.enter_deep h16;have he3:st.enter.er≠0:=by rw[hE];exact St.fail_er _ (by decide)
  have q0:st.enter.name=st.enter:=by rw[hE];exact St.fail_name _ (by decide)
  have q1:s1.1=st.enter:=by rw[<- h1,g1.er (by rw[q0];exact he3),q0]
  have q3:s2.1=st.enter:=by rw[<- h2,g2.er (by rw[q1];exact he3),q1]
  rw[q3,zd0 h16]
 have HC:=za (λw1 b0 b1 b2 hR1=>zli hS gS S pb st.enter (p+1) w1 w.heap.size (w.heap.size+1+1) (w.heap.size+1) (xI 6) (xI st.t.a) (.string ⟨#[]⟩) (xI 0) (xI 0) (.slice none 0 0) ns na hnv s1 s2 h1 h2 e1.inv hoE hR1 b0 b1 b2 (by omega) (by omega) (by omega) (by omega) (by omega));go_enter func246,ntmps246;go_wp2_with (go_at_call 208;refine (zb8 S pb st 6 _ (HR.alloc _)).mono ?_;rintro e w' ⟨rfl,rfl⟩);have T0:=zoW w pb 6 st.t.a;have hL0:=((HR.alloc (.cells #[xP pb] 172)).alloc (.cells #[xI 6,xI st.t.a,.string ⟨#[]⟩,xI 0,xI 0,.slice none 0 0] 226)).alloc (.cells #[xP (w.heap.size+1)] 182);obtain⟨w0,hw0⟩:∃w0,(((w.alloc (.cells #[xP pb] 172)).alloc (.cells #[xI 6,xI st.t.a,.string ⟨#[]⟩,xI 0,xI 0,.slice none 0 0] 226)).alloc (.cells #[xP (w.heap.size+1)] 182))=w0:=⟨_,rfl⟩;have T1:zlO w w0 pb 6 st.t.a:=hw0▸T0;have hL1:PL S w0 pb st:=hw0▸hL0;refine Eq.mpr (congrArg (λz=>xK 205 _ z _) hw0) ?_;refine (zdz _ _ zmY S pb st p w0 HI hk hL1 (λe w'=>e=.returned (.tuple #[])/\Box w' (w.heap.size+1+1) 182 (xP (w.heap.size+1))/\zaW S pb w.heap.size w (s2.1.leave.put ⟨zep,st.t.a,st.enter.t.a,[s1.2,s2.2],st.enter.t.s,0⟩).1 (s2.1.leave.put ⟨zep,st.t.a,st.enter.t.a,[s1.2,s2.2],st.enter.t.s,0⟩).2 (.returned (xP (w.heap.size+1))) w') ?_ ?_).mono ?_
 . intro hlt16 w2 hL2 hF2;refine (HC.o w2 (T1.bp.fr hF2 (by omega)) (T1.be.fr hF2 (by omega)) ((hF2.block _ (ze T1.eb) (by omega)).trans T1.eb) hL2).mono ?_;rintro e w3 ⟨rfl,a1,a2,g,hL3,hT3,hb3,hg3,hzg,hF3⟩;refine⟨rfl,s2.1,hL3,by rw[HgO];omega,by rw[HgO];omega,?_⟩;intro w4 hL4 hF4;have hFw:Fr (·=pb) w w4:=(Fr.drop2 (T1.fr.trans hF2) hF3 (by omega)).trans hF4;have hz02:w0.heap.size<=w2.heap.size:=hF2.size;have hz0:=T1.size;refine⟨rfl,Box.fr (Fr.keep2 hF3 (T1.be.fr hF2 (by omega)) (by omega) (by omega)) hF4 (by omega),_,rfl,hL4.put _,?_,hFw⟩;intro he';obtain⟨t1,t2⟩:=hT3.out he';obtain⟨r1,r2⟩:=HNk.o he';refine TR.two (y:=s1.2) (z:=s2.2) (g:=g) (u:=.pointer a1) (v:=.pointer a2) (by omega) (by omega) ?_ ((hF4.block g (ze hg3) (by omega)).trans hg3) rfl ?_ ?_
   . show _=some (Obj.cells #[xI (zag zep.toList 0:Nat),xI st.t.a,.string st.enter.t.s,xI st.enter.t.a,xI (zbF zep.toList 0:Nat),xS g 2 2] 226 (0,0));rw[zqI,zbK,<- r1,<- r2];exact (hF4.block _ (ze hb3) (by omega)).trans hb3
   . exact (t1.fr hF4 (λk h1 _ h2=>by omega)).down (by omega)
   exact (t2.fr hF4 (λk h1 _ h2=>by omega)).down (by omega)
 . intro h16 w3 hL3 hF3;rw[HD.o h16];exact⟨rfl,T1.be.fr hF3 (by omega),_,rfl,hL3.put _,λhe'=>absurd he' (St.fail_er st (by decide)),T1.fr.trans hF3⟩
 rintro e w4 ⟨rfl,hb4,HQ⟩;obtain⟨f0,ff,fz⟩:=zu hb4;go_wp2_with fail;go_ret;exact HQ
end
end Go.Proofs.YtbicmofihhjgbaaGreatDoor
