/- Part 6 of the proof: CoeC CoeD CoeE1 CoeE CoeF CoeG CoeH. -/
import Derived.Test.YtbicmofihhjgbaaGreatDoorK04
set_option maxRecDepth 100000
set_option maxHeartbeats 8000000
namespace Go.Proofs.YtbicmofihhjgbaaGreatDoor
open Go.Proofs.Tryz
open Go.RowKit
section
variable {d:Nat}
theorem zl9:zH 240:=λ_ _=>by kernel_rfl
theorem zjz {M:Fn}(gM:zv d M){st:St}{p:Nat}(hI:Inv p st)(he:st.er=0)(hk:2<=st.t.k)(ho:18<=st.op+(d+1))(h16:st.op=16):(M st.enter).1.leave=st.fail 3 st.t.a:=by
 have h1:=Fwd.enter hI he hk;have h2:=gM st.enter (p+1) h1.inv (by rw[St.enter_op];omega);have h3:st.enter.er≠0:=by unfold St.enter;rw[if_pos (by omega)];exact St.fail_er _ (by decide)
 rw[h2.er h3,zd0 h16]
theorem zm9 {ru smp:Fn}(HU:zX d 238 ru)(gU:zv d ru)(hS:zX (d+1) 239 smp):zX (d+1) 238 (zdn ru smp):=by
 intro S pb st p w HI ho HR;have hlt:=HR.lt;have HOp:=za (zbd S pb st _ 2 [10,11] rfl (by decide) ((w.alloc (.cells #[xP pb] 172)).alloc (.cells #[xI 10,xI 11] 223)) (zcD _ _ _ _ rfl) (by decide) HI.ok.tk ((HR.alloc _).alloc _));rw[zrv st HR.tx,zsb] at HOp;have hmf:∀(fn:Go.Fn) (first cap:Array Value) (w:World),(Instr.makeFunc fn first cap).run prog w=.ok (.func fn first cap) w:=λ_ _ _ _=>rfl;by_cases hc:(st.is 4 [45]||st.is 5 [110,111,116])=true
 . obtain⟨kk,hkk,Hkl⟩:∃kk,(if st.is 4 [45]=true then some 10 else if st.is 5 [110,111,116]=true then some 11 else none)=some kk/\zag (if st.is 4 [45]=true then zlo else zk5).toList 0=kk:=by
    by_cases h1:st.is 4 [45]=true
    . exact⟨10,by rw[if_pos h1],by rw[if_pos h1];decide +kernel⟩
    . have h2:st.is 5 [110,111,116]=true:=(by simpa [h1] using hc);exact⟨11,by rw[if_neg h1,if_pos h2],by rw[if_neg h1];decide +kernel⟩
   have Hk4:4<=st.t.k:=by
    simp only[Bool.or_eq_true] at hc;rcases hc with h|h
    . rw[Inv.is_k h];omega
    . rw[Inv.is_k h];omega
   have he:=HI.toBad.er (by omega);have hM:zdn ru smp st=(ru st.enter).1.leave.put ⟨if st.is 4 [45]=true then zlo else zk5,st.t.a,0,[(ru st.enter).2],sE,0⟩:=(by unfold zdn;rw[if_pos ⟨he,hc⟩]);rw[hkk] at HOp;simp only[opV] at HOp;rw[hM];generalize (if st.is 4 [45]=true then zlo else zk5)=op at *;have e1:=Fwd.enter HI he (by omega:2<=st.t.k);have HoE:18<=st.enter.op+d:=(by rw[St.enter_op];omega);have HgE:=gU st.enter (p+1) e1.inv HoE;have HD:=za (λh16=>zjz gU HI he (by omega:2<=st.t.k) ho h16);have HE:=za e1.inv;have HB:=za HI.toBad;go_enter func238,ntmps238;go_wp2_with (first|(go_at_call 226;refine HOp.o.mono ?_;rintro e w' ⟨rfl,rfl⟩)|(go_at_call 208;refine (zb8 S pb st kk _ ((HR.alloc _).alloc _)).mono ?_;rintro e w' ⟨rfl,rfl⟩));obtain⟨w0,hw0⟩:∃w0,((((w.alloc (.cells #[xP pb] 172)).alloc (.cells #[xI 10,xI 11] 223)).alloc (.cells #[xI kk,xI st.t.a,.string ⟨#[]⟩,xI 0,xI 0,.slice none 0 0] 226)).alloc (.cells #[xP (w.heap.size+1+1)] 182))=w0:=⟨_,rfl⟩;have b0:Box w0 w.heap.size 172 (xP pb):=(by rw[<- hw0];exact (Below.heap_alloc _ _ _ (by simp;omega)).trans ((Below.heap_alloc _ _ _ (by simp;omega)).trans ((Below.heap_alloc _ _ _ (by simp)).trans (zc w _))));have b2:xH w0 (w.heap.size+1+1) #[xI kk,xI st.t.a,.string ⟨#[]⟩,xI 0,xI 0,.slice none 0 0] 226:=(by rw[<- hw0];refine (Below.heap_alloc _ _ _ (by simp)).trans ?_;have:=zc ((w.alloc (.cells #[xP pb] 172)).alloc (.cells #[xI 10,xI 11] 223)) (.cells #[xI kk,xI st.t.a,.string ⟨#[]⟩,xI 0,xI 0,.slice none 0 0] 226);simpa using this);have b3:Box w0 (w.heap.size+1+1+1) 182 (xP (w.heap.size+1+1)):=(by rw[<- hw0];have:=zc (((w.alloc (.cells #[xP pb] 172)).alloc (.cells #[xI 10,xI 11] 223)).alloc (.cells #[xI kk,xI st.t.a,.string ⟨#[]⟩,xI 0,xI 0,.slice none 0 0] 226)) (.cells #[xP (w.heap.size+1+1)] 182);unfold Box;simpa using this);have hF0:Fr (·=pb) w w0:=(by rw[<- hw0];exact ((((Fr.refl _ w).alloc _).alloc _).alloc _).alloc _);have hL0:PL S w0 pb st:=(by rw[<- hw0];exact (((HR.alloc _).alloc _).alloc _).alloc _);rw[hw0];refine (zdz _ _ zl9 S pb st p w0 HI (Nat.le_trans (by decide) Hk4) hL0 (λe w'=>e=.returned (.tuple #[])/\Box w' (w.heap.size+1+1+1) 182 (xP (w.heap.size+1+1))/\zaW S pb w.heap.size w ((ru st.enter).1.leave.put ⟨op,st.t.a,0,[(ru st.enter).2],sE,0⟩).1 ((ru st.enter).1.leave.put ⟨op,st.t.a,0,[(ru st.enter).2],sE,0⟩).2 (.returned (xP (w.heap.size+1+1))) w') ?_ ?_).mono ?_
   . intro hlt16 w1 hL1 hF1;refine (zlC HU S pb st.enter (p+1) w1 w.heap.size (w.heap.size+1+1+1) (w.heap.size+1+1) _ _ _ _ _ _ HE.o HoE hL1 (b0.fr hF1 (by omega)) (b3.fr hF1 (by omega)) ((hF1.block _ (ze b2) (by omega)).trans b2) (by omega) (by omega)).mono ?_;rintro e w2 ⟨rfl,a2,g,hL2,hT2,hb2,hg2,hzg,hF2⟩;refine⟨rfl,(ru st.enter).1,hL2,by rw[HgE.op,St.enter_op];omega,by rw[HgE.op,St.enter_op];omega,?_⟩;intro w3 hL3 hF3;have hFw:Fr (·=pb) w w3:=(Fr.drop2 (hF0.trans hF1) hF2 (by omega)).trans hF3;have hz1:w0.heap.size<=w1.heap.size:=hF1.size;have hz0:w.heap.size<=w0.heap.size:=hF0.size;refine⟨rfl,Box.fr (Fr.keep2 hF2 (b3.fr hF1 (by omega)) (by omega) (by omega)) hF3 (by omega),_,rfl,hL3.put _,?_,hFw⟩;intro he';have t2:=hT2.out he';refine TR.one (y:=(ru st.enter).2) (g:=g) (u:=.pointer a2) (by omega) (by omega) ?_ ((hF3.block g (ze hg2) (by omega)).trans hg2) rfl ?_
     . show _=some (Obj.cells #[xI (zag op.toList 0:Nat),xI st.t.a,.string ⟨#[]⟩,xI (0:Nat),xI (zbF op.toList 0:Nat),xS g 1 1] 226 (0,0));rw[Hkl,zbK];exact (hF3.block _ (ze hb2) (by omega)).trans hb2
     . exact (t2.fr hF3 (λk h1 _ h2=>by omega)).down (by omega)
   . intro h16 w3 hL3 hF3;rw[HD.o h16];exact⟨rfl,b3.fr hF3 (by omega),_,rfl,hL3.put _,λhe'=>absurd he' (St.fail_er st (by decide)),hF0.trans hF3⟩
   . rintro e w4 ⟨rfl,hb4,HQ⟩;obtain⟨f0,ff,fz⟩:=zu hb4;go_wp2_with fail;go_ret;exact HQ
 . have hM:zdn ru smp st=smp st:=by unfold zdn;rw[if_neg (λh=>hc h.2)]
   have hn:(if st.is 4 [45]=true then some 10 else if st.is 5 [110,111,116]=true then some 11 else none)=(none:Option Nat):=(by simp only[Bool.or_eq_true,not_or] at hc;rw[if_neg hc.1,if_neg hc.2]);rw[hn] at HOp;simp only[opV] at HOp;rw[hM];have H1:=za (hS S pb st p ((w.alloc (.cells #[xP pb] 172)).alloc (.cells #[xI 10,xI 11] 223)) HI ho ((HR.alloc _).alloc _));generalize smp st=R at *;go_enter func238,ntmps238;go_wp2_with (go_at_call 226;refine HOp.o.mono ?_;rintro e w' ⟨rfl,rfl⟩);refine H1.o.mono ?_;rintro e w1 h1;obtain⟨a,rfl,h2,h3,h4⟩:=(h1.alloc (zaF _ _)).alloc (zaF _ _);go_wp2_with fail;go_ret;exact⟨a,rfl,h2,h3,h4⟩
end
section
variable {rx:Fn} {a d e:Nat}
theorem St.fail_fail (s:St){e' a':Nat}(he:e≠0):(s.fail e a).fail e' a'=s.fail e a:=by unfold St.fail;by_cases h:s.er=0 <;> simp[h,he]
theorem St.fail_must (s:St){k:Nat}{l:List UInt8}(he:e≠0)(hk:k≠1):(s.fail e a).must k l=s.fail e a:=by
 unfold St.must;have:(s.fail e a).is k l=false:=by
  unfold St.is;have:(s.fail e a).t.k=1:=by unfold St.fail;split <;> rfl
  rw[this];have h1:((1:Nat)==k)=false:=by simp;omega
  rw[h1];rfl
 rw[this];exact St.fail_fail s he
theorem St.enter_deep {s:St}(h:s.op=16):s.enter=({ s with op:=s.op+1 }:St).fail 3 s.t.a:=by unfold St.enter;rw[if_pos (by omega)]
theorem zl4:zH 247:=λ_ _=>by kernel_rfl
theorem zlq:(⟨#[41]⟩:ByteArray).toList=[41]:=by decide +kernel
theorem zlw (hX:zX d 190 rx)(gX:zv d rx)(S:Nat->Addr)(pb:Nat)(st:St)(p:Nat)(w:World)(bp be:Nat)(v:Value)(hI:Inv p st)(ho:18<=st.op+d)(hR:PL S w pb st)(Hbp:Box w bp 172 (xP pb))(Hbe:Box w be 182 v)(n1:pb<be)(n2:¬bp=pb)(n3:¬bp=be) :
 xK 247 #[xP bp,xP be] w λe w'=>e=.returned (.tuple #[])/\∃a,Box w' be 182 (.pointer a)/\PL S w' pb ((rx st).1.must 4 [41])/\Hid (((rx st).1.must 4 [41]).er=0->TR w' w.heap.size (rx st).1.L (rx st).2 (.pointer a))/\Fr (λk=>k=pb∨k=be) w w':=by
 have H1:=za (hX S pb st p w hI ho hR);have g1:=gX st p hI ho;have HB1:=za g1.inv.toBad;obtain⟨c0,cf,cz⟩:=zu Hbp;have hze:=ze Hbe;have hlt:=hR.lt;generalize rx st=y at *;go_enter func247,ntmps247;go_wp2_with fail;refine H1.o.mono ?_;rintro e w1 ⟨a1,rfl,HL1,hT1,HF1⟩;have hz1:=HF1.size;have hbp1:=Hbp.fr HF1 n2;have Hbe1:=Hbe.fr HF1 (by omega);obtain⟨d0,df,dz⟩:=zu hbp1;obtain⟨f0,ff,fz⟩:=zu Hbe1;go_wp2_with (go_at_call 150;refine (zP S pb y.1 _ [41] zlq _ HB1.o (HL1.setOther n1 _ _)).mono ?_;rintro e w2 ⟨rfl,HL2,HF2⟩);go_end0;have hm:y.1.expM [41]=y.1.must 4 [41]:=zan HL1.tx (by decide);have hb2:Box (w1.setCell (xD be 0) (.pointer a1)) be 182 (.pointer a1):=zh _ _ _ _ Hbe1;refine⟨rfl,a1,hb2.fr HF2 (by omega),hm▸HL2,?_,?_⟩
 . intro he;have he1:y.1.er=0:=by
    by_cases h:y.1.er=0
    . exact h
    . exfalso;revert he;unfold St.must;split
      . rw[St.step_er];exact h
      . exact λhe=>St.fail_er _ (by decide) he
   exact ((hT1.out he1).fr ((Fr.refl (·=be) w1).set1 _ _) (λk h1 _ h2=>by omega)).fr HF2 (λk h1 _ h2=>by omega)
 . exact (HF1.with2 be _ _).trans (HF2.mono (λ_ _ h=>Or.inl h))
theorem zme (HX:zX d 190 rx)(GX:zv d rx)(S:Nat->Addr)(pb:Nat)(st:St)(p:Nat)(w:World)(HI:Inv p st)(hk:2<=st.t.k)(ho:18<=st.op+(d+1))(HR:PL S w pb st) :
 xK 244 #[xP pb] w (zaW S pb w.heap.size w (zfQ rx st).1 (zfQ rx st).2):=by
 have hlt:=HR.lt;have hmf:∀(fn:Go.Fn) (first cap:Array Value) (w:World),(Instr.makeFunc fn first cap).run prog w=.ok (.func fn first cap) w:=λ_ _ _ _=>rfl;have he:=HI.toBad.er (by omega);have e1:=Fwd.enter HI he hk;have HoE:18<=st.enter.op+d:=by rw[St.enter_op];omega
 have HgE:=GX st.enter (p+1) e1.inv HoE;have HD:Hid (st.op=16->((rx st.enter).1.must 4 [41]).leave=st.fail 3 st.t.a):=by
  intro h16;have h3:st.enter.er≠0:=by unfold St.enter;rw[if_pos (by omega)];exact St.fail_er _ (by decide)
  rw[HgE.er h3];have h4:st.enter.must 4 [41]=st.enter:=by rw[St.enter_deep h16];exact St.fail_must _ (by decide) (by decide)
  rw[h4,zd0 h16]
 show Calls _ _ _ _ (zaW S pb w.heap.size w ((rx st.enter).1.must 4 [41]).leave (rx st.enter).2);have HE:=za e1.inv;go_enter func244,ntmps244;go_wp2_with fail;obtain⟨w0,hw0⟩:∃w0,((w.alloc (.cells #[xP pb] 172)).alloc (.cells #[.pointer none] 182))=w0:=⟨_,rfl⟩;have b0:Box w0 w.heap.size 172 (xP pb):=by rw[<- hw0];exact (Below.heap_alloc _ _ _ (by simp)).trans (zc w _)
 have b1:Box w0 (w.heap.size+1) 182 (.pointer none):=by rw[<- hw0];have:=zc (w.alloc (.cells #[xP pb] 172)) (.cells #[.pointer none] 182);unfold Box;simpa using this
 have hF0:Fr (·=pb) w w0:=by rw[<- hw0];exact ((Fr.refl _ w).alloc _).alloc _
 have hL0:PL S w0 pb st:=by rw[<- hw0];exact (HR.alloc _).alloc _
 rw[hw0];refine (zdz _ _ zl4 S pb st p w0 HI hk hL0 (λe w'=>e=.returned (.tuple #[])/\∃a,Box w' (w.heap.size+1) 182 (.pointer a)/\zaW S pb w.heap.size w ((rx st.enter).1.must 4 [41]).leave (rx st.enter).2 (.returned (.pointer a)) w') ?_ ?_).mono ?_
 . intro hlt16 w1 hL1 hF1;refine (zlw HX GX S pb st.enter (p+1) w1 w.heap.size (w.heap.size+1) _ HE.o HoE hL1 (b0.fr hF1 (by omega)) (b1.fr hF1 (by omega)) (by omega) (by omega) (by omega)).mono ?_;rintro e w2 ⟨rfl,a2,hb2,hL2,hT2,hF2⟩;refine⟨rfl,(rx st.enter).1.must 4 [41],hL2,by rw[St.must_op,HgE.op,St.enter_op];omega,by rw[St.must_op,HgE.op,St.enter_op];omega,?_⟩;intro w3 hL3 hF3;have hFw:Fr (·=pb) w w3:=(Fr.drop2 (hF0.trans hF1) hF2 (by omega)).trans hF3;have hz1:w0.heap.size<=w1.heap.size:=hF1.size;have hz0:w.heap.size<=w0.heap.size:=hF0.size;refine⟨rfl,a2,hb2.fr hF3 (by omega),a2,rfl,hL3,?_,hFw⟩;intro he';have t2:=hT2.out he';have hLL:((rx st.enter).1.must 4 [41]).leave.L=(rx st.enter).1.L:=St.must_L _ _ _;rw[hLL];exact (t2.fr hF3 (λk h1 _ h2=>by omega)).down (by omega)
 . intro h16 w3 hL3 hF3;rw[HD.o h16];exact⟨rfl,none,b1.fr hF3 (by omega),none,rfl,hL3,λhe'=>absurd he' (St.fail_er st (by decide)),hF0.trans hF3⟩
 . rintro e w4 ⟨rfl,a4,hb4,HQ⟩;obtain⟨f0,ff,fz⟩:=zu hb4;go_wp2_with fail;go_ret;exact HQ
end
section
theorem znA:zH 209:=λ_ _=>by kernel_rfl
theorem zo8:(⟨#[102,98,121]⟩:ByteArray).toList=[102,98,121]:=by decide +kernel
theorem zmP {d:Nat}{rx:Fn}(hX:zX d 190 rx)(S:Nat->Addr)(pb:Nat)(st:St)(p:Nat)(w:World)(bf bp be eb:Nat)(a0:Option Addr)(v0 v1 v2 v3 v4 v5:Value)(hI:Inv p st)(ho:18<=st.op+d)(HR:PL S w pb st)(Hbf:Box w bf 182 (.pointer a0))(hbp:Box w bp 172 (xP pb))(Hbe:Box w be 182 (xP eb))(Heb:w.heap[eb]?=some (.cells #[v0,v1,v2,v3,v4,v5] 226 (0,0)))(n0:¬bf=pb)(n1:¬be=pb)(n3:pb<eb) :
 xK 209 #[xP bf,xP bp,xP be] w λe w'=>e=.returned (.tuple #[])/\∃a g,PL S w' pb (rx st).1/\Hid ((rx st).1.er=0->TR w' w.heap.size (rx st).1.L (rx st).2 (.pointer a)) /\
  w'.heap[eb]?=some (.cells #[v0,v1,v2,v3,v4,xS g 2 2] 226 (0,0))/\w'.heap[g]?=some (.cells #[.pointer a0,.pointer a] 182 (0,0))/\w.heap.size<=g/\Fr (λk=>k=pb∨k=eb) w w':=by
 have n2:¬eb=pb:=by omega
 have HU:=za (λw1 h1=>hX S pb st p w1 hI ho h1);obtain⟨g0,gf,gz⟩:=zu Hbf;obtain⟨c0,cf,cz⟩:=zu hbp;obtain⟨e0,ef,ez⟩:=zu Hbe;have hzb:=ze Heb;have hlt:=HR.lt;clear hI hX hbp;generalize rx st=y at *;go_enter func209,ntmps209;go_region_with (go_at_call 190;refine (HU.o _ HR.drew).mono ?_;rintro e w1 ⟨a1,rfl,HL1,hT1,hF1'⟩;have HF1:Fr (·=pb) w w1:=hF1'.undrew;have hz1:=HF1.size;have Heb1:=(HF1.block eb hzb n2).trans Heb;obtain⟨d0,d1,d2,d3,d4,d5,df,dz⟩:=zt Heb1;obtain⟨f0,ff,fz⟩:=zu (Hbe.fr HF1 n1);obtain⟨i0,if',iz⟩:=zu (Hbf.fr HF1 n0);have hlt1:=HL1.lt;clear hF1')
 all_goals go_wp2_with fail
 all_goals go_end0
 all_goals
  have hk5:(w1.setCell (xD eb 5) (xS w1.heap.size 2 2)).heap.size=w1.heap.size:=by simp[World.setCell]
  refine⟨rfl,a1,w1.heap.size,?_,?_,?_,?_,hz1,?_⟩
  . exact (HL1.setOther n3 _ _).alloc _
  . exact λhe=>(hT1.out he).fr (((Fr.refl (·=eb) w1).set1 _ _).alloc _) (λk h1 _ h2=>by have h1':w.heap.size<=k:=h1;omega)
  . exact (Below.heap_alloc _ _ _ (by rw[hk5];exact dz)).trans (zh _ _ _ _ Heb1)
  . have:=zc (w1.setCell (xD eb 5) (xS w1.heap.size 2 2)) (.cells #[.pointer a0,.pointer a1] 182);rw[hk5] at this;exact this
  . exact (HF1.with2 eb _ _).alloc _
theorem zrL:zag zgW.toList 0=9:=by decide +kernel
theorem zoz {d:Nat}{rx eith:Fn}(HX:zX d 190 rx)(GX:zv d rx)(hE:zX (d+1) 207 eith)(gE:zv (d+1) eith):zX (d+1) 190 (zgk rx eith):=by
 intro S pb st p w hI ho hR;have hlt:=hR.lt;have hmf:∀(fn:Go.Fn) (first cap:Array Value) (w:World),(Instr.makeFunc fn first cap).run prog w=.ok (.func fn first cap) w:=λ_ _ _ _=>rfl;have g1:=gE st p hI ho;have H1:=za (hE S pb st p (w.alloc (.cells #[xP pb] 172)) hI ho (hR.alloc _));have hM:zgk rx eith st=if (eith st).1.er=0/\(eith st).1.is 5 [102,98,121]=true then (rx (eith st).1.enter).1.leave.put ⟨zgW,(eith st).1.t.a,0,[(eith st).2,(rx (eith st).1.enter).2],sE,0⟩ else eith st:=rfl;have G1:=za g1.inv;have O1:Hid (18<=(eith st).1.op+(d+1)):=by unfold Hid;rw[g1.op];exact ho
 generalize eith st=x at *;cases Hc:x.1.is 5 [102,98,121] with
 | false => rw[hM,if_neg (by rw[Hc];simp)];go_enter func190,ntmps190;go_wp2_with fail;refine H1.o.mono ?_;rintro e w1 h1;obtain⟨a0,e0,_,_,hFa⟩:=id h1;have hz1:=hFa.size;have hz1':w.heap.size<w1.heap.size:=(by simp at hz1;omega);have Hb0:Box w1 w.heap.size 172 (xP pb):=(hFa.block _ (by simp) (by omega)).trans (zc w _);obtain⟨p0,pf,pz⟩:=zu Hb0;obtain⟨a1,rfl,HL1,hT1,HF1⟩:=h1.alloc (zaF _ _);have HA:=za (zaP S pb x.1 ⟨#[102,98,121]⟩ _ zo8 (w1.alloc (.cells #[.pointer a1] 182)) G1.o.ok.tk (HL1.alloc _));rw[zar HL1.tx (by decide),Hc] at HA;have hlt1:=HL1.lt;go_wp2_with (go_at_call 85;refine HA.o.mono ?_;rintro e w' ⟨rfl,rfl⟩);go_ret;exact⟨a1,rfl,HL1.alloc _,λhe=>(hT1.out he).fr ((Fr.refl (·=pb) w1).alloc _) (λk _ _ _=>by omega),HF1.alloc _⟩
 | true =>
   have Hk5:x.1.t.k=5:=Inv.is_k Hc;have he:=G1.o.toBad.er (by omega);rw[hM,if_pos ⟨he,Hc⟩];have e1:=Fwd.enter G1.o he (by omega:2<=x.1.t.k);have HoE:18<=x.1.enter.op+d:=(by rw[St.enter_op];have:=O1.o;omega);have gE2:=GX x.1.enter (p+1) e1.inv HoE;obtain⟨E,HEL⟩:=gE2.L;rw[St.enter_L] at HEL;have HEr:=za (λ(h:(rx x.1.enter).1.er=0)=>(show x.1.er=0 from he));have HD:=za (λh16=>zjz GX G1.o he (by omega:2<=x.1.t.k) O1.o h16);have HgO:=za gE2.op;have HE:=za e1.inv;go_enter func190,ntmps190;go_wp2_with fail;refine H1.o.mono ?_;rintro e w1 ⟨a1,rfl,HL1,hT1,HF1⟩;have hz1:=HF1.size;have hz1':w.heap.size<w1.heap.size:=(by simp at hz1;omega);have hz2':w.heap.size<w1.heap.size+1:=(by omega);have hz3':w.heap.size<w1.heap.size+1+1:=(by omega);have Hb0:Box w1 w.heap.size 172 (xP pb):=(HF1.block _ (by simp) (by omega)).trans (zc w _);obtain⟨p0,pf,pz⟩:=zu Hb0;have HA:=za (zaP S pb x.1 ⟨#[102,98,121]⟩ _ zo8 (w1.alloc (.cells #[.pointer a1] 182)) G1.o.ok.tk (HL1.alloc _));rw[zar HL1.tx (by decide),Hc] at HA;have hlt1:=HL1.lt;go_wp2_with (first|(go_at_call 85;refine HA.o.mono ?_;rintro e w' ⟨rfl,rfl⟩)|(go_at_call 208;refine (zb8 S pb x.1 9 _ (HL1.alloc _)).mono ?_;rintro e w' ⟨rfl,rfl⟩));obtain⟨w0,hw0⟩:∃w0,(((w1.alloc (.cells #[.pointer a1] 182)).alloc (.cells #[xI 9,xI x.1.t.a,.string ⟨#[]⟩,xI 0,xI 0,.slice none 0 0] 226)).alloc (.cells #[xP (w1.heap.size+1)] 182))=w0:=⟨_,rfl⟩;have b0:Box w0 w.heap.size 172 (xP pb):=(by rw[<- hw0];exact (Below.heap_alloc _ _ _ (by simp;omega)).trans ((Below.heap_alloc _ _ _ (by simp;omega)).trans ((Below.heap_alloc _ _ _ hz1').trans Hb0)));have b1:Box w0 w1.heap.size 182 (.pointer a1):=(by rw[<- hw0];exact (Below.heap_alloc _ _ _ (by simp;omega)).trans ((Below.heap_alloc _ _ _ (by simp)).trans (zc w1 _)));have b2:xH w0 (w1.heap.size+1) #[xI 9,xI x.1.t.a,.string ⟨#[]⟩,xI 0,xI 0,.slice none 0 0] 226:=(by rw[<- hw0];refine (Below.heap_alloc _ _ _ (by simp)).trans ?_;have:=zc (w1.alloc (.cells #[.pointer a1] 182)) (.cells #[xI 9,xI x.1.t.a,.string ⟨#[]⟩,xI 0,xI 0,.slice none 0 0] 226);simpa using this);have b3:Box w0 (w1.heap.size+1+1) 182 (xP (w1.heap.size+1)):=(by rw[<- hw0];have:=zc ((w1.alloc (.cells #[.pointer a1] 182)).alloc (.cells #[xI 9,xI x.1.t.a,.string ⟨#[]⟩,xI 0,xI 0,.slice none 0 0] 226)) (.cells #[xP (w1.heap.size+1)] 182);unfold Box;simpa using this);have hF01:Fr (·=pb) w1 w0:=(by rw[<- hw0];exact (((Fr.refl _ w1).alloc _).alloc _).alloc _);have hF0:Fr (·=pb) w w0:=(((Fr.refl _ w).alloc _).trans HF1).trans hF01;have hL0:PL S w0 pb x.1:=(by rw[<- hw0];exact ((HL1.alloc _).alloc _).alloc _);rw[hw0];refine (zdz _ _ znA S pb x.1 p w0 G1.o (by rw[Hk5];decide) hL0 (λe w'=>e=.returned (.tuple #[])/\Box w' (w1.heap.size+1+1) 182 (xP (w1.heap.size+1))/\zaW S pb w.heap.size w ((rx x.1.enter).1.leave.put ⟨zgW,x.1.t.a,0,[x.2,(rx x.1.enter).2],sE,0⟩).1 ((rx x.1.enter).1.leave.put ⟨zgW,x.1.t.a,0,[x.2,(rx x.1.enter).2],sE,0⟩).2 (.returned (xP (w1.heap.size+1))) w') ?_ ?_).mono ?_
   . intro hlt16 w2 hL2 hF2;refine (zmP HX S pb x.1.enter (p+1) w2 w1.heap.size w.heap.size (w1.heap.size+1+1) (w1.heap.size+1) a1 _ _ _ _ _ _ HE.o HoE hL2 (b1.fr hF2 (by omega)) (b0.fr hF2 (by omega)) (b3.fr hF2 (by omega)) ((hF2.block _ (ze b2) (by omega)).trans b2) (by omega) (by omega) (by omega)).mono ?_;rintro e w3 ⟨rfl,a3,g,hL3,hT3,hb3,hg3,hzg,hF3⟩;refine⟨rfl,(rx x.1.enter).1,hL3,by rw[HgO.o,St.enter_op];omega,by rw[HgO.o,St.enter_op];omega,?_⟩;intro w4 hL4 hF4;have hFw:Fr (·=pb) w w4:=(Fr.drop2 (hF0.trans hF2) hF3 (by omega)).trans hF4;have hFw1:Fr (·=pb) w1 w4:=(Fr.drop2 (hF01.trans hF2) hF3 (by omega)).trans hF4;have hz02:w0.heap.size<=w2.heap.size:=hF2.size;have hz01:w1.heap.size<=w0.heap.size:=hF01.size;refine⟨rfl,Box.fr (Fr.keep2 hF3 (b3.fr hF2 (by omega)) (by omega) (by omega)) hF4 (by omega),_,rfl,hL4.put _,?_,hFw⟩;intro he';have t3:=hT3.out he';have t1:=hT1.out (HEr.o he');refine TR.two (y:=x.2) (z:=(rx x.1.enter).2) (g:=g) (u:=.pointer a1) (v:=.pointer a3) (by omega) (by omega) ?_ ((hF4.block g (ze hg3) (by omega)).trans hg3) rfl ?_ ?_
     . show _=some (Obj.cells #[xI (zag zgW.toList 0:Nat),xI x.1.t.a,.string ⟨#[]⟩,xI (0:Nat),xI (zbF zgW.toList 0:Nat),xS g 2 2] 226 (0,0));rw[zrL,zbK];exact (hF4.block _ (ze hb3) (by omega)).trans hb3
     . show TR w4 w.heap.size (rx x.1.enter).1.L x.2 (.pointer a1);rw[HEL];exact ((t1.down (zaF _ _)).fr hFw1 (λk h1 _ h2=>by omega)).more E
     . exact (t3.fr hF4 (λk h1 _ h2=>by omega)).down (by omega)
   . intro h16 w3 hL3 hF3;rw[HD.o h16];exact⟨rfl,b3.fr hF3 (by omega),_,rfl,hL3.put _,λhe'=>absurd he' (St.fail_er x.1 (by decide)),hF0.trans hF3⟩
   . rintro e w4 ⟨rfl,hb4,HQ⟩;obtain⟨f0,ff,fz⟩:=zu hb4;go_wp2_with fail;go_ret;exact HQ
end
section
variable {st:St}
theorem TR.leaf {w:World}{B:Nat}{L:List Ex}{ex:Ex}{b:Nat}(hB:B<=b)
 (hb:xH w b #[xI (zag ex.op.toList ex.n:Nat),xI ex.a,.string ex.s,xI ex.nm,xI (zbF ex.op.toList ex.n:Nat),.slice none 0 0] 226)
 (hi:ex.ins=[]):TR w B (L++[ex]) L.length (xP b):=by
 refine TR.mk L.length ex b _ [] (by simp) hB hb (World.ownsRow_nil _ _ _ _) (by simp[hi]) ?_;intro i s t hs _;rw[hi] at hs;simp at hs
theorem zoZ:zag zfR.toList 0=3:=by decide +kernel
theorem zfU (s:ByteArray)(a:Nat)(w:World):xK 243 #[.agg #[.string s,xI a]] w λe w'=>e=.returned (xP (w.heap.size+1))/\xB w w'/\xH w' (w.heap.size+1) #[xI 3,xI a,.string s,xI a,xI 0,.slice none 0 0] 226:=by go_enter func243,ntmps243;go_wp2;go_ret;refine⟨rfl,((Below.refl _ _).alloc (Nat.le_refl _) _).alloc (by simp) _,?_⟩;have:=zc (w.alloc (.cells #[.string s,xI a] 117)) (.cells #[xI 3,xI a,.string s,xI a,xI 0,.slice none 0 0] 226);rw[zsb] at this;exact this
def ziL (d:Nat)(M:Fn):Prop:=∀(S:Nat->Addr) (pb:Nat) (st:St) (p:Nat) (w:World),Inv p st->st.t.k≠2->18<=st.op+d->PL S w pb st ->
 xK 242 #[xP pb] w (zaW S pb w.heap.size w (M st).1 (M st).2)
def zdI (d:Nat)(rx:Fn):Prop:=∀(S:Nat->Addr) (pb:Nat) (st:St) (p:Nat) (w:World) (t:Tk),Inv p st->18<=st.op+d->1<=st.t.a->PL S w pb st ->
 xK 189 #[xP pb,.agg #[.string t.s,xI t.a]] w (zaW S pb w.heap.size w (zao rx t st).1 (zao rx t st).2)
theorem zhL {t:Tk}:(((ck t:Nat):Int) != 3)=!(t.k==2):=by
 by_cases h:t.k=2
 . simp[ck,h]
 . have:ck t≠3:=by unfold ck;(repeat' split) <;> first|decide|(exfalso;omega)
   have h2:(t.k==2)=false:=(by simp[h]);rw[h2];simp;omega
theorem zkE (hk:st.t.k=2):st.name=st.step:=by unfold St.name;rw[if_pos hk]
theorem zgJ (hk:st.t.k=2):zcc st=.agg #[.string st.t.s,xI st.t.a]:=by unfold zcc;rw[if_pos hk]
theorem znY {d:Nat}{atm:Fn}(hU:ziL d atm):zX d 250 (zch atm):=by
 intro S pb st p w hI ho hR;obtain⟨q0,q1,q2,q3,q4,q5,q6⟩:=hR.cells;have hck:=zhL (t:=st.t);have hlt:=hR.lt;by_cases hk:st.t.k=2
 . have he:=hI.toBad.er (by omega);have hM:zch atm st=zjx st:=by unfold zch;rw[if_neg (by omega)]
   rw[hM];have hk2:(st.t.k==2)=true:=(by simp[hk]);rw[hk2] at hck;have HN:=za (zaZ S pb st w hI.toBad hR);rw[zkE hk,zgJ hk] at HN;clear hR hI hU hM hk hk2 he;go_enter func250,ntmps250;go_wp2_with (first|(go_at_call 243;refine (zfU _ _ _).mono ?_;rintro e w2 ⟨rfl,Hb2,Hh2⟩)|(go_at_call 151;refine HN.o.mono ?_;rintro e w1 ⟨rfl,HL1,HF1⟩));go_ret;have hz1:=HF1.size;refine⟨_,rfl,(HL1.below Hb2).put _,λ_=>TR.leaf (ex:=⟨zfR,st.t.a,st.t.a,[],st.t.s,0⟩) (by omega) ?_ rfl,HF1.belowed Hb2⟩
   show _=some (Obj.cells #[xI (zag zfR.toList 0:Nat),xI st.t.a,.string st.t.s,xI st.t.a,xI (zbF zfR.toList 0:Nat),.slice none 0 0] 226 (0,0));rw[zoZ,zbK];exact Hh2
 . have hM:zch atm st=atm st:=by unfold zch;rw[if_pos (Or.inr hk)]
   rw[hM];have hk2:(st.t.k==2)=false:=(by simp[hk]);rw[hk2] at hck;have H1:=za (hU S pb st p w hI hk ho hR);clear hR hI hU hM hk hk2;generalize atm st=R at *;go_enter func250,ntmps250;go_wp2_with (go_at_call 242;refine H1.o.mono ?_;rintro e w1 ⟨a1,rfl,H2,h3,H4⟩);go_ret;exact⟨a1,rfl,H2,h3,H4⟩
end
section
theorem zfn:(⟨#[40]⟩:ByteArray).toList=[40]:=by decide +kernel
theorem znf {d:Nat}{rx ra:Fn}(hU:ziL (d+1) (zap rx ra))(hK:zdI (d+1) rx):zX (d+1) 241 (zap rx ra):=by
 intro S pb st p w hI ho hR;obtain⟨q0,q1,q2,q3,q4,q5,q6⟩:=hR.cells;have hck:=zhL (t:=st.t);have hlt:=hR.lt;by_cases hk:st.t.k=2
 . have he:=hI.toBad.er (by omega);have hM:zap rx ra st=if st.step.is 4 [40]=true then zao rx st.t st.step else zjx st:=by unfold zap;rw[if_neg (by simp[he]),if_neg (by omega),if_pos hk]
   rw[hM];have hk2:(st.t.k==2)=true:=(by simp[hk]);rw[hk2] at hck;have e1:=Fwd.use hI he (by omega:2<=st.t.k);have hta:1<=st.step.t.a:=(by have h1:=hI.tok (by omega);have H2:=zV st.src st.t.t hI.ok.tt;rw[St.step_ok he];simp only;omega);have HN:=za (zaZ S pb st w hI.toBad hR);rw[zkE hk,zgJ hk] at HN;have HB1:=za e1.inv.toBad;cases Hc:st.step.is 4 [40] with
   | true => rw[if_pos rfl];have HK:=za (λw1 h1=>hK S pb st.step (p+1) w1 st.t e1.inv (by rw[St.step_op];exact ho) hta h1);generalize zao rx st.t st.step=R at *;go_enter func241,ntmps241;go_wp2_with (go_at_call 151;refine HN.o.mono ?_;rintro e w1 ⟨rfl,HL1,HF1⟩;have hz1:=HF1.size;have hlt1:=HL1.lt;have HA:=za (zaP S pb st.step ⟨#[40]⟩ _ zfn (w1.alloc (.cells #[.string st.t.s,xI st.t.a] 117)) HB1.o.ok.tk (HL1.alloc _));rw[zaB HL1.tx (by decide),Hc] at HA);go_wp2_with (first|(go_at_call 85;refine HA.o.mono ?_;rintro e w' ⟨rfl,rfl⟩)|(go_at_call 189;refine (HK.o _ (HL1.alloc _)).mono ?_;rintro e w2 H2;obtain⟨a2,rfl,K2,k3,K4⟩:=H2.alloc (zaF _ _)));go_ret;exact⟨a2,rfl,K2,λhe=>(k3.out he).down hz1,HF1.trans K4⟩
   | false =>
     rw[if_neg (by simp)];go_enter func241,ntmps241;go_wp2_with (go_at_call 151;refine HN.o.mono ?_;rintro e w1 ⟨rfl,HL1,HF1⟩;have hz1:=HF1.size;have hlt1:=HL1.lt;have HA:=za (zaP S pb st.step ⟨#[40]⟩ _ zfn (w1.alloc (.cells #[.string st.t.s,xI st.t.a] 117)) HB1.o.ok.tk (HL1.alloc _));rw[zaB HL1.tx (by decide),Hc] at HA);go_wp2_with (first|(go_at_call 85;refine HA.o.mono ?_;rintro e w' ⟨rfl,rfl⟩)|(go_at_call 243;refine (zfU _ _ _).mono ?_;rintro e w2 ⟨rfl,Hb2,Hh2⟩));go_ret;have hh:=Hh2;simp only[zsb] at hh;refine⟨some (xD (w1.heap.size+1+1) 0),rfl,((HL1.alloc _).below Hb2).put _,λ_=>TR.leaf (b:=w1.heap.size+1+1) (ex:=⟨zfR,st.t.a,st.t.a,[],st.t.s,0⟩) (by omega) ?_ rfl,(HF1.alloc _).belowed Hb2⟩
     show _=some (Obj.cells #[xI (zag zfR.toList 0:Nat),xI st.t.a,.string st.t.s,xI st.t.a,xI (zbF zfR.toList 0:Nat),.slice none 0 0] 226 (0,0));rw[zoZ,zbK];exact hh
 . have hk2:(st.t.k==2)=false:=by simp[hk]
   rw[hk2] at hck;have H1:=za (hU S pb st p w hI hk ho hR);generalize zap rx ra st=R at *;go_enter func241,ntmps241;go_wp2_with (go_at_call 242;refine H1.o.mono ?_;rintro e w1 ⟨a1,rfl,H2,h3,H4⟩);go_ret;exact⟨a1,rfl,H2,h3,H4⟩
theorem zpZ (st:St)(_hk:st.t.k<=5)(hT:Tx st.src st.t):opM st [7,8]=if zdi st=true then some (zag st.t.s.toList 0) else none:=by
 obtain⟨e7,e8,_⟩:=wdl;simp only[opM,e7,e8];rw[zar hT (by decide),zar hT (by decide)];unfold zdi;by_cases h1:st.is 5 [119,104,101,110]=true
 . have:st.t.s.toList=[119,104,101,110]:=by unfold St.is at h1;simp at h1;exact h1.2
   rw[h1,this,Bool.true_or,if_pos rfl,if_pos rfl];decide
 . by_cases h2:st.is 5 [119,104,101,110,111,116]=true
   . have:st.t.s.toList=[119,104,101,110,111,116]:=by unfold St.is at h2;simp at h2;exact h2.2
     have h1':st.is 5 [119,104,101,110]=false:=(by simpa using h1);rw[h1',h2,this];decide
   . simp[h1,h2]
theorem zjf (st:St):∃(ns:ByteArray) (na:Nat),zcc st=.agg #[.string ns,xI na]/\(st.t.k=2->ns=st.t.s/\na=st.t.a):=by
 by_cases h:st.t.k=2
 . exact⟨st.t.s,st.t.a,zgJ h,λ_=>⟨rfl,rfl⟩⟩
 . exact⟨⟨#[]⟩,0,by unfold zcc;rw[if_neg h];rfl,λh2=>absurd h2 h⟩
theorem zjU (k:Int)(s:ByteArray)(a n:Int)(w:World):(Instr.field 79 (.agg #[xI k,.string s,xI a,xI n]) 2).run prog w=.ok (xI a) w:=by kernel_rfl
theorem zka (k:Int)(s:ByteArray)(a n:Int)(w:World):(Instr.field 79 (.agg #[xI k,.string s,xI a,xI n]) 3).run prog w=.ok (xI n) w:=by kernel_rfl
theorem zjM {d:Nat}{atm:Fn}(hA:zX d 241 atm)(gA:zv d atm):zX d 239 (zfu atm):=by
 intro S pb st p w hI ho hR;have hlt:=hR.lt;have g1:=gA st p hI ho;have H1:=za (hA S pb st p w hI ho hR);have hM:zfu atm st=zaY 1300 (atm st):=rfl;rw[hM];have G1:=za g1.inv;generalize atm st=x0 at *;obtain⟨R,HRes⟩:∃R,zaY 1300 x0=R:=⟨_,rfl⟩;rw[HRes];go_enter func239,ntmps239;go_wp2_with fail;refine H1.o.mono ?_;rintro e w1 ⟨a1,rfl,HL1,hT1,HF1⟩;go_wp2_with fail;go_loopg [3] 1300 (λk l wr=>∃(x:St×Nat) (a:Option Addr),l=.pointer a/\Hid (zaY k x=R)/\rem x.1<k/\Hid (Inv p x.1)/\Hid (PL S wr pb x.1)/\Hid (x.1.er=0->TR wr w.heap.size x.1.L x.2 (.pointer a))/\Hid (Fr (·=pb) w wr));case atStart => refine⟨x0,a1,rfl,HRes,?_,G1.o,HL1,hT1.out,HF1⟩;unfold rem;split <;> omega
 case round =>
  obtain⟨x,a,rfl,HF,hrem,HI2,HL2,HT2,HF2⟩:=hrel;have hlt2:=HL2.o.lt;obtain⟨g,rfl⟩:∃g,gk=g+1:=⟨gk-1,by omega⟩;have HOp:=za (zbd S pb x.1 wr.heap.size 2 [7,8] rfl (by decide) (wr.alloc (.cells #[xI 7,xI 8] 223)) (zcD wr _ _ _ rfl) (by decide) HI2.o.ok.tk (HL2.o.alloc _));rw[zpZ x.1 HI2.o.ok.tk HL2.o.tx] at HOp;have hz2:=HF2.o.size;cases hl:zdi x.1 with
  | false =>
    rw[hl,if_neg (by simp)] at HOp;have HR2:R=x:=by
     rw[<- HF.o]
     show (if x.1.er=0/\zdi x.1=true then _ else x)=x;rw[if_neg (by rw[hl];simp)]
    simp only[opV] at HOp;go_wp2_with (go_at_call 226;refine HOp.o.mono ?_;rintro e w' ⟨rfl,rfl⟩);go_ret;rw[HR2];exact⟨a,rfl,HL2.o.alloc _,λHe=>(HT2.o He).fr ((Fr.refl (·=pb) wr).alloc _) (λk _ _ _=>by omega),HF2.o.alloc _⟩
  | true =>
    rw[hl,if_pos rfl] at HOp;simp only[opV] at HOp;have Hk5:x.1.t.k=5:=(by unfold zdi at hl;simp only[Bool.or_eq_true] at hl;rcases hl with h|h <;> exact Inv.is_k h);have He:=HI2.o.toBad.er (by omega);have e3:=Fwd.use HI2.o He (by omega:2<=x.1.t.k);have e4:=Fwd.name e3.inv;have HFn:Hid (zaY g (x.1.step.name.put ⟨x.1.t.s,x.1.t.a,x.1.step.t.a,[x.2],x.1.step.t.s,0⟩)=R):=by
     have h:=HF.o;unfold Hid;rw[<- h]
     show _=(if x.1.er=0/\zdi x.1=true then _ else x);rw[if_pos ⟨He,hl⟩]
    have hput:Hid (Inv p (x.1.step.name.put ⟨x.1.t.s,x.1.t.a,x.1.step.t.a,[x.2],x.1.step.t.s,0⟩).1):=(Fwd.put e4.inv _).inv;have hrem':Hid (rem (x.1.step.name.put ⟨x.1.t.s,x.1.t.a,x.1.step.t.a,[x.2],x.1.step.t.s,0⟩).1<g):=by
     unfold Hid rem
     show (if x.1.step.name.er=0 then 1201-x.1.step.name.t.a else 0)<g;have h1:rem x.1=1201-x.1.t.a:=(by unfold rem;rw[if_pos He]);have h2:=e4.ta;have h3:x.1.t.a+1<=x.1.step.t.a:=(by have:=HI2.o.tok (by omega);rw[St.step_ok He];have hf:=zV x.1.src x.1.t.t HI2.o.ok.tt;simp only;omega);have h4:=e4.inv.ok.ta_le;have h5:=HI2.o.ok.ta_le;split <;> omega
    have HB2:=za HI2.o.toBad;have HB3:=za e3.inv.toBad;have Hst:=za (zc8 HI2.o.toBad (by omega:x.1.t.k≠1));obtain⟨kk,Hkk⟩:∃kk,zag x.1.t.s.toList 0=kk:=⟨_,rfl⟩;rw[Hkk] at HOp;have HLs:Hid (x.1.step.name.L=x.1.L):=(by unfold Hid;rw[St.name_L,St.step_L]);have HEn:Hid (x.1.step.name.er=0->x.1.step.t.k=2):=by
     intro h;by_cases h2:x.1.step.t.k=2
     . exact h2
     . exfalso;unfold St.name at h;rw[if_neg h2] at h;exact St.fail_er _ (by decide) h
    have hfd:=zjU;go_wp2_with (first|(go_at_call 226;refine HOp.o.mono ?_;rintro e w' ⟨rfl,rfl⟩)|(go_at_call 186;refine (zb9 S pb x.1 _ HB2.o.ok (Nat.le_trans (by decide) (Nat.le_of_eq Hk5.symm)) (HL2.o.alloc _)).mono ?_;rintro e w3 ⟨rfl,HL3,HF3⟩;rw[Hst.o] at HL3;simp only[Tk.cval]));obtain⟨ns,na,hnv,HNk⟩:=zjf x.1.step;have HN:=za (zaZ S pb x.1.step w3 HB3.o HL3);rw[hnv] at HN;go_wp2_with (go_at_call 151;refine HN.o.mono ?_;rintro e w4 ⟨rfl,HL4,HF4⟩);go_roundg g;case measure=>omega
    have hF34:Fr (·=pb) wr w4:=(((Fr.refl _ wr).alloc _).trans HF3).trans HF4;refine⟨(x.1.step.name.put ⟨x.1.t.s,x.1.t.a,x.1.step.t.a,[x.2],x.1.step.t.s,0⟩),some (xD (w4.heap.size+1) 0),rfl,HFn,hrem'.out,hput,((HL4.alloc _).alloc _).put _,?_,(((HF2.o.trans hF34).alloc _).alloc _)⟩;intro he';obtain⟨r1,r2⟩:=HNk (HEn.o he');have hz4:=hF34.size;refine TR.one (y:=x.2) (b:=w4.heap.size+1) (g:=w4.heap.size) (u:=.pointer a) (by omega) (by omega) ?_ ((Below.heap_alloc _ _ _ (by simp)).trans (zc w4 _)) rfl ?_
    . show _=some (Obj.cells #[xI (zag x.1.t.s.toList 0:Nat),xI x.1.t.a,.string x.1.step.t.s,xI x.1.step.t.a,xI (zbF x.1.t.s.toList 0:Nat),xS w4.heap.size 1 1] 226 (0,0));rw[Hkk,zbK,<- r1,<- r2];have:=zc (w4.alloc (.cells #[.pointer a] 182)) (.cells #[xI kk,xI x.1.t.a,.string ns,xI na,xI 0,xS w4.heap.size 1 1] 226);simpa using this
    . show TR _ w.heap.size x.1.step.name.L x.2 (.pointer a);rw[HLs.o];exact (HT2.o He).fr ((hF34.alloc _).alloc _) (λk h1 _ h2=>by omega)
end
end Go.Proofs.YtbicmofihhjgbaaGreatDoor
