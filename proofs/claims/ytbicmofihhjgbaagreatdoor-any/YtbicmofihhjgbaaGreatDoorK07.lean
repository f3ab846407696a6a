/- Part 8 of the proof: CoeO CoeP CoeQ CoeR CofC. -/
import Derived.Test.YtbicmofihhjgbaaGreatDoorK06
set_option maxRecDepth 100000
set_option maxHeartbeats 8000000
namespace Go.Proofs.YtbicmofihhjgbaaGreatDoor
open Go.Proofs.Tryz
open Go.RowKit
section
theorem zol:zH 206:=λ_ _=>by kernel_rfl
theorem zrg:zag zef.toList 0=4:=by decide +kernel
structure zrS (w w0:World) (pb:Nat) (s:ByteArray) (a:Nat):Prop where
 bp:Box w0 w.heap.size 172 (xP pb)
 eb:xH w0 (w.heap.size+1+1) #[xI 4,xI a,.string s,xI a,xI 0,.slice none 0 0] 226
 be:Box w0 (w.heap.size+1+1+1) 182 (xP (w.heap.size+1+1))
 fr:Fr (·=pb) w w0
 size:w0.heap.size=w.heap.size+1+1+1+1
def zee (w:World)(pb:Nat)(s:ByteArray)(a:Nat):World:=(((w.alloc (.cells #[xP pb] 172)).alloc (.cells #[.string s,xI a] 117)).alloc (.cells #[xI 4,xI a,.string s,xI a,xI 0,.slice none 0 0] 226)).alloc (.cells #[xP (w.heap.size+1+1)] 182)
theorem zrN (w:World)(pb:Nat)(s:ByteArray)(a:Nat):zrS w (zee w pb s a) pb s a:=by
 unfold zee;refine⟨?_,?_,?_,((((Fr.refl _ w).alloc _).alloc _).alloc _).alloc _,by simp⟩
 . exact (Below.heap_alloc _ _ _ (by simp;omega)).trans ((Below.heap_alloc _ _ _ (by simp;omega)).trans ((Below.heap_alloc _ _ _ (by simp)).trans (zc w _)))
 . refine (Below.heap_alloc _ _ _ (by simp)).trans ?_;have:=zc ((w.alloc (.cells #[xP pb] 172)).alloc (.cells #[.string s,xI a] 117)) (.cells #[xI 4,xI a,.string s,xI a,xI 0,.slice none 0 0] 226);simpa using this
 . have:=zc (((w.alloc (.cells #[xP pb] 172)).alloc (.cells #[.string s,xI a] 117)).alloc (.cells #[xI 4,xI a,.string s,xI a,xI 0,.slice none 0 0] 226)) (.cells #[xP (w.heap.size+1+1)] 182);unfold Box;simpa using this
theorem zpo {S:Nat->Addr}{w:World}{pb:Nat}{st:St}(h:PL S w pb st)(s:ByteArray)(a:Nat):PL S (zee w pb s a) pb st:=(((h.alloc _).alloc _).alloc _).alloc _
theorem zof {d:Nat}{rx:Fn}(hX:zX d 190 rx)(gX:zv d rx):zdI (d+1) rx:=by
 intro S pb st p w t HI ho hta hR;have hlt:=hR.lt;have hmf:∀(fn:Go.Fn) (first cap:Array Value) (w:World),(Instr.makeFunc fn first cap).run prog w=.ok (.func fn first cap) w:=λ_ _ _ _=>rfl;have HF4:=zrN w pb t.s t.a;have HL4:=zpo hR t.s t.a;have HAt:=za (zaP S pb st ⟨#[40]⟩ _ zfn (zee w pb t.s t.a) HI.ok.tk HL4);rw[zaB hR.tx (by decide)] at HAt;have hg8:8<w.heap.size:=Nat.lt_of_lt_of_le (by decide) hR.gl.size;have hsyn:xC (zee w pb t.s t.a) 8 0 (.iface 324 (.pointer (some (S 2)))):=HL4.gl.syn;obtain⟨be0,bef,bez⟩:=zu HF4.be;obtain⟨bp0,bpf,bpz⟩:=zu HF4.bp;cases hc:st.is 4 [40] with
 | true =>
   have Hk4:st.t.k=4:=Inv.is_k hc;have he:=HI.toBad.er (by omega);have e1:=Fwd.enter HI he (by omega:2<=st.t.k);have hoE:18<=st.enter.op+d:=(by rw[St.enter_op];omega);have htaE:1<=st.enter.t.a:=(by have:=e1.ta;omega);obtain⟨ag1,HgO,ag3⟩:=zid gX e1.inv hoE htaE;have HC:=za (λw1 b0 b1 b2 hR1=>zmh hX gX S pb st.enter (p+1) w1 w.heap.size (w.heap.size+1+1+1) (w.heap.size+1+1) (xI 4) (xI t.a) (.string t.s) (xI t.a) (xI 0) e1.inv hoE htaE hR1 b0 b1 b2 (by omega) (by omega) (by omega) (by omega) (by omega));have hM:zao rx t st=(((zbG rx st.enter).1.must 4 [41]).leave.put ⟨zef,t.a,t.a,(zbG rx st.enter).2,t.s,0⟩):=(by unfold zao;rw[if_pos hc]);rw[hM];have HD:Hid (st.op=16->((zbG rx st.enter).1.must 4 [41]).leave=st.fail 3 st.t.a):=by
    intro h16;have hE:=St.enter_deep h16;have he3:st.enter.er≠0:=(by rw[hE];exact St.fail_er _ (by decide));have q1:(rx st.enter).1=st.enter:=(by rw[(gX st.enter (p+1) e1.inv hoE).er he3]);have q2:(zbG rx st.enter).1=st.enter:=by
     show (zc1 rx 1300 ((rx st.enter).1,[(rx st.enter).2])).1=st.enter
     show (if (rx st.enter).1.er=0/\(rx st.enter).1.is 4 [44]=true then _ else ((rx st.enter).1,[(rx st.enter).2])).1=st.enter;rw[if_neg (by rw[q1];exact λh=>he3 h.1)];exact q1
    have q3:(zbG rx st.enter).1.must 4 [41]=st.enter:=(by rw[q2,hE];exact St.fail_must _ (by decide) (by decide));rw[q3,zd0 h16]
   rw[hc] at HAt;generalize zbG rx st.enter=A at *;go_enter func189,ntmps189;go_wp2_with fail;refine Eq.mpr (congrArg (λz=>xK 85 _ z _) (show _=zee w pb t.s t.a from rfl)) ?_;refine HAt.o.mono ?_;rintro e w' ⟨rfl,rfl⟩;generalize zee w pb t.s t.a=w0 at *;go_wp2_with fail;refine (zdz _ _ zol S pb st p w0 HI (by rw[Hk4];decide) HL4 (λe w'=>e=.returned (.tuple #[])/\Box w' (w.heap.size+1+1+1) 182 (xP (w.heap.size+1+1))/\zaW S pb w.heap.size w ((A.1.must 4 [41]).leave.put ⟨zef,t.a,t.a,A.2,t.s,0⟩).1 ((A.1.must 4 [41]).leave.put ⟨zef,t.a,t.a,A.2,t.s,0⟩).2 (.returned (xP (w.heap.size+1+1))) w') ?_ ?_).mono ?_
   . intro hlt16 w2 hL2 hF2;have T1:=HF4;refine (HC.o w2 (T1.bp.fr hF2 (by omega)) (T1.be.fr hF2 (by omega)) ((hF2.block _ (ze T1.eb) (by omega)).trans T1.eb) hL2).mono ?_;rintro e w3 ⟨rfl,vs,av,hL3,hb3,hown3,hlen3,hT3,hF3⟩;refine⟨rfl,A.1.must 4 [41],hL3,by rw[St.must_op,HgO,St.enter_op];omega,by rw[St.must_op,HgO,St.enter_op];omega,?_⟩;intro w4 HL4 hF4;have hFw:Fr (·=pb) w w4:=(Fr.drop2 (T1.fr.trans hF2) hF3 (by omega)).trans hF4;have hz02:w0.heap.size<=w2.heap.size:=hF2.size;have hz0:=T1.size;refine⟨rfl,Box.fr (Fr.keep2 hF3 (T1.be.fr hF2 (by omega)) (by omega) (by omega)) hF4 (by omega),_,rfl,HL4.put _,?_,hFw⟩;intro he';have hLL:(A.1.must 4 [41]).leave.L=A.1.L:=St.must_L _ _ _
     show TR w4 w.heap.size ((A.1.must 4 [41]).leave.L++[⟨zef,t.a,t.a,A.2,t.s,0⟩]) (A.1.must 4 [41]).leave.L.length _;rw[hLL];have hown4:=zR (zi hown3 (λk h1 h2 _=>hF4.block k h2 (by omega))) (by omega:w.heap.size<=w2.heap.size);refine TR.mk A.1.L.length ⟨zef,t.a,t.a,A.2,t.s,0⟩ _ av vs (by simp) (by omega) ?_ hown4 hlen3 ?_
     . show _=some (Obj.cells #[xI (zag zef.toList 0:Nat),xI t.a,.string t.s,xI t.a,xI (zbF zef.toList 0:Nat),av] 226 (0,0));rw[zrg,zbK];exact (hF4.block _ (ze hb3) (by omega)).trans hb3
     . intro i y u hi hu;exact (((hT3.out he' i y u hi hu).fr hF4 (λk h1 _ h2=>by omega)).down (by omega)).more _
   . intro h16 w3 hL3 hF3;rw[HD.o h16];exact⟨rfl,HF4.be.fr hF3 (by omega),_,rfl,hL3.put _,λhe'=>absurd he' (St.fail_er st (by decide)),HF4.fr.trans hF3⟩
   . rintro e w4 ⟨rfl,hb4,HQ⟩;obtain⟨f0,ff,fz⟩:=zu hb4;go_wp2_with fail;go_ret;exact HQ
 | false => have hM:zao rx t st=(st.fail 2 st.t.a,0):=(by unfold zao;rw[if_neg (by rw[hc];simp)]);rw[hM];rw[hc] at HAt;go_enter func189,ntmps189;go_wp2_with fail;refine Eq.mpr (congrArg (λz=>xK 85 _ z _) (show _=zee w pb t.s t.a from rfl)) ?_;refine HAt.o.mono ?_;rintro e w' ⟨rfl,rfl⟩;generalize zee w pb t.s t.a=w0 at *;go_wp2_with (go_at_call 87;refine (zc5 S pb st 2 (by decide) _ HL4).mono ?_;rintro e w1 ⟨rfl,HL1,HF1⟩;obtain⟨f0,ff,fz⟩:=zu (HF4.be.fr HF1 (by omega)));go_ret;exact⟨_,rfl,HL1,λhe'=>absurd he' (St.fail_er st (by decide)),HF4.fr.trans HF1⟩
theorem PL.unfail {S:Nat->Addr}{w:World}{pb:Nat}{st:St}{e a:Nat}(h:PL S w pb (st.fail e a))(he:st.er≠0)(hk:st.t.k=1):PL S w pb st:=by
 have hf:st.fail e a={ st with t:=⟨1,st.t.a,st.t.t,⟨#[]⟩,0⟩ }:=by unfold St.fail;rw[if_neg he]
 rw[hf] at h;refine⟨⟨λh1=>by omega,λh1=>by omega,λh1=>by omega⟩,?_,h.gl,h.pb⟩;have:=h.heap;unfold zgL at this ⊢;simp only[ck,cs,cn] at this ⊢;rw[hk];exact this
theorem zls (st:St)(hT:Tx st.src st.t):opM st [1,2]=if st.is 5 [116,114,117,101]=true then some 1 else if st.is 5 [102,97,108,115,101]=true then some 2 else none:=by obtain⟨_,_,_,_,_,_,_,_,_,_,_,_,_,_,_,_,e1,e2⟩:=wdl;simp only[opM,e1,e2];rw[zar hT (by decide),zar hT (by decide)]
theorem zrY (n:Nat):zag zcq.toList n=0:=by
 have:zcq.toList=[110,117,109,98,101,114]:=by decide +kernel
 rw[this];rfl
theorem zrW (n:Nat):zbF zcq.toList n=n:=by
 have:zcq.toList=[110,117,109,98,101,114]:=by decide +kernel
 rw[this];rfl
theorem zrx:zag zcb.toList 1=1:=by decide +kernel
theorem zqG:zag zcb.toList 0=2:=by decide +kernel
theorem zrs (n:Nat):zbF zcb.toList n=0:=by
 have:zcb.toList=[98,111,111,108]:=by decide +kernel
 rw[this];rfl
theorem zqA:(⟨#[105,102]⟩:ByteArray).toList=[105,102]:=by decide +kernel
theorem zkr:(⟨#[109,101,114,103,101]⟩:ByteArray).toList=[109,101,114,103,101]:=by decide +kernel
theorem ziT {t:Tk}:(((ck t:Nat):Int)==4)=(t.k==3):=by
 by_cases h:t.k=3
 . simp[ck,h]
 . have:ck t≠4:=by unfold ck;(repeat' split) <;> first|decide|(exfalso;omega)
   have h2:(t.k==3)=false:=(by simp[h]);rw[h2];simp;omega
theorem zlD (M:Fn)(S:Nat->Addr)(pb:Nat)(st:St)(p:Nat)(w:World)(HI:Inv p st)(Hk:st.t.k=3)(hM:M st=zdP zcq st.t.n st)(HR:PL S w pb st) :
 xK 242 #[xP pb] w (zaW S pb w.heap.size w (M st).1 (M st).2):=by
 rw[hM];obtain⟨q0,q1,q2,q3,q4,q5,q6⟩:=HR.cells;have hck:=ziT (t:=st.t);rw[show (st.t.k==3)=true by simp[Hk]] at hck;have Hcn:cn st.t=st.t.n:=by simp[cn,Hk]
 have hlt:=HR.lt;have hne:¬w.heap.size=pb:=by omega
 have hfv:=zka;have HB:=za HI.toBad;have Hs:=za (zc8 HI.toBad (by omega:st.t.k≠1));clear hM;go_enter func242,ntmps242;go_wp2_with (go_at_call 208;refine (zb8 S pb st 0 _ HR).mono ?_;rintro e w' ⟨rfl,rfl⟩);refine (zb9 S pb st _ HB.o.ok (by rw[Hk];decide) (HR.alloc _)).mono ?_;rintro e w1 ⟨rfl,HL1,HF1⟩;rw[Hs.o] at HL1;have Hh1:=(HF1.block w.heap.size (Nat.lt_of_lt_of_eq (Nat.lt_succ_self _) (by simp)) hne).trans (zc w _);obtain⟨d0,d1,d2,d3,d4,d5,df,dz⟩:=zt Hh1;simp only[Tk.cval];go_wp2_with fail;go_ret;refine⟨some (xD w.heap.size 0),rfl,(HL1.setOther hlt _ _).put _,λ_=>TR.leaf (b:=w.heap.size) (ex:=⟨zcq,st.t.a,0,[],sE,st.t.n⟩) (Nat.le_refl _) ?_ rfl,(((Fr.refl _ w).alloc _).trans HF1).setNew (Nat.le_refl _) _ _⟩
 show _=some (Obj.cells #[xI (zag zcq.toList st.t.n:Nat),xI st.t.a,.string ⟨#[]⟩,xI (0:Nat),xI (zbF zcq.toList st.t.n:Nat),.slice none 0 0] 226 (0,0));rw[zrY,zrW,<- Hcn];exact zh _ _ _ _ Hh1
theorem zil (M:Fn)(n kk:Nat)(S:Nat->Addr)(pb:Nat)(st:St)(p:Nat)(w:World)(hI:Inv p st)(Hk:st.t.k=5)(hop:opM st [1,2]=some kk)(Hkk:zag zcb.toList n=kk)(hM:M st=zdP zcb n st)(HR:PL S w pb st) :
 xK 242 #[xP pb] w (zaW S pb w.heap.size w (M st).1 (M st).2):=by
 rw[hM];obtain⟨q0,q1,q2,q3,q4,q5,q6⟩:=HR.cells;have hck:=ziT (t:=st.t);rw[show (st.t.k==3)=false by simp[Hk]] at hck;have hlt:=HR.lt;have hne:¬w.heap.size+1=pb:=by omega
 have HOp:=za (zbd S pb st _ 2 [1,2] rfl (by decide) (w.alloc (.cells #[xI 1,xI 2] 223)) (zcD _ _ _ _ rfl) (by decide) hI.ok.tk (HR.alloc _));rw[hop] at HOp;simp only[opV] at HOp;have HB:=za hI.toBad;have Hs:=za (zc8 hI.toBad (by omega:st.t.k≠1));clear hI hM hop;go_enter func242,ntmps242;go_wp2_with (first|(go_at_call 226;refine HOp.o.mono ?_;rintro e w' ⟨rfl,rfl⟩)|(go_at_call 208;refine (zb8 S pb st kk _ (HR.alloc _)).mono ?_;rintro e w' ⟨rfl,rfl⟩)|(go_at_call 186;refine (zb9 S pb st _ HB.o.ok (by rw[Hk];decide) ((HR.alloc _).alloc _)).mono ?_;rintro e w1 ⟨rfl,HL1,HF1⟩;rw[Hs.o] at HL1));go_ret;have hh1:xH w1 (w.heap.size+1) #[xI kk,xI st.t.a,.string ⟨#[]⟩,xI 0,xI 0,.slice none 0 0] 226:=by refine (HF1.block (w.heap.size+1) (by simp) hne).trans ?_;have:=zc (w.alloc (.cells #[xI 1,xI 2] 223)) (.cells #[xI kk,xI st.t.a,.string ⟨#[]⟩,xI 0,xI 0,.slice none 0 0] 226);simpa using this
 refine⟨some (xD (w.heap.size+1) 0),rfl,HL1.put _,λ_=>TR.leaf (b:=w.heap.size+1) (ex:=⟨zcb,st.t.a,0,[],sE,n⟩) (by omega) ?_ rfl,((((Fr.refl _ w).alloc _).alloc _).trans HF1)⟩
 show _=some (Obj.cells #[xI (zag zcb.toList n:Nat),xI st.t.a,.string ⟨#[]⟩,xI (0:Nat),xI (zbF zcb.toList n:Nat),.slice none 0 0] 226 (0,0));rw[Hkk,zrs];exact hh1
theorem hn3 {t:Tk}(h3:t.k≠3):(((ck t:Nat):Int)==4)=false:=by rw[ziT];simp[h3]
theorem zeN {st:St}{k:Nat}{l:List UInt8}(h:st.t.k≠k):st.is k l=false:=by
 unfold St.is;have:(st.t.k==k)=false:=by simp[h]
 rw[this];rfl
theorem zdG (f:FuncId)(M:Fn)(b1 b2 b3:Bool)(S:Nat->Addr)(pb:Nat)(st:St)(p:Nat)(w:World)(hI:Inv p st)(hk:st.t.k≠3)(hop:opM st [1,2]=none)(hR:PL S w pb st)(hb1:st.is 4 [40]=b1)(hb2:st.is 5 [105,102]=b2)(hb3:st.is 5 [109,101,114,103,101]=b3)
 (hf:(b1=true/\f=244)∨(b1=false/\b2=true/\f=245)∨(b1=false/\b2=false/\b3=true/\f=246))
 (h:∀w1,PL S w1 pb st->xK f #[xP pb] w1 (zaW S pb w1.heap.size w1 (M st).1 (M st).2)) :
 xK 242 #[xP pb] w (zaW S pb w.heap.size w (M st).1 (M st).2):=by
 obtain⟨q0,q1,q2,q3,q4,q5,q6⟩:=hR.cells;have hck:=hn3 hk;have hlt:=hR.lt;have HOp:=za (zbd S pb st _ 2 [1,2] rfl (by decide) (w.alloc (.cells #[xI 1,xI 2] 223)) (zcD _ _ _ _ rfl) (by decide) hI.ok.tk (hR.alloc _));rw[hop] at HOp;simp only[opV] at HOp;have HA1:=za (zaP S pb st ⟨#[40]⟩ _ zfn (w.alloc (.cells #[xI 1,xI 2] 223)) hI.ok.tk (hR.alloc _));have HA2:=za (zaP S pb st ⟨#[105,102]⟩ _ zqA (w.alloc (.cells #[xI 1,xI 2] 223)) hI.ok.tk (hR.alloc _));have HA3:=za (zaP S pb st ⟨#[109,101,114,103,101]⟩ _ zkr (w.alloc (.cells #[xI 1,xI 2] 223)) hI.ok.tk (hR.alloc _));rw[zaB hR.tx (by decide),hb1] at HA1;rw[zar hR.tx (by decide),hb2] at HA2;rw[zar hR.tx (by decide),hb3] at HA3;have H1:=za (h (w.alloc (.cells #[xI 1,xI 2] 223)) (hR.alloc _));generalize M st=R at *;rcases hf with ⟨rfl,rfl⟩|⟨rfl,rfl,rfl⟩|⟨rfl,rfl,rfl,rfl⟩
 all_goals
  go_enter func242,ntmps242;go_wp2_with (first|(go_at_call 226;refine HOp.o.mono ?_;rintro e w' ⟨rfl,rfl⟩)|(go_at_call 85;first|(with_reducible refine HA1.o.mono ?_;rintro e w' ⟨rfl,rfl⟩)|(with_reducible refine HA2.o.mono ?_;rintro e w' ⟨rfl,rfl⟩)|(with_reducible refine HA3.o.mono ?_;rintro e w' ⟨rfl,rfl⟩)));refine H1.o.mono ?_;rintro e w1 h1;obtain⟨a,rfl,h2,h3,h4⟩:=h1.alloc (zaF _ _);go_wp2_with fail;go_ret;exact⟨a,rfl,h2,h3,h4⟩
theorem ze8 (S:Nat->Addr)(pb:Nat)(st:St)(p:Nat)(w:World)(hI:Inv p st)(hk:st.t.k≠3)(hop:opM st [1,2]=none)(HR:PL S w pb st)(hb1:st.is 4 [40]=false)(hb2:st.is 5 [105,102]=false)(hb3:st.is 5 [109,101,114,103,101]=false) :
 xK 242 #[xP pb] w (zaW S pb w.heap.size w (st.fail 2 st.t.a) 0):=by
 obtain⟨q0,q1,q2,q3,q4,q5,q6⟩:=HR.cells;have hck:=hn3 hk;have hlt:=HR.lt;have hg8:8<w.heap.size:=Nat.lt_of_lt_of_le (by decide) HR.gl.size;have hsyn:xC w 8 0 (.iface 324 (.pointer (some (S 2)))):=HR.gl.syn;have HOp:=za (zbd S pb st _ 2 [1,2] rfl (by decide) (w.alloc (.cells #[xI 1,xI 2] 223)) (zcD _ _ _ _ rfl) (by decide) hI.ok.tk (HR.alloc _));rw[hop] at HOp;simp only[opV] at HOp;have HA1:=za (zaP S pb st ⟨#[40]⟩ _ zfn (w.alloc (.cells #[xI 1,xI 2] 223)) hI.ok.tk (HR.alloc _));have HA2:=za (zaP S pb st ⟨#[105,102]⟩ _ zqA (w.alloc (.cells #[xI 1,xI 2] 223)) hI.ok.tk (HR.alloc _));have HA3:=za (zaP S pb st ⟨#[109,101,114,103,101]⟩ _ zkr (w.alloc (.cells #[xI 1,xI 2] 223)) hI.ok.tk (HR.alloc _));rw[zaB HR.tx (by decide),hb1] at HA1;rw[zar HR.tx (by decide),hb2] at HA2;rw[zar HR.tx (by decide),hb3] at HA3;go_enter func242,ntmps242;go_wp2_with (first|(go_at_call 208;refine (zb8 S pb (st.fail 2 st.t.a) 0 _ HL1).mono ?_;rintro e w' ⟨rfl,rfl⟩)|(go_at_call 226;refine HOp.o.mono ?_;rintro e w' ⟨rfl,rfl⟩)|(go_at_call 85;first|(with_reducible refine HA1.o.mono ?_;rintro e w' ⟨rfl,rfl⟩)|(with_reducible refine HA2.o.mono ?_;rintro e w' ⟨rfl,rfl⟩)|(with_reducible refine HA3.o.mono ?_;rintro e w' ⟨rfl,rfl⟩))|(go_at_call 87;refine (zc5 S pb st 2 (by decide) _ (HR.alloc _)).mono ?_;rintro e w1 ⟨rfl,HL1,HF1⟩));go_ret;exact⟨_,rfl,HL1.alloc _,λhe'=>absurd he' (St.fail_er st (by decide)),(((Fr.refl _ w).alloc _).trans HF1).alloc _⟩
theorem zhV {st:St}(hT:Tx st.src st.t)(h1:st.is 5 [116,114,117,101]=false)(h2:st.is 5 [102,97,108,115,101]=false):opM st [1,2]=none:=by rw[zls st hT,h1,h2];rfl
theorem zj9 {d:Nat}{rx ra:Fn}(hX:zX d 190 rx)(gX:zv d rx)(hS:zX d 250 (zch ra))(gA:zv d ra):ziL (d+1) (zap rx ra):=by
 intro S pb st p w hI hk2 ho hR;by_cases he:st.er=0
 . have h0:∀M:Fn,(M st=zap rx ra st)->zap rx ra st=M st:=λ_ h=>h.symm;by_cases h3:st.t.k=3
   . exact zlD (zap rx ra) S pb st p w hI h3 (by unfold zap;rw[if_neg (by simp[he]),if_pos h3]) hR
   have hM3:zap rx ra st=if st.is 4 [40]=true then zfQ rx st else if st.is 5 [116,114,117,101]=true then zdP zcb 1 st else if st.is 5 [102,97,108,115,101]=true then zdP zcb 0 st else if st.is 5 [105,102]=true then zdx rx st else if st.is 5 [109,101,114,103,101]=true then zeE ra st else (st.fail 2 st.t.a,0):=(by unfold zap;rw[if_neg (by simp[he]),if_neg h3,if_neg hk2]);cases hp:st.is 4 [40] with
   | true => have hk4:st.t.k=4:=Inv.is_k hp;rw[if_pos hp] at hM3;refine zdG 244 (zap rx ra) _ _ _ S pb st p w hI h3 (zhV hR.tx (zeN (by omega)) (zeN (by omega))) hR hp rfl rfl (Or.inl ⟨rfl,rfl⟩) ?_;intro w1 h1;rw[hM3];exact zme hX gX S pb st p w1 hI (by omega) ho h1
   | false =>
     rw[hp,if_neg (by simp)] at hM3;cases ht:st.is 5 [116,114,117,101] with
     | true => rw[ht,if_pos rfl] at hM3;exact zil (zap rx ra) 1 1 S pb st p w hI (Inv.is_k ht) (by rw[zls st hR.tx,ht];rfl) zrx hM3 hR
     | false =>
       rw[ht,if_neg (by simp)] at hM3;cases hf:st.is 5 [102,97,108,115,101] with
       | true => rw[hf,if_pos rfl] at hM3;exact zil (zap rx ra) 0 2 S pb st p w hI (Inv.is_k hf) (by rw[zls st hR.tx,ht,hf];rfl) zqG hM3 hR
       | false =>
         rw[hf,if_neg (by simp)] at hM3;have hop:=zhV hR.tx ht hf;cases hi:st.is 5 [105,102] with
         | true => have hk5:st.t.k=5:=Inv.is_k hi;rw[hi,if_pos rfl] at hM3;refine zdG 245 (zap rx ra) _ _ _ S pb st p w hI h3 hop hR hp hi rfl (Or.inr (Or.inl ⟨rfl,rfl,rfl⟩)) ?_;intro w1 h1;rw[hM3];exact zkZ hX gX S pb st p w1 hI (by omega) ho h1
         | false =>
           rw[hi,if_neg (by simp)] at hM3;cases hm:st.is 5 [109,101,114,103,101] with
           | true => have hk5:st.t.k=5:=Inv.is_k hm;rw[hm,if_pos rfl] at hM3;refine zdG 246 (zap rx ra) _ _ _ S pb st p w hI h3 hop hR hp hi hm (Or.inr (Or.inr ⟨rfl,rfl,rfl,rfl⟩)) ?_;intro w1 h1;rw[hM3];exact zmk hS gA S pb st p w1 hI (by omega) ho h1
           | false => rw[hm,if_neg (by simp)] at hM3;rw[hM3];exact ze8 S pb st p w hI h3 hop hR hp hi hm
 . have hk1:=hI.bad he;have hM:zap rx ra st=(st,0):=by unfold zap;rw[if_pos he]
   rw[hM];refine (ze8 S pb st p w hI (by omega) (zhV hR.tx (zeN (by omega)) (zeN (by omega))) hR (zeN (by omega)) (zeN (by omega)) (zeN (by omega))).mono ?_;rintro e w1 ⟨a,h1,h2,_,h4⟩;exact⟨a,h1,h2.unfail he hk1,λh=>absurd h he,h4⟩
theorem znu:∀d,zX d 190 (lev d).ex/\zX d 238 (lev d).un/\ziL d (lev d).at'/\zdI d (if d=0 then (lev 0).ex else (lev (d-1)).ex):=by
 intro d;induction d with
 | zero =>
   have h:∀(f:FuncId) (M:Fn),zX 0 f M:=λf M S pb st p w hI ho _=>by have:=hI.op1;omega
   exact⟨h _ _,h _ _,λS pb st p w hI _ ho _=>by have:=hI.op1;omega,λS pb st p w t hI ho _ _=>by have:=hI.op1;omega⟩
 | succ d ih => obtain⟨g1,g2,g3⟩:=zgP d;obtain⟨h1,h2,h3,_⟩:=ih;have hK:=zof h1 g1;have hN:=zj9 h1 g1 (znY h3) g3;have ga:=zh7 g1 g3;have ha:=znf hN hK;have gs:=zfY ga;have hs:=zjM ha ga;have gu:=zhu g2 gs;have hu:=zm9 h2 g2 hs;have r3:=zkb hu gu;have s3:=zcF (lv:=3) gu;have r2:=zp2 r3 s3;have s2:=zcF (lv:=2) s3;have tt:=zne r2 s2;have st:=zh6 s2;have r1:=znl tt st;have s1:=zcF (lv:=1) st;have r0:=zlW r1 s1;have s0:=zcF (lv:=0) s1;exact⟨zoz h1 g1 r0 s0,hu,hN,hK⟩
end
section
variable {st:St}
def za4 (st:St)(n:Nat):St:=z9 ((st.decl0 n).name.must 4 [58])
theorem zfH (S:Nat->Addr)(pb:Nat)(st:St)(w:World)(nb:Nat)(x:Option Addr)(n c:Nat)(hB:Bad st)(hn:n<=100)(hnb:nb<w.heap.size)(hc:xC w nb 2 (.slice x n c))(hR:PL S w pb st) :
 xK 187 #[xP pb,xP nb] w λe w'=>∃(ns:ByteArray) (na ty:Nat),e=.returned (.agg #[.string ns,xI na,xI ty,xI 0,xI 0,.string ⟨#[]⟩,xI 0])/\Hid (((st.decl0 n).t.k=2->ns=(st.decl0 n).t.s/\na=(st.decl0 n).t.a)/\ty=if ((st.decl0 n).name.must 4 [58]).is 5 zbq=true then 1 else 0)/\PL S w' pb (za4 st n)/\Fr (·=pb) w w':=by
 refine (zjk S pb st w nb x n c hB hn hnb hc hR).mono ?_;rintro e w1 ⟨ns,na,h1,h2,h3,h4⟩;exact⟨ns,na,_,h1,⟨h2,rfl⟩,h3,h4⟩
theorem Bad.type (h:Bad st):Bad (z9 st):=by
 unfold z9;split
 . exact h.step
 . exact h.must _ _
theorem Bad.nott (h:Bad st):Bad (za3 st):=by
 unfold za3;split
 . exact h.step
 . exact h
theorem Bad.decl0 (h:Bad st)(n:Nat):Bad (st.decl0 n):=by
 unfold St.decl0;split
 . exact h.fail (by omega)
 . exact h
theorem Bad.declS (h:Bad st)(n:Nat):Bad (za4 st n):=((h.decl0 n).name.must _ _).type
def onM (s:St):St:=if s.is 5 kOn=true then (za3 s.step).name else s
def zkT (s:St)(sg pl:Nat)(os:ByteArray)(oa:Nat):Prop :=
 (s.is 5 kOn=true->sg=(if s.step.is 5 zet=true then 2 else 1)/\pl=s.t.a/\((za3 s.step).t.k=2->os=(za3 s.step).t.s/\oa=(za3 s.step).t.a))/\(s.is 5 kOn=false->sg=0/\pl=0/\os=⟨#[]⟩/\oa=0)
theorem Tryz.infoVar:(prog.info? 134).map (λi=>(i.zero,i.size,i.bytes))=some (some (.agg #[.string ⟨#[]⟩,xI 0,xI 0,xI 0,xI 0,.string ⟨#[]⟩,xI 0]),7,72):=by kernel_rfl
theorem zoU {s t:ByteArray}{a b c d e:Int}:∀u∈[Value.string s,xI a,xI b,xI c,xI d,.string t,xI e],u.oneCell'=true:=by intro u hu;simp at hu;rcases hu with rfl|rfl|rfl|rfl|rfl|rfl|rfl <;> rfl
def zkn (S:Nat->Addr)(pb nb B:Nat)(st:St)(w:World)(c0 c1 c3 c4 c5 vs:Value)(n:Nat)(xs:List Value)(e:Ending)(w':World):Prop :=
 ∃(ns os:ByteArray) (na ty sg pl oa:Nat) (v':Value),e=.returned (.tuple #[])/\PL S w' pb ((onM (za4 st n)).must 4 [59])/\w'.heap[nb]?=some (.cells #[c0,c1,v',c3,c4,c5] 121 (0,0)) /\
    w'.ownsRow B 134 7 v' (n+1) (xs++[.string ns,xI na,xI ty,xI sg,xI pl,.string os,xI oa])/\Hid (((st.decl0 n).t.k=2->ns=(st.decl0 n).t.s/\na=(st.decl0 n).t.a)/\ty=if ((st.decl0 n).name.must 4 [58]).is 5 zbq=true then 1 else 0)/\Hid (zkT (za4 st n) sg pl os oa) /\
    Fr (λk=>k=pb∨k=nb∨vs.ownBlock=some k) w w'/\Hid (∀k,v'.ownBlock=some k->vs.ownBlock=some k∨w.heap.size<=k)
theorem zkq {S:Nat->Addr}{pb nb B:Nat}{w w2 w9:World}{c0 c1 c3 c4 c5 vs v':Value}{n:Nat}{xs:List Value}{ns os:ByteArray}{na ty sg pl oa:Nat}{X:Obj}
 (h1:Hid (((st.decl0 n).t.k=2->ns=(st.decl0 n).t.s/\na=(st.decl0 n).t.a)/\ty=if ((st.decl0 n).name.must 4 [58]).is 5 zbq=true then 1 else 0)) (h2:zkT (za4 st n) sg pl os oa) (h3:PL S w9 pb ((onM (za4 st n)).must 4 [59])) (hnp:pb<nb) (h4:xH w9 nb #[c0,c1,vs,c3,c4,c5] 121)
 (h5:w9.ownsRow B 134 7 v' (n+1) (xs++[.string ns,xI na,xI ty,xI sg,xI pl,.string os,xI oa])) (h6:∀k,v'.ownBlock=some k->vs.ownBlock=some k∨(w2.alloc X).drew.heap.size<=k) (hBn:nb<B) (_hBw:B<=w.heap.size) (h7:Fr (·=pb) w w2) (h8:Fr (λk=>vs.ownBlock=some k) (w2.alloc X) w9) :
 zkn S pb nb B st w c0 c1 c3 c4 c5 vs n xs (.returned (.tuple #[])) (w9.setCell (xD nb 2) v'):=by
 have hz:=h7.size;refine⟨ns,os,na,ty,sg,pl,oa,v',rfl,h3.setOther hnp _ _,zh _ _ _ _ h4,zi h5 (λk h _ _=>zr (by omega) rfl),h1,h2,?_,?_⟩
 . have g1:Fr (λk=>k=pb∨k=nb∨vs.ownBlock=some k) w (w2.alloc X):=(h7.mono (λ_ _ h=>Or.inl h)).alloc X;exact (g1.trans' h8 (λ_ _ h=>Or.inr (Or.inr h))).setCell (Or.inl (Or.inr (Or.inl rfl))) _
 . intro k hk;rcases h6 k hk with h|h
   . exact Or.inl h
   . right;have:(w2.alloc X).drew.heap.size=w2.heap.size+1:=by show (w2.alloc X).heap.size=_;simp
     omega
theorem zm1 (S:Nat->Addr)(pb nb B:Nat)(st:St)(w:World)(c0 c1 c3 c4 c5 vs:Value)(n:Nat)(xs:List Value)(hB:Bad st)(hn:n<=50)(hR:PL S w pb st)(hblk:xH w nb #[c0,c1,vs,c3,c4,c5] 121)(hown:w.ownsRow B 134 7 vs n xs)(hnp:pb<nb)(hBn:nb<B)(hBw:B<=w.heap.size) :
 xK 154 #[xP pb,xP nb] w (zkn S pb nb B st w c0 c1 c3 c4 c5 vs n xs):=by
 obtain⟨x,cp,hvs⟩:∃x cp,vs=.slice x n cp:=by
  rcases hown.2 with ⟨h1,h2⟩|⟨g,cap,cur,h1,_⟩
  . exact⟨none,0,by rw[h1,h2]⟩
  . exact⟨_,cap,h1⟩
 obtain⟨q0,q1,q2,q3,q4,q5,qf,qz⟩:=zt hblk;have hlt:=hR.lt;have HR:=za hR;have HB:=za hB;rw[hvs] at q2;have HD:=za (zfH S pb st w nb x n cp hB (by omega) qz q2 hR);have Hown:=za hown;have Hblk:=za hblk;have HBs:=za (hB.declS n);have Hvs:=za hvs;obtain⟨s3,hs3⟩:∃s3,za4 st n=s3:=⟨_,rfl⟩;rw[hs3] at HD HBs;have Hs3:=za hs3;obtain⟨i0,hi,hi0,hi1,hi2⟩:=info_parts Tryz.infoVar;have mx:n+1<=maxLen:=by unfold maxLen;omega
 have by':(n+1)*72<=140737488355328:=by omega
 clear hR hB hown hblk hs3 q0 q1 q2 q3 q4 q5 qf hvs;cases hb:s3.is 5 kOn with
 | false =>
   have hE:onM s3=s3:=(by unfold onM;rw[if_neg (by rw[hb];simp)]);have HE0:=za hE;have Hb:=za hb;clear hb hE;go_enter func154,ntmps154;go_wp2_with fail;refine HD.o.mono ?_;rintro e w1 ⟨ns,na,ty,rfl,HK1,hL1,hF1⟩;have hz1:=hF1.size;have hlt1:=hL1.lt;have hh1:=(hF1.block nb qz (by omega)).trans Hblk.o;have Hh1:=za hh1;have HA:=za (zaP S pb s3 ⟨#[111,110]⟩ _ zq9 (w1.alloc (.cells #[.string ns,xI na,xI ty,xI 0,xI 0,.string ⟨#[]⟩,xI 0] 134)) HBs.o.ok.tk (hL1.alloc _));rw[zar hL1.tx (by decide),Hb.o] at HA;have HE:=za (zP S pb s3 ⟨#[59]⟩ _ zl1 (w1.alloc (.cells #[.string ns,xI na,xI ty,xI 0,xI 0,.string ⟨#[]⟩,xI 0] 134)) HBs.o (hL1.alloc _));rw[zan hL1.tx (by decide)] at HE;have HF1:=za hF1;clear hL1 hF1 hh1;go_wp2_with (first|(go_at_call 85;refine HA.o.mono ?_;rintro e w' ⟨rfl,rfl⟩)|(go_at_call 150;refine HE.o.mono ?_;rintro e w2 ⟨rfl,hL2,hF2⟩;have hz2:=hF2.size;have hv2:=(hF2.block w1.heap.size (by rw[zsb];omega) (by omega)).trans (zc w1 _);have hn2:=(hF2.block nb (by rw[zsb];omega) (by omega)).trans ((Below.heap_alloc _ _ _ (by omega)).trans Hh1.o);obtain⟨a0,a1,a2,a3,a4,a5,a6,af,az⟩:=zbZ hv2;obtain⟨q0,q1,q2,q3,q4,q5,qf,qz2⟩:=zt hn2;have Hn2:=za hn2;have Hv2:=za hv2;have HL2:=za hL2;have HF2:=za hF2;clear hL2 hF2 hv2 hn2));have Hown2:=za (zi Hown.o (λk h1 h2 _=>(HF2.o.block k (by rw[zsb];omega) (by omega)).trans ((Below.heap_alloc _ _ _ (by omega)).trans (HF1.o.block k h2 (by omega)))));have hBw2:B<=w2.heap.size:=(by rw[zsb] at hz2;omega);clear HA HE HD a0 a1 a2 a3 a4 a5 a6 af az;obtain⟨a0,a1,a2,a3,a4,a5,a6,af,az⟩:=zbZ Hv2.o
   go_region_law (
    refine zJ _ rfl (.tmp 19) (.tmp 21) 118 rfl B 134 i0 _ 7 72 underlying118 hi hi0 hi1 hi2 rfl (by decide) vs n xs rfl (zD (Hown2.o) _) (xD w2.heap.size 0) 1 1 [.string ns,xI na,xI ty,xI 0,xI 0,.string ⟨#[]⟩,xI 0] rfl rfl (zN (zc w2 _) rfl) zoU mx by' (by simp;omega) ?_;intro v' w9 hown9 hgrow hnew;obtain⟨g9,cap9,rfl,hg9⟩:=zM hown9 (by omega);have hF9:=(Fr.of_grown hgrow).undrew;have hb9:∀k,k<B->w9.heap[k]?=w2.heap[k]?:=(λk hk=>(hF9.block k (by simp;omega) (λh=>by have:=(Hown2.o.lt k h).1;omega)).trans (Below.heap_alloc _ _ _ (by omega)));have Hn9:=za ((hb9 nb hBn).trans Hn2.o);obtain⟨q0,q1,q2,q3,q4,q5,qf,qz2⟩:=zt Hn9.o;have HL9:=za (PL.fr (HL2.o.alloc _) hF9 (λk hk=>by have:=(Hown2.o.lt k hk).1;omega));have HF9:=za hF9;have Hown9:=za hown9;have Hnew9:=za hnew;clear hown9 hgrow hnew hF9 hb9)
   all_goals go_wp2_with fail
   all_goals go_end0
   all_goals exact zkq HK1 (by rw[Hs3.o];exact⟨λh=>(by rw[Hb.o] at h;cases h),λ_=>⟨rfl,rfl,rfl,rfl⟩⟩) (by rw[Hs3.o,HE0.o];exact HL9.o) hnp Hn9.o Hown9.o Hnew9.o hBn (by omega) (HF1.o.trans ((Fr.refl _ w1).alloc _ |>.trans HF2.o)) HF9.o
 | true =>
   have hE:onM s3=(za3 s3.step).name:=(by unfold onM;rw[if_pos hb]);have HE0:=za hE;have Hb:=za hb;have hk5:s3.t.k=5:=Inv.is_k hb;have HOn:=za (λw1 h=>zqH S pb s3 w1 HBs.o hk5 h);have HBn:=za HBs.o.step.nott.name;clear hb hE hk5;go_enter func154,ntmps154;go_wp2_with fail;refine HD.o.mono ?_;rintro e w1 ⟨ns,na,ty,rfl,HK1,hL1,hF1⟩;have hz1:=hF1.size;have hlt1:=hL1.lt;have hh1:=(hF1.block nb qz (by omega)).trans Hblk.o;have Hh1:=za hh1;have HA:=za (zaP S pb s3 ⟨#[111,110]⟩ _ zq9 (w1.alloc (.cells #[.string ns,xI na,xI ty,xI 0,xI 0,.string ⟨#[]⟩,xI 0] 134)) HBs.o.ok.tk (hL1.alloc _));rw[zar hL1.tx (by decide),Hb.o] at HA;have HF1:=za hF1;have HL1:=za hL1;clear hL1 hF1 hh1;go_wp2_with (go_at_call 85;refine HA.o.mono ?_;rintro e w' ⟨rfl,rfl⟩);refine (HOn.o _ (HL1.o.alloc _)).mono ?_;rintro e w4 ⟨os,oa,rfl,hk4,hL4,hF4⟩;obtain⟨sg,hsg⟩:∃sg:Nat,(if s3.step.is 5 zet=true then 2 else 1)=sg:=⟨_,rfl⟩;have hsg':(if s3.step.is 5 zet=true then (2:Int) else 1)=(sg:Nat):=(by rw[<- hsg];split <;> rfl);rw[hsg'];have hz4:=hF4.size;have hv4:=(hF4.block w1.heap.size (by rw[zsb];omega) (by omega)).trans (zc w1 _);have hn4:=(hF4.block nb (by rw[zsb];omega) (by omega)).trans ((Below.heap_alloc _ _ _ (by omega)).trans Hh1.o);have HK4:Hid (zkT s3 sg s3.t.a os oa):=⟨λ_=>⟨hsg.symm,rfl,hk4⟩,λh=>(by rw[Hb.o] at h;cases h)⟩;obtain⟨a0,a1,a2,a3,a4,a5,a6,af,az⟩:=zbZ hv4;have Hn4:=za hn4;have Hv4:=za hv4;have HL4:=za hL4;have HF4:=za hF4;clear hL4 hF4 hv4 hn4 hsg hsg' hk4;go_wp2_with fail;have hL5:=(((HL4.o.setOther (b:=w1.heap.size) hlt1 3 (xI sg)).setOther (b:=w1.heap.size) hlt1 4 (xI s3.t.a)).setOther (b:=w1.heap.size) hlt1 5 (.string os)).setOther (b:=w1.heap.size) hlt1 6 (xI oa);have hv5:=zh _ w1.heap.size 6 (xI oa) (zh _ w1.heap.size 5 (.string os) (zh _ w1.heap.size 4 (xI s3.t.a) (zh w4 w1.heap.size 3 (xI sg) Hv4.o)));have hn5:=zr (b:=w1.heap.size) (i:=6) (v:=(xI oa)) (by omega:¬nb=w1.heap.size) (zr (b:=w1.heap.size) (i:=5) (v:=.string os) (by omega:¬nb=w1.heap.size) (zr (b:=w1.heap.size) (i:=4) (v:=(xI s3.t.a)) (by omega:¬nb=w1.heap.size) (zr (b:=w1.heap.size) (i:=3) (v:=(xI sg)) (by omega:¬nb=w1.heap.size) Hn4.o)));have hF5:Fr (·=pb) w ((((w4.setCell (xD w1.heap.size 3) (xI sg)).setCell (xD w1.heap.size 4) (xI s3.t.a)).setCell (xD w1.heap.size 5) (.string os)).setCell (xD w1.heap.size 6) (xI oa)):=(((((HF1.o.alloc _).trans HF4.o).setNew hz1 _ _).setNew hz1 _ _).setNew hz1 _ _).setNew hz1 _ _;obtain⟨w5,hw5⟩:∃w5,((((w4.setCell (xD w1.heap.size 3) (xI sg)).setCell (xD w1.heap.size 4) (xI s3.t.a)).setCell (xD w1.heap.size 5) (.string os)).setCell (xD w1.heap.size 6) (xI oa))=w5:=⟨_,rfl⟩;rw[hw5] at hL5 hv5 hn5 hF5;have HE:=za (zP S pb (za3 s3.step).name ⟨#[59]⟩ _ zl1 w5 HBn.o hL5);rw[zan hL5.tx (by decide)] at HE;refine Eq.mpr (congrArg (λz=>xK 150 _ z _) hw5) ?_;refine HE.o.mono ?_;rintro e w2 ⟨rfl,hL2,hF2⟩;have hz2:=hF2.size;have hz5:=hF5.size;have hv5':xH w5 w1.heap.size #[.string ns,xI na,xI ty,xI sg,xI s3.t.a,.string os,xI oa] 134:=hv5;have Hv2:=za ((hF2.block w1.heap.size (ze hv5') (by omega)).trans hv5');have Hn2:=za ((hF2.block nb (ze hn5) (by omega)).trans hn5);have HL2:=za hL2;have HF2:=za (hF5.trans hF2);have Hown2:=za (zi Hown.o (λk h1 h2 _=>(hF5.trans hF2).block k h2 (by omega)));have hBw2:B<=w2.heap.size:=(by omega);clear hL2 hF2 hL5 hv5 hn5 hF5 hw5 hv5' a0 a1 a2 a3 a4 a5 a6 af az HL4 HF4 Hv4 Hn4;go_wp2_with fail;clear HA HE HD HOn;obtain⟨a0,a1,a2,a3,a4,a5,a6,af,az⟩:=zbZ Hv2.o;obtain⟨q0,q1,q2,q3,q4,q5,qf,qz2⟩:=zt Hn2.o
   go_region_law (
    refine zJ _ rfl (.tmp 19) (.tmp 21) 118 rfl B 134 i0 _ 7 72 underlying118 hi hi0 hi1 hi2 rfl (by decide) vs n xs rfl (zD (Hown2.o) _) (xD w2.heap.size 0) 1 1 [.string ns,xI na,xI ty,xI sg,xI s3.t.a,.string os,xI oa] rfl rfl (zN (zc w2 _) rfl) zoU mx by' (by simp;omega) ?_;intro v' w9 hown9 hgrow hnew;obtain⟨g9,cap9,rfl,hg9⟩:=zM hown9 (by omega);have hF9:=(Fr.of_grown hgrow).undrew;have hb9:∀k,k<B->w9.heap[k]?=w2.heap[k]?:=(λk hk=>(hF9.block k (by simp;omega) (λh=>by have:=(Hown2.o.lt k h).1;omega)).trans (Below.heap_alloc _ _ _ (by omega)));have Hn9:=za ((hb9 nb hBn).trans Hn2.o);obtain⟨q0,q1,q2,q3,q4,q5,qf,qz2⟩:=zt Hn9.o;have HL9:=za (PL.fr (HL2.o.alloc _) hF9 (λk hk=>by have:=(Hown2.o.lt k hk).1;omega));have HF9:=za hF9;have Hown9:=za hown9;have Hnew9:=za hnew;clear hown9 hgrow hnew hF9 hb9)
   all_goals go_wp2_with fail
   all_goals go_end0
   all_goals exact zkq HK1 (by rw[Hs3.o];exact HK4.o) (by rw[Hs3.o,HE0.o];exact HL9.o) hnp Hn9.o Hown9.o Hnew9.o hBn (by omega) HF2.o HF9.o
end
end Go.Proofs.YtbicmofihhjgbaaGreatDoor
