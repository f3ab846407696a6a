/- Part 20 of the proof: CoeF CoeG CoeH CoeI CoeJ CoeK CoeL. -/
import Derived.Test.YtmfkofhgdjechaaGreatDoorK18
set_option maxRecDepth 100000
set_option maxHeartbeats 8000000
namespace Go.Proofs.YtmfkofhgdjechaaGreatDoor
open Go.Proofs.Tryz
open Go.RowKit
section
variable {st:St}
theorem TR.leaf {w:World}{B:Nat}{L:List Ex}{ex:Ex}{b:Nat}(hB:B<=b)
 (hb:xH w b #[xI (zag ex.op.toList ex.n:Nat),xI ex.a,.string ex.s,xI ex.nm,xI (zbF ex.op.toList ex.n:Nat),.slice none 0 0] 216)
 (hi:ex.ins=[]):TR w B (L++[ex]) L.length (xP b):=by
 refine TR.mk L.length ex b _ [] (by simp) hB hb (World.ownsRow_nil _ _ _ _) (by simp[hi]) ?_;intro i s t hs _;rw[hi] at hs;simp at hs
theorem zoZ:zag zfR.toList 0=3:=by decide +kernel
theorem zfU (s:ByteArray)(a:Nat)(w:World):xK 318 #[.agg #[.string s,xI a]] w λe w'=>e=.returned (xP (w.heap.size+1))/\xB w w'/\xH w' (w.heap.size+1) #[xI 3,xI a,.string s,xI a,xI 0,.slice none 0 0] 216:=by go_enter func318,ntmps318;go_wp2;go_ret;refine⟨rfl,((Below.refl _ _).alloc (Nat.le_refl _) _).alloc (by simp) _,?_⟩;have:=zc (w.alloc (.cells #[.string s,xI a] 144)) (.cells #[xI 3,xI a,.string s,xI a,xI 0,.slice none 0 0] 216);rw[zsb] at this;exact this
def ziL (d:Nat)(M:Fn):Prop:=∀(S:Nat->Addr) (pb:Nat) (st:St) (p:Nat) (w:World),Inv p st->st.t.k≠2->18<=st.op+d->PL S w pb st ->
 xK 317 #[xP pb] w (zaW S pb w.heap.size w (M st).1 (M st).2)
def zdI (d:Nat)(rx:Fn):Prop:=∀(S:Nat->Addr) (pb:Nat) (st:St) (p:Nat) (w:World) (t:Tk),Inv p st->18<=st.op+d->1<=st.t.a->PL S w pb st ->
 xK 193 #[xP pb,.agg #[.string t.s,xI t.a]] w (zaW S pb w.heap.size w (zao rx t st).1 (zao rx t st).2)
theorem zhL {t:Tk}:(((ck t:Nat):Int) != 3)=!(t.k==2):=by
 by_cases h:t.k=2
 . simp[ck,h]
 . have:ck t≠3:=by unfold ck;(repeat' split) <;> first|decide|(exfalso;omega)
   have h2:(t.k==2)=false:=(by simp[h]);rw[h2];simp;omega
theorem zkE (hk:st.t.k=2):st.name=st.step:=by unfold St.name;rw[if_pos hk]
theorem zgJ (hk:st.t.k=2):zcc st=.agg #[.string st.t.s,xI st.t.a]:=by unfold zcc;rw[if_pos hk]
theorem znY {d:Nat}{atm:Fn}(hU:ziL d atm):zX d 326 (zch atm):=by
 intro S pb st p w hI ho hR;obtain⟨q0,q1,q2,q3,q4,q5,q6⟩:=hR.cells;have hck:=zhL (t:=st.t);have hlt:=hR.lt;by_cases hk:st.t.k=2
 . have he:=hI.toBad.er (by omega);have hM:zch atm st=zjx st:=by unfold zch;rw[if_neg (by omega)]
   rw[hM];have hk2:(st.t.k==2)=true:=(by simp[hk]);rw[hk2] at hck;have HN:=za (zaZ S pb st w hI.toBad hR);rw[zkE hk,zgJ hk] at HN;clear hR hI hU hM hk hk2 he;go_enter func326,ntmps326;go_wp2_with (first|(go_at_call 318;refine (zfU _ _ _).mono ?_;rintro e w2 ⟨rfl,Hb2,Hh2⟩)|(go_at_call 135;refine HN.o.mono ?_;rintro e w1 ⟨rfl,HL1,HF1⟩));go_ret;have hz1:=HF1.size;refine⟨_,rfl,(HL1.below Hb2).put _,λ_=>TR.leaf (ex:=⟨zfR,st.t.a,st.t.a,[],st.t.s,0⟩) (by omega) ?_ rfl,HF1.belowed Hb2⟩
   show _=some (Obj.cells #[xI (zag zfR.toList 0:Nat),xI st.t.a,.string st.t.s,xI st.t.a,xI (zbF zfR.toList 0:Nat),.slice none 0 0] 216 (0,0));rw[zoZ,zbK];exact Hh2
 . have hM:zch atm st=atm st:=by unfold zch;rw[if_pos (Or.inr hk)]
   rw[hM];have hk2:(st.t.k==2)=false:=(by simp[hk]);rw[hk2] at hck;have H1:=za (hU S pb st p w hI hk ho hR);clear hR hI hU hM hk hk2;generalize atm st=R at *;go_enter func326,ntmps326;go_wp2_with (go_at_call 317;refine H1.o.mono ?_;rintro e w1 ⟨a1,rfl,H2,h3,H4⟩);go_ret;exact⟨a1,rfl,H2,h3,H4⟩
end
section
theorem zfn:(⟨#[40]⟩:ByteArray).toList=[40]:=by decide +kernel
theorem znf {d:Nat}{rx ra:Fn}(hU:ziL (d+1) (zap rx ra))(hK:zdI (d+1) rx):zX (d+1) 313 (zap rx ra):=by
 intro S pb st p w hI ho hR;obtain⟨q0,q1,q2,q3,q4,q5,q6⟩:=hR.cells;have hck:=zhL (t:=st.t);have hlt:=hR.lt;by_cases hk:st.t.k=2
 . have he:=hI.toBad.er (by omega);have hM:zap rx ra st=if st.step.is 4 [40]=true then zao rx st.t st.step else zjx st:=by unfold zap;rw[if_neg (by simp[he]),if_neg (by omega),if_pos hk]
   rw[hM];have hk2:(st.t.k==2)=true:=(by simp[hk]);rw[hk2] at hck;have e1:=Fwd.use hI he (by omega:2<=st.t.k);have hta:1<=st.step.t.a:=(by have h1:=hI.tok (by omega);have H2:=zV st.src st.t.t hI.ok.tt;rw[St.step_ok he];simp only;omega);have HN:=za (zaZ S pb st w hI.toBad hR);rw[zkE hk,zgJ hk] at HN;have HB1:=za e1.inv.toBad;cases Hc:st.step.is 4 [40] with
   | true => rw[if_pos rfl];have HK:=za (λw1 h1=>hK S pb st.step (p+1) w1 st.t e1.inv (by rw[St.step_op];exact ho) hta h1);generalize zao rx st.t st.step=R at *;go_enter func313,ntmps313;go_wp2_with (go_at_call 135;refine HN.o.mono ?_;rintro e w1 ⟨rfl,HL1,HF1⟩;have hz1:=HF1.size;have hlt1:=HL1.lt;have HA:=za (zaP S pb st.step ⟨#[40]⟩ _ zfn (w1.alloc (.cells #[.string st.t.s,xI st.t.a] 144)) HB1.o.ok.tk (HL1.alloc _));rw[zaB HL1.tx (by decide),Hc] at HA);go_wp2_with (first|(go_at_call 73;refine HA.o.mono ?_;rintro e w' ⟨rfl,rfl⟩)|(go_at_call 193;refine (HK.o _ (HL1.alloc _)).mono ?_;rintro e w2 H2;obtain⟨a2,rfl,K2,k3,K4⟩:=H2.alloc (zaF _ _)));go_ret;exact⟨a2,rfl,K2,λhe=>(k3.out he).down hz1,HF1.trans K4⟩
   | false =>
     rw[if_neg (by simp)];go_enter func313,ntmps313;go_wp2_with (go_at_call 135;refine HN.o.mono ?_;rintro e w1 ⟨rfl,HL1,HF1⟩;have hz1:=HF1.size;have hlt1:=HL1.lt;have HA:=za (zaP S pb st.step ⟨#[40]⟩ _ zfn (w1.alloc (.cells #[.string st.t.s,xI st.t.a] 144)) HB1.o.ok.tk (HL1.alloc _));rw[zaB HL1.tx (by decide),Hc] at HA);go_wp2_with (first|(go_at_call 73;refine HA.o.mono ?_;rintro e w' ⟨rfl,rfl⟩)|(go_at_call 318;refine (zfU _ _ _).mono ?_;rintro e w2 ⟨rfl,Hb2,Hh2⟩));go_ret;have hh:=Hh2;simp only[zsb] at hh;refine⟨some (xD (w1.heap.size+1+1) 0),rfl,((HL1.alloc _).below Hb2).put _,λ_=>TR.leaf (b:=w1.heap.size+1+1) (ex:=⟨zfR,st.t.a,st.t.a,[],st.t.s,0⟩) (by omega) ?_ rfl,(HF1.alloc _).belowed Hb2⟩
     show _=some (Obj.cells #[xI (zag zfR.toList 0:Nat),xI st.t.a,.string st.t.s,xI st.t.a,xI (zbF zfR.toList 0:Nat),.slice none 0 0] 216 (0,0));rw[zoZ,zbK];exact hh
 . have hk2:(st.t.k==2)=false:=by simp[hk]
   rw[hk2] at hck;have H1:=za (hU S pb st p w hI hk ho hR);generalize zap rx ra st=R at *;go_enter func313,ntmps313;go_wp2_with (go_at_call 317;refine H1.o.mono ?_;rintro e w1 ⟨a1,rfl,H2,h3,H4⟩);go_ret;exact⟨a1,rfl,H2,h3,H4⟩
theorem zpZ (st:St)(_hk:st.t.k<=5)(hT:Tx st.src st.t):opM st [7,8]=if zdi st=true then some (zag st.t.s.toList 0) else none:=by
 obtain⟨e7,e8,_⟩:=wdl;simp only[opM,e7,e8];rw[zar hT (by decide),zar hT (by decide)];unfold zdi;by_cases h1:st.is 5 [119,104,101,110]=true
 . have:st.t.s.toList=[119,104,101,110]:=by unfold St.is at h1;simp at h1;exact h1.2
   rw[h1,this,Bool.true_or,if_pos rfl,if_pos rfl];decide
 . by_cases h2:st.is 5 [119,104,101,110,111,116]=true
   . have:st.t.s.toList=[119,104,101,110,111,116]:=by unfold St.is at h2;simp at h2;exact h2.2
     have h1':st.is 5 [119,104,101,110]=false:=(by simpa using h1);rw[h1',h2,this];decide
   . simp[h1,h2]
theorem zjf (st:St):∃(ns:ByteArray) (na:Nat),zcc st=.agg #[.string ns,xI na]/\(st.t.k=2->ns=st.t.s/\na=st.t.a):=by
 by_cases h:st.t.k=2
 . exact⟨st.t.s,st.t.a,zgJ h,λ_=>⟨rfl,rfl⟩⟩
 . exact⟨⟨#[]⟩,0,by unfold zcc;rw[if_neg h];rfl,λh2=>absurd h2 h⟩
theorem zjU (k:Int)(s:ByteArray)(a n:Int)(w:World):(Instr.field 66 (.agg #[xI k,.string s,xI a,xI n]) 2).run prog w=.ok (xI a) w:=by kernel_rfl
theorem zka (k:Int)(s:ByteArray)(a n:Int)(w:World):(Instr.field 66 (.agg #[xI k,.string s,xI a,xI n]) 3).run prog w=.ok (xI n) w:=by kernel_rfl
theorem zjM {d:Nat}{atm:Fn}(hA:zX d 313 atm)(gA:zv d atm):zX d 310 (zfu atm):=by
 intro S pb st p w hI ho hR;have hlt:=hR.lt;have g1:=gA st p hI ho;have H1:=za (hA S pb st p w hI ho hR);have hM:zfu atm st=zaY 1300 (atm st):=rfl;rw[hM];have G1:=za g1.inv;generalize atm st=x0 at *;obtain⟨R,HRes⟩:∃R,zaY 1300 x0=R:=⟨_,rfl⟩;rw[HRes];go_enter func310,ntmps310;go_wp2_with fail;refine H1.o.mono ?_;rintro e w1 ⟨a1,rfl,HL1,hT1,HF1⟩;go_wp2_with fail;go_loopg [3] 1300 (λk l wr=>∃(x:St×Nat) (a:Option Addr),l=.pointer a/\Hid (zaY k x=R)/\rem x.1<k/\Hid (Inv p x.1)/\Hid (PL S wr pb x.1)/\Hid (x.1.er=0->TR wr w.heap.size x.1.L x.2 (.pointer a))/\Hid (Fr (·=pb) w wr));case atStart => refine⟨x0,a1,rfl,HRes,?_,G1.o,HL1,hT1.out,HF1⟩;unfold rem;split <;> omega
 case round =>
  obtain⟨x,a,rfl,HF,hrem,HI2,HL2,HT2,HF2⟩:=hrel;have hlt2:=HL2.o.lt;obtain⟨g,rfl⟩:∃g,gk=g+1:=⟨gk-1,by omega⟩;have HOp:=za (zbd S pb x.1 wr.heap.size 2 [7,8] rfl (by decide) (wr.alloc (.cells #[xI 7,xI 8] 213)) (zcD wr _ _ _ rfl) (by decide) HI2.o.ok.tk (HL2.o.alloc _));rw[zpZ x.1 HI2.o.ok.tk HL2.o.tx] at HOp;have hz2:=HF2.o.size;cases hl:zdi x.1 with
  | false =>
    rw[hl,if_neg (by simp)] at HOp;have HR2:R=x:=by
     rw[<- HF.o]
     show (if x.1.er=0/\zdi x.1=true then _ else x)=x;rw[if_neg (by rw[hl];simp)]
    simp only[opV] at HOp;go_wp2_with (go_at_call 289;refine HOp.o.mono ?_;rintro e w' ⟨rfl,rfl⟩);go_ret;rw[HR2];exact⟨a,rfl,HL2.o.alloc _,λHe=>(HT2.o He).fr ((Fr.refl (·=pb) wr).alloc _) (λk _ _ _=>by omega),HF2.o.alloc _⟩
  | true =>
    rw[hl,if_pos rfl] at HOp;simp only[opV] at HOp;have Hk5:x.1.t.k=5:=(by unfold zdi at hl;simp only[Bool.or_eq_true] at hl;rcases hl with h|h <;> exact Inv.is_k h);have He:=HI2.o.toBad.er (by omega);have e3:=Fwd.use HI2.o He (by omega:2<=x.1.t.k);have e4:=Fwd.name e3.inv;have HFn:Hid (zaY g (x.1.step.name.put ⟨x.1.t.s,x.1.t.a,x.1.step.t.a,[x.2],x.1.step.t.s,0⟩)=R):=by
     have h:=HF.o;unfold Hid;rw[<- h]
     show _=(if x.1.er=0/\zdi x.1=true then _ else x);rw[if_pos ⟨He,hl⟩]
    have hput:Hid (Inv p (x.1.step.name.put ⟨x.1.t.s,x.1.t.a,x.1.step.t.a,[x.2],x.1.step.t.s,0⟩).1):=(Fwd.put e4.inv _).inv;have hrem':Hid (rem (x.1.step.name.put ⟨x.1.t.s,x.1.t.a,x.1.step.t.a,[x.2],x.1.step.t.s,0⟩).1<g):=by
     unfold Hid rem
     show (if x.1.step.name.er=0 then 1201-x.1.step.name.t.a else 0)<g;have h1:rem x.1=1201-x.1.t.a:=(by unfold rem;rw[if_pos He]);have h2:=e4.ta;have h3:x.1.t.a+1<=x.1.step.t.a:=(by have:=HI2.o.tok (by omega);rw[St.step_ok He];have hf:=zV x.1.src x.1.t.t HI2.o.ok.tt;simp only;omega);have h4:=e4.inv.ok.ta_le;have h5:=HI2.o.ok.ta_le;split <;> omega
    have HB2:=za HI2.o.toBad;have HB3:=za e3.inv.toBad;have Hst:=za (zc8 HI2.o.toBad (by omega:x.1.t.k≠1));obtain⟨kk,Hkk⟩:∃kk,zag x.1.t.s.toList 0=kk:=⟨_,rfl⟩;rw[Hkk] at HOp;have HLs:Hid (x.1.step.name.L=x.1.L):=(by unfold Hid;rw[St.name_L,St.step_L]);have HEn:Hid (x.1.step.name.er=0->x.1.step.t.k=2):=by
     intro h;by_cases h2:x.1.step.t.k=2
     . exact h2
     . exfalso;unfold St.name at h;rw[if_neg h2] at h;exact St.fail_er _ (by decide) h
    have hfd:=zjU;go_wp2_with (first|(go_at_call 289;refine HOp.o.mono ?_;rintro e w' ⟨rfl,rfl⟩)|(go_at_call 190;refine (zb9 S pb x.1 _ HB2.o.ok (Nat.le_trans (by decide) (Nat.le_of_eq Hk5.symm)) (HL2.o.alloc _)).mono ?_;rintro e w3 ⟨rfl,HL3,HF3⟩;rw[Hst.o] at HL3;simp only[Tk.cval]));obtain⟨ns,na,hnv,HNk⟩:=zjf x.1.step;have HN:=za (zaZ S pb x.1.step w3 HB3.o HL3);rw[hnv] at HN;go_wp2_with (go_at_call 135;refine HN.o.mono ?_;rintro e w4 ⟨rfl,HL4,HF4⟩);go_roundg g;case measure=>omega
    have hF34:Fr (·=pb) wr w4:=(((Fr.refl _ wr).alloc _).trans HF3).trans HF4;refine⟨(x.1.step.name.put ⟨x.1.t.s,x.1.t.a,x.1.step.t.a,[x.2],x.1.step.t.s,0⟩),some (xD (w4.heap.size+1) 0),rfl,HFn,hrem'.out,hput,((HL4.alloc _).alloc _).put _,?_,(((HF2.o.trans hF34).alloc _).alloc _)⟩;intro he';obtain⟨r1,r2⟩:=HNk (HEn.o he');have hz4:=hF34.size;refine TR.one (y:=x.2) (b:=w4.heap.size+1) (g:=w4.heap.size) (u:=.pointer a) (by omega) (by omega) ?_ ((Below.heap_alloc _ _ _ (by simp)).trans (zc w4 _)) rfl ?_
    . show _=some (Obj.cells #[xI (zag x.1.t.s.toList 0:Nat),xI x.1.t.a,.string x.1.step.t.s,xI x.1.step.t.a,xI (zbF x.1.t.s.toList 0:Nat),xS w4.heap.size 1 1] 216 (0,0));rw[Hkk,zbK,<- r1,<- r2];have:=zc (w4.alloc (.cells #[.pointer a] 159)) (.cells #[xI kk,xI x.1.t.a,.string ns,xI na,xI 0,xS w4.heap.size 1 1] 216);simpa using this
    . show TR _ w.heap.size x.1.step.name.L x.2 (.pointer a);rw[HLs.o];exact (HT2.o He).fr ((hF34.alloc _).alloc _) (λk h1 _ h2=>by omega)
theorem zqJ:(⟨#[116,104,101,110]⟩:ByteArray).toList=[116,104,101,110]:=by decide +kernel
theorem zq2:(⟨#[101,108,115,101]⟩:ByteArray).toList=[101,108,115,101]:=by decide +kernel
theorem Fwd.er0 {p:Nat}{a b:St}(h:Fwd p a b)(hb:b.er=0):a.er=0:=by
 by_cases ha:a.er=0
 . exact ha
 . exact absurd hb (h.er ha)
theorem zjN {d:Nat}{rx:Fn}(hX:zX d 194 rx)(gX:zv d rx)(S:Nat->Addr)(pb:Nat)(st:St)(p:Nat)(w:World)(bp be eb:Nat)(v0 v1 v2 v3 v4 v5:Value)(s1 s2 s3:St×Nat)(h1:rx st=s1)(h2:rx (s1.1.must 5 [116,104,101,110])=s2)(h3:rx (s2.1.must 5 [101,108,115,101])=s3)
 (hI:Inv p st) (ho:18<=st.op+d) (hR:PL S w pb st) (Hbp:Box w bp 136 (xP pb)) (Hbe:Box w be 159 (xP eb)) (Heb:w.heap[eb]?=some (.cells #[v0,v1,v2,v3,v4,v5] 216 (0,0))) (n0:¬bp=pb) (n1:¬be=pb) (n3:pb<eb) :
 xK 324 #[xP bp,xP be] w λe w'=>e=.returned (.tuple #[])/\∃a1 a2 a3 g,PL S w' pb s3.1/\Hid (s3.1.er=0->TR w' w.heap.size s3.1.L s1.2 (.pointer a1)/\TR w' w.heap.size s3.1.L s2.2 (.pointer a2)/\TR w' w.heap.size s3.1.L s3.2 (.pointer a3)) /\
  w'.heap[eb]?=some (.cells #[v0,v1,v2,v3,v4,xS g 3 3] 216 (0,0))/\w'.heap[g]?=some (.cells #[.pointer a1,.pointer a2,.pointer a3] 159 (0,0))/\w.heap.size<=g/\Fr (λk=>k=pb∨k=eb) w w':=by
 have n2:¬eb=pb:=by omega
 have g1:=gX st p hI ho;have H1:=za (hX S pb st p w hI ho hR);have g1i:Inv p s1.1:=by rw[<- h1];exact g1.inv
 have g1o:s1.1.op=st.op:=by rw[<- h1];exact g1.op
 rw[h1] at H1;have m1:=Fwd.must g1i 5 [116,104,101,110];have o1:18<=(s1.1.must 5 [116,104,101,110]).op+d:=by rw[St.must_op,g1o];exact ho
 have g2:=gX _ p m1.inv o1;have H2:=za (λw1 h=>hX S pb _ p w1 m1.inv o1 h);have g2i:Inv p s2.1:=by rw[<- h2];exact g2.inv
 have g2o:s2.1.op=st.op:=by rw[<- h2,g2.op,St.must_op,g1o]
 rw[h2] at H2;have m2:=Fwd.must g2i 5 [101,108,115,101];have o2:18<=(s2.1.must 5 [101,108,115,101]).op+d:=by rw[St.must_op,g2o];exact ho
 have g3:=gX _ p m2.inv o2;have H3:=za (λw1 h=>hX S pb _ p w1 m2.inv o2 h);rw[h3] at H3;have f2:Fwd p (s1.1.must 5 [116,104,101,110]) s2.1:=by rw[<- h2];exact g2.fwd
 have f3:Fwd p (s2.1.must 5 [101,108,115,101]) s3.1:=by rw[<- h3];exact g3.fwd
 obtain⟨E2,HE2⟩:=f2.L;obtain⟨E3,HE3⟩:=f3.L;rw[St.must_L] at HE2 HE3;have HR32:=za (λh:s3.1.er=0=>m2.er0 (f3.er0 h));have HR21:=za (λh:s2.1.er=0=>m1.er0 (f2.er0 h));have HB1:=za g1i.toBad;have HB2:=za g2i.toBad;obtain⟨c0,cf,cz⟩:=zu Hbp;obtain⟨e0,ef,ez⟩:=zu Hbe;have hzb:=ze Heb;have hlt:=hR.lt;go_enter func324,ntmps324;go_wp2_with fail;refine H1.o.mono ?_;rintro e w1 ⟨a1,rfl,HL1,hT1,HF1⟩;have hz1:=HF1.size;obtain⟨d0,df,dz⟩:=zu (Hbp.fr HF1 n0);have HX1:=za (zP S pb s1.1 _ _ zqJ w1 HB1.o HL1);rw[ze6 HL1.tx (by decide)] at HX1;go_wp2_with (go_at_call 134;refine HX1.o.mono ?_;rintro e w2 ⟨rfl,HL2,HF2⟩;obtain⟨i0,if',iz⟩:=zu ((Hbp.fr HF1 n0).fr HF2 n0);have hz2:=HF2.size);refine (H2.o w2 HL2).mono ?_;rintro e w3 ⟨a3,rfl,HL3,hT3,HF3⟩;have hz3:=HF3.size;have F13:=za ((HF1.trans HF2).trans HF3);obtain⟨j0,jf,jz⟩:=zu (Hbp.fr F13.o n0);have HX2:=za (zP S pb s2.1 _ _ zq2 w3 HB2.o HL3);rw[ze6 HL3.tx (by decide)] at HX2;go_wp2_with (go_at_call 134;refine HX2.o.mono ?_;rintro e w4 ⟨rfl,HL4,HF4⟩;have hz4:=HF4.size;have F14:=za (F13.o.trans HF4);obtain⟨k0,kf,kz⟩:=zu (Hbp.fr F14.o n0);obtain⟨l0,lf,lz⟩:=zu (Hbe.fr F14.o n1);have Heb4:=za ((F14.o.block eb hzb n2).trans Heb));go_region_with (go_at_call 194;refine (H3.o _ HL4.drew).mono ?_;rintro e w5 ⟨a5,rfl,HL5,hT5,hF5'⟩;have HF5:Fr (·=pb) w4 w5:=hF5'.undrew;have hz5:=HF5.size;have F15:=za (F14.o.trans HF5);have Heb5:=(HF5.block eb (ze Heb4.o) n2).trans Heb4.o;obtain⟨d0,d1,d2,d3,d4,d5,df,dz⟩:=zt Heb5;obtain⟨f0,ff,fz⟩:=zu (Hbe.fr F15.o n1))
 all_goals go_wp2_with fail
 all_goals go_end0
 all_goals
  have hk5:(w5.setCell (xD eb 5) (xS w5.heap.size 3 3)).heap.size=w5.heap.size:=by simp[World.setCell]
  refine⟨rfl,a1,a3,a5,w5.heap.size,?_,?_,?_,?_,by omega,?_⟩
  . exact (HL5.setOther n3 _ _).alloc _
  . intro he3;have t5:=hT5.out he3;have t3:=hT3.out (HR32.o he3);have t1:=hT1.out (HR21.o (HR32.o he3));have F35:Fr (·=pb) w3 w5:=HF4.trans HF5;have F15':Fr (·=pb) w1 w5:=(HF2.trans HF3).trans F35;have Fend:Fr (·=eb) w5 ((w5.setCell (xD eb 5) (xS w5.heap.size 3 3)).alloc (.cells #[.pointer a1,.pointer a3,.pointer a5] 159)):=((Fr.refl _ w5).set1 _ _).alloc _;refine⟨?_,?_,?_⟩
    . rw[HE3,HE2];exact (((t1.fr F15' (λk h1 _ h2=>by omega)).fr Fend (λk h1 _ h2=>by omega)).more E2).more E3
    . rw[HE3];exact (((t3.down (by omega:w.heap.size<=w2.heap.size)).fr F35 (λk h1 _ h2=>by omega)).fr Fend (λk h1 _ h2=>by omega)).more E3
    . exact (t5.down (by show w.heap.size<=w4.heap.size;omega)).fr Fend (λk h1 _ h2=>by omega)
  . exact (Below.heap_alloc _ _ _ (by rw[hk5];exact dz)).trans (zh _ _ _ _ Heb5)
  . have:=zc (w5.setCell (xD eb 5) (xS w5.heap.size 3 3)) (.cells #[.pointer a1,.pointer a3,.pointer a5] 159);rw[hk5] at this;exact this
  . exact (F15.o.with2 eb _ _).alloc _
theorem zkR:zH 324:=λ_ _=>by kernel_rfl
theorem kIf:zag sIf.toList 0=5:=by decide +kernel
structure zlO (w w0:World) (pb:Nat) (k a:Nat):Prop where
 bp:Box w0 w.heap.size 136 (xP pb)
 eb:xH w0 (w.heap.size+1) #[xI k,xI a,.string ⟨#[]⟩,xI 0,xI 0,.slice none 0 0] 216
 be:Box w0 (w.heap.size+1+1) 159 (xP (w.heap.size+1))
 fr:Fr (·=pb) w w0
 size:w0.heap.size=w.heap.size+1+1+1
theorem zoW (w:World)(pb k a:Nat):zlO w (((w.alloc (.cells #[xP pb] 136)).alloc (.cells #[xI k,xI a,.string ⟨#[]⟩,xI 0,xI 0,.slice none 0 0] 216)).alloc (.cells #[xP (w.heap.size+1)] 159)) pb k a:=by
 refine⟨?_,?_,?_,(((Fr.refl _ w).alloc _).alloc _).alloc _,by simp⟩
 . exact (Below.heap_alloc _ _ _ (by simp;omega)).trans ((Below.heap_alloc _ _ _ (by simp)).trans (zc w _))
 . refine (Below.heap_alloc _ _ _ (by simp)).trans ?_;have:=zc (w.alloc (.cells #[xP pb] 136)) (.cells #[xI k,xI a,.string ⟨#[]⟩,xI 0,xI 0,.slice none 0 0] 216);simpa using this
 . have:=zc ((w.alloc (.cells #[xP pb] 136)).alloc (.cells #[xI k,xI a,.string ⟨#[]⟩,xI 0,xI 0,.slice none 0 0] 216)) (.cells #[xP (w.heap.size+1)] 159);unfold Box;simpa using this
theorem zkZ {d:Nat}{rx:Fn}(hX:zX d 194 rx)(gX:zv d rx)(S:Nat->Addr)(pb:Nat)(st:St)(p:Nat)(w:World)(HI:Inv p st)(hk:2<=st.t.k)(ho:18<=st.op+(d+1))(HR:PL S w pb st) :
 xK 321 #[xP pb] w (zaW S pb w.heap.size w (zdx rx st).1 (zdx rx st).2):=by
 have hlt:=HR.lt;have hmf:∀(fn:Go.Fn) (first cap:Array Value) (w:World),(Instr.makeFunc fn first cap).run prog w=.ok (.func fn first cap) w:=λ_ _ _ _=>rfl;have he:=HI.toBad.er (by omega);have e1:=Fwd.enter HI he hk;have hoE:18<=st.enter.op+d:=by rw[St.enter_op];omega
 obtain⟨s1,h1⟩:∃s,rx st.enter=s:=⟨_,rfl⟩;obtain⟨s2,h2⟩:∃s,rx (s1.1.must 5 [116,104,101,110])=s:=⟨_,rfl⟩;obtain⟨s3,h3⟩:∃s,rx (s2.1.must 5 [101,108,115,101])=s:=⟨_,rfl⟩;have hM:zdx rx st=s3.1.leave.put ⟨sIf,st.t.a,0,[s1.2,s2.2,s3.2],sE,0⟩:=by unfold zdx;simp only[h1,h2,h3]
 rw[hM];have g1:=gX st.enter (p+1) e1.inv hoE;have g1i:Inv (p+1) s1.1:=by rw[<- h1];exact g1.inv
 have g1o:s1.1.op=st.op+1:=by rw[<- h1,g1.op,St.enter_op]
 have m1:=Fwd.must g1i 5 [116,104,101,110];have g2:=gX _ (p+1) m1.inv (by rw[St.must_op,g1o];omega);have g2i:Inv (p+1) s2.1:=by rw[<- h2];exact g2.inv
 have g2o:s2.1.op=st.op+1:=by rw[<- h2,g2.op,St.must_op,g1o]
 have m2:=Fwd.must g2i 5 [101,108,115,101];have g3:=gX _ (p+1) m2.inv (by rw[St.must_op,g2o];omega);have HgO:s3.1.op=st.op+1:=by rw[<- h3,g3.op,St.must_op,g2o]
 have HD:Hid (st.op=16->s3.1.leave=st.fail 3 st.t.a):=by
  intro h16;have hE:=St.enter_deep h16;have he3:st.enter.er≠0:=by rw[hE];exact St.fail_er _ (by decide)
  have q1:s1.1=st.enter:=by rw[<- h1,g1.er he3]
  have q2:s1.1.must 5 [116,104,101,110]=st.enter:=by rw[q1,hE];exact St.fail_must _ (by decide) (by decide)
  have q3:s2.1=st.enter:=by rw[<- h2,g2.er (by rw[q2];exact he3),q2]
  have q4:s2.1.must 5 [101,108,115,101]=st.enter:=by rw[q3,hE];exact St.fail_must _ (by decide) (by decide)
  have q5:s3.1=st.enter:=by rw[<- h3,g3.er (by rw[q4];exact he3),q4]
  rw[q5,zd0 h16]
 have HC:=za (λw1 b0 b1 b2 hR1=>zjN hX gX S pb st.enter (p+1) w1 w.heap.size (w.heap.size+1+1) (w.heap.size+1) (xI 5) (xI st.t.a) (.string ⟨#[]⟩) (xI 0) (xI 0) (.slice none 0 0) s1 s2 s3 h1 h2 h3 e1.inv hoE hR1 b0 b1 b2 (by omega) (by omega) (by omega));go_enter func321,ntmps321;go_wp2_with (go_at_call 242;refine (zb8 S pb st 5 _ (HR.alloc _)).mono ?_;rintro e w' ⟨rfl,rfl⟩);have T0:=zoW w pb 5 st.t.a;have hL0:=((HR.alloc (.cells #[xP pb] 136)).alloc (.cells #[xI 5,xI st.t.a,.string ⟨#[]⟩,xI 0,xI 0,.slice none 0 0] 216)).alloc (.cells #[xP (w.heap.size+1)] 159);obtain⟨w0,hw0⟩:∃w0,(((w.alloc (.cells #[xP pb] 136)).alloc (.cells #[xI 5,xI st.t.a,.string ⟨#[]⟩,xI 0,xI 0,.slice none 0 0] 216)).alloc (.cells #[xP (w.heap.size+1)] 159))=w0:=⟨_,rfl⟩;have T1:zlO w w0 pb 5 st.t.a:=hw0▸T0;have hL1:PL S w0 pb st:=hw0▸hL0;refine Eq.mpr (congrArg (λz=>xK 239 _ z _) hw0) ?_;refine (zdz _ _ zkR S pb st p w0 HI hk hL1 (λe w'=>e=.returned (.tuple #[])/\Box w' (w.heap.size+1+1) 159 (xP (w.heap.size+1))/\zaW S pb w.heap.size w (s3.1.leave.put ⟨sIf,st.t.a,0,[s1.2,s2.2,s3.2],sE,0⟩).1 (s3.1.leave.put ⟨sIf,st.t.a,0,[s1.2,s2.2,s3.2],sE,0⟩).2 (.returned (xP (w.heap.size+1))) w') ?_ ?_).mono ?_
 . intro hlt16 w2 hL2 hF2;refine (HC.o w2 (T1.bp.fr hF2 (by omega)) (T1.be.fr hF2 (by omega)) ((hF2.block _ (ze T1.eb) (by omega)).trans T1.eb) hL2).mono ?_;rintro e w3 ⟨rfl,a1,a2,a3,g,hL3,hT3,hb3,hg3,hzg,hF3⟩;refine⟨rfl,s3.1,hL3,by rw[HgO];omega,by rw[HgO];omega,?_⟩;intro w4 hL4 hF4;have hFw:Fr (·=pb) w w4:=(Fr.drop2 (T1.fr.trans hF2) hF3 (by omega)).trans hF4;have hz02:w0.heap.size<=w2.heap.size:=hF2.size;have hz0:=T1.size;refine⟨rfl,Box.fr (Fr.keep2 hF3 (T1.be.fr hF2 (by omega)) (by omega) (by omega)) hF4 (by omega),_,rfl,hL4.put _,?_,hFw⟩;intro he';obtain⟨t1,t2,t3⟩:=hT3.out he';refine TR.three (x:=s1.2) (y:=s2.2) (z:=s3.2) (g:=g) (t:=.pointer a1) (u:=.pointer a2) (v:=.pointer a3) (by omega) (by omega) ?_ ((hF4.block g (ze hg3) (by omega)).trans hg3) rfl ?_ ?_ ?_
   . show _=some (Obj.cells #[xI (zag sIf.toList 0:Nat),xI st.t.a,.string ⟨#[]⟩,xI (0:Nat),xI (zbF sIf.toList 0:Nat),xS g 3 3] 216 (0,0));rw[kIf,zbK];exact (hF4.block _ (ze hb3) (by omega)).trans hb3
   . exact (t1.fr hF4 (λk h1 _ h2=>by omega)).down (by omega)
   . exact (t2.fr hF4 (λk h1 _ h2=>by omega)).down (by omega)
   . exact (t3.fr hF4 (λk h1 _ h2=>by omega)).down (by omega)
 . intro h16 w3 hL3 hF3;rw[HD.o h16];exact⟨rfl,T1.be.fr hF3 (by omega),_,rfl,hL3.put _,λhe'=>absurd he' (St.fail_er st (by decide)),T1.fr.trans hF3⟩
 . rintro e w4 ⟨rfl,hb4,HQ⟩;obtain⟨f0,ff,fz⟩:=zu hb4;go_wp2_with fail;go_ret;exact HQ
theorem zli {d:Nat}{sd:Fn}(hS:zX d 326 sd)(gS:zv d sd)(S:Nat->Addr)(pb:Nat)(st:St)(p:Nat)(w:World)(bp be eb:Nat)(v0 v1 v2 v3 v4 v5:Value)(ns:ByteArray)(na:Nat)(hnv:zcc st=.agg #[.string ns,xI na])(s1 s2:St×Nat)(h1:sd st.name=s1)(h2:sd s1.1=s2)
 (hI:Inv p st) (ho:18<=st.op+d) (hR:PL S w pb st) (hbp:Box w bp 136 (xP pb)) (hbe:Box w be 159 (xP eb)) (heb:w.heap[eb]?=some (.cells #[v0,v1,v2,v3,v4,v5] 216 (0,0))) (n0:¬bp=pb) (n1:¬be=pb) (n3:pb<eb) (n4:¬bp=eb) (n5:¬be=eb) :
 xK 325 #[xP bp,xP be] w λe w'=>e=.returned (.tuple #[])/\∃a1 a2 g,PL S w' pb s2.1/\Hid (s2.1.er=0->TR w' w.heap.size s2.1.L s1.2 (.pointer a1)/\TR w' w.heap.size s2.1.L s2.2 (.pointer a2)) /\
  w'.heap[eb]?=some (.cells #[v0,v1,.string ns,xI na,v4,xS g 2 2] 216 (0,0))/\w'.heap[g]?=some (.cells #[.pointer a1,.pointer a2] 159 (0,0))/\w.heap.size<=g/\Fr (λk=>k=pb∨k=eb) w w':=by
 have n2:¬eb=pb:=by omega
 have f0:=Fwd.name hI;have HN:=za (λw1 h=>zaZ S pb st w1 hI.toBad h);rw[hnv] at HN;have o0:18<=st.name.op+d:=by rw[St.name_op];exact ho
 have g1:=gS st.name p f0.inv o0;have H1:=za (λw1 h=>hS S pb st.name p w1 f0.inv o0 h);have g1i:Inv p s1.1:=by rw[<- h1];exact g1.inv
 have g1o:s1.1.op=st.op:=by rw[<- h1,g1.op,St.name_op]
 rw[h1] at H1;have o1:18<=s1.1.op+d:=by rw[g1o];exact ho
 have g2:=gS _ p g1i o1;have H2:=za (λw1 h=>hS S pb s1.1 p w1 g1i o1 h);rw[h2] at H2;have f2:Fwd p s1.1 s2.1:=by rw[<- h2];exact g2.fwd
 obtain⟨E2,HE2⟩:=f2.L;have HR21:=za (λh:s2.1.er=0=>f2.er0 h);obtain⟨c0,cf,cz⟩:=zu hbp;obtain⟨e0,ef,ez⟩:=zu hbe;have HR:=za hR;have Hbp:=za hbp;have Hbe:=za hbe;have Heb:=za heb;have hzb:=ze heb;have hlt:=hR.lt;go_enter func325,ntmps325;go_wp2_with fail;go_region_with (go_at_call 135;refine (HN.o _ HR.o.drew).mono ?_;rintro e w1 ⟨rfl,hL1,hF1'⟩;have hF1:Fr (·=pb) w w1:=hF1'.undrew;have hz1:=hF1.size;have heb1:=(hF1.block eb hzb n2).trans Heb.o;obtain⟨d0,d1,d2,d3,d4,d5,df,dz⟩:=zt heb1;obtain⟨f0,ff,fz⟩:=zu (Hbe.o.fr hF1 n1);have HL1:=za hL1;have HF1:=za hF1;have Heb1:=za heb1)
 all_goals
  have HF2:Fr (λk=>k=pb∨k=eb) w ((w1.setCell (xD eb 2) (.string ns)).setCell (xD eb 3) (xI na)):=(HF1.o.with2 eb _ _).setCell (Or.inl (Or.inr rfl)) _;have Heb2:((w1.setCell (xD eb 2) (.string ns)).setCell (xD eb 3) (xI na)).heap[eb]?=some (.cells #[v0,v1,.string ns,xI na,v4,v5] 216 (0,0)):=zh _ _ _ _ (zh _ _ _ _ Heb1.o);have HL2:PL S ((w1.setCell (xD eb 2) (.string ns)).setCell (xD eb 3) (xI na)) pb st.name:=(HL1.o.setOther n3 _ _).setOther n3 _ _;have Hbe2:=HF2.keep2 Hbe.o n1 n5;have Hbp2:=HF2.keep2 Hbp.o n0 n4;generalize ((w1.setCell (xD eb 2) (.string ns)).setCell (xD eb 3) (xI na))=w2 at *;obtain⟨p0,pf,pz⟩:=zu Hbp2;have hz2:=HF2.size;go_wp2_with fail;refine (H1.o w2 HL2).mono ?_;rintro e w3 ⟨a3,rfl,HL3,hT3,HF3⟩;have hz3:=HF3.size;have Heb3:=za ((HF3.block eb (ze Heb2) n2).trans Heb2);obtain⟨k0,kf,kz⟩:=zu (Hbp2.fr HF3 n0);obtain⟨l0,lf,lz⟩:=zu (Hbe2.fr HF3 n1);go_wp2_with fail;go_region_with (go_at_call 326;refine (H2.o _ HL3.drew).mono ?_;rintro e w5 ⟨a5,rfl,HL5,hT5,hF5'⟩;have HF5:Fr (·=pb) w3 w5:=hF5'.undrew;have hz5:=HF5.size;have Heb5:=(HF5.block eb (ze Heb3.o) n2).trans Heb3.o;obtain⟨d0,d1,d2,d3,d4,d5,df,dz⟩:=zt Heb5;obtain⟨f0,ff,fz⟩:=zu ((Hbe2.fr HF3 n1).fr HF5 n1))
  all_goals go_wp2_with fail
  all_goals go_end0
  all_goals
   have hk5:(w5.setCell (xD eb 5) (xS w5.heap.size 2 2)).heap.size=w5.heap.size:=(by simp[World.setCell]);refine⟨rfl,a3,a5,w5.heap.size,?_,?_,?_,?_,by omega,?_⟩
   . exact (HL5.setOther n3 _ _).alloc _
   . intro he2;have t5:=hT5.out he2;have t3:=hT3.out (HR21.o he2);have Fend:Fr (·=eb) w5 ((w5.setCell (xD eb 5) (xS w5.heap.size 2 2)).alloc (.cells #[.pointer a3,.pointer a5] 159)):=((Fr.refl _ w5).set1 _ _).alloc _;refine⟨?_,?_⟩
     . rw[HE2];exact (((t3.down hz2).fr HF5 (λk h1 _ h2=>by omega)).fr Fend (λk h1 _ h2=>by omega)).more E2
     . exact (t5.down (by show w.heap.size<=w3.heap.size;omega)).fr Fend (λk h1 _ h2=>by omega)
   . exact (Below.heap_alloc _ _ _ (by rw[hk5];exact dz)).trans (zh _ _ _ _ Heb5)
   . have:=zc (w5.setCell (xD eb 5) (xS w5.heap.size 2 2)) (.cells #[.pointer a3,.pointer a5] 159);rw[hk5] at this;exact this
   . exact ((((HF2.trans' HF3 (λ_ _ h=>Or.inl h)).trans' HF5 (λ_ _ h=>Or.inl h)).setCell (Or.inl (Or.inr rfl)) _).alloc _)
theorem zmY:zH 325:=λ_ _=>by kernel_rfl
theorem zqI:zag zep.toList 0=6:=by decide +kernel
theorem St.fail_name (s:St){e a:Nat}(he:e≠0):(s.fail e a).name=s.fail e a:=by
 unfold St.name;have:(s.fail e a).t.k=1:=by unfold St.fail;split <;> rfl
 rw[if_neg (by omega)];exact St.fail_fail s he
theorem zmk {d:Nat}{ra:Fn}(hS:zX d 326 (zch ra))(gA:zv d ra)(S:Nat->Addr)(pb:Nat)(st:St)(p:Nat)(w:World)(HI:Inv p st)(hk:2<=st.t.k)(ho:18<=st.op+(d+1))(HR:PL S w pb st) :
 xK 322 #[xP pb] w (zaW S pb w.heap.size w (zeE ra st).1 (zeE ra st).2):=by
 have gS:zv d (zch ra):=zf0 gA;have hlt:=HR.lt;have hmf:∀(fn:Go.Fn) (first cap:Array Value) (w:World),(Instr.makeFunc fn first cap).run prog w=.ok (.func fn first cap) w:=λ_ _ _ _=>rfl;have he:=HI.toBad.er (by omega);have e1:=Fwd.enter HI he hk;have hoE:18<=st.enter.op+d:=by rw[St.enter_op];omega
 obtain⟨s1,h1⟩:∃s,zch ra st.enter.name=s:=⟨_,rfl⟩;obtain⟨s2,h2⟩:∃s,zch ra s1.1=s:=⟨_,rfl⟩;obtain⟨ns,na,hnv,hnk⟩:=zjf st.enter;have hM:zeE ra st=s2.1.leave.put ⟨zep,st.t.a,st.enter.t.a,[s1.2,s2.2],st.enter.t.s,0⟩:=by unfold zeE;simp only[h1,h2]
 rw[hM];have f0:=Fwd.name e1.inv;have g1:=gS st.enter.name (p+1) f0.inv (by rw[St.name_op];exact hoE);have g1i:Inv (p+1) s1.1:=by rw[<- h1];exact g1.inv
 have g1o:s1.1.op=st.op+1:=by rw[<- h1,g1.op,St.name_op,St.enter_op]
 have g2:=gS _ (p+1) g1i (by rw[g1o];omega);have HgO:s2.1.op=st.op+1:=by rw[<- h2,g2.op,g1o]
 have f1:Fwd (p+1) st.enter.name s1.1:=by rw[<- h1];exact g1.fwd
 have f2:Fwd (p+1) s1.1 s2.1:=by rw[<- h2];exact g2.fwd
 have HNk:Hid (s2.1.er=0->ns=st.enter.t.s/\na=st.enter.t.a):=by
  intro h;apply hnk;have h3:=f1.er0 (f2.er0 h);by_cases h4:st.enter.t.k=2
  . exact h4
  . exfalso;unfold St.name at h3;rw[if_neg h4] at h3;exact St.fail_er _ (by decide) h3
 have HD:Hid (st.op=16->s2.1.leave=st.fail 3 st.t.a):=by
  intro h16;have hE:=St.enter_deep h16;have he3:st.enter.er≠0:=by rw[hE];exact St.fail_er _ (by decide)
  have q0:st.enter.name=st.enter:=by rw[hE];exact St.fail_name _ (by decide)
  have q1:s1.1=st.enter:=by rw[<- h1,g1.er (by rw[q0];exact he3),q0]
  have q3:s2.1=st.enter:=by rw[<- h2,g2.er (by rw[q1];exact he3),q1]
  rw[q3,zd0 h16]
 have HC:=za (λw1 b0 b1 b2 hR1=>zli hS gS S pb st.enter (p+1) w1 w.heap.size (w.heap.size+1+1) (w.heap.size+1) (xI 6) (xI st.t.a) (.string ⟨#[]⟩) (xI 0) (xI 0) (.slice none 0 0) ns na hnv s1 s2 h1 h2 e1.inv hoE hR1 b0 b1 b2 (by omega) (by omega) (by omega) (by omega) (by omega));go_enter func322,ntmps322;go_wp2_with (go_at_call 242;refine (zb8 S pb st 6 _ (HR.alloc _)).mono ?_;rintro e w' ⟨rfl,rfl⟩);have T0:=zoW w pb 6 st.t.a;have hL0:=((HR.alloc (.cells #[xP pb] 136)).alloc (.cells #[xI 6,xI st.t.a,.string ⟨#[]⟩,xI 0,xI 0,.slice none 0 0] 216)).alloc (.cells #[xP (w.heap.size+1)] 159);obtain⟨w0,hw0⟩:∃w0,(((w.alloc (.cells #[xP pb] 136)).alloc (.cells #[xI 6,xI st.t.a,.string ⟨#[]⟩,xI 0,xI 0,.slice none 0 0] 216)).alloc (.cells #[xP (w.heap.size+1)] 159))=w0:=⟨_,rfl⟩;have T1:zlO w w0 pb 6 st.t.a:=hw0▸T0;have hL1:PL S w0 pb st:=hw0▸hL0;refine Eq.mpr (congrArg (λz=>xK 239 _ z _) hw0) ?_;refine (zdz _ _ zmY S pb st p w0 HI hk hL1 (λe w'=>e=.returned (.tuple #[])/\Box w' (w.heap.size+1+1) 159 (xP (w.heap.size+1))/\zaW S pb w.heap.size w (s2.1.leave.put ⟨zep,st.t.a,st.enter.t.a,[s1.2,s2.2],st.enter.t.s,0⟩).1 (s2.1.leave.put ⟨zep,st.t.a,st.enter.t.a,[s1.2,s2.2],st.enter.t.s,0⟩).2 (.returned (xP (w.heap.size+1))) w') ?_ ?_).mono ?_
 . intro hlt16 w2 hL2 hF2;refine (HC.o w2 (T1.bp.fr hF2 (by omega)) (T1.be.fr hF2 (by omega)) ((hF2.block _ (ze T1.eb) (by omega)).trans T1.eb) hL2).mono ?_;rintro e w3 ⟨rfl,a1,a2,g,hL3,hT3,hb3,hg3,hzg,hF3⟩;refine⟨rfl,s2.1,hL3,by rw[HgO];omega,by rw[HgO];omega,?_⟩;intro w4 hL4 hF4;have hFw:Fr (·=pb) w w4:=(Fr.drop2 (T1.fr.trans hF2) hF3 (by omega)).trans hF4;have hz02:w0.heap.size<=w2.heap.size:=hF2.size;have hz0:=T1.size;refine⟨rfl,Box.fr (Fr.keep2 hF3 (T1.be.fr hF2 (by omega)) (by omega) (by omega)) hF4 (by omega),_,rfl,hL4.put _,?_,hFw⟩;intro he';obtain⟨t1,t2⟩:=hT3.out he';obtain⟨r1,r2⟩:=HNk.o he';refine TR.two (y:=s1.2) (z:=s2.2) (g:=g) (u:=.pointer a1) (v:=.pointer a2) (by omega) (by omega) ?_ ((hF4.block g (ze hg3) (by omega)).trans hg3) rfl ?_ ?_
   . show _=some (Obj.cells #[xI (zag zep.toList 0:Nat),xI st.t.a,.string st.enter.t.s,xI st.enter.t.a,xI (zbF zep.toList 0:Nat),xS g 2 2] 216 (0,0));rw[zqI,zbK,<- r1,<- r2];exact (hF4.block _ (ze hb3) (by omega)).trans hb3
   . exact (t1.fr hF4 (λk h1 _ h2=>by omega)).down (by omega)
   . exact (t2.fr hF4 (λk h1 _ h2=>by omega)).down (by omega)
 . intro h16 w3 hL3 hF3;rw[HD.o h16];exact⟨rfl,T1.be.fr hF3 (by omega),_,rfl,hL3.put _,λhe'=>absurd he' (St.fail_er st (by decide)),T1.fr.trans hF3⟩
 . rintro e w4 ⟨rfl,hb4,HQ⟩;obtain⟨f0,ff,fz⟩:=zu hb4;go_wp2_with fail;go_ret;exact HQ
end
end Go.Proofs.YtmfkofhgdjechaaGreatDoor
