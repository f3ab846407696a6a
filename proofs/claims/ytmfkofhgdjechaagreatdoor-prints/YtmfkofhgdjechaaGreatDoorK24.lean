/- Part 25 of the proof: CofK CofL. -/
import Derived.Test.YtmfkofhgdjechaaGreatDoorK23
set_option maxRecDepth 100000
set_option maxHeartbeats 8000000
namespace Go.Proofs.YtmfkofhgdjechaaGreatDoor
open Go.Proofs.Tryz
open Go.RowKit
section
variable {r17 r18:Fn} {xs:List Value} {vars:List Vr} {B f n nb p pb:Nat} {S:Nat->Addr} {s st:St} {R x8:St×List Eqn} {x3 x5 x6:St×List Vr} {c0 c1 c3 c4 c5 vs:Value} {w wr:World}
theorem zmU:(⟨#[110,111,100,101]⟩:ByteArray).toList=zW:=by decide +kernel
theorem zrp:(⟨#[118,97,114]⟩:ByteArray).toList=zi2:=by decide +kernel
theorem zp4:(⟨#[45,62]⟩:ByteArray).toList=[45,62]:=by decide +kernel
theorem zrj:(⟨#[123]⟩:ByteArray).toList=[123]:=by decide +kernel
theorem zro:(⟨#[125]⟩:ByteArray).toList=[125]:=by decide +kernel
structure zgn (r17 r18:Fn) (f:Nat) (st:St) (x3 x5 x6:St×List Vr) (x8 R:St×List Eqn):Prop where
 h3:zab true (st.fresh.must 5 zW).name []=x3
 h5:zab false (x3.1.must 4 [45,62]) x3.2=x5
 h6:zaS f x5.1 x5.2=x6
 h8:zF r17 r18 (x6.1.must 4 [123]) []=x8
 hR:zb5 r17 r18 f x8=R
theorem znI (h:zgn r17 r18 f st x3 x5 x6 x8 R) :
 zax r17 r18 f st=(R.1.must 4 [125],⟨(st.fresh.must 5 zW).t.s,(st.fresh.must 5 zW).t.a,x6.2,(R.1.must 4 [125]).L,R.2⟩):=by
 have e5:zaI st.fresh=x5:=by unfold zaI;simp only;rw[h.h3,h.h5]
 unfold zax zdr;simp only;rw[e5,h.h6,h.h8,h.hR]
theorem zjJ (g17:zv 17 r17)(g18:zv 18 r18)(hI:Inv p st)(ho:st.op=0)(h:zgn r17 r18 f st x3 x5 x6 x8 R):zlN st x3 x5 x6 x8 R:=by have h0:=zkO g17 g18 hI ho (⟨h.h3,h.h5,h.h6,h.h8,rfl⟩:zo4 r17 r18 f st x3 x5 x6 x8 (zd6 r17 r18 f x8));have gR:=zfZ g17 g18 f 0 x8 h0.i8 h0.o8;rw[h.hR] at gR;exact⟨h0.i0,h0.i1,h0.i2,h0.i3,h0.i4,h0.i5,h0.i6,h0.i7,h0.i8,gR.1.inv,h0.o7,h0.o8,h0.l3,h0.l5,h0.l6⟩
theorem VI.set3 (h:VI S pb nb B p w wr c0 c1 c3 c4 c5 s vars vs n xs)(hnp:pb<nb)(hBn:nb<B)(v:Value):VI S pb nb B p w (wr.setCell (xD nb 3) v) c0 c1 v c4 c5 s vars vs n xs :=
 ⟨h.inv,h.pl.setOther hnp _ _,zh _ _ _ _ h.blk,zi h.own (λk h1 _ _=>zr (by omega) rfl),h.ok,h.fr.setCell (Or.inl (Or.inr (Or.inl rfl))) _⟩
theorem VI.set4 (h:VI S pb nb B p w wr c0 c1 c3 c4 c5 s vars vs n xs)(hnp:pb<nb)(hBn:nb<B)(v:Value):VI S pb nb B p w (wr.setCell (xD nb 4) v) c0 c1 c3 v c5 s vars vs n xs :=
 ⟨h.inv,h.pl.setOther hnp _ _,zh _ _ _ _ h.blk,zi h.own (λk h1 _ _=>zr (by omega) rfl),h.ok,h.fr.setCell (Or.inl (Or.inr (Or.inl rfl))) _⟩
theorem PL.fresh (h:PL S w pb st):PL S w pb st.fresh:=⟨h.tx,h.heap,h.gl,h.pb⟩
theorem zfB (t:Tk):(((ck t:Nat):Int)==3)=(t.k==2):=by have h:=zhL (t:=t);rw[bne] at h;cases h1:(((ck t:Nat):Int)==3) <;> cases h2:(t.k==2) <;> simp_all
theorem zj0:zH 139:=λ_ _=>by kernel_rfl
theorem Tryz.infoEq:(prog.info? 161).map (λi=>(i.zero,i.size,i.bytes))=some (some (.agg #[.slice none 0 0,xI 0,.pointer none]),3,40):=by kernel_rfl
theorem zrH {x:Option Addr}{k c:Nat}{a:Int}{b:Option Addr}:∀u∈[Value.slice x k c,xI a,.pointer b],u.oneCell'=true:=by intro u hu;simp at hu;rcases hu with rfl|rfl|rfl <;> rfl
theorem zcJ.weak {B':Nat}{av:Value}{L:List Ex}(hb:B'<=B):∀{qs:List Eqn} {xs:List Value},zcJ B wr av L qs xs->zcJ B' wr (.slice none 0 0) L qs xs:=by
 intro qs;induction qs with
 | nil=>intro xs h;exact h
 | cons q qs ih => rintro xs ⟨lv,a,ys,h1,⟨wi,Bi,k1,k2,k3,_,k5⟩,h3⟩;exact⟨lv,a,ys,h1,⟨wi,Bi,Nat.le_trans hb k1,k2,k3,λg hg=>(by cases hg),k5⟩,ih h3⟩
theorem zf6 (i o:Bool)(st:St)(vars:List Vr):vars.length<=(zx i o st vars).2.length:=by
 unfold zx;split
 . exact Nat.le_refl _
 . simp only;split <;> simp
theorem zkh (i:Bool):∀(f:Nat) (x:St×List Vr),x.2.length<=(zaG i f x).2.length:=by
 intro f;induction f with
 | zero=>intro x;exact Nat.le_refl _
 | succ f ih =>
   intro x
   show x.2.length<=(if _ then _ else x).2.length;split
   . exact Nat.le_trans (zf6 _ _ _ _) (ih _)
   . exact Nat.le_refl _
theorem zlH (i:Bool)(st:St)(vars:List Vr):vars.length<=(zab i st vars).2.length:=by obtain⟨f,hf⟩:∃f,f=1300:=⟨_,rfl⟩;rw[zip hf];exact Nat.le_trans (zf6 _ _ _ _) (zkh i f _)
theorem zll (g17:zv 17 r17)(g18:zv 18 r18)(hi:zlN st x3 x5 x6 x8 R)(h:zgn r17 r18 f st x3 x5 x6 x8 R)(he:R.1.er=0):(st.fresh.must 5 zW).name.er=0/\x3.1.er=0/\(x3.1.must 4 [45,62]).er=0/\x5.1.er=0/\x6.1.er=0:=by have gR:=zfZ g17 g18 f 0 x8 hi.i8 hi.o8;rw[h.hR] at gR;have e8:=gR.1.back he;have g8:=za1 g17 g18 (eqs:=[]) hi.i7 hi.o7;rw[h.h8] at g8;have e7:=g8.1.back e8;have e6:x6.1.er=0:=(Fwd.must hi.i6 4 [123]).back e7;have g6:=zeP (f:=f) (vars:=x5.2) hi.i5;rw[h.h6] at g6;have e5:=g6.1.back e6;have g5:=zbx (i:=false) (vars:=x3.2) hi.i4;rw[h.h5] at g5;have e4:=g5.1.back e5;have e3:x3.1.er=0:=(Fwd.must hi.i3 4 [45,62]).back e4;have g3:=zbx (i:=true) (vars:=[]) hi.i2;rw[h.h3] at g3;exact⟨g3.1.back e3,e3,e4,e5,e6⟩
def zri (S:Nat->Addr)(pb:Nat)(w:World)(st':St)(nd:Nd)(ni no:Nat)(e:Ending)(w':World):Prop :=
 ∃(nb:Nat),e=.returned (xP nb)/\w.heap.size<=nb/\PL S w' pb st'/\Fr (·=pb) w w' /\
  Hid (st'.er=0->∃(vs ev:Value) (xs:List Value),w'.heap[nb]?=some (.cells #[.string nd.nm,xI nd.a,vs,xI ni,xI no,ev] 147 (0,0)) /\
   w'.ownsRow w.heap.size 156 7 vs nd.vars.length (zb0 nd.vars)/\nd.vars.length<=16/\w'.ownsRow w.heap.size 161 3 ev nd.eqs.length xs/\zcJ w.heap.size w' (.slice none 0 0) nd.exs nd.eqs xs)
theorem zop (HX:zX 18 194 r18)(HK:zdI 18 r17)(G17:zv 17 r17)(G18:zv 18 r18)(S:Nat->Addr)(pb p f:Nat)(hf1:1202<f)(hf2:f<=5000)(st:St)(w:World)(hI:Inv p st)(ho:st.op=0)(hR:PL S w pb st)(HNF:zgn r17 r18 f st x3 x5 x6 x8 R) :
 xK 74 #[xP pb] w (zri S pb w (R.1.must 4 [125]) ⟨(st.fresh.must 5 zW).t.s,(st.fresh.must 5 zW).t.a,x6.2,(R.1.must 4 [125]).L,R.2⟩ x3.2.length (x5.2.length-x3.2.length)):=by
 have hlt:=hR.lt;have HNI:=zjJ G17 G18 hI ho HNF;have HR:=za hR.fresh;have HEx1:=za (λw1 h=>zP S pb st.fresh ⟨#[110,111,100,101]⟩ _ zmU w1 HNI.i0.toBad h);rw[ze6 hR.fresh.tx (by decide)] at HEx1;have HNm:=za (λw1 h=>zaZ S pb (st.fresh.must 5 zW) w1 HNI.i1.toBad h);obtain⟨nx,na,hnv,HNk⟩:=zbw (st.fresh.must 5 zW);rw[hnv] at HNm;go_enter func74,ntmps74;go_wp2_with fail;refine (HEx1.o _ (HR.o.alloc _)).mono ?_;rintro e w1 ⟨rfl,hL1,hF1⟩;have hz1:=hF1.size;rw[zsb] at hz1;have hb1:w1.heap[w.heap.size]?=some (.cells #[.string ⟨#[]⟩,xI 0,.slice none 0 0,xI 0,xI 0,.slice none 0 0] 147 (0,0)):=(hF1.block _ (by simp) (by omega)).trans (zc w _);have HL1:=za hL1;have HF1:=za hF1;have Hb1:=za hb1;go_wp2_with fail;refine (HNm.o _ HL1.o).mono ?_;rintro e w2 ⟨rfl,HL2,HF2⟩;have hz2:=HF2.size;have Hb2:=(HF2.block w.heap.size (by omega) (by omega)).trans Hb1.o;obtain⟨q0,q1,q2,q3,q4,q5,qf,qz⟩:=zt Hb2;have HV2:Hid (VI S pb w.heap.size (w.heap.size+1) 0 (w.alloc (.cells #[.string ⟨#[]⟩,xI 0,.slice none 0 0,xI 0,xI 0,.slice none 0 0] 147)) ((w2.setCell (xD w.heap.size 0) (.string nx)).setCell (xD w.heap.size 1) (xI na)) (.string nx) (xI na) (xI 0) (xI 0) (.slice none 0 0) (st.fresh.must 5 zW).name [] (.slice none 0 0) 0 []):=by refine⟨HNI.i2,(HL2.setOther hlt _ _).setOther hlt _ _,zh _ _ _ _ (zh _ _ _ _ Hb2),World.ownsRow_nil _ _ _ _,λ_=>⟨rfl,by simp,rfl⟩,?_⟩;have h:Fr (λk=>k=pb∨k=w.heap.size∨w.heap.size+1<=k) (w.alloc (.cells #[.string ⟨#[]⟩,xI 0,.slice none 0 0,xI 0,xI 0,.slice none 0 0] 147)) w2:=(HF1.o.trans HF2).mono (λ_ _ h=>Or.inl h);exact (h.setCell (Or.inl (Or.inr (Or.inl rfl))) _).setCell (Or.inl (Or.inr (Or.inl rfl))) _
 go_wp2_with fail;generalize Hw0:w.alloc (.cells #[.string ⟨#[]⟩,xI 0,.slice none 0 0,xI 0,xI 0,.slice none 0 0] 147)=w0 at HV2;have hz0:w0.heap.size=w.heap.size+1:=by rw[<- Hw0,zsb]
 have HP3:=za (zhz S pb w.heap.size (w.heap.size+1) 0 16 true w0 _ _ _ _ _ _ _ _ _ 0 _ (by omega) (by omega) (by omega) hlt (by omega) (by omega) HV2.o);rw[HNF.h3] at HP3;refine HP3.o.mono ?_;rintro e w3 ⟨vs3,n3,xs3,rfl,hn3,hV3⟩;obtain⟨q0,q1,q2,q3,q4,q5,qf,qz⟩:=zt hV3.blk;have HV3:=za (hV3.set3 hlt (by omega) (xI ((n3:Int)-((0:Nat):Int))));have hz3:=hV3.fr.size;go_wp2_with fail;have HEx4:=za (zP S pb x3.1 ⟨#[45,62]⟩ _ zp4 _ HNI.i3.toBad HV3.o.pl);rw[zan HV3.o.pl.tx (by decide)] at HEx4;refine HEx4.o.mono ?_;rintro e w4 ⟨rfl,hL4,hF4⟩;have HV4:=za (HV3.o.goes hlt (by omega) HNI.i4 (λhe=>zay he) hL4 hF4);go_wp2_with fail;have HP5:=za (zhz S pb w.heap.size (w.heap.size+1) 0 17 false w0 _ _ _ _ _ _ _ _ _ _ _ (by omega) (by omega) (by omega) hlt (by omega) (by omega) HV4.o);rw[HNF.h5] at HP5;refine HP5.o.mono ?_;rintro e w5 ⟨vs5,n5,xs5,rfl,hn5,hV5⟩;obtain⟨q0,q1,q2,q3,q4,q5,qf,qz⟩:=zt hV5.blk;have HV5:=za (hV5.set4 hlt (by omega) (xI ((n5:Int)-(n3:Int))));have hz5:=hV5.fr.size;have Hn3:=za HV4.o.ok;have Hn5:=za hV5.ok;go_wp2_with fail;have HSk:=za (zbg S pb x5.1 ⟨#[118,97,114]⟩ _ zrp _ HNI.i5.toBad HV5.o.pl);have hska:x5.1.skipM zi2=if x5.1.is 5 zi2=true then x5.1.step else x5.1:=by unfold St.skipM;rw[zar HV5.o.pl.tx (by decide)]
 rw[zar HV5.o.pl.tx (by decide),hska] at HSk;refine HSk.o.mono ?_;rintro e w6 ⟨rfl,hL6,hF6⟩;have HL6:=za hL6;have HF6:=za hF6;have hz6:=hF6.size;go_upto_if 30 with fail;go_cut [] (λwy=>∃vs n xs,Hid (VI S pb w.heap.size (w.heap.size+1) 0 w0 wy (.string nx) (xI na) (xI ((n3:Int)-((0:Nat):Int))) (xI ((n5:Int)-(n3:Int))) (.slice none 0 0) x6.1 x6.2 vs n xs));case first =>
  cases hc:x5.1.is 5 zi2 with
  | false => rw[hc,if_neg (by simp)] at HL6;have h6:zaS f x5.1 x5.2=(x5.1,x5.2):=(by unfold zaS;rw[if_neg (by rw[hc];simp)]);rw[HNF.h6] at h6;have H6:=za h6;go_wp2_with fail;go_meet;rw[H6.o];exact⟨_,_,_,HV5.o.goes hlt (by omega) HNI.i5 (λh=>h) HL6.o HF6.o⟩
  | true =>
    rw[hc,if_pos rfl] at HL6;have h6:zaS f x5.1 x5.2=zbA f (zaR x5.1.step x5.2):=(by unfold zaS;rw[if_pos hc]);rw[HNF.h6] at h6;have H6:=za h6;have he:x5.1.er=0:=HNI.i5.toBad.er (by rw[Inv.is_k hc];decide);have e5:=Fwd.step HNI.i5;have HV6:=za (HV5.o.goes hlt (by omega) e5.inv (λ_=>he) HL6.o HF6.o);have hn16:n5<=16:=(by have:=HV5.o.ok he;omega);go_wp2_with fail;go_loopg [4] f (λk mo wx=>∃(b:Bool) (s:St) (vl:List Vr) (vv:Value) (nn:Nat) (xx:List Value),mo=.bool b/\Hid (VI S pb w.heap.size (w.heap.size+1) 0 w0 wx (.string nx) (xI na) (xI ((n3:Int)-((0:Nat):Int))) (xI ((n5:Int)-(n3:Int))) (.slice none 0 0) s vl vv nn xx)/\Hid (b=true->nn<=16/\zbA k (zaR s vl)=x6/\1201-s.t.a<k)/\Hid (b=false->(s,vl)=x6));case atStart=>exact⟨true,x5.1.step,x5.2,vs5,n5,xs5,rfl,HV6,λ_=>⟨hn16,H6.o.symm,by omega⟩,λh=>by cases h⟩
    case round =>
     obtain⟨b,s,vl,vv,nn,xx,rfl,HA,HT,HFa⟩:=hrel;cases b with
     | false => have HQ:=za (HFa.o rfl);go_wp2_with fail;go_meet;rw[<- HQ.o];exact⟨_,_,_,HA⟩
     | true =>
       obtain⟨hnm,hR1,hrem⟩:=HT.o rfl;have HLc:=za (ziY S pb w.heap.size (w.heap.size+1) 0 w0 wr _ _ _ _ _ s vl vv nn xx (by omega) hlt (by omega) (by omega) HA.o);have hgl:=zej (vars:=vl) HA.o.inv;have HGl:=za hgl;have HMr:=za (λhe hs=>zlj (vars:=vl) HA.o.inv he hs);generalize hy:zaR s vl=y at *;have HR1:=za hR1;have Hrem:=za hrem;have HFy:=za hgl.1;go_wp2_with fail;refine HLc.o.mono ?_;rintro e w8 ⟨rfl,vs8,xs8,hV8⟩;obtain⟨h0,h1,h2,h3,h4,h5,h6⟩:=hV8.pl.cells;have hlt8:=hV8.pl.lt;have HV8:=za hV8;go_wp2_with fail;obtain⟨g,rfl⟩:∃g,gk=g+1:=⟨gk-1,by have:=Hrem.o;omega⟩;go_roundg g;case measure=>omega
       have hunf:zbA (g+1) y=if y.1.er=0/\y.1.t.k=2 then zbA g (zaR y.1 y.2) else y:=rfl;have hR1:=HR1.o;rw[hunf] at hR1;refine⟨(y.1.t.k==2),y.1,y.2,vs8,nn+1,xs8,by rw[zfB],HV8,λhb=>?_,λhb=>?_⟩
       . have hk:y.1.t.k=2:=(by simpa using hb);have he:y.1.er=0:=HV8.o.inv.toBad.er (by rw[hk];decide);rw[if_pos ⟨he,hk⟩] at hR1;have k1:=HV8.o.ok he;have k2:=HMr.o (HFy.o.back he) he;have k3:=Hrem.o;have k4:=HV8.o.inv.ok.ta_le;have k5:=HA.o.inv.ok.ta_le;exact⟨by omega,hR1,by omega⟩
       . have hk:¬y.1.t.k=2:=(by simpa using hb);rw[if_neg (λh=>hk h.2)] at hR1;exact hR1
 case rest =>
  obtain⟨vs,n,xs,HV7⟩:=hcut;have hzc:=HV7.o.fr.size;have HEx8:=za (zP S pb x6.1 ⟨#[123]⟩ _ zrj _ HNI.i6.toBad HV7.o.pl);rw[zan HV7.o.pl.tx (by decide)] at HEx8;go_wp2_with fail;refine HEx8.o.mono ?_;rintro e w9 ⟨rfl,hL9,HF9⟩;have hz9:=HF9.size;have hE9:EI S pb w.heap.size (w.heap.size+1) 0 w w9 (.string nx) (xI na) vs (xI ((n3:Int)-((0:Nat):Int))) (xI ((n5:Int)-(n3:Int))) n xs (x6.1.must 4 [123]) [] (.slice none 0 0) 0 []:=by refine⟨HNI.i7,HNI.o7,hL9,(HF9.block _ (by omega) (by omega)).trans HV7.o.blk,zi HV7.o.own (λk h1 h2 _=>HF9.block k h2 (by omega)),(λk _ h=>by cases h),World.ownsRow_nil _ _ _ _,λ_=>⟨rfl,rfl⟩,?_⟩;have h1:Fr (·=pb) w w0:=(by rw[<- Hw0];exact (Fr.refl _ w).alloc _);exact (h1.trans' HV7.o.fr (λi hi h=>by omega)).trans HF9
  have HE9:=za hE9;have HV7k:=za HV7.o.ok;have H8:Hid (zb5 r17 r18 f (zF r17 r18 (x6.1.must 4 [123]) [])=R):=by unfold Hid;rw[HNF.h8,HNF.hR]
  go_wp2_with fail;go_loopg [5] f (λk mo wx=>∃(b:Bool) (s:St) (eqs:List Eqn) (ev:Value) (m:Nat) (xq:List Value),mo=.bool b/\Hid (EI S pb w.heap.size (w.heap.size+1) 0 w wx (.string nx) (xI na) vs (xI ((n3:Int)-((0:Nat):Int))) (xI ((n5:Int)-(n3:Int))) n xs s eqs ev m xq)/\m+k<=f/\Hid (w0.heap.size<=wx.heap.size)/\Hid (b=true->zb5 r17 r18 k (zF r17 r18 s eqs)=R/\1201-s.t.a<k)/\Hid (b=false->(s,eqs)=R));case atStart=>exact⟨true,_,[],.slice none 0 0,0,[],rfl,HE9,by omega,by unfold Hid;omega,λ_=>⟨H8.o,by omega⟩,λh=>by cases h⟩
  case round =>
   obtain⟨b,s,eqs,ev,m,xq,rfl,HA,hmf,Hzw,HT,HFa⟩:=hrel;cases b with
   | false => have HQ:=za (HFa.o rfl);have hA:EI S pb w.heap.size (w.heap.size+1) 0 w wr (.string nx) (xI na) vs (xI ((n3:Int)-((0:Nat):Int))) (xI ((n5:Int)-(n3:Int))) n xs R.1 R.2 ev m xq:=(by rw[<- HQ.o];exact HA.o);have HA1:=za hA;have HEx:=za (zP S pb R.1 ⟨#[125]⟩ _ zro wr hA.inv.toBad hA.pl);rw[zan hA.pl.tx (by decide)] at HEx;go_wp2_with fail;refine HEx.o.mono ?_;rintro e w10 ⟨rfl,hL10,hF10⟩;have HE10:=za (HA1.o.goes hlt (by omega) (Fwd.must HA1.o.inv 4 [125]).inv (by rw[St.must_op];exact HA1.o.op) (St.must_L _ _ _) (λhe=>zay he) hL10 hF10);go_wp2_with fail;go_ret;refine⟨w.heap.size,rfl,Nat.le_refl _,HE10.o.pl,HE10.o.fr,?_⟩;intro he;obtain⟨b1,b2,b3,b4,b5⟩:=zll G17 G18 HNI HNF (zay he);obtain⟨c1,c2⟩:=HNk (zeH b1);obtain⟨d1,d2,d3⟩:=HV7k.o b5;obtain⟨e1,e2⟩:=HE10.o.ok he;have f3:=(Hn3.o b3).1;have f5:=(Hn5.o b4).1;have f35:=zlH false (x3.1.must 4 [45,62]) x3.2;rw[HNF.h5] at f35;have hbk:=HE10.o.blk;subst c1 c2 d1 d3 e1;have g3:((n3:Int)-((0:Nat):Int))=((x3.2.length:Nat):Int):=(by omega);have g5:((n5:Int)-(n3:Int))=((x5.2.length-x3.2.length:Nat):Int):=(by omega);rw[g3,g5] at hbk;exact⟨vs,ev,xq,hbk,zR HE10.o.vown (by omega),d2,zR HE10.o.own (by omega),e2.weak (by omega)⟩
   | true =>
     obtain⟨hR1,hrem⟩:=HT.o rfl;have hzr:=Hzw.o;have hltr:=HA.o.pl.lt;have HQe:=za (λw1 h=>zje HX HK G17 G18 S pb 0 s w1 HA.o.inv HA.o.op h);have hge:=za1 G17 G18 (eqs:=eqs) HA.o.inv HA.o.op;have HGe:=za hge;have HMr:=za (λhe hs=>ziF G17 G18 (eqs:=eqs) HA.o.inv HA.o.op he hs);obtain⟨y,hy⟩:∃y,zF r17 r18 s eqs=y:=⟨_,rfl⟩;obtain⟨q,hq⟩:∃q,zgH r17 r18 s=q:=⟨_,rfl⟩;have hy1:(zF r17 r18 s []).1=y.1:=(by rw[<- zj4 r17 r18 s eqs,hy]);have Hy2:y.2=eqs++[q]:=(by rw[<- hy,ziE,hq]);rw[hy1,hq] at HQe;rw[hy] at hR1 HGe HMr;have HR1:=za hR1;have Hrem:=za hrem;obtain⟨q0,q1,q2,q3,q4,q5,qf,qz⟩:=zt HA.o.blk;obtain⟨i0,hi,hi0,hi1,hi2⟩:=info_parts Tryz.infoEq;have mx:m+1<=maxLen:=(by unfold maxLen;omega);have by':(m+1)*40<=140737488355328:=(by omega);go_upto_block 3 with fail;go_cut [] (λwy=>∃ev' xq',Hid (EI S pb w.heap.size (w.heap.size+1) 0 w wy (.string nx) (xI na) vs (xI ((n3:Int)-((0:Nat):Int))) (xI ((n5:Int)-(n3:Int))) n xs y.1 y.2 ev' (m+1) xq')/\Hid (w0.heap.size<=wy.heap.size));case first =>
      go_wp2_with fail;go_region_law (first|(refine zbL rfl 139 (.tmp 59) 136 rfl zj0 (xP pb) rfl (HQe.o _ HA.o.pl.drew) ?_;rintro e w2 ⟨lq,kq,ysq,pq,aq,rfl,⟨xl,cl,rfl⟩,HL2,Hlq,hok2,hF2'⟩;refine⟨_,rfl,?_⟩;have HF2:Fr (·=pb) wr w2:=hF2'.undrew;have hzc2:=HF2.size;have Hb2:=(HF2.block w.heap.size qz (by omega)).trans HA.o.blk;obtain⟨f0,f1,f2,f3,f4,f5,ff,fz⟩:=zt Hb2;have Hown2:=za (zi HA.o.own (λk h1 h2 _=>HF2.block k h2 (by omega)));have Hok2:=za hok2.out;have hzw:w.heap.size+1<=w2.heap.size+1:=(by omega))|(refine zJ _ rfl (.tmp 58) (.tmp 61) 145 rfl (w.heap.size+1) 161 i0 _ 3 40 underlying145 hi hi0 hi1 hi2 rfl (by decide) ev m xq rfl (zD Hown2.o _) (xD w2.heap.size 0) 1 1 [.slice xl kq cl,xI pq,.pointer aq] rfl rfl (zN (zc w2 _) rfl) zrH mx by' (by simpa using hzw) ?_;intro v' w9 Hown9 hgrow Hnew9;obtain⟨g9,cap9,rfl,hg9⟩:=zM Hown9 (by omega);have HF9:=Fr.of_grown hgrow;have hb9:w9.heap[w.heap.size]?=w2.heap[w.heap.size]?:=((HF9.block w.heap.size (by rw[zsb];omega) (λh=>by have:=(Hown2.o.lt _ h).1;omega)).trans (Below.heap_alloc _ _ _ fz));have Hn9:=za (hb9.trans Hb2);obtain⟨m0,m1,m2,m3,m4,m5,mf,mz⟩:=zt Hn9.o;have HL9:=za (PL.fr (HL2.alloc _) HF9 (λk hk=>by have:=(Hown2.o.lt k hk).1;omega));have hzz9:=HF9.size;rw[zsb] at hzz9));all_goals go_wp2_with fail
      all_goals go_meet
      all_goals exact⟨_,_,(by unfold Hid;rw[Hy2];exact zph HA.o hlt (by omega) (by omega) (by omega) HGe.o.1 (HGe.o.2.trans HA.o.op) HF2 Hlq Hok2.o HL9.o HF9 Hn9.o Hown9 Hnew9),(by unfold Hid;simp[World.setCell];omega)⟩
     case rest =>
      obtain⟨ev2,xq2,HA2,Hz2⟩:=hcut;have HBd2:=za HA2.o.inv.toBad;obtain⟨h0,h1,h2,h3,h4,h5,h6⟩:=HA2.o.pl.cells;have hlt2:=HA2.o.pl.lt;obtain⟨g,rfl⟩:∃g,gk=g+1:=⟨gk-1,by have:=Hrem.o;omega⟩;have HAt:=za (zaP S pb y.1 ⟨#[40]⟩ _ zfn wc HBd2.o.ok.tk HA2.o.pl);rw[zaB HA2.o.pl.tx (by decide)] at HAt;have HN1:Hid ((y.1.t.k=2∨y.1.is 4 [40]=true)->zb5 r17 r18 g (zF r17 r18 y.1 y.2)=R/\1201-y.1.t.a<g):=λhc=>by
       have hR1:=HR1.o;rw[show zb5 r17 r18 (g+1) y=if y.1.t.k=2∨y.1.is 4 [40]=true then zb5 r17 r18 g (zF r17 r18 y.1 y.2) else y from rfl,if_pos hc] at hR1;have he:y.1.er=0:=HBd2.o.er (by
        rcases hc with h|h
        . rw[h];decide
        . rw[Inv.is_k h];decide)
       have k2:=HMr.o (HGe.o.1.back he) he;have k3:=Hrem.o;have k4:=HA2.o.inv.ok.ta_le;have k5:=HA.o.inv.ok.ta_le;exact⟨hR1,by omega⟩
      have HN0:Hid (¬(y.1.t.k=2∨y.1.is 4 [40]=true)->(y.1,y.2)=R):=λhc=>by have hR1:=HR1.o;rw[show zb5 r17 r18 (g+1) y=if y.1.t.k=2∨y.1.is 4 [40]=true then zb5 r17 r18 g (zF r17 r18 y.1 y.2) else y from rfl,if_neg hc] at hR1;exact hR1
      cases hk:(y.1.t.k==2) with
      | true =>
        have hck:=(zfB y.1.t).trans hk;go_wp2_with fail;go_roundg g;case measure=>omega
        have hk':y.1.t.k=2:=(by simpa using hk);exact⟨true,y.1,y.2,ev2,m+1,xq2,by simp,HA2,by omega,Hz2,λ_=>HN1.o (.inl hk'),λh=>by cases h⟩
      | false =>
        have hck:=(zfB y.1.t).trans hk;go_wp2_with (go_at_call 73;refine HAt.o.mono ?_;rintro e w' ⟨rfl,rfl⟩);go_roundg g;case measure=>omega
        have hk':¬y.1.t.k=2:=(by simpa using hk);refine⟨y.1.is 4 [40],y.1,y.2,ev2,m+1,xq2,by simp,HA2,by omega,Hz2,λh=>HN1.o (.inr h),λh=>HN0.o ?_⟩;rintro (h'|h')
        . exact hk' h'
        . rw[h] at h';cases h'
end
section
variable {r17 r18:Fn} {L:List Ex} {l:List Vr} {B B':Nat} {nd:Nd} {av v:Value} {p:Vr->Bool} {w w':World}
def ze0 (L:List Ex)(w:World)(B:Nat):List Eqn->List Value->Prop
 | [],xs=>xs=[]
 | q::qs,xs=>∃lv a ys,xs=lv::(xI q.a)::.pointer a::ys/\EQ L q lv a w B/\ze0 L w B qs ys
theorem zcJ.now:∀{qs:List Eqn} {xs:List Value},zcJ B w av L qs xs->ze0 L w B qs xs:=by
 intro qs;induction qs with
 | nil=>intro xs h;exact h
 | cons q qs ih => rintro xs ⟨lv,a,ys,h1,h2,h3⟩;exact⟨lv,a,ys,h1,zq4 h2,ih h3⟩
theorem ze0.kept (hk:∀k,B<=k->k<w.heap.size->w'.heap[k]?=w.heap[k]?):∀{qs:List Eqn} {xs:List Value},ze0 L w B qs xs->ze0 L w' B qs xs:=by
 intro qs;induction qs with
 | nil=>intro xs h;exact h
 | cons q qs ih => rintro xs ⟨lv,a,ys,h1,h2,h3⟩;exact⟨lv,a,ys,h1,h2.kept hk,ih h3⟩
theorem ze0.down (hb:B'<=B):∀{qs:List Eqn} {xs:List Value},ze0 L w B qs xs->ze0 L w B' qs xs:=by
 intro qs;induction qs with
 | nil=>intro xs h;exact h
 | cons q qs ih => rintro xs ⟨lv,a,ys,h1,h2,h3⟩;exact⟨lv,a,ys,h1,h2.down hb,ih h3⟩
def Nd.ins (nd:Nd):Nat:=(nd.vars.filter (·.inn)).length
def Nd.outs (nd:Nd):Nat:=(nd.vars.filter (·.out)).length
theorem zdK (i o:Bool)(st:St)(vars:List Vr):∃E,(zx i o st vars).2=vars++E/\∀v∈E,v.inn=i/\v.out=o:=by
 unfold zx;split
 . exact⟨[],by simp,by simp⟩
 . simp only;split
   . exact⟨_,rfl,by simp⟩
   . exact⟨_,rfl,by simp⟩
theorem zlI (i:Bool):∀(f:Nat) (x:St×List Vr),∃E,(zaG i f x).2=x.2++E/\∀v∈E,v.inn=i/\v.out=!i:=by
 intro f;induction f with
 | zero=>intro x;exact⟨[],by simp[zaG],by simp⟩
 | succ f ih =>
   intro x;rw[show zaG i (f+1) x=if x.1.er=0/\x.1.is 4 [44]=true then zaG i f (zx i (!i) x.1.step x.2) else x from rfl];split
   . obtain⟨E,h1,h2⟩:=zdK i (!i) x.1.step x.2;obtain⟨E',h3,h4⟩:=ih (zx i (!i) x.1.step x.2);refine⟨E++E',by rw[h3,h1,List.append_assoc],λv hv=>?_⟩;rcases List.mem_append.1 hv with h|h
     . exact h2 v h
     . exact h4 v h
   . exact⟨[],by simp,by simp⟩
theorem zin (i:Bool)(st:St)(vars:List Vr):∃E,(zab i st vars).2=vars++E/\∀v∈E,v.inn=i/\v.out=!i:=by
 obtain⟨f,hf⟩:∃f,f=1300:=⟨_,rfl⟩;rw[zip hf];obtain⟨E,h1,h2⟩:=zdK i (!i) (st.must 4 [40]) vars;obtain⟨E',h3,h4⟩:=zlI i f (zx i (!i) (st.must 4 [40]) vars);refine⟨E++E',by simp only;rw[h3,h1,List.append_assoc],λv hv=>?_⟩;rcases List.mem_append.1 hv with h|h
 . exact h2 v h
 . exact h4 v h
theorem zlE:∀(f:Nat) (x:St×List Vr),∃E,(zbA f x).2=x.2++E/\∀v∈E,v.inn=false/\v.out=false:=by
 intro f;induction f with
 | zero=>intro x;exact⟨[],by simp[zbA],by simp⟩
 | succ f ih =>
   intro x;rw[show zbA (f+1) x=if x.1.er=0/\x.1.t.k=2 then zbA f (zaR x.1 x.2) else x from rfl];split
   . obtain⟨E,h1,h2⟩:=zdK false false x.1 x.2;obtain⟨E',h3,h4⟩:=ih (zaR x.1 x.2);refine⟨E++E',by rw[h3,show (zaR x.1 x.2).2=(zx false false x.1 x.2).2 from rfl,h1,List.append_assoc],λv hv=>?_⟩;rcases List.mem_append.1 hv with h|h
     . exact h2 v h
     . exact h4 v h
   . exact⟨[],by simp,by simp⟩
theorem zpG (f:Nat)(st:St)(vars:List Vr):∃E,(zaS f st vars).2=vars++E/\∀v∈E,v.inn=false/\v.out=false:=by
 unfold zaS;split
 . obtain⟨E,h1,h2⟩:=zdK false false st.step vars;obtain⟨E',h3,h4⟩:=zlE f (zaR st.step vars);refine⟨E++E',by rw[h3,show (zaR st.step vars).2=(zx false false st.step vars).2 from rfl,h1,List.append_assoc],λv hv=>?_⟩;rcases List.mem_append.1 hv with h|h
   . exact h2 v h
   . exact h4 v h
 . exact⟨[],by simp,by simp⟩
theorem zg7 (h:∀v∈l,p v=true):(l.filter p).length=l.length:=by rw[List.filter_eq_self.2 h]
theorem zeT (h:∀v∈l,p v=false):(l.filter p).length=0:=by rw[List.filter_eq_nil_iff.2 (λv hv=>by rw[h v hv];simp)];rfl
theorem zm5 {f:Nat}{st:St}{x3 x5 x6:St×List Vr}{x8 R:St×List Eqn}(h:zgn r17 r18 f st x3 x5 x6 x8 R):(x6.2.filter (·.inn)).length=x3.2.length/\(x6.2.filter (·.out)).length=x5.2.length-x3.2.length:=by obtain⟨E3,a3,b3⟩:=zin true (st.fresh.must 5 zW).name [];obtain⟨E5,a5,b5⟩:=zin false (x3.1.must 4 [45,62]) x3.2;obtain⟨E6,a6,b6⟩:=zpG f x5.1 x5.2;rw[h.h3] at a3;rw[h.h5] at a5;rw[h.h6] at a6;simp only[List.nil_append] at a3;rw[a6,a5,a3];simp only[List.filter_append,List.length_append];rw[zg7 (λv hv=>(b3 v hv).1),zeT (λv hv=>(b5 v hv).1),zeT (λv hv=>(b6 v hv).1),zeT (λv hv=>(b3 v hv).2),zg7 (l:=E5) (λv hv=>(b5 v hv).2),zeT (λv hv=>(b6 v hv).2)];omega
structure NDc (nd:Nd) (w:World) (B nb:Nat) (vs ev:Value) (xs:List Value):Prop where
 blk:xH w nb #[.string nd.nm,xI nd.a,vs,xI nd.ins,xI nd.outs,ev] 147
 lo:B<=nb
 vown:w.ownsRow B 156 7 vs nd.vars.length (zb0 nd.vars)
 few:nd.vars.length<=16
 own:w.ownsRow B 161 3 ev nd.eqs.length xs
 eqs:ze0 nd.exs w B nd.eqs xs
def ND (nd:Nd)(v:Value)(w:World)(B:Nat):Prop:=∃nb vs ev xs,v=xP nb/\NDc nd w B nb vs ev xs
theorem ND.kept (h:ND nd v w B)(hk:∀k,B<=k->k<w.heap.size->w'.heap[k]?=w.heap[k]?):ND nd v w' B:=by obtain⟨nb,vs,ev,xs,h0,h⟩:=h;exact⟨nb,vs,ev,xs,h0,(hk nb h.lo (ze h.blk)).trans h.blk,h.lo,zi h.vown (λk h1 h2 _=>hk k h1 h2),h.few,zi h.own (λk h1 h2 _=>hk k h1 h2),h.eqs.kept hk⟩
theorem ND.down (h:ND nd v w B)(hb:B'<=B):ND nd v w B':=by obtain⟨nb,vs,ev,xs,h0,h⟩:=h;exact⟨nb,vs,ev,xs,h0,h.blk,Nat.le_trans hb h.lo,zR h.vown hb,h.few,zR h.own hb,h.eqs.down hb⟩
theorem zqU {wr:World}(h:Was B wr av (ND nd v)):ND nd v wr B:=by obtain⟨wi,Bi,h1,h2,h3,_,_⟩:=h;exact (h2.kept h3).down h1
theorem zmS (hX:zX 18 194 r18)(hK:zdI 18 r17)(g17:zv 17 r17)(g18:zv 18 r18)(S:Nat->Addr)(pb p f:Nat)(hf1:1202<f)(hf2:f<=5000)(st:St)(w:World)(hI:Inv p st)(ho:st.op=0)(hR:PL S w pb st) :
 xK 74 #[xP pb] w (λe w'=>∃a:Addr,e=.returned (.pointer (some a))/\PL S w' pb (zax r17 r18 f st).1/\Fr (·=pb) w w'/\Hid ((zax r17 r18 f st).1.er=0->ND (zax r17 r18 f st).2 (.pointer (some a)) w' w.heap.size)):=by
 obtain⟨x3,h3⟩:∃x3,zab true (st.fresh.must 5 zW).name []=x3:=⟨_,rfl⟩;obtain⟨x5,h5⟩:∃x5,zab false (x3.1.must 4 [45,62]) x3.2=x5:=⟨_,rfl⟩;obtain⟨x6,h6⟩:∃x6,zaS f x5.1 x5.2=x6:=⟨_,rfl⟩;obtain⟨x8,h8⟩:∃x8,zF r17 r18 (x6.1.must 4 [123]) []=x8:=⟨_,rfl⟩;obtain⟨R,hRR⟩:∃R,zb5 r17 r18 f x8=R:=⟨_,rfl⟩;have hN:zgn r17 r18 f st x3 x5 x6 x8 R:=⟨h3,h5,h6,h8,hRR⟩;clear h3 h5 h6 h8 hRR;have hi:=zm5 hN;rw[znI hN];refine (zop hX hK g17 g18 S pb p f hf1 hf2 st w hI ho hR hN).mono ?_;rintro e w' ⟨nb,rfl,h1,h2,h3,h4⟩;refine⟨(xD nb 0),rfl,h2,h3,λhe=>?_⟩;obtain⟨vs,ev,xs,k1,k2,k3,k4,k5⟩:=h4.out he;refine⟨nb,vs,ev,xs,rfl,?_,h1,k2,k3,k4,k5.now⟩;dsimp only[Nd.ins,Nd.outs];rw[hi.1,hi.2];exact k1
end
end Go.Proofs.YtmfkofhgdjechaaGreatDoor
