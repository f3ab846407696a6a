/- Part 6. -/
import Derived.Laws.CopyOwn
import Derived.Laws.IdiomStrings
import Derived.Lib.ItoaNum
import Derived.Lib.SliceRun
import Derived.Test.YtenadialhccdiaaGreatDoorK04
set_option maxRecDepth 100000
set_option maxHeartbeats 8000000
namespace Go.Proofs.YtenadialhccdiaaGreatDoor
open Go.Proofs.Tryz
section
open Go.RowKit
variable {r17 r18:Fn} {xs:Xm} {vars:List Vr} {B f n nb p pb:Nat} {S:Xs} {s st:St} {R x8:St×List Eqn} {x3 x5 x6:St×List Vr} {c0 c1 c3 c4 c5 vs:Xv} {w wr:Xw}
theorem zmU:(⟨#[110,111,100,101]⟩:Xb).toList=zW:=by decide +kernel
theorem zrp:(⟨#[118,97,114]⟩:Xb).toList=zi2:=by decide +kernel
theorem zp4:(⟨#[45,62]⟩:Xb).toList=[45,62]:=by decide +kernel
theorem zrj:(⟨#[123]⟩:Xb).toList=[123]:=by decide +kernel
theorem zro:(⟨#[125]⟩:Xb).toList=[125]:=by decide +kernel
structure zgn (r17 r18:Fn) (f:Nat) (st:St) (x3 x5 x6:St×List Vr) (x8 R:St×List Eqn):Prop where
 h3:zab true (st.fresh.must 5 zW).name []=x3
 h5:zab false (x3.1.must 4 [45,62]) x3.2=x5
 h6:zaS f x5.1 x5.2=x6
 h8:zF r17 r18 (x6.1.must 4 [123]) []=x8
 hR:zb5 r17 r18 f x8=R
theorem znI (h:zgn r17 r18 f st x3 x5 x6 x8 R) :
 zax r17 r18 f st=(R.1.must 4 [125],⟨(st.fresh.must 5 zW).t.s,(st.fresh.must 5 zW).t.a,x6.2,(R.1.must 4 [125]).L,R.2⟩):=by
 have e5:zaI st.fresh=x5:=by unfold zaI;simp only;rw[h.h3,h.h5]
 unfold zax zdr;simp only;rw[e5,h.h6,h.h8,h.hR]
theorem zjJ (g17:zv 17 r17)(g18:zv 18 r18)(hI:Inv p st)(ho:st.op=0)(h:zgn r17 r18 f st x3 x5 x6 x8 R):zlN st x3 x5 x6 x8 R:=by have h0:=zkO g17 g18 hI ho (⟨h.h3,h.h5,h.h6,h.h8,rfl⟩:zo4 r17 r18 f st x3 x5 x6 x8 (zd6 r17 r18 f x8));have gR:=zfZ g17 g18 f 0 x8 h0.i8 h0.o8;rw[h.hR] at gR;exact⟨h0.i0,h0.i1,h0.i2,h0.i3,h0.i4,h0.i5,h0.i6,h0.i7,h0.i8,gR.1.inv,h0.o7,h0.o8,h0.l3,h0.l5,h0.l6⟩
theorem VI.set3 (h:VI S pb nb B p w wr c0 c1 c3 c4 c5 s vars vs n xs)(hnp:pb<nb)(hBn:nb<B)(v:Xv):VI S pb nb B p w (wr.setCell (xD nb 3) v) c0 c1 v c4 c5 s vars vs n xs :=
 ⟨h.inv,h.pl.setOther hnp _ _,zh _ _ _ _ h.blk,zi h.own (λk h1 _ _=>zr (by omega) rfl),h.ok,h.fr.setCell (zM3 (zM4 (zM3 rfl))) _⟩
theorem VI.set4 (h:VI S pb nb B p w wr c0 c1 c3 c4 c5 s vars vs n xs)(hnp:pb<nb)(hBn:nb<B)(v:Xv):VI S pb nb B p w (wr.setCell (xD nb 4) v) c0 c1 c3 v c5 s vars vs n xs :=
 ⟨h.inv,h.pl.setOther hnp _ _,zh _ _ _ _ h.blk,zi h.own (λk h1 _ _=>zr (by omega) rfl),h.ok,h.fr.setCell (zM3 (zM4 (zM3 rfl))) _⟩
theorem PL.fresh (h:PL S w pb st):PL S w pb st.fresh:=⟨h.tx,h.heap,h.gl,h.pb⟩
theorem zfB (t:Tk):(((ck t:Nat):Int)==3)=(t.k==2):=by have h:=zhL (t:=t);rw[bne] at h;cases h1:(((ck t:Nat):Int)==3) <;> cases h2:(t.k==2) <;> simp_all
theorem zj0:zH 133:=λ_ _=>by kernel_rfl
theorem Tryz.infoEq:(prog.info? 158).map (λi=>(i.zero,i.size,i.bytes))=some (some (.agg #[.slice none 0 0,xI 0,.pointer none]),3,40):=by kernel_rfl
theorem zrH {x:Xp}{k c:Nat}{a:Int}{b:Xp}:∀u∈[Value.slice x k c,xI a,.pointer b],u.oneCell'=true:=by intro u hu;simp at hu;rcases hu with rfl|rfl|rfl <;> rfl
theorem zcJ.weak {B':Nat}{av:Xv}{L:List Ex}(hb:B'<=B):∀{qs:List Eqn} {xs:Xm},zcJ B wr av L qs xs->zcJ B' wr (.slice none 0 0) L qs xs:=by
 intro qs;induction qs with
 | nil=>intro xs h;exact h
 | cons q qs ih => rintro xs ⟨lv,a,ys,h1,⟨wi,Bi,k1,k2,k3,_,k5⟩,h3⟩;exact⟨lv,a,ys,h1,⟨wi,Bi,zMO hb k1,k2,k3,λg hg=>(by cases hg),k5⟩,ih h3⟩
theorem zf6 (i o:Bool)(st:St)(vars:List Vr):vars.length<=(zx i o st vars).2.length:=by
 unfold zx;split
 . exact zMK _
 simp only;split <;> simp
theorem zkh (i:Bool):∀(f:Nat) (x:St×List Vr),x.2.length<=(zaG i f x).2.length:=by
 intro f;induction f with
 | zero=>intro x;exact zMK _
 | succ f ih =>
   intro x
   show x.2.length<=(if _ then _ else x).2.length;split
   . exact zMO (zf6 _ _ _ _) (ih _)
   exact zMK _
theorem zlH (i:Bool)(st:St)(vars:List Vr):vars.length<=(zab i st vars).2.length:=by obtain⟨f,hf⟩:∃f,f=1300:=⟨_,rfl⟩;rw[zip hf];exact zMO (zf6 _ _ _ _) (zkh i f _)
theorem zll (g17:zv 17 r17)(g18:zv 18 r18)(hi:zlN st x3 x5 x6 x8 R)(h:zgn r17 r18 f st x3 x5 x6 x8 R)(he:R.1.er=0):(st.fresh.must 5 zW).name.er=0/\x3.1.er=0/\(x3.1.must 4 [45,62]).er=0/\x5.1.er=0/\x6.1.er=0:=by have gR:=zfZ g17 g18 f 0 x8 hi.i8 hi.o8;rw[h.hR] at gR;have e8:=gR.1.back he;have g8:=za1 g17 g18 (eqs:=[]) hi.i7 hi.o7;rw[h.h8] at g8;have e7:=g8.1.back e8;have e6:x6.1.er=0:=(Fwd.must hi.i6 4 [123]).back e7;have g6:=zeP (f:=f) (vars:=x5.2) hi.i5;rw[h.h6] at g6;have e5:=g6.1.back e6;have g5:=zbx (i:=false) (vars:=x3.2) hi.i4;rw[h.h5] at g5;have e4:=g5.1.back e5;have e3:x3.1.er=0:=(Fwd.must hi.i3 4 [45,62]).back e4;have g3:=zbx (i:=true) (vars:=[]) hi.i2;rw[h.h3] at g3;exact⟨g3.1.back e3,e3,e4,e5,e6⟩
def zri (S:Xs)(pb:Nat)(w:Xw)(st':St)(nd:Nd)(ni no:Nat)(e:Ending)(w':Xw):Prop :=
 ∃(nb:Nat),e=.returned (xP nb)/\w.heap.size<=nb/\PL S w' pb st'/\Fr (·=pb) w w' /\
  Hid (st'.er=0->∃(vs ev:Xv) (xs:Xm),w'.heap[nb]?=some (.cells #[.string nd.nm,xI nd.a,vs,xI ni,xI no,ev] 88 (0,0)) /\
   w'.ownsRow w.heap.size 101 7 vs nd.vars.length (zb0 nd.vars)/\nd.vars.length<=16/\w'.ownsRow w.heap.size 158 3 ev nd.eqs.length xs/\zcJ w.heap.size w' (.slice none 0 0) nd.exs nd.eqs xs)
theorem zop (HX:zX 18 159 r18)(HK:zdI 18 r17)(G17:zv 17 r17)(G18:zv 18 r18)(S:Xs)(pb p f:Nat)(hf1:1202<f)(hf2:f<=5000)(st:St)(w:Xw)(hI:Inv p st)(ho:st.op=0)(hR:PL S w pb st)(HNF:zgn r17 r18 f st x3 x5 x6 x8 R) :
 xK 86 #[xP pb] w (zri S pb w (R.1.must 4 [125]) ⟨(st.fresh.must 5 zW).t.s,(st.fresh.must 5 zW).t.a,x6.2,(R.1.must 4 [125]).L,R.2⟩ x3.2.length (x5.2.length-x3.2.length)):=by
 have hlt:=hR.lt;have HNI:=zjJ G17 G18 hI ho HNF;have HR:=za hR.fresh;have HEx1:=za (λw1 h=>zP S pb st.fresh ⟨#[110,111,100,101]⟩ _ zmU w1 HNI.i0.toBad h);rw[ze6 hR.fresh.tx (by decide)] at HEx1;have HNm:=za (λw1 h=>zaZ S pb (st.fresh.must 5 zW) w1 HNI.i1.toBad h);obtain⟨nx,na,hnv,HNk⟩:=zbw (st.fresh.must 5 zW);rw[hnv] at HNm;go_enter func86,ntmps86;go_wp2_with fail;refine (HEx1.o _ (HR.o.alloc _)).mono ?_;rintro e w1 ⟨rfl,hL1,hF1⟩;have hz1:=hF1.size;rw[zsb] at hz1;have hb1:w1.heap[w.heap.size]?=some (.cells #[.string ⟨#[]⟩,xI 0,.slice none 0 0,xI 0,xI 0,.slice none 0 0] 88 (0,0)):=(hF1.block _ (by simp) (by omega)).trans (zc w _);have HL1:=za hL1;have HF1:=za hF1;have Hb1:=za hb1;go_wp2_with fail;refine (HNm.o _ HL1.o).mono ?_;rintro e w2 ⟨rfl,HL2,HF2⟩;have hz2:=HF2.size;have Hb2:=(HF2.block w.heap.size (by omega) (by omega)).trans Hb1.o;obtain⟨q0,q1,q2,q3,q4,q5,qf,qz⟩:=zt Hb2;have HV2:Hid (VI S pb w.heap.size (w.heap.size+1) 0 (w.alloc (.cells #[.string ⟨#[]⟩,xI 0,.slice none 0 0,xI 0,xI 0,.slice none 0 0] 88)) ((w2.setCell (xD w.heap.size 0) (.string nx)).setCell (xD w.heap.size 1) (xI na)) (.string nx) (xI na) (xI 0) (xI 0) (.slice none 0 0) (st.fresh.must 5 zW).name [] (.slice none 0 0) 0 []):=by refine⟨HNI.i2,(HL2.setOther hlt _ _).setOther hlt _ _,zh _ _ _ _ (zh _ _ _ _ Hb2),World.ownsRow_nil _ _ _ _,λ_=>⟨rfl,by simp,rfl⟩,?_⟩;have h:Fr (λk=>k=pb∨k=w.heap.size∨w.heap.size+1<=k) (w.alloc (.cells #[.string ⟨#[]⟩,xI 0,.slice none 0 0,xI 0,xI 0,.slice none 0 0] 88)) w2:=(HF1.o.trans HF2).mono (λ_ _ h=>zM3 h);exact (h.setCell (zM3 (zM4 (zM3 rfl))) _).setCell (zM3 (zM4 (zM3 rfl))) _
 go_wp2_with fail;generalize Hw0:w.alloc (.cells #[.string ⟨#[]⟩,xI 0,.slice none 0 0,xI 0,xI 0,.slice none 0 0] 88)=w0 at HV2;have hz0:w0.heap.size=w.heap.size+1:=by rw[<- Hw0,zsb]
 have HP3:=za (zhz S pb w.heap.size (w.heap.size+1) 0 16 true w0 _ _ _ _ _ _ _ _ _ 0 _ (by omega) (by omega) (by omega) hlt (by omega) (by omega) HV2.o);rw[HNF.h3] at HP3;refine HP3.o.mono ?_;rintro e w3 ⟨vs3,n3,xs3,rfl,hn3,hV3⟩;obtain⟨q0,q1,q2,q3,q4,q5,qf,qz⟩:=zt hV3.blk;have HV3:=za (hV3.set3 hlt (by omega) (xI ((n3:Int)-((0:Nat):Int))));have hz3:=hV3.fr.size;go_wp2_with fail;have HEx4:=za (zP S pb x3.1 ⟨#[45,62]⟩ _ zp4 _ HNI.i3.toBad HV3.o.pl);rw[zan HV3.o.pl.tx (by decide)] at HEx4;refine HEx4.o.mono ?_;rintro e w4 ⟨rfl,hL4,hF4⟩;have HV4:=za (HV3.o.goes hlt (by omega) HNI.i4 (λhe=>zay he) hL4 hF4);go_wp2_with fail;have HP5:=za (zhz S pb w.heap.size (w.heap.size+1) 0 17 false w0 _ _ _ _ _ _ _ _ _ _ _ (by omega) (by omega) (by omega) hlt (by omega) (by omega) HV4.o);rw[HNF.h5] at HP5;refine HP5.o.mono ?_;rintro e w5 ⟨vs5,n5,xs5,rfl,hn5,hV5⟩;obtain⟨q0,q1,q2,q3,q4,q5,qf,qz⟩:=zt hV5.blk;have HV5:=za (hV5.set4 hlt (by omega) (xI ((n5:Int)-(n3:Int))));have hz5:=hV5.fr.size;have Hn3:=za HV4.o.ok;have Hn5:=za hV5.ok;go_wp2_with fail;have HSk:=za (zbg S pb x5.1 ⟨#[118,97,114]⟩ _ zrp _ HNI.i5.toBad HV5.o.pl);have hska:x5.1.skipM zi2=if x5.1.is 5 zi2=true then x5.1.step else x5.1:=by unfold St.skipM;rw[zar HV5.o.pl.tx (by decide)]
 rw[zar HV5.o.pl.tx (by decide),hska] at HSk;refine HSk.o.mono ?_;rintro e w6 ⟨rfl,hL6,hF6⟩;have HL6:=za hL6;have HF6:=za hF6;have hz6:=hF6.size;go_upto_if 30 with fail;go_cut [] (λwy=>∃vs n xs,Hid (VI S pb w.heap.size (w.heap.size+1) 0 w0 wy (.string nx) (xI na) (xI ((n3:Int)-((0:Nat):Int))) (xI ((n5:Int)-(n3:Int))) (.slice none 0 0) x6.1 x6.2 vs n xs));case first =>
  cases hc:x5.1.is 5 zi2 with
  | false => rw[hc,zM1 (by simp)] at HL6;have h6:zaS f x5.1 x5.2=(x5.1,x5.2):=(by unfold zaS;rw[zM1 (by rw[hc];simp)]);rw[HNF.h6] at h6;have H6:=za h6;go_wp2_with fail;go_meet;rw[H6.o];exact⟨_,_,_,HV5.o.goes hlt (by omega) HNI.i5 (λh=>h) HL6.o HF6.o⟩
  | true =>
    rw[hc,zM2 rfl] at HL6;have h6:zaS f x5.1 x5.2=zbA f (zaR x5.1.step x5.2):=(by unfold zaS;rw[zM2 hc]);rw[HNF.h6] at h6;have H6:=za h6;have he:x5.1.er=0:=HNI.i5.toBad.er (by rw[Inv.is_k hc];decide);have e5:=Fwd.step HNI.i5;have HV6:=za (HV5.o.goes hlt (by omega) e5.inv (λ_=>he) HL6.o HF6.o);have hn16:n5<=16:=(by have:=HV5.o.ok he;omega);go_wp2_with fail;go_loopg [4] f (λk mo wx=>∃(b:Bool) (s:St) (vl:List Vr) (vv:Xv) (nn:Nat) (xx:Xm),mo=.bool b/\Hid (VI S pb w.heap.size (w.heap.size+1) 0 w0 wx (.string nx) (xI na) (xI ((n3:Int)-((0:Nat):Int))) (xI ((n5:Int)-(n3:Int))) (.slice none 0 0) s vl vv nn xx)/\Hid (b=true->nn<=16/\zbA k (zaR s vl)=x6/\1201-s.t.a<k)/\Hid (b=false->(s,vl)=x6));case atStart=>exact⟨true,x5.1.step,x5.2,vs5,n5,xs5,rfl,HV6,λ_=>⟨hn16,H6.o.symm,by omega⟩,λh=>by cases h⟩
    case round =>
     obtain⟨b,s,vl,vv,nn,xx,rfl,HA,HT,HFa⟩:=hrel;cases b with
     | false => have HQ:=za (HFa.o rfl);go_wp2_with fail;go_meet;rw[<- HQ.o];exact⟨_,_,_,HA⟩
     | true =>
       obtain⟨hnm,hR1,hrem⟩:=HT.o rfl;have HLc:=za (ziY S pb w.heap.size (w.heap.size+1) 0 w0 wr _ _ _ _ _ s vl vv nn xx (by omega) hlt (by omega) (by omega) HA.o);have hgl:=zej (vars:=vl) HA.o.inv;have HGl:=za hgl;have HMr:=za (λhe hs=>zlj (vars:=vl) HA.o.inv he hs);generalize hy:zaR s vl=y at *;have HR1:=za hR1;have Hrem:=za hrem;have HFy:=za hgl.1;go_wp2_with fail;refine HLc.o.mono ?_;rintro e w8 ⟨rfl,vs8,xs8,hV8⟩;obtain⟨h0,h1,h2,h3,h4,h5,h6⟩:=hV8.pl.cells;have hlt8:=hV8.pl.lt;have HV8:=za hV8;go_wp2_with fail;obtain⟨g,rfl⟩:∃g,gk=g+1:=⟨gk-1,by have:=Hrem.o;omega⟩;go_roundg g;case measure=>omega
       have hunf:zbA (g+1) y=if y.1.er=0/\y.1.t.k=2 then zbA g (zaR y.1 y.2) else y:=rfl;have hR1:=HR1.o;rw[hunf] at hR1;refine⟨(y.1.t.k==2),y.1,y.2,vs8,nn+1,xs8,by rw[zfB],HV8,λhb=>?_,λhb=>?_⟩
       . have hk:y.1.t.k=2:=(by simpa using hb);have he:y.1.er=0:=HV8.o.inv.toBad.er (by rw[hk];decide);rw[zM2 ⟨he,hk⟩] at hR1;have k1:=HV8.o.ok he;have k2:=HMr.o (HFy.o.back he) he;have k3:=Hrem.o;have k4:=HV8.o.inv.ok.ta_le;have k5:=HA.o.inv.ok.ta_le;exact⟨by omega,hR1,by omega⟩
       have hk:¬y.1.t.k=2:=(by simpa using hb);rw[zM1 (λh=>hk h.2)] at hR1;exact hR1
 case rest =>
  obtain⟨vs,n,xs,HV7⟩:=hcut;have hzc:=HV7.o.fr.size;have HEx8:=za (zP S pb x6.1 ⟨#[123]⟩ _ zrj _ HNI.i6.toBad HV7.o.pl);rw[zan HV7.o.pl.tx (by decide)] at HEx8;go_wp2_with fail;refine HEx8.o.mono ?_;rintro e w9 ⟨rfl,hL9,HF9⟩;have hz9:=HF9.size;have hE9:EI S pb w.heap.size (w.heap.size+1) 0 w w9 (.string nx) (xI na) vs (xI ((n3:Int)-((0:Nat):Int))) (xI ((n5:Int)-(n3:Int))) n xs (x6.1.must 4 [123]) [] (.slice none 0 0) 0 []:=by refine⟨HNI.i7,HNI.o7,hL9,(HF9.block _ (by omega) (by omega)).trans HV7.o.blk,zi HV7.o.own (λk h1 h2 _=>HF9.block k h2 (by omega)),(λk _ h=>by cases h),World.ownsRow_nil _ _ _ _,λ_=>⟨rfl,rfl⟩,?_⟩;have h1:Fr (·=pb) w w0:=(by rw[<- Hw0];exact (Fr.refl _ w).alloc _);exact (h1.trans' HV7.o.fr (λi hi h=>by omega)).trans HF9
  have HE9:=za hE9;have HV7k:=za HV7.o.ok;have H8:Hid (zb5 r17 r18 f (zF r17 r18 (x6.1.must 4 [123]) [])=R):=by unfold Hid;rw[HNF.h8,HNF.hR]
  go_wp2_with fail;go_loopg [5] f (λk mo wx=>∃(b:Bool) (s:St) (eqs:List Eqn) (ev:Xv) (m:Nat) (xq:Xm),mo=.bool b/\Hid (EI S pb w.heap.size (w.heap.size+1) 0 w wx (.string nx) (xI na) vs (xI ((n3:Int)-((0:Nat):Int))) (xI ((n5:Int)-(n3:Int))) n xs s eqs ev m xq)/\m+k<=f/\Hid (w0.heap.size<=wx.heap.size)/\Hid (b=true->zb5 r17 r18 k (zF r17 r18 s eqs)=R/\1201-s.t.a<k)/\Hid (b=false->(s,eqs)=R));case atStart=>exact⟨true,_,[],.slice none 0 0,0,[],rfl,HE9,by omega,by unfold Hid;omega,λ_=>⟨H8.o,by omega⟩,λh=>by cases h⟩
  case round =>
   obtain⟨b,s,eqs,ev,m,xq,rfl,HA,hmf,Hzw,HT,HFa⟩:=hrel;cases b with
   | false => have HQ:=za (HFa.o rfl);have hA:EI S pb w.heap.size (w.heap.size+1) 0 w wr (.string nx) (xI na) vs (xI ((n3:Int)-((0:Nat):Int))) (xI ((n5:Int)-(n3:Int))) n xs R.1 R.2 ev m xq:=(by rw[<- HQ.o];exact HA.o);have HA1:=za hA;have HEx:=za (zP S pb R.1 ⟨#[125]⟩ _ zro wr hA.inv.toBad hA.pl);rw[zan hA.pl.tx (by decide)] at HEx;go_wp2_with fail;refine HEx.o.mono ?_;rintro e w10 ⟨rfl,hL10,hF10⟩;have HE10:=za (HA1.o.goes hlt (by omega) (Fwd.must HA1.o.inv 4 [125]).inv (by rw[St.must_op];exact HA1.o.op) (St.must_L _ _ _) (λhe=>zay he) hL10 hF10);go_wp2_with fail;go_ret;refine⟨w.heap.size,rfl,zMK _,HE10.o.pl,HE10.o.fr,?_⟩;intro he;obtain⟨b1,b2,b3,b4,b5⟩:=zll G17 G18 HNI HNF (zay he);obtain⟨c1,c2⟩:=HNk (zeH b1);obtain⟨d1,d2,d3⟩:=HV7k.o b5;obtain⟨e1,e2⟩:=HE10.o.ok he;have f3:=(Hn3.o b3).1;have f5:=(Hn5.o b4).1;have f35:=zlH false (x3.1.must 4 [45,62]) x3.2;rw[HNF.h5] at f35;have hbk:=HE10.o.blk;subst c1 c2 d1 d3 e1;have g3:((n3:Int)-((0:Nat):Int))=((x3.2.length:Nat):Int):=(by omega);have g5:((n5:Int)-(n3:Int))=((x5.2.length-x3.2.length:Nat):Int):=(by omega);rw[g3,g5] at hbk;exact⟨vs,ev,xq,hbk,zR HE10.o.vown (by omega),d2,zR HE10.o.own (by omega),e2.weak (by omega)⟩
   | true =>
     obtain⟨hR1,hrem⟩:=HT.o rfl;have hzr:=Hzw.o;have hltr:=HA.o.pl.lt;have HQe:=za (λw1 h=>zje HX HK G17 G18 S pb 0 s w1 HA.o.inv HA.o.op h);have hge:=za1 G17 G18 (eqs:=eqs) HA.o.inv HA.o.op;have HGe:=za hge;have HMr:=za (λhe hs=>ziF G17 G18 (eqs:=eqs) HA.o.inv HA.o.op he hs);obtain⟨y,hy⟩:∃y,zF r17 r18 s eqs=y:=⟨_,rfl⟩;obtain⟨q,hq⟩:∃q,zgH r17 r18 s=q:=⟨_,rfl⟩;have hy1:(zF r17 r18 s []).1=y.1:=(by rw[<- zj4 r17 r18 s eqs,hy]);have Hy2:y.2=eqs++[q]:=(by rw[<- hy,ziE,hq]);rw[hy1,hq] at HQe;rw[hy] at hR1 HGe HMr;have HR1:=za hR1;have Hrem:=za hrem;obtain⟨q0,q1,q2,q3,q4,q5,qf,qz⟩:=zt HA.o.blk;obtain⟨i0,hi,hi0,hi1,hi2⟩:=info_parts Tryz.infoEq;have mx:m+1<=maxLen:=(by unfold maxLen;omega);have by':(m+1)*40<=140737488355328:=(by omega);go_upto_block 3 with fail;go_cut [] (λwy=>∃ev' xq',Hid (EI S pb w.heap.size (w.heap.size+1) 0 w wy (.string nx) (xI na) vs (xI ((n3:Int)-((0:Nat):Int))) (xI ((n5:Int)-(n3:Int))) n xs y.1 y.2 ev' (m+1) xq')/\Hid (w0.heap.size<=wy.heap.size));case first =>
      go_wp2_with fail;go_region_law (first|(refine zbL rfl 133 (.tmp 59) 181 rfl zj0 (xP pb) rfl (HQe.o _ HA.o.pl.drew) ?_;rintro e w2 ⟨lq,kq,ysq,pq,aq,rfl,⟨xl,cl,rfl⟩,HL2,Hlq,hok2,hF2'⟩;refine⟨_,rfl,?_⟩;have HF2:Fr (·=pb) wr w2:=hF2'.undrew;have hzc2:=HF2.size;have Hb2:=(HF2.block w.heap.size qz (by omega)).trans HA.o.blk;obtain⟨f0,f1,f2,f3,f4,f5,ff,fz⟩:=zt Hb2;have Hown2:=za (zi HA.o.own (λk h1 h2 _=>HF2.block k h2 (by omega)));have Hok2:=za hok2.out;have hzw:w.heap.size+1<=w2.heap.size+1:=(by omega))|(refine zJ _ rfl (.tmp 58) (.tmp 61) 86 rfl (w.heap.size+1) 158 i0 _ 3 40 underlying86 hi hi0 hi1 hi2 rfl (by decide) ev m xq rfl (zD Hown2.o _) (xD w2.heap.size 0) 1 1 [.slice xl kq cl,xI pq,.pointer aq] rfl rfl (zN (zc w2 _) rfl) zrH mx by' (by simpa using hzw) ?_;intro v' w9 Hown9 hgrow Hnew9;obtain⟨g9,cap9,rfl,hg9⟩:=zM Hown9 (by omega);have HF9:=Fr.of_grown hgrow;have hb9:w9.heap[w.heap.size]?=w2.heap[w.heap.size]?:=((HF9.block w.heap.size (by rw[zsb];omega) (λh=>by have:=(Hown2.o.lt _ h).1;omega)).trans (zWP _ _ _ fz));have Hn9:=za (hb9.trans Hb2);obtain⟨m0,m1,m2,m3,m4,m5,mf,mz⟩:=zt Hn9.o;have HL9:=za (PL.fr (HL2.alloc _) HF9 (λk hk=>by have:=(Hown2.o.lt k hk).1;omega));have hzz9:=HF9.size;rw[zsb] at hzz9));all_goals go_wp2_with fail
      all_goals go_meet
      all_goals exact⟨_,_,(by unfold Hid;rw[Hy2];exact zph HA.o hlt (by omega) (by omega) (by omega) HGe.o.1 (HGe.o.2.trans HA.o.op) HF2 Hlq Hok2.o HL9.o HF9 Hn9.o Hown9 Hnew9),(by unfold Hid;simp[World.setCell];omega)⟩
     case rest =>
      obtain⟨ev2,xq2,HA2,Hz2⟩:=hcut;have HBd2:=za HA2.o.inv.toBad;obtain⟨h0,h1,h2,h3,h4,h5,h6⟩:=HA2.o.pl.cells;have hlt2:=HA2.o.pl.lt;obtain⟨g,rfl⟩:∃g,gk=g+1:=⟨gk-1,by have:=Hrem.o;omega⟩;have HAt:=za (zaP S pb y.1 ⟨#[40]⟩ _ zfn wc HBd2.o.ok.tk HA2.o.pl);rw[zaB HA2.o.pl.tx (by decide)] at HAt;have HN1:Hid ((y.1.t.k=2∨y.1.is 4 [40]=true)->zb5 r17 r18 g (zF r17 r18 y.1 y.2)=R/\1201-y.1.t.a<g):=λhc=>by
       have hR1:=HR1.o;rw[show zb5 r17 r18 (g+1) y=if y.1.t.k=2∨y.1.is 4 [40]=true then zb5 r17 r18 g (zF r17 r18 y.1 y.2) else y from rfl,zM2 hc] at hR1;have he:y.1.er=0:=HBd2.o.er (by
        rcases hc with h|h
        . rw[h];decide
        rw[Inv.is_k h];decide)
       have k2:=HMr.o (HGe.o.1.back he) he;have k3:=Hrem.o;have k4:=HA2.o.inv.ok.ta_le;have k5:=HA.o.inv.ok.ta_le;exact⟨hR1,by omega⟩
      have HN0:Hid (¬(y.1.t.k=2∨y.1.is 4 [40]=true)->(y.1,y.2)=R):=λhc=>by have hR1:=HR1.o;rw[show zb5 r17 r18 (g+1) y=if y.1.t.k=2∨y.1.is 4 [40]=true then zb5 r17 r18 g (zF r17 r18 y.1 y.2) else y from rfl,zM1 hc] at hR1;exact hR1
      cases hk:(y.1.t.k==2) with
      | true =>
        have hck:=(zfB y.1.t).trans hk;go_wp2_with fail;go_roundg g;case measure=>omega
        have hk':y.1.t.k=2:=(by simpa using hk);exact⟨true,y.1,y.2,ev2,m+1,xq2,by simp,HA2,by omega,Hz2,λ_=>HN1.o (.inl hk'),λh=>by cases h⟩
      | false =>
        have hck:=(zfB y.1.t).trans hk;go_wp2_with (go_at_call 85;refine HAt.o.mono ?_;rintro e w' ⟨rfl,rfl⟩);go_roundg g;case measure=>omega
        have hk':¬y.1.t.k=2:=(by simpa using hk);refine⟨y.1.is 4 [40],y.1,y.2,ev2,m+1,xq2,by simp,HA2,by omega,Hz2,λh=>HN1.o (.inr h),λh=>HN0.o ?_⟩;rintro (h'|h')
        . exact hk' h'
        rw[h] at h';cases h'
end
section
open Go.RowKit
variable {r17 r18:Fn} {L:List Ex} {l:List Vr} {B B':Nat} {nd:Nd} {av v:Xv} {p:Vr->Bool} {w w':Xw}
def ze0 (L:List Ex)(w:Xw)(B:Nat):List Eqn->List Value->Prop
 | [],xs=>xs=[]
 | q::qs,xs=>∃lv a ys,xs=lv::(xI q.a)::.pointer a::ys/\EQ L q lv a w B/\ze0 L w B qs ys
theorem zcJ.now:∀{qs:List Eqn} {xs:Xm},zcJ B w av L qs xs->ze0 L w B qs xs:=by
 intro qs;induction qs with
 | nil=>intro xs h;exact h
 | cons q qs ih => rintro xs ⟨lv,a,ys,h1,h2,h3⟩;exact⟨lv,a,ys,h1,zq4 h2,ih h3⟩
theorem ze0.kept (hk:∀k,B<=k->k<w.heap.size->w'.heap[k]?=w.heap[k]?):∀{qs:List Eqn} {xs:Xm},ze0 L w B qs xs->ze0 L w' B qs xs:=by
 intro qs;induction qs with
 | nil=>intro xs h;exact h
 | cons q qs ih => rintro xs ⟨lv,a,ys,h1,h2,h3⟩;exact⟨lv,a,ys,h1,h2.kept hk,ih h3⟩
theorem ze0.down (hb:B'<=B):∀{qs:List Eqn} {xs:Xm},ze0 L w B qs xs->ze0 L w B' qs xs:=by
 intro qs;induction qs with
 | nil=>intro xs h;exact h
 | cons q qs ih => rintro xs ⟨lv,a,ys,h1,h2,h3⟩;exact⟨lv,a,ys,h1,h2.down hb,ih h3⟩
def Nd.ins (nd:Nd):Nat:=(nd.vars.filter (·.inn)).length
def Nd.outs (nd:Nd):Nat:=(nd.vars.filter (·.out)).length
theorem zdK (i o:Bool)(st:St)(vars:List Vr):∃E,(zx i o st vars).2=vars++E/\∀v∈E,v.inn=i/\v.out=o:=by
 unfold zx;split
 . exact⟨[],by simp,by simp⟩
 simp only;split
 . exact⟨_,rfl,by simp⟩
 exact⟨_,rfl,by simp⟩
theorem zlI (i:Bool):∀(f:Nat) (x:St×List Vr),∃E,(zaG i f x).2=x.2++E/\∀v∈E,v.inn=i/\v.out=!i:=by
 intro f;induction f with
 | zero=>intro x;exact⟨[],by simp[zaG],by simp⟩
 | succ f ih =>
   intro x;rw[show zaG i (f+1) x=if x.1.er=0/\x.1.is 4 [44]=true then zaG i f (zx i (!i) x.1.step x.2) else x from rfl];split
   . obtain⟨E,h1,h2⟩:=zdK i (!i) x.1.step x.2;obtain⟨E',h3,h4⟩:=ih (zx i (!i) x.1.step x.2);refine⟨E++E',by rw[h3,h1,zMQ],λv hv=>?_⟩;rcases zMY.1 hv with h|h
     . exact h2 v h
     exact h4 v h
   exact⟨[],by simp,by simp⟩
theorem zin (i:Bool)(st:St)(vars:List Vr):∃E,(zab i st vars).2=vars++E/\∀v∈E,v.inn=i/\v.out=!i:=by
 obtain⟨f,hf⟩:∃f,f=1300:=⟨_,rfl⟩;rw[zip hf];obtain⟨E,h1,h2⟩:=zdK i (!i) (st.must 4 [40]) vars;obtain⟨E',h3,h4⟩:=zlI i f (zx i (!i) (st.must 4 [40]) vars);refine⟨E++E',by simp only;rw[h3,h1,zMQ],λv hv=>?_⟩;rcases zMY.1 hv with h|h
 . exact h2 v h
 exact h4 v h
theorem zlE:∀(f:Nat) (x:St×List Vr),∃E,(zbA f x).2=x.2++E/\∀v∈E,v.inn=false/\v.out=false:=by
 intro f;induction f with
 | zero=>intro x;exact⟨[],by simp[zbA],by simp⟩
 | succ f ih =>
   intro x;rw[show zbA (f+1) x=if x.1.er=0/\x.1.t.k=2 then zbA f (zaR x.1 x.2) else x from rfl];split
   . obtain⟨E,h1,h2⟩:=zdK false false x.1 x.2;obtain⟨E',h3,h4⟩:=ih (zaR x.1 x.2);refine⟨E++E',by rw[h3,show (zaR x.1 x.2).2=(zx false false x.1 x.2).2 from rfl,h1,zMQ],λv hv=>?_⟩;rcases zMY.1 hv with h|h
     . exact h2 v h
     exact h4 v h
   exact⟨[],by simp,by simp⟩
theorem zpG (f:Nat)(st:St)(vars:List Vr):∃E,(zaS f st vars).2=vars++E/\∀v∈E,v.inn=false/\v.out=false:=by
 unfold zaS;split
 . obtain⟨E,h1,h2⟩:=zdK false false st.step vars;obtain⟨E',h3,h4⟩:=zlE f (zaR st.step vars);refine⟨E++E',by rw[h3,show (zaR st.step vars).2=(zx false false st.step vars).2 from rfl,h1,zMQ],λv hv=>?_⟩;rcases zMY.1 hv with h|h
   . exact h2 v h
   exact h4 v h
 exact⟨[],by simp,by simp⟩
theorem zg7 (h:∀v∈l,p v=true):(l.filter p).length=l.length:=by rw[List.filter_eq_self.2 h]
theorem zeT (h:∀v∈l,p v=false):(l.filter p).length=0:=by rw[List.filter_eq_nil_iff.2 (λv hv=>by rw[h v hv];simp)];rfl
theorem zm5 {f:Nat}{st:St}{x3 x5 x6:St×List Vr}{x8 R:St×List Eqn}(h:zgn r17 r18 f st x3 x5 x6 x8 R):(x6.2.filter (·.inn)).length=x3.2.length/\(x6.2.filter (·.out)).length=x5.2.length-x3.2.length:=by obtain⟨E3,a3,b3⟩:=zin true (st.fresh.must 5 zW).name [];obtain⟨E5,a5,b5⟩:=zin false (x3.1.must 4 [45,62]) x3.2;obtain⟨E6,a6,b6⟩:=zpG f x5.1 x5.2;rw[h.h3] at a3;rw[h.h5] at a5;rw[h.h6] at a6;simp only[List.nil_append] at a3;rw[a6,a5,a3];simp only[List.filter_append,zMM];rw[zg7 (λv hv=>(b3 v hv).1),zeT (λv hv=>(b5 v hv).1),zeT (λv hv=>(b6 v hv).1),zeT (λv hv=>(b3 v hv).2),zg7 (l:=E5) (λv hv=>(b5 v hv).2),zeT (λv hv=>(b6 v hv).2)];omega
structure NDc (nd:Nd) (w:Xw) (B nb:Nat) (vs ev:Xv) (xs:Xm):Prop where
 blk:xH w nb #[.string nd.nm,xI nd.a,vs,xI nd.ins,xI nd.outs,ev] 88
 lo:B<=nb
 vown:w.ownsRow B 101 7 vs nd.vars.length (zb0 nd.vars)
 few:nd.vars.length<=16
 own:w.ownsRow B 158 3 ev nd.eqs.length xs
 eqs:ze0 nd.exs w B nd.eqs xs
def ND (nd:Nd)(v:Xv)(w:Xw)(B:Nat):Prop:=∃nb vs ev xs,v=xP nb/\NDc nd w B nb vs ev xs
theorem ND.kept (h:ND nd v w B)(hk:∀k,B<=k->k<w.heap.size->w'.heap[k]?=w.heap[k]?):ND nd v w' B:=by obtain⟨nb,vs,ev,xs,h0,h⟩:=h;exact⟨nb,vs,ev,xs,h0,(hk nb h.lo (ze h.blk)).trans h.blk,h.lo,zi h.vown (λk h1 h2 _=>hk k h1 h2),h.few,zi h.own (λk h1 h2 _=>hk k h1 h2),h.eqs.kept hk⟩
theorem ND.down (h:ND nd v w B)(hb:B'<=B):ND nd v w B':=by obtain⟨nb,vs,ev,xs,h0,h⟩:=h;exact⟨nb,vs,ev,xs,h0,h.blk,zMO hb h.lo,zR h.vown hb,h.few,zR h.own hb,h.eqs.down hb⟩
theorem zqU {wr:Xw}(h:Was B wr av (ND nd v)):ND nd v wr B:=by obtain⟨wi,Bi,h1,h2,h3,_,_⟩:=h;exact (h2.kept h3).down h1
theorem zmS (hX:zX 18 159 r18)(hK:zdI 18 r17)(g17:zv 17 r17)(g18:zv 18 r18)(S:Xs)(pb p f:Nat)(hf1:1202<f)(hf2:f<=5000)(st:St)(w:Xw)(hI:Inv p st)(ho:st.op=0)(hR:PL S w pb st) :
 xK 86 #[xP pb] w (λe w'=>∃a:Addr,e=.returned (.pointer (some a))/\PL S w' pb (zax r17 r18 f st).1/\Fr (·=pb) w w'/\Hid ((zax r17 r18 f st).1.er=0->ND (zax r17 r18 f st).2 (.pointer (some a)) w' w.heap.size)):=by
 obtain⟨x3,h3⟩:∃x3,zab true (st.fresh.must 5 zW).name []=x3:=⟨_,rfl⟩;obtain⟨x5,h5⟩:∃x5,zab false (x3.1.must 4 [45,62]) x3.2=x5:=⟨_,rfl⟩;obtain⟨x6,h6⟩:∃x6,zaS f x5.1 x5.2=x6:=⟨_,rfl⟩;obtain⟨x8,h8⟩:∃x8,zF r17 r18 (x6.1.must 4 [123]) []=x8:=⟨_,rfl⟩;obtain⟨R,hRR⟩:∃R,zb5 r17 r18 f x8=R:=⟨_,rfl⟩;have hN:zgn r17 r18 f st x3 x5 x6 x8 R:=⟨h3,h5,h6,h8,hRR⟩;clear h3 h5 h6 h8 hRR;have hi:=zm5 hN;rw[znI hN];refine (zop hX hK g17 g18 S pb p f hf1 hf2 st w hI ho hR hN).mono ?_;rintro e w' ⟨nb,rfl,h1,h2,h3,h4⟩;refine⟨(xD nb 0),rfl,h2,h3,λhe=>?_⟩;obtain⟨vs,ev,xs,k1,k2,k3,k4,k5⟩:=h4.out he;refine⟨nb,vs,ev,xs,rfl,?_,h1,k2,k3,k4,k5.now⟩;dsimp only[Nd.ins,Nd.outs];rw[hi.1,hi.2];exact k1
end
section
open Go.RowKit
variable {r17 r18:Fn} {B:Nat} {q:Nd} {av:Xv} {w wr:Xw}
def zd3 (B:Nat)(wr:Xw)(av:Xv):List Nd->List Value->Prop
 | [],xs=>xs=[]
 | q::qs,xs=>∃v ys,xs=v::ys/\Was B wr av (ND q v)/\zd3 B wr av qs ys
theorem zd3.next {w':Xw}{av':Xv}{T:Xj}(hf:Fr T wr w')(hT:∀k,T k->k<B∨av.ownBlock=some k)(ha:∀k,av'.ownBlock=some k->av.ownBlock=some k∨wr.heap.size<=k) :
 ∀(qs:List Nd) (xs:Xm),zd3 B wr av qs xs->zd3 B w' av' qs xs:=by
 intro qs;induction qs with
 | nil=>intro xs h;exact h
 | cons q qs ih => rintro xs ⟨v,ys,h1,h2,h3⟩;exact⟨v,ys,h1,h2.next hf hT ha,ih ys h3⟩
theorem zd3.snoc {v:Xv}(h2:Was B wr av (ND q v)):∀(qs:List Nd) (xs:Xm),zd3 B wr av qs xs->zd3 B wr av (qs++[q]) (xs++[v]):=by
 intro qs;induction qs with
 | nil=>rintro xs rfl;exact⟨v,[],rfl,h2,rfl⟩
 | cons q' qs ih => rintro xs ⟨v',ys,rfl,h4,h3⟩;exact⟨v',_,rfl,h4,ih ys h3⟩
structure GI (S:Xs) (pb gb B:Nat) (w wr:Xw) (s:St) (nds:List Nd) (gv:Xv) (m:Nat) (xs:Xm):Prop where
 inv:∃p,Inv p s
 op:s.op=0
 pl:PL S wr pb s
 blk:xH wr gb #[gv] 82
 own:wr.ownsRow B 77 1 gv m xs
 ok:s.er=0->m=nds.length/\zd3 B wr gv nds xs
 fr:Fr (·=pb) w wr
theorem zqg {S:Xs}{pb gb:Nat}{w1 w9:Xw}{s s':St}{nds:List Nd}{gv v':Xv}{m:Nat}{xs:Xm}{a:Xp}{X:Obj}
 (h:GI S pb gb B w wr s nds gv m xs) (hnp:pb<gb) (hBn:gb<B) (hwn:w.heap.size<=gb) (hBw:B<=wr.heap.size) (hi:∃p,Inv p s') (her:s'.er=0->s.er=0) (ho:s'.op=0)
 (hF1:Fr (·=pb) wr w1) (hok:s'.er=0->ND q (.pointer a) w1 wr.heap.size)
 (hL9:PL S w9 pb s') (hF9:Fr (λk=>gv.ownBlock=some k) (w1.alloc X) w9) (hn9:w9.heap[gb]?=some (.cells #[gv] 82 (0,0)))
 (hown:w9.ownsRow B 77 1 v' (m+1) (xs++[.pointer a])) (hnew:∀k,v'.ownBlock=some k->gv.ownBlock=some k∨(w1.alloc X).heap.size<=k) :
 GI S pb gb B w (w9.setCell (xD gb 0) v') s' (nds++[q]) v' (m+1) (xs++[.pointer a]):=by
 have hev:∀k,gv.ownBlock=some k->B<=k/\k<wr.heap.size:=λk hk=>h.own.lt k hk;have hz1:=hF1.size;have hz9:=hF9.size;have hzx:(w1.alloc X).heap.size=w1.heap.size+1:=by simp
 have hFa:Fr (λk=>k=pb∨k=gb∨gv.ownBlock=some k) wr (w9.setCell (xD gb 0) v'):=by have h1:Fr (λk=>k=pb∨k=gb∨gv.ownBlock=some k) wr (w1.alloc X):=(hF1.mono (λ_ _ h=>zM3 h)).alloc X;exact (h1.trans' hF9 (λ_ _ h=>zM4 (zM4 h))).setCell (zM3 (zM4 (zM3 rfl))) _
 refine⟨hi,ho,hL9.setOther hnp _ _,zh _ _ _ _ hn9,zi hown (λk h1 _ _=>zr (by omega) rfl),?_,?_⟩
 . intro he;obtain⟨e1,e2⟩:=h.ok (her he);refine⟨by simp[e1],?_⟩;have hE2:=zd3.next (av':=v') hFa (λk hk=>by
    rcases hk with hk|hk|hk
    . left;omega
    . left;omega
    . exact zM4 hk) (λk hk=>by
    rcases hnew k hk with h1|h1
    . exact zM3 h1
    right;omega) _ _ e2
   refine zd3.snoc ?_ _ _ hE2;refine⟨w1,wr.heap.size,hBw,hok he,λk h1 h2=>?_,λg hg=>?_,?_⟩
   . exact zr (by omega) ((hF9.block k (by omega) (λh=>by have:=(hev k h).2;omega)).trans (zWP _ _ _ h2))
   . rcases hnew g hg with h|h
     . left;exact (hev g h).2
     right;omega
   simp[World.setCell];omega
 have h1:Fr (·=pb) w (w1.alloc X):=(h.fr.trans hF1).alloc X;exact (h1.trans' hF9 (λi hi hs=>by have:=(hev i hs).1;omega)).setNew hwn _ _
theorem zmC (t:Tk):(((ck t:Nat):Int) != 1)=!(t.k==0):=by
 by_cases h:t.k=0
 . simp[ck,h]
 have:ck t≠1:=by unfold ck;(repeat' split) <;> first|decide|(exfalso;omega)
 have h2:(t.k==0)=false:=by simp[h]
 rw[h2];simp;omega
theorem zny (g17:zv 17 r17)(g18:zv 18 r18){f p:Nat}{st:St}(hI:Inv p st)(ho:st.op=0)(he:(zax r17 r18 f st).1.er=0):st.er=0:=by
 have h1:=(zhx g17 g18 (f:=f) (nodes:=[]) hI ho (by simp)).1.er;by_cases h:st.er=0
 . exact h
 exact absurd (h1.symm.trans he) ((zmW g17 g18 (f:=f) (nodes:=[]) hI ho).2.2.2 h)
theorem zqd:zH 86:=λ_ _=>by kernel_rfl
theorem Tryz.infoNp:(prog.info? 77).map (λi=>(i.zero,i.size,i.bytes))=some (some (.pointer none),1,8):=by kernel_rfl
def zgE (w:Xw)(B:Nat):List Nd->List Value->Prop
 | [],xs=>xs=[]
 | q::qs,xs=>∃v ys,xs=v::ys/\ND q v w B/\zgE w B qs ys
theorem zd3.now:∀{qs:List Nd} {xs:Xm},zd3 B w av qs xs->zgE w B qs xs:=by
 intro qs;induction qs with
 | nil=>intro xs h;exact h
 | cons q qs ih => rintro xs ⟨v,ys,h1,h2,h3⟩;exact⟨v,ys,h1,zqU h2,ih h3⟩
theorem zgE.down {B':Nat}(hb:B'<=B):∀{qs:List Nd} {xs:Xm},zgE w B qs xs->zgE w B' qs xs:=by
 intro qs;induction qs with
 | nil=>intro xs h;exact h
 | cons q qs ih => rintro xs ⟨v,ys,h1,h2,h3⟩;exact⟨v,ys,h1,h2.down hb,ih h3⟩
def PG (nds:List Nd)(v:Xv)(w:Xw)(B:Nat):Prop:=∃gb gv xs,v=xP gb/\B<=gb/\w.heap[gb]?=some (.cells #[gv] 82 (0,0))/\w.ownsRow B 77 1 gv nds.length xs/\zgE w B nds xs
theorem zke (HX:zX 18 159 r18)(HK:zdI 18 r17)(G17:zv 17 r17)(G18:zv 18 r18)(S:Xs)(pb p f:Nat)(hf1:1202<f)(hf2:f<=5000)(st:St)(w:Xw)(hI:Inv p st)(ho:st.op=0)(hR:PL S w pb st){R:St×List Nd}(hRR:zdZ r17 r18 f f ((zax r17 r18 f st).1,[]++[(zax r17 r18 f st).2])=R) :
 xK 44 #[xP pb] w (λe w'=>∃a:Addr,e=.returned (.pointer (some a))/\PL S w' pb (zbB R.1)/\Fr (·=pb) w w'/\Hid ((zbB R.1).er=0->PG R.2 (.pointer (some a)) w' w.heap.size)):=by
 have hlt:=hR.lt;have HRR:=za hRR
 have hG0:GI S pb w.heap.size (w.heap.size+1) w (w.alloc (.cells #[.slice none 0 0] 82)) st [] (.slice none 0 0) 0 [] :=
  ⟨⟨p,hI⟩,ho,hR.alloc _,zc w _,World.ownsRow_nil _ _ _ _,λ_=>⟨rfl,rfl⟩,(Fr.refl _ w).alloc _⟩
 have HG0:=za hG0;go_enter func44,ntmps44;go_wp2_with fail;go_loopg [4] f (λk mo wx=>∃(b:Bool) (s:St) (nds:List Nd) (gv:Xv) (m:Nat) (xs:Xm),mo=.bool b/\Hid (GI S pb w.heap.size (w.heap.size+1) w wx s nds gv m xs)/\Hid (w.heap.size+1<=wx.heap.size)/\Hid (b=true->m<=5/\zdZ r17 r18 f k ((zax r17 r18 f s).1,nds++[(zax r17 r18 f s).2])=R/\1201-s.t.a<k)/\Hid (b=false->(s,nds)=R));case atStart=>exact⟨true,st,[],.slice none 0 0,0,[],rfl,HG0,by unfold Hid;simp,λ_=>⟨by omega,HRR.o,by omega⟩,λh=>by cases h⟩
 case round =>
  obtain⟨b,s,nds,gv,m,xs,rfl,HA,Hzw,HT,HFa⟩:=hrel;cases b with
  | false =>
    have HQ:=za (HFa.o rfl);have HA1:GI S pb w.heap.size (w.heap.size+1) w wr R.1 R.2 gv m xs:=(by rw[<- HQ.o];exact HA.o);obtain⟨h0,h1,h2,h3,h4,h5,h6⟩:=HA1.pl.cells;have hltr:=HA1.pl.lt;have hsyn:wr.cell? (xD 8 0)=some (.iface 290 (.pointer (some (S 2)))):=HA1.pl.gl.syn;have hck:=zmC R.1.t;cases hk:(R.1.t.k==0) with
    | true => rw[hk] at hck;go_wp2_with fail;go_ret;have he:zbB R.1=R.1:=(by unfold zbB;rw[zM2 (by simpa using hk)]);rw[he];refine⟨(xD w.heap.size 0),rfl,HA1.pl,HA1.fr,λhe'=>?_⟩;obtain⟨e1,e2⟩:=HA1.ok he';subst e1;exact⟨w.heap.size,gv,xs,rfl,zMK _,HA1.blk,zR HA1.own (by omega),e2.now.down (by omega)⟩
    | false => rw[hk] at hck;go_wp2_with fail;refine (zc5 S pb R.1 2 (by decide) wr HA1.pl).mono ?_;rintro e w5 ⟨rfl,HL5,HF5⟩;go_wp2_with fail;go_ret;have he:zbB R.1=R.1.fail 2 R.1.t.a:=(by unfold zbB;rw[zM1 (by simpa using hk)]);rw[he];exact⟨(xD w.heap.size 0),rfl,HL5,HA1.fr.trans HF5,λhe'=>absurd he' (St.fail_er _ (by decide))⟩
  | true =>
    obtain⟨hm5,hR1,hrem⟩:=HT.o rfl;have hzr:=Hzw.o;have hltr:=HA.o.pl.lt;obtain⟨p1,HI1⟩:=HA.o.inv;have HQe:=za (λw1 h=>zmS HX HK G17 G18 S pb p1 f hf1 hf2 s w1 HI1 HA.o.op h);obtain⟨_,_,n3,n4,n5⟩:=zhx G17 G18 (f:=f) (nodes:=[]) HI1 HA.o.op (by simp);have HEr:=za (λhe=>zny G17 G18 (f:=f) HI1 HA.o.op he);obtain⟨y,hy⟩:∃y,zax r17 r18 f s=y:=⟨_,rfl⟩;rw[hy] at HQe n3 n4 n5 HEr hR1;have HR1:=za hR1;have Hrem:=za hrem;have Hn3:=za n3;have Hn4:=za n4;have Hn5:=za n5;obtain⟨q0,qf,qz⟩:=zu HA.o.blk;obtain⟨i0,hi,hi0,hi1,hi2⟩:=info_parts Tryz.infoNp;have mx:m+1<=maxLen:=(by unfold maxLen;omega);have by':(m+1)*8<=140737488355328:=(by omega);go_upto_block 1 with fail;go_cut [] (λwy=>∃gv' xs',Hid (GI S pb w.heap.size (w.heap.size+1) w wy y.1 (nds++[y.2]) gv' (m+1) xs')/\Hid (w.heap.size+1<=wy.heap.size));case first =>
     go_wp2_with fail;go_region_law (first|(refine zbL rfl 86 (.tmp 23) 181 rfl zqd (xP pb) rfl (HQe.o _ HA.o.pl.drew) ?_;rintro e w2 ⟨aq,rfl,HL2,hF2',hok2⟩;refine⟨_,rfl,?_⟩;have HF2:Fr (·=pb) wr w2:=hF2'.undrew;have hzc2:=HF2.size;have Hb2:=(HF2.block w.heap.size qz (by omega)).trans HA.o.blk;obtain⟨f0,ff,fz⟩:=zu Hb2;have Hown2:=za (zi HA.o.own (λk h1 h2 _=>HF2.block k h2 (by omega)));have Hok2:=za hok2.out;have hzw:w.heap.size+1<=w2.heap.size+1:=(by omega))|(refine zJ _ rfl (.tmp 22) (.tmp 25) 76 rfl (w.heap.size+1) 77 i0 _ 1 8 underlying76 hi hi0 hi1 hi2 rfl (by decide) gv m xs rfl (zD Hown2.o _) (xD w2.heap.size 0) 1 1 [.pointer (some aq)] rfl rfl (zN (zc w2 _) rfl) zku mx by' (by simpa using hzw) ?_;intro v' w9 Hown9 hgrow Hnew9;obtain⟨g9,cap9,rfl,hg9⟩:=zM Hown9 (by omega);have HF9:=Fr.of_grown hgrow;have hb9:w9.heap[w.heap.size]?=w2.heap[w.heap.size]?:=((HF9.block w.heap.size (by rw[zsb];omega) (λh=>by have:=(Hown2.o.lt _ h).1;omega)).trans (zWP _ _ _ fz));have Hn9:=za (hb9.trans Hb2);obtain⟨m0,mf,mz⟩:=zu Hn9.o;have HL9:=za (PL.fr (HL2.alloc _) HF9 (λk hk=>by have:=(Hown2.o.lt k hk).1;omega));have hzz9:=HF9.size;rw[zsb] at hzz9));all_goals go_wp2_with fail
     all_goals go_meet
     all_goals exact⟨_,_,zqg HA.o hlt (by omega) (by omega) (by omega) ⟨0,Hn3.o⟩ HEr.o Hn4.o HF2 Hok2.o HL9.o HF9 Hn9.o Hown9 Hnew9,(by unfold Hid;simp[World.setCell];omega)⟩
    case rest =>
     obtain⟨gv2,xs2,HA2,Hz2⟩:=hcut;have HBd2:=za Hn3.o.toBad;obtain⟨x2,cp2,hgv⟩:=zbP HA2.o.own;have Hb2:=HA2.o.blk;rw[hgv] at Hb2;obtain⟨m0,mf,mz⟩:=zu Hb2;obtain⟨g,rfl⟩:∃g,gk=g+1:=⟨gk-1,by have:=Hrem.o;omega⟩;have HAt:=za (zaP S pb y.1 ⟨#[110,111,100,101]⟩ _ zmU wc HBd2.o.ok.tk HA2.o.pl);rw[zar HA2.o.pl.tx (by decide)] at HAt;have hunf:zdZ r17 r18 f (g+1) (y.1,nds++[y.2])=if y.1.is 5 zW=true/\(nds++[y.2]).length<6 then zdZ r17 r18 f g ((zax r17 r18 f y.1).1,(nds++[y.2])++[(zax r17 r18 f y.1).2]) else (y.1,nds++[y.2]):=rfl;have hR1:=HR1.o;rw[hunf] at hR1;have HN1:Hid (y.1.is 5 zW=true->m+1<6->zdZ r17 r18 f g ((zax r17 r18 f y.1).1,(nds++[y.2])++[(zax r17 r18 f y.1).2])=R/\1201-y.1.t.a<g):=λhc hl=>by have he:y.1.er=0:=HBd2.o.er (by rw[Inv.is_k hc];decide);have k1:=(HA2.o.ok he).1;rw[zM2 ⟨hc,by omega⟩] at hR1;have k2:=Hn5.o (HEr.o he) he;have k3:=Hrem.o;have k4:=Hn3.o.ok.ta_le;have k5:=HI1.ok.ta_le;exact⟨hR1,by omega⟩
     have HN0:Hid (¬(y.1.is 5 zW=true/\m+1<6)->(y.1,nds++[y.2])=R):=λhc=>by
      rw[zM1] at hR1
      . exact hR1
      rintro⟨c1,c2⟩;have he:y.1.er=0:=HBd2.o.er (by rw[Inv.is_k c1];decide);have k1:=(HA2.o.ok he).1;exact hc ⟨c1,by omega⟩
     cases hc:y.1.is 5 zW with
     | false =>
       rw[hc] at HAt;go_wp2_with (go_at_call 85;refine HAt.o.mono ?_;rintro e w' ⟨rfl,rfl⟩);go_roundg g;case measure=>omega
       exact⟨false,y.1,nds++[y.2],gv2,m+1,xs2,rfl,HA2,Hz2,λh=>(by cases h),λ_=>HN0.o (λh=>by rw[hc] at h;cases h.1)⟩
     | true =>
       rw[hc] at HAt;go_wp2_with (go_at_call 85;refine HAt.o.mono ?_;rintro e w' ⟨rfl,rfl⟩);go_roundg g;case measure=>omega
       refine⟨decide (m+1<6),y.1,nds++[y.2],gv2,m+1,xs2,?_,HA2,Hz2,λh=>?_,λh=>?_⟩
       . congr 1;by_cases h6:m+1<6
         . rw[decide_eq_true h6];exact decide_eq_true (by omega)
         rw[decide_eq_false h6];exact decide_eq_false (by omega)
       . have h6:m+1<6:=(by simpa using h);obtain⟨k1,k2⟩:=HN1.o hc h6;exact⟨by omega,k1,k2⟩
       have h6:¬m+1<6:=(by simpa using h);exact HN0.o (λh'=>h6 h'.2)
end
section
open Go.RowKit
def zeQ (p:Xb)(e:Xv):Value:=.iface 172 (.agg #[.string p,e])
theorem zdo (p:Xb)(t:Xy)(v:Xv)(w:Xw):xK 32 #[.string p,.iface t v] w λe w'=>e=.returned (zeQ p (.iface t v))/\w=w':=by go_enter func32,ntmps32;go_wp2_with fail;go_ret;exact⟨rfl,rfl⟩
def St.first (s:Xb):St:=⟨s,zZ s 0,0,0,0,[]⟩
theorem zmc {s:Xb}(hs:s.size<=1200):Inv 0 (St.first s):=by have h:=zV s 0 (zMN _);refine⟨⟨hs,h.2.2.1,h.2.1,h.2.2.2.1,by simp[St.first],by simp[St.first],by simp[St.first],h.2.2.2.2.1⟩,?_,?_,?_,?_,?_⟩;all_goals first|exact h.2.2.2.2.2|simp[St.first]
def zfv:ByteArray:=⟨#[114,101,97,100,105,110,103]⟩
def znP (S:Xs)(w:Xw)(r:St×List Nd)(e:Ending)(w':Xw):Prop :=
 (r.1.er≠0->e=.returned (.tuple #[.pointer none,zeQ zfv (za2 S r.1.er r.1.at')])) /\
 (r.1.er=0->∃a:Addr,e=.returned (.tuple #[.pointer (some a),.nilIface])/\PG r.2 (.pointer (some a)) w' w.heap.size)/\xB w w'
theorem zni {r17 r18:Fn}(hX:zX 18 159 r18)(hK:zdI 18 r17)(g17:zv 17 r17)(g18:zv 18 r18)(S:Xs)(f:Nat)(hf1:1202<f)(hf2:f<=5000)(s:Xb)(w:Xw)(HG:Gl S w)(hs:s.size<=1200){R:St×List Nd}(hRR:zgo r17 r18 f s=R) :
 xK 19 #[.string s] w (znP S w R):=by
 have hsz:=HG.size;have HSc:=za (zi0 S s 0 w hs (zMN _) HG);obtain⟨Q,hQ⟩:∃Q,zdZ r17 r18 f f ((zax r17 r18 f (St.first s)).1,[]++[(zax r17 r18 f (St.first s)).2])=Q:=⟨_,rfl⟩;have HRQ:R=(zbB Q.1,Q.2):=by rw[<- hRR,<- hQ];rfl
 have HPr:=za (λpb w1 h=>zke hX hK g17 g18 S pb 0 f hf1 hf2 (St.first s) w1 (zmc hs) rfl h hQ);have hls:¬(1200<(s.size:Int)):=by omega
 go_enter func19,ntmps19;go_wp2_with fail;refine HSc.o.mono ?_;rintro e w1 ⟨rfl,HB1⟩;have hz1:=HB1.size;have hL1:PL S (w1.alloc (zgL S (St.first s))) w1.heap.size (St.first s):=⟨zkH s 0,zc w1 _,HG.of (T:=λ_=>False) (Fr.alloc (Fr.of_below HB1) _) (λ_ h=>h.elim),by omega⟩;have HL1:=za hL1;unfold Tk.cval;have hpo:zgL S (St.first s)=.cells #[.string s,xI (ck (zZ s 0)),.string (cs s (zZ s 0)),.int .i64 (zZ s 0).a,xI (cn (zZ s 0)),xI 0,.nilIface] 124:=by simp[zgL,St.first,za2]
 rw[hpo] at HL1;go_wp2_with fail;refine (HPr.o _ _ HL1.o).mono ?_;rintro e w2 ⟨a,rfl,hL2,hF2,hP2⟩;have hz2:=hF2.size;rw[zsb] at hz2;have HB2:Hid (xB w w2):=by have h1:Fr (λ_=>False) w w1:=Fr.of_below HB1;have h:=(h1.alloc (.cells #[.string s,xI (ck (zZ s 0)),.string (cs s (zZ s 0)),.int .i64 (zZ s 0).a,xI (cn (zZ s 0)),xI 0,.nilIface] 124)).trans' hF2 (λi hi h=>by omega);exact⟨h.os,h.tape,h.output,h.size,λk hk=>h.block k hk (λh=>h)⟩
 obtain⟨h0,h1,h2,h3,h4,h5,h6⟩:=hL2.cells;have hlt2:=hL2.lt;have HP2:=za hP2.out;by_cases He:(zbB Q.1).er=0
 . rw[show za2 S (zbB Q.1).er (zbB Q.1).at'=.nilIface by simp[za2,He]] at h6;go_wp2_with fail;refine zWR (v:=.tuple #[.pointer (some a),.nilIface]) (by simp[results,results19,go_sem]) rfl ?_;rw[HRQ];refine⟨λh=>absurd He h,λ_=>⟨a,rfl,?_⟩,HB2.o⟩;have hp:=HP2.o He;obtain⟨gb,gv,xs,k0,k1,k2,k3,k4⟩:=hp;rw[zsb] at k1 k3 k4;exact⟨gb,gv,xs,k0,by omega,k2,zR k3 (by omega),k4.down (by omega)⟩
 rw[show za2 S (zbB Q.1).er (zbB Q.1).at'=.iface 59 (.agg #[sen S (zbB Q.1).er,.int .i64 (zbB Q.1).at']) by simp[za2,He]] at h6;go_wp2_with (go_at_call 32;refine (zdo _ _ _ _).mono ?_;rintro e w3 ⟨rfl,rfl⟩);refine zWR (v:=.tuple #[.pointer none,zeQ zfv (.iface 59 (.agg #[sen S (zbB Q.1).er,.int .i64 (zbB Q.1).at']))]) (by simp[results,results19,go_sem,zfv]) rfl ?_;rw[HRQ];refine⟨λ_=>?_,λh=>absurd h He,HB2.o⟩
 show _=Ending.returned (.tuple #[.pointer none,zeQ zfv (za2 S (zbB Q.1).er (zbB Q.1).at')]);rw[show za2 S (zbB Q.1).er (zbB Q.1).at'=.iface 59 (.agg #[sen S (zbB Q.1).er,.int .i64 (zbB Q.1).at']) by simp[za2,He]]
theorem zk1:∃r17 r18:Fn,r17=(lev 17).ex/\r18=(lev 18).ex/\zX 18 159 r18/\zdI 18 r17/\zv 17 r17/\zv 18 r18:=by obtain⟨c1,_,_,c4⟩:=znu 18;refine⟨_,_,rfl,rfl,c1,?_,(zgP 17).1,(zgP 18).1⟩;rw[zM1 (by decide)] at c4;exact c4
end
section
open Go.RowKit
variable {a:Addr} {B N b i j:Nat} {o1 o2:Obj} {P:Program} {u v:Xv} {W w w' w1:Xw}
theorem zna (w:Xw)(g:Nat)(cs:Xa):Fr (·=g) w (w.setRow g cs) :=
 ⟨rfl,rfl,rfl,by simp[World.setRow],λk _ hn=>setRow_other w g k cs hn⟩
theorem zew (w:Xw)(dT sT ty elem:Xy)(g dLen dCap:Nat)(sp:Xp)(sLen sCap:Nat)(cur:Xm)(t:Xy)(cs:Xm)
 (hu:P.underlying dT=some (.slice elem)) (hs:(P.info? elem).map (·.size)=some 1)
 (hg:xH w g cur.toArray t) (hn:cs.length=Nat.min sLen dLen)
 (hsrc:0<cs.length->∃ad,sp=some ad/\∀j v,cs[j]?=some v->w.cell? (ad.add j)=some v) (hfit:cs.length<=cur.length) (h1:∀v∈cs,v.oneCell'=true) :
 ∃w',(Builtin.copy_ #[dT,sT] ty #[xS g dLen dCap,.slice sp sLen sCap]).run P w=.ok (goInt cs.length) w'/\w'.heap[g]?=some (.cells (cs++cur.drop cs.length).toArray t (0,0))/\Fr (·=g) w w':=by
 by_cases h0:cs.length=0
 . obtain rfl:cs=[]:=List.eq_nil_of_length_eq_zero h0;exact⟨w,run_copy_none (P:=P) w dT sT ty elem _ sp dLen dCap sLen sCap hu hs (by simpa using hn.symm),by simpa using hg,Fr.refl _ w⟩
 obtain⟨ad,rfl,hsr⟩:=hsrc (by omega);refine⟨_,run_copy_row (P:=P) w dT sT ty elem g 0 dLen dCap ad sLen sCap cur.toArray t cs hu hs hg hn hsr (by simpa using hfit) h1,?_,zna _ _ _⟩;have:=setRow_heap w g cur.toArray (cur.take 0++cs++cur.drop (0+cs.length)).toArray t _ hg;simpa using this
theorem zmi {ops:Array Oper}{o:Oper}{a:Act}{K:Act->World->Prop}{Q:Exit->Act->World->Prop}{E:Prop}(hgd:o.guard=none)(d s:Operand)(dT sT:Xy)
 (ho:o.op=.call { callee:=.builtin .copy,args:=#[d,s],argTypes:=#[dT,sT] }) (elem:Xy) (hu:P.underlying dT=some (.slice elem)) (hsz:(P.info? elem).map (·.size)=some 1)
 (g dLen dCap:Nat) (sp:Xp) (sLen sCap:Nat) (hd:a.eval d=xS g dLen dCap) (hs:a.eval s=.slice sp sLen sCap)
 (cur:Xm) (t:Xy) (hg:xH w g cur.toArray t) (cs:Xm) (hn:cs.length=Nat.min sLen dLen)
 (hsrc:0<cs.length->∃ad,sp=some ad/\∀j v,cs[j]?=some v->w.cell? (ad.add j)=some v) (hfit:cs.length<=cur.length) (h1:∀v∈cs,v.oneCell'=true)
 (h:∀w',w'.heap[g]?=some (.cells (cs++cur.drop cs.length).toArray t (0,0))->Fr (·=g) w w'->K (a.put o.dst (goInt cs.length)) w') :
 if Region.wanted o (yielded ops a.tmps)=true then Oper.wp P o a w K Q else E:=by
 have hw:Region.wanted o (yielded ops a.tmps)=true:=by simp[Region.wanted,hgd]
 rw[zM2 hw];obtain⟨w',hrun,h2,h3⟩:=zew (P:=P) w dT sT o.type elem g dLen dCap sp sLen sCap cur t cs hu hsz hg hn hsrc hfit h1;unfold Oper.wp;simp[execOp,ho,resolve,invoke,builtin,hd,hs,hrun,Result.andThen];exact h w' h2 h3
theorem zjb (b:Nat)(t:Xy):∀(vs:Xm) (o:Nat) (w:Xw) (cur:Xm),w.heap[b]?=some (.cells cur.toArray t (0,0))->o+vs.length<=cur.length->(w.setCells b o vs).heap[b]?=some (.cells (cur.take o++vs++cur.drop (o+vs.length)).toArray t (0,0))/\Fr (·=b) w (w.setCells b o vs):=by
 intro vs;induction vs with
 | nil=>intro o w cur h _;exact⟨by simpa [World.setCells] using h,Fr.refl _ w⟩
 | cons v vs ih =>
   intro o w cur h hl;simp only[zMR] at hl;have h1:=zh w b o v h;have h2:cur.toArray.setIfInBounds o v=(cur.set o v).toArray:=(by simp);rw[h2] at h1;obtain⟨k1,k2⟩:=ih (o+1) (w.setCell (xD b o) v) (cur.set o v) h1 (by simp;omega);refine⟨?_,((Fr.refl (·=b) w).set1 o v).trans k2⟩
   show (World.setCells (w.setCell (xD b o) v) b (o+1) vs).heap[b]?=_;rw[k1];congr 3;have e1:(cur.set o v).take (o+1)=cur.take o++[v]:=(by rw[List.take_set,List.take_succ_eq_append_getElem (by omega:o<cur.length),List.set_append_right _ _ (by simp;omega)];simp[Nat.min_eq_left (by omega:o<=cur.length)]);have e2:(cur.set o v).drop (o+1+vs.length)=cur.drop (o+(vs.length+1)):=(by rw[List.drop_set_of_lt (by omega)];congr 1;omega);rw[e1,e2];simp
theorem ziG (w:Xw)(t e ty:Xy)(z:Xv)(ht:P.underlying t=some (.slice e))(hv:∀w,(zeroValue e).run P w=.ok z w)(hz:z.cells=#[z])(h1:z.oneCell'=true)(b c:Nat)(cur:Xm)(te:Xy)
 (hg:w.heap[b]?=some (.cells cur.toArray te (0,0))) :
 ∃w',(Builtin.clear_ #[t] ty #[xS b cur.length c]).run P w=.ok (.tuple #[]) w'/\w'.heap[b]?=some (.cells (List.replicate cur.length z).toArray te (0,0))/\Fr (·=b) w w':=by
 by_cases h0:cur.length=0
 . obtain rfl:cur=[]:=List.eq_nil_of_length_eq_zero h0;refine⟨w,?_,by simpa using hg,Fr.refl _ w⟩;simp[Builtin.clear_,run_underlying ht]
 refine⟨_,Lib.run_clear_slice (P:=P) w t e ty z ht hv hz h1 b 0 cur.length c (by omega) (λj hj=>?_) (λj hj=>?_),?_⟩
 . simp[World.cell?,hg,hj]
 . simp[World.frozen?,hg]
 have:=zjb b te (List.replicate cur.length z) 0 w cur hg (by simp);simpa using this
theorem zg (h:W.cell? a=some v):W.drew.cell? a=some v:=h
theorem zj (o:Obj)(h:W.cell? a=some v):(W.alloc o).cell? a=some v:=Lib.cell?_alloc_some o h
theorem zk {k:Nat}(hk:¬k=b)(h:W.cell? (xD k i)=some v):(W.setCell (xD b j) u).cell? (xD k i)=some v :=
 (zWS (w:=W) (Below.heap_setCell W _ u k hk)).trans h
theorem za0 (h:∃v,W.cell? (xD b i)=some v):(W.setCell (xD b i) u).cell? (xD b i)=some u:=by
 obtain⟨v,hv⟩:=h;unfold World.cell? at hv ⊢;simp only[World.setCell,Array.getElem?_modify] at hv ⊢;cases ho:W.heap[b]? with
 | none=>simp[ho] at hv
 | some o =>
   cases o with
   | cells c e f =>
     simp only[ho] at hv;have hi:i<c.size:=by
      rcases Nat.lt_or_ge i c.size with h|h
      . exact h
      simp[Array.getElem?_eq_none h] at hv
     simp[hi]
   | _=>simp[ho] at hv
theorem zce (h:W.cell? (xD b i)=some v):∃v,(W.setCell (xD b j) u).cell? (xD b i)=some v:=by
 unfold World.cell? at h ⊢;simp only[World.setCell,Array.getElem?_modify] at h ⊢;cases ho:W.heap[b]? with
 | none=>simp[ho] at h
 | some o =>
   cases o with
   | cells c e f =>
     simp only[ho] at h;have hi:i<c.size:=by
      rcases Nat.lt_or_ge i c.size with h'|h'
      . exact h'
      simp[Array.getElem?_eq_none h'] at h
     simp[hi]
   | _=>simp[ho] at h
theorem zd (h:Below B w W)(hc:w.cell? (xD b i)=some v)(hb:b<B):W.cell? (xD b i)=some v:=(zWS (w:=w) (h.block b hb)).trans hc
theorem zE (h:Below (w.alloc o1).heap.size (w.alloc o1) w1):xB w w1 :=
 ((zWQ w.heap.size w).alloc (zMK _) o1).trans (h.mono (by simp))
theorem zhh (h:Below ((w.alloc o1).alloc o2).heap.size ((w.alloc o1).alloc o2) w1):xB w w1:=zE (zE h)
theorem zg2 {o3:Obj}(h:Below (((w.alloc o1).alloc o2).alloc o3).heap.size (((w.alloc o1).alloc o2).alloc o3) w1):xB w w1:=zE (zhh h)
theorem zeW (hN:N<=w.heap.size)(o1:Obj):∀k,k<N->(w.alloc o1).heap[k]?=w.heap[k]?:=λk hk=>zWP _ _ _ (by omega)
theorem zfr (hN:N<=w.heap.size)(o1 o2:Obj):∀k,k<N->((w.alloc o1).alloc o2).heap[k]?=w.heap[k]?:=λk hk=>(zWP _ _ _ (by simp;omega)).trans (zWP _ _ _ (by omega))
theorem zot (hN:N<=w.heap.size)(o1 o2 o3:Obj):∀k,k<N->(((w.alloc o1).alloc o2).alloc o3).heap[k]?=w.heap[k]?:=λk hk=>(zWP _ _ _ (by simp;omega)).trans (zfr hN o1 o2 k hk)
theorem zq (w:Xw)(o1:Obj):xB w (w.alloc o1):=(zWQ w.heap.size w).alloc (zMK _) o1
theorem zaD (w:Xw)(o1 o2:Obj):xB w ((w.alloc o1).alloc o2):=zE (zq _ _)
theorem zcz (w:Xw)(o1 o2 o3:Obj):xB w (((w.alloc o1).alloc o2).alloc o3):=zE (zaD _ _ _)
theorem zo (h:Below B w W):Below B w W.drew:=⟨h.os,h.tape,h.output,h.size,h.block⟩
theorem zC (h:Below B w W)(hb:B<=b)(u:Xv):Below B w (W.setCell (xD b i) u):=h.setCell hb u
def Old (N:Nat)(w w':Xw):Prop:=∀k,k<N->w'.heap[k]?=w.heap[k]?
theorem Old.trans {a b c:Xw}(h:Old N a b)(k:Old N b c):Old N a c:=λi hi=>(k i hi).trans (h i hi)
theorem Fr.old {S:Xj}(h:Fr S w w')(hN:N<=w.heap.size)(hS:∀k,S k->N<=k):Old N w w':=λk hk=>h.block k (by omega) (λhs=>by have:=hS k hs;omega)
theorem zm (h:Below B w w')(hN:N<=B):Old N w w':=λk hk=>h.block k (by omega)
end
section
open Go.RowKit
variable {L:List Ex} {xs:Xm} {B N:Nat} {v:Xv} {w w':Xw}
inductive Tm where
 | mk (k a:Nat) (s:Xb) (nm n:Nat) (as':List Tm)
def Tm.k:Tm->Nat|.mk k _ _ _ _ _=>k
def Tm.a:Tm->Nat|.mk _ a _ _ _ _=>a
def Tm.s:Tm->ByteArray|.mk _ _ s _ _ _=>s
def Tm.nm:Tm->Nat|.mk _ _ _ nm _ _=>nm
def Tm.n:Tm->Nat|.mk _ _ _ _ n _=>n
def Tm.ts:Tm->List Tm|.mk _ _ _ _ _ l=>l
inductive zeA (L:List Ex):Nat->Tm->Prop
 | mk (x:Nat) (ex:Ex) (ts:List Tm) (hx:L[x]?=some ex) (hl:ts.length=ex.ins.length) (hr:∀(i y:Nat) (t:Tm),ex.ins[i]?=some y->ts[i]?=some t->zeA L y t) :
    zeA L x (.mk (zag ex.op.toList ex.n) ex.a ex.s ex.nm (zbF ex.op.toList ex.n) ts)
inductive TT (w:Xw) (N:Nat):Tm->Value->Prop
 | mk (k a:Nat) (s:Xb) (nm n:Nat) (ts:List Tm) (b:Nat) (args:Xv) (vs:Xm) (hN:b<N)
    (hb:xH w b #[xI k,xI a,.string s,xI nm,xI n,args] 198)
    (ha:w.ownsRow 0 156 1 args vs.length vs) (hg:∀g,args.ownBlock=some g->g<N) (hl:vs.length=ts.length)
    (hr:∀(i:Nat) (t:Tm) (v:Xv),ts[i]?=some t->vs[i]?=some v->TT w N t v):TT w N (.mk k a s nm n ts) (xP b)
theorem TT.old {t:Tm}(h:TT w N t v)(ho:Old N w w'):TT w' N t v:=by
 induction h with
 | mk k a s nm n ts b args vs hN hb ha hg hl _ ih => exact TT.mk k a s nm n ts b args vs hN ((ho b hN).trans hb) (zi ha (λg _ _ e=>ho g (hg g e))) hg hl ih
theorem zjR {P:Nat->Tm->Value->Prop}:∀(ins:Xn) (vs:Xm),vs.length=ins.length->(∀(i y:Nat) (v:Xv),ins[i]?=some y->vs[i]?=some v->∃t,P y t v)->∃ts:List Tm,ts.length=ins.length/\∀(i y:Nat) (t:Tm) (v:Xv),ins[i]?=some y->ts[i]?=some t->vs[i]?=some v->P y t v:=by
 intro ins;induction ins with
 | nil=>intro vs _ _;exact⟨[],rfl,λi y t v h=>by simp at h⟩
 | cons y ins ih =>
   intro vs hl h;cases vs with
   | nil=>simp at hl
   | cons v vs =>
     obtain⟨t,ht⟩:=h 0 y v rfl rfl;obtain⟨ts,h1,h2⟩:=ih vs (by simpa using hl) (λi y v hy hv=>h (i+1) y v (by simpa using hy) (by simpa using hv));refine⟨t::ts,by simp[h1],λi y' t' v' hy ht' hv=>?_⟩;cases i with
     | zero=>simp at hy ht' hv;subst hy ht' hv;exact ht
     | succ i=>exact h2 i y' t' v' (by simpa using hy) (by simpa using ht') (by simpa using hv)
theorem TR.tree {x:Nat}(h:TR w B L x v):∃t,zeA L x t/\TT w w.heap.size t v:=by
 induction h with
 | mk x ex b args vs hx hB hb ha hl _ ih =>
   obtain⟨ts,h1,h2⟩:=zjR (P:=λy t v=>zeA L y t/\TT w w.heap.size t v) ex.ins vs hl ih;have hv:∀i t,ts[i]?=some t->∃y v,ex.ins[i]?=some y/\vs[i]?=some v:=λi t ht=>by have hi:=(zMJ.1 ht).1;exact⟨_,_,zsc (by omega),zsc (by omega)⟩
   refine⟨.mk (zag ex.op.toList ex.n) ex.a ex.s ex.nm (zbF ex.op.toList ex.n) ts,zeA.mk x ex ts hx h1 (λi y t hy ht=>?_),TT.mk _ _ _ _ _ ts b args vs (ze hb) hb (zR ha (zMN _)) (λg e=>(ha.lt g e).2) (by omega) (λi t v ht hv'=>?_)⟩
   . obtain⟨y',v,e1,e2⟩:=hv i t ht;exact (h2 i y t v hy ht e2).1
   obtain⟨y',v',e1,e2⟩:=hv i t ht;exact (h2 i y' t v e1 ht hv').2
structure Qn where
 ns:List ByteArray
 ps:List Nat
 a:Nat
 r:Tm
structure Nod where
 nm:ByteArray
 a:Nat
 vars:List Vr
 ins:Nat
 outs:Nat
 eqs:List Qn
def zcU (w:Xw)(N:Nat):List Qn->List Value->Prop
 | [],xs=>xs=[]
 | q::qs,xs=>∃lv v ys,xs=lv::(xI q.a)::v::ys/\w.ownsRow 0 84 2 lv q.ns.length (nmC q.ns q.ps)/\(∀g,lv.ownBlock=some g->g<N)/\TT w N q.r v/\zcU w N qs ys
theorem zcU.old (ho:Old N w w'):∀{qs:List Qn} {xs:Xm},zcU w N qs xs->zcU w' N qs xs:=by
 intro qs;induction qs with
 | nil=>intro xs h;exact h
 | cons q qs ih => rintro xs ⟨lv,v,ys,h1,h2,h3,h4,h5⟩;exact⟨lv,v,ys,h1,zi h2 (λg _ _ e=>ho g (h3 g e)),h3,h4.old ho,ih h5⟩
structure NT (w:Xw) (N:Nat) (n:Nod) (nb:Nat) (vs ev:Xv) (xs:Xm):Prop where
 blk:xH w nb #[.string n.nm,xI n.a,vs,xI n.ins,xI n.outs,ev] 88
 lo:nb<N
 vown:w.ownsRow 0 101 7 vs n.vars.length (zb0 n.vars)
 vlo:∀g,vs.ownBlock=some g->g<N
 own:w.ownsRow 0 158 3 ev n.eqs.length xs
 elo:∀g,ev.ownBlock=some g->g<N
 eqs:zcU w N n.eqs xs
 few:n.vars.length<=16
theorem NT.old {n:Nod}{nb:Nat}{vs ev:Xv}(h:NT w N n nb vs ev xs)(ho:Old N w w'):NT w' N n nb vs ev xs :=
 ⟨(ho _ h.lo).trans h.blk,h.lo,zi h.vown (λg _ _ e=>ho g (h.vlo g e)),h.vlo,zi h.own (λg _ _ e=>ho g (h.elo g e)),h.elo,h.eqs.old ho,h.few⟩
def NP (w:Xw)(N:Nat)(n:Nod)(v:Xv):Prop:=∃nb vs ev xs,v=xP nb/\NT w N n nb vs ev xs
theorem NP.old {n:Nod}(h:NP w N n v)(ho:Old N w w'):NP w' N n v:=by obtain⟨nb,vs,ev,xs,h0,h⟩:=h;exact⟨nb,vs,ev,xs,h0,h.old ho⟩
structure NL (w:Xw) (N:Nat) (ns:List Nod) (gv:Xv) (xs:Xm):Prop where
 own:w.ownsRow 0 77 1 gv ns.length xs
 lo:∀g,gv.ownBlock=some g->g<N
 at':∀(i:Nat) (n:Nod),ns[i]?=some n->∃v,xs[i]?=some v/\NP w N n v
 few:ns.length<=6
theorem NL.old {ns:List Nod}{gv:Xv}(h:NL w N ns gv xs)(ho:Old N w w'):NL w' N ns gv xs :=
 ⟨zi h.own (λg _ _ e=>ho g (h.lo g e)),h.lo,λi n hi=>by obtain⟨v,h1,h2⟩:=h.at' i n hi;exact⟨v,h1,h2.old ho⟩,h.few⟩
def PT (w:Xw)(N:Nat)(ns:List Nod)(v:Xv):Prop:=∃gb gv xs,v=xP gb/\gb<N/\w.heap[gb]?=some (.cells #[gv] 82 (0,0))/\NL w N ns gv xs
theorem PT.old {ns:List Nod}(h:PT w N ns v)(ho:Old N w w'):PT w' N ns v:=by obtain⟨gb,gv,xs,h0,h1,h2,h3⟩:=h;exact⟨gb,gv,xs,h0,h1,(ho _ h1).trans h2,h3.old ho⟩
structure zrJ (L:List Ex) (q:Eqn) (q':Qn):Prop where
 ns:q'.ns=q.ns
 ps:q'.ps=q.ps
 a:q'.a=q.a
 r:zeA L q.ex q'.r
def zge (L:List Ex):List Eqn->List Qn->Prop
 | [],qs=>qs=[]
 | q::l,qs=>∃q' l',qs=q'::l'/\zrJ L q q'/\zge L l l'
theorem zge.len:∀{l:List Eqn} {qs:List Qn},zge L l qs->qs.length=l.length:=by
 intro l;induction l with
 | nil=>rintro qs rfl;rfl
 | cons q l ih=>rintro qs ⟨q',l',rfl,_,h⟩;simp[ih h]
structure zo6 (nd:Nd) (n:Nod):Prop where
 nm:n.nm=nd.nm
 a:n.a=nd.a
 vars:n.vars=nd.vars
 ins:n.ins=nd.ins
 outs:n.outs=nd.outs
 eqs:zge nd.exs nd.eqs n.eqs
def ze5:List Nd->List Nod->Prop
 | [],ns=>ns=[]
 | d::l,ns=>∃n l',ns=n::l'/\zo6 d n/\ze5 l l'
theorem ze5.len:∀{l:List Nd} {ns:List Nod},ze5 l ns->ns.length=l.length:=by
 intro l;induction l with
 | nil=>rintro ns rfl;rfl
 | cons q l ih=>rintro ns ⟨q',l',rfl,_,h⟩;simp[ih h]
theorem zno:∀{qs:List Eqn} {xs:Xm},ze0 L w B qs xs->∃qs',zge L qs qs'/\zcU w w.heap.size qs' xs:=by
 intro qs;induction qs with
 | nil=>intro xs h;exact⟨[],rfl,h⟩
 | cons q qs ih => rintro xs ⟨lv,a,ys,h1,h2,h3⟩;obtain⟨l',h4,h5⟩:=ih h3;obtain⟨t,h6,h7⟩:=h2.tr.tree;exact⟨⟨q.ns,q.ps,q.a,t⟩::l',⟨_,_,rfl,⟨rfl,rfl,rfl,h6⟩,h4⟩,lv,_,ys,h1,zR h2.own (zMN _),λg e=>(h2.own.lt g e).2,h7,h5⟩
theorem zpW {nd:Nd}(h:ND nd v w B):∃n,zo6 nd n/\NP w w.heap.size n v:=by obtain⟨nb,vs,ev,xs,h0,h⟩:=h;obtain⟨qs,h1,h2⟩:=zno h.eqs;refine⟨⟨nd.nm,nd.a,nd.vars,nd.ins,nd.outs,qs⟩,⟨rfl,rfl,rfl,rfl,rfl,h1⟩,nb,vs,ev,xs,h0,⟨h.blk,ze h.blk,zR h.vown (zMN _),λg e=>(h.vown.lt g e).2,?_,λg e=>(h.own.lt g e).2,h2,h.few⟩⟩;rw[show (qs.length)=nd.eqs.length from h1.len];exact zR h.own (zMN _)
theorem zoA:∀{nds:List Nd} {xs:Xm},zgE w B nds xs->∃ns,ze5 nds ns/\∀(i:Nat) (n:Nod),ns[i]?=some n->∃v,xs[i]?=some v/\NP w w.heap.size n v:=by
 intro nds;induction nds with
 | nil=>intro xs _;exact⟨[],rfl,λi n h=>by simp at h⟩
 | cons d nds ih =>
   rintro xs ⟨v,ys,rfl,h2,h3⟩;obtain⟨ns,h4,h5⟩:=ih h3;obtain⟨n,h6,h7⟩:=zpW h2;refine⟨n::ns,⟨n,ns,rfl,h6,h4⟩,λi m hi=>?_⟩;cases i with
   | zero=>simp at hi;subst hi;exact⟨v,rfl,h7⟩
   | succ i=>simpa using h5 i m (by simpa using hi)
theorem zpt {nds:List Nd}(h:PG nds v w B)(h6:nds.length<=6):∃ns,ze5 nds ns/\PT w w.heap.size ns v:=by obtain⟨gb,gv,xs,h0,h1,h2,h3,h4⟩:=h;obtain⟨ns,h5,h7⟩:=zoA h4;refine⟨ns,h5,gb,gv,xs,h0,ze h2,h2,?_,λg e=>(h3.lt g e).2,h7,by rw[h5.len];exact h6⟩;rw[h5.len];exact zR h3 (zMN _)
end
section
variable {s:Xb} {k:Nat}
structure Sc where
 er:List Nod
 nd:Nod
def zfj (s:Xb):List Vr->Nat->Option Nat
 | [],_=>none
 | v::l,i=>if v.nm=s then some i else zfj s l (i+1)
def Nod.find (n:Nod)(s:Xb):Option Nat:=zfj s n.vars 0
def Sc.idx (c:Sc)(s:Xb):Nat:=(c.nd.find s).getD 0
def zgg (s:Xb):List Nod->Nat->Option Nat
 | [],_=>none
 | n::l,i=>if n.nm=s then some i else zgg s l (i+1)
def Sc.called (c:Sc)(s:Xb):Option Sc :=
 match zgg s c.er 0 with
 | none=>none
 | some i=>match c.er[i]? with
   | none=>none
   | some n=>some ⟨c.er.take i,n⟩
theorem zld {l:List Vr}{v:Vr}(h:l[k]?=some v):zfj s (l.drop k) k=if v.nm=s then some k else zfj s (l.drop (k+1)) (k+1):=by obtain⟨h1,h2⟩:=zMJ.1 h;rw[zMT h1,h2];rfl
theorem zla {l:List Nod}{v:Nod}(h:l[k]?=some v):zgg s (l.drop k) k=if v.nm=s then some k else zgg s (l.drop (k+1)) (k+1):=by obtain⟨h1,h2⟩:=zMJ.1 h;rw[zMT h1,h2];rfl
theorem zgO:∀{l:List Vr} {i j:Nat},zfj s l i=some j->i<=j/\j<i+l.length/\∃v,l[j-i]?=some v/\v.nm=s:=by
 intro l;induction l with
 | nil=>intro i j h;cases h
 | cons v l ih =>
   intro i j h;unfold zfj at h;split at h
   . rename_i hv;cases h;exact⟨zMK _,by simp,v,by simp,hv⟩
   obtain⟨h1,h2,u,h3,h4⟩:=ih h;refine⟨by omega,by simp only[zMR];omega,u,?_,h4⟩;rw[show j-i=(j-(i+1))+1 by omega];simpa using h3
theorem zIb:∀{l:List Nod} {i j:Nat},zgg s l i=some j->i<=j/\j<i+l.length/\∃v,l[j-i]?=some v/\v.nm=s:=by
 intro l;induction l with
 | nil=>intro i j h;cases h
 | cons v l ih =>
   intro i j h;unfold zgg at h;split at h
   . rename_i hv;cases h;exact⟨zMK _,by simp,v,by simp,hv⟩
   obtain⟨h1,h2,u,h3,h4⟩:=ih h;refine⟨by omega,by simp only[zMR];omega,u,?_,h4⟩;rw[show j-i=(j-(i+1))+1 by omega];simpa using h3
abbrev xE (x:Xp) (c:Sc) (p:Nat):Value:=.slice x c.er.length p
end
section
variable {t:Tm}
mutual
def szT:Tm->Nat
 | .mk _ _ _ _ _ ts=>szL ts+1
def szL:List Tm->Nat
 | []=>0
 | t::l=>szT t+szL l
end
theorem zkw {l:List Tm}(h:t∈l):szT t<=szL l:=by
 induction l with
 | nil=>simp at h
 | cons x l ih =>
   rcases zNa.1 h with rfl|h
   . simp[szL]
   have:=ih h;simp[szL];omega
theorem Tm.ind {P:Tm->Prop}(h:∀k a s nm n ts,(∀t∈ts,P t)->P (.mk k a s nm n ts)):∀t,P t
 | .mk k a s nm n ts=>h k a s nm n ts (λt _=>Tm.ind h t)
termination_by t=>szT t
decreasing_by simp only[szT];have:=zkw ‹_›;omega
def arB (k n:Nat):Bool :=
 if k<=3 then n==0 else if k=4 then decide (1<=n) else if k=5 then n==3 else if k=6 then n==2 else if k<=8 then n==1 else if k=9 then n==2 else if k<=11 then n==1 else if k<=23 then n==2 else false
inductive Wf:Tm->Prop
 | mk (k a:Nat) (s:Xb) (nm n:Nat) (ts:List Tm) (h:arB k ts.length=true) (hr:∀t∈ts,Wf t):Wf (.mk k a s nm n ts)
theorem Wf.sub {u:Tm}(h:Wf t)(hu:u∈t.ts):Wf u:=by
 cases h with
 | mk k a s nm n ts h hr=>exact hr u hu
theorem Wf.ar (h:Wf t):arB t.k t.ts.length=true:=by
 cases h with
 | mk k a s nm n ts h hr=>exact h
mutual
def zaV (g:Tm->Bool):Tm->List Tm
 | .mk k a s nm n ts=>.mk k a s nm n ts::(if g (.mk k a s nm n ts)=true then zdk g ts else [])
def zdk (g:Tm->Bool):List Tm->List Tm
 | []=>[]
 | t::l=>zaV g t++zdk g l
end
def za5 (_:Tm):Bool:=true
def zak (t:Tm):Bool:=t.k != 9
def Sc.has (c:Sc)(s:Xb):Bool:=(c.nd.find s).isSome
def zaJ (k:Nat):Bool:=k==3||k==7||k==8||k==6
def zda (q:Qn)(t:Tm):Nat:=if szT t=szT q.r then q.ns.length else 1
def Sc.fits (c:Sc)(t:Tm)(u:Nat):Bool :=
 match c.called t.s with
 | none=>false
 | some d=>d.nd.ins==t.ts.length&&d.nd.outs==u
def zat (c:Sc):List Vr->Nat->List Nat
 | [],_=>[]
 | v::l,i=>(if (c.nd.find v.nm).getD 0<i then [v.a] else [])++(if (zaA v != 0&&!c.has v.ck)=true then [v.ca] else [])++zat c l (i+1)
def z7 (c:Sc):List ByteArray->List Nat->List Nat
 | s::ns,p::ps=>(if (!c.has s||decide (c.idx s<c.nd.ins))=true then [p] else [])++z7 c ns ps
 | _,_=>[]
def zaL (c:Sc)(q:Qn)(t:Tm):List Nat :=
 (if (zaJ t.k&&!c.has t.s)=true then [t.nm] else [])++(if (t.k==4&&!c.fits t (zda q t))=true then [t.nm] else [])
def Sc.namesL (c:Sc):List Nat :=
 (if (c.called c.nd.nm).isSome=true then [c.nd.a] else [])++zat c c.nd.vars 0++(c.nd.eqs.flatMap λq=>z7 c q.ns q.ps)++(c.nd.eqs.flatMap λq=>(zaV za5 q.r).flatMap (zaL c q))
def tyV (v:Vr):Nat:=if v.bl=true then 1 else 0
def Sc.decl (c:Sc)(s:Xb):Nat:=((c.nd.vars[c.idx s]?).map tyV).getD 0
def Nod.results (n:Nod):List Vr:=(n.vars.drop n.ins).take n.outs
def Sc.callTy (c:Sc)(s:Xb):Nat :=
 match c.called s with
 | none=>0
 | some d=>((d.nd.results[0]?).map tyV).getD 0
mutual
def zaj (c:Sc):Tm->Nat
 | .mk k _ s _ _ ts =>
   if k=3 then c.decl s else if k=4 then c.callTy s else if k=7∨k=8∨k=6 then zbh c ts 0 else if k=5∨k=9 then zbh c ts 1
   else if k=0∨k=10∨(19<=k/\k<=23) then 0 else 1
def zbh (c:Sc):List Tm->Nat->Nat
 | [],_=>0
 | t::_,0=>zaj c t
 | _::l,n+1=>zbh c l n
end
def zcv (c:Sc)(ty:Nat)(l:List Tm):Bool:=l.all λt=>zaj c t==ty
def zc9 (c:Sc)(l:List Tm):Bool:=zbh c l 0==zbh c l 1
def zcG (t:Tm):Bool :=
 if t.k=0∨t.k=1∨t.k=2 then true else if t.k=10 then (match t.ts with|[]=>false|u::_=>u.k==0) else false
def zaQ (c:Sc):List Tm->List Vr->Bool
 | t::l,v::vs=>if (zaj c t != tyV v)=true then false else zaQ c l vs
 | [],_=>true
 | _::_,[]=>true
def Sc.operands (c:Sc)(t:Tm):Bool :=
 if t.k=10∨t.k=17∨t.k=18∨(19<=t.k/\t.k<=23) then zcv c 0 t.ts
 else if t.k=11∨t.k=12∨t.k=13∨t.k=14 then zcv c 1 t.ts
 else if t.k=15∨t.k=16∨t.k=6 then zc9 c t.ts
 else if t.k=5 then zcv c 1 (t.ts.take 1)&&zc9 c (t.ts.drop 1)
 else if t.k=9 then (match t.ts with|[]=>false|u::_=>zcG u)&&zc9 c t.ts
 else if t.k=4 then (match c.called t.s with|none=>true|some d=>zaQ c t.ts d.nd.vars)
 else true
def zaE (c:Sc):List ByteArray->List Vr->Bool
 | s::ns,r::rs=>if (c.decl s != tyV r)=true then false else zaE c ns rs
 | _,_=>true
def Sc.holds (c:Sc)(q:Qn):Bool :=
 match q.ns with
 | [s]=>c.decl s==zaj c q.r
 | ns=>match c.called q.r.s with
   | none=>true
   | some d=>zaE c ns d.nd.results
def zau (c:Sc):List Vr->List Nat
 | []=>[]
 | v::l=>(if (zaA v != 0&&c.decl v.ck != 1)=true then [v.on] else [])++zau c l
def zbQ (c:Sc)(t:Tm):List Nat :=
 (if (zaJ t.k&&t.k != 3&&c.decl t.s != 1)=true then [t.nm] else [])++(if c.operands t=true then [] else [t.a])
def Sc.typesL (c:Sc):List Nat :=
 zau c c.nd.vars++(c.nd.eqs.flatMap λq=>if c.holds q=true then [] else [q.a])++(c.nd.eqs.flatMap λq=>(zaV za5 q.r).flatMap (zbQ c))
def Sc.own (c:Sc)(v:Vr):Nat×Nat:=if zaA v=0 then (0,0) else (c.idx v.ck,zaA v)
def Sc.of (c:Sc)(i:Nat):Nat×Nat:=match c.nd.vars[i]? with|none=>(0,0)|some v=>c.own v
def Sc.up (c:Sc)(k:Nat×Nat):Nat×Nat:=if k.2=1∨k.2=2 then c.of k.1 else (0,0)
def zhr (c:Sc)(i:Nat):Nat->Nat×Nat->Bool
 | 0,_=>false
 | f+1,k=>if k=(0,0) then false else if k.1=i then true else zhr c i f (c.up k)
def Sc.comesBack (c:Sc)(i:Nat):Bool:=zhr c i (2*c.nd.vars.length) (c.of i)
def zbv (c:Sc):List Vr->Nat->List Nat
 | [],_=>[]
 | v::l,i=>(if c.comesBack i=true then [v.a] else [])++zbv c l (i+1)
def zbl (c:Sc)(k:Nat×Nat):List ByteArray->List Nat->List Nat
 | s::ns,p::ps=>(if c.of (c.idx s)=k then [] else [p])++zbl c k ns ps
 | _,_=>[]
def Sc.operand (c:Sc)(t:Tm)(i:Nat)(k:Nat×Nat):Nat×Nat :=
 if t.k=7∨t.k=8 then c.of (c.idx t.s) else if t.k=6 then (c.idx t.s,if 0<i then 2 else 1) else k
def zi8 (k:Nat):Nat:=if k=8 then 2 else 1
def Sc.isOn (c:Sc)(t:Tm)(k:Nat×Nat):List Nat×Bool :=
 if t.k=3∨t.k=6 then (if c.of (c.idx t.s)=k then [] else [t.nm],true)
 else if t.k=7∨t.k=8 then (if k=(c.idx t.s,zi8 t.k) then ([],true) else ([t.a],false))
 else ([],true)
mutual
def onT (c:Sc):Tm->Nat×Nat->List Nat
 | .mk x a s nm n ts,k=>(c.isOn (.mk x a s nm n ts) k).1++(if (c.isOn (.mk x a s nm n ts) k).2=true then onL c (.mk x a s nm n ts) k ts 0 else [])
def onL (c:Sc)(t:Tm)(k:Nat×Nat):List Tm->Nat->List Nat
 | [],_=>[]
 | u::l,i=>onT c u (c.operand t i k)++onL c t k l (i+1)
end
def zer (c:Sc)(q:Qn):List Nat :=
 let k:=c.of (c.idx (q.ns.headD ⟨#[]⟩))
 zbl c k q.ns.tail q.ps.tail++onT c q.r k
def Sc.clocksL (c:Sc):List Nat:=zbv c c.nd.vars 0++c.nd.eqs.flatMap (zer c)
def zaC (c:Sc):List ByteArray->List Nat->List Bool->List Nat×List Bool
 | s::ns,p::ps,d =>
   let r:=zaC c ns ps (d.set (c.idx s) true)
   ((if d.getD (c.idx s) false=true then [p] else [])++r.1,r.2)
 | _,_,d=>([],d)
def zcN (c:Sc):List Qn->List Bool->List Nat×List Bool
 | [],d=>([],d)
 | q::l,d =>
   let r:=zaC c q.ns q.ps d
   let r':=zcN c l r.2
   (r.1++r'.1,r'.2)
def zb1 (ins:Nat)(d:Xk):List Vr->Nat->List Nat
 | [],_=>[]
 | v::l,i=>(if (decide (ins<=i)&&!d.getD i false)=true then [v.a] else [])++zb1 ins d l (i+1)
def Sc.definesL (c:Sc):List Nat :=
 let r:=zcN c c.nd.eqs (List.replicate c.nd.vars.length false)
 r.1++zb1 c.nd.ins r.2 c.nd.vars 0
def zcO (c:Sc)(i:Nat)(t:Tm):List (Nat×Nat):=if zaJ t.k=true then [(i,c.idx t.s)] else []
def zaO (c:Sc)(q:Qn)(s:Xb):List (Nat×Nat) :=
 let i:=c.idx s
 (if (c.of i).2=0 then [] else [(i,(c.of i).1)])++(zaV zak q.r).flatMap (zcO c i)
def Sc.linksL (c:Sc):List (Nat×Nat):=c.nd.eqs.flatMap λq=>q.ns.flatMap (zaO c q)
def zcA (by' fr n:Nat):Nat->List (Nat×Nat)->List (Nat×Nat)
 | 0,L=>L
 | m+1,L=>zcA by' fr n m (if (fr,by')∈L/\(by',n-(m+1))∈L then L++[(fr,n-(m+1))] else L)
def zbJ (by' n:Nat):Nat->List (Nat×Nat)->List (Nat×Nat)
 | 0,L=>L
 | m+1,L=>zbJ by' n m (zcA by' (n-(m+1)) n n L)
def zeD (n:Nat):Nat->List (Nat×Nat)->List (Nat×Nat)
 | 0,L=>L
 | m+1,L=>zeD n m (zbJ (n-(m+1)) n n L)
def zdT (n:Nat)(L:List (Nat×Nat)):List (Nat×Nat):=zeD n n L
def zht (a:Nat)(L:List (Nat×Nat))(n:Nat):Nat->List Nat
 | 0=>[]
 | m+1=>(if (n-(m+1),n-(m+1))∈L then [a] else [])++zht a L n m
def Sc.causesL (c:Sc):List Nat:=zht c.nd.a (zdT c.nd.vars.length c.linksL) c.nd.vars.length c.nd.vars.length
def zbi (s:Xb):List (ByteArray×Nat)->Nat
 | []=>0
 | p::l=>if p.1=s then p.2 else zbi s l
def za9 (m:List (ByteArray×Nat))(t:Tm):Nat:=if t.k=9 then 1 else if t.k=4 then 1+zbi t.s m else 0
def zed (l:Xn):Nat:=l.foldl (·+·) 0
def zcg (n:Nod)(m:List (ByteArray×Nat)):Nat:=min (zed ((n.eqs.flatMap λq=>zaV za5 q.r).map (za9 m))) 61
def zfW:List Nod->List (ByteArray×Nat)->Nat->Nat
 | [],_,last=>last
 | n::l,m,_=>zfW l ((n.nm,zcg n m)::m) (zcg n m)
def zeZ (ns:List Nod):List Nat:=if 60<zfW ns [] 0 then [0] else []
def scs (ns:List Nod):List Sc:=(List.range ns.length).filterMap λi=>(ns[i]?).map λn=>⟨ns.take i,n⟩
def rep:Option Nat->Nat->Option Nat
 | none,p=>some p
 | some b,p=>if p<b then some p else some b
def zO (l:Xn):Option Nat:=l.foldl rep none
def zbc (ns:List Nod):Option (Nat×Nat) :=
 match zO ((scs ns).flatMap Sc.namesL) with
 | some p=>some (4,p)
 | none=>match zO ((scs ns).flatMap Sc.typesL) with
   | some p=>some (5,p)
   | none=>match zO ((scs ns).flatMap Sc.clocksL) with
     | some p=>some (6,p)
     | none=>match zO ((scs ns).flatMap Sc.definesL) with
       | some p=>some (7,p)
       | none=>match zO ((scs ns).flatMap Sc.causesL) with
         | some p=>some (8,p)
         | none=>match zO (zeZ ns) with
           | some p=>some (9,p)
           | none=>none
theorem zlT {l:Xn}(h:zO l=none):l=[]:=by
 have:∀(l:Xn) (s:Xo),s.isSome=true->(l.foldl rep s).isSome=true:=by
  intro l;induction l with
  | nil=>intro s h;exact h
  | cons p l ih =>
    intro s h;refine ih _ ?_;cases s with
    | none=>rfl
    | some b=>show (if p<b then some p else some b).isSome=true;split <;> rfl
 cases l with
 | nil=>rfl
 | cons p l => have h2:=this l (rep none p) rfl;unfold zO at h;rw[List.foldl_cons] at h;rw[h] at h2;cases h2
end
section
def lpW:ByteArray:=⟨#[40]⟩
def rpW:ByteArray:=⟨#[41]⟩
def coW:ByteArray:=⟨#[44]⟩
def zu6:Bool->List (List ByteArray)->List ByteArray
 | _,[]=>[]
 | b,x::l=>(if b then [coW] else [])++(x++zu6 true l)
def zu5 (l:List (List ByteArray)):List ByteArray:=[lpW]++(zu6 false l++[rpW])
def zwd (n:Nat):ByteArray:=⟨(Lib.itoa (n:Int)).toArray⟩
def zu7 (v:Vr):List ByteArray:=[v.nm,⟨#[58]⟩,if v.bl then ⟨#[98,111,111,108]⟩ else ⟨#[105,110,116]⟩]
def onW (v:Vr):List ByteArray:=if zaA v=1 then [⟨#[111,110]⟩,v.ck] else if zaA v=2 then [⟨#[111,110]⟩,⟨#[110,111,116]⟩,v.ck] else []
def zu9 (v:Vr):List ByteArray:=zu7 v++(onW v++[⟨#[59]⟩])
end
section
variable {s y:Xb} {a:Nat}
def sp1:ByteArray:=⟨#[32]⟩
def tkB (x:Xb):Tk:=zZ (x++sp1) 0
def zQM (x:Xb):Prop:=1<=x.size/\∀i,i<x.size->zbY (bt x i)=false
theorem zN0 {x:Xb}{i:Nat}(h:i<x.size):bt (x++y) i=bt x i:=by unfold bt;rw[dif_pos h,dif_pos (by rw[ByteArray.size_append];omega),ByteArray.getElem_append_left h]
theorem zPu (x:Xb):bt (x++sp1) x.size=32:=by unfold bt;rw[dif_pos (by rw[ByteArray.size_append];show x.size<x.size+1;omega),ByteArray.getElem_append_right (zMK _)];simp[sp1];rfl
theorem zNA (x:Xb):(x++sp1).size=x.size+1:=by rw[ByteArray.size_append];rfl
theorem zNO {m:Nat}(h1:a+m<=s.size)(h2:m<=y.size)(h:∀i,i<m->bt s (a+i)=bt y i):s.extract a (a+m)=y.extract 0 m:=by
 apply ByteArray.ext;apply Array.ext
 . have e1:(s.extract a (a+m)).data.size=(s.extract a (a+m)).size:=rfl;have e2:(y.extract 0 m).data.size=(y.extract 0 m).size:=rfl;rw[e1,e2,ByteArray.size_extract,ByteArray.size_extract];omega
 intro i h3 h4;have e1:(s.extract a (a+m)).data.size=(s.extract a (a+m)).size:=rfl;have hi:i<m:=by rw[e1,ByteArray.size_extract] at h3;omega
 have:=h i hi;unfold bt at this;rw[dif_pos (by omega),dif_pos (by omega)] at this;have g1:(s.extract a (a+m)).data[i]=s[a+i]'(by omega):=by show (s.extract a (a+m))[i]=_;rw[ByteArray.getElem_extract]
 have g2:(y.extract 0 m).data[i]=y[i]'(by omega):=by show (y.extract 0 m)[i]=_;rw[ByteArray.getElem_extract];simp
 rw[g1,g2];exact UInt8.toNat_inj.1 this
theorem zRg (h:a+2<=s.size):(s.extract a (a+2)).toList=[UInt8.ofNat (bt s a),UInt8.ofNat (bt s (a+1))]:=by rw[ByteArray.toList_eq];have e:=zga s a (a+2) (by omega) h;have e':=zga s (a+1) (a+2) (by omega) h;unfold zcS at e e';rw[e,e'];have:((s.extract (a+1+1) (a+2)).data.toList)=[]:=zfX s (a+2);rw[this];unfold bt;rw[dif_pos (by omega),dif_pos (by omega)];simp
end
section
variable {s x:Xb} {l:Xl} {i k:Nat} {st:St}
structure zNf (x:Xb):Prop where
 cl:zQM x
 tt:(tkB x).t=x.size
 sz:x.size<=40
structure zNi (x:Xb):Prop where
 ok:zNf x
 k:(tkB x).k=2
 s:(tkB x).s=x
def Rst (s:Xb):Nat->List ByteArray->Prop
 | p,[]=>(zZ s p).k=0
 | p,x::l=>((zZ s p).k=(tkB x).k/\(zZ s p).s=(tkB x).s/\(zZ s p).n=(tkB x).n)/\Rst s (zZ s p).t l
def At (st:St):List ByteArray->Prop
 | []=>st.er=0/\st.t.k=0
 | x::l=>st.er=0/\(st.t.k=(tkB x).k/\st.t.s=(tkB x).s/\st.t.n=(tkB x).n)/\Rst st.src st.t.t l
theorem At.er (h:At st l):st.er=0:=by cases l <;> exact h.1
theorem zQk {p:Nat}(h:Rst s p l)(st:St)(hs:st.src=s)(he:st.er=0)(ht:st.t=zZ s p):At st l:=by
 cases l with
 | nil=>exact⟨he,by rw[ht];exact h⟩
 | cons x l=>exact⟨he,by rw[ht];exact h.1,by rw[hs,ht];exact h.2⟩
theorem At.step (h:At st (x::l))(_hl:∀y∈l,zNf y):At st.step l:=by
 obtain⟨h1,_,h3⟩:=h;have e:st.step={ st with t:=zZ st.src st.t.t }:=by unfold St.step;rw[zM2 h1]
 rw[e];exact zQk h3 _ rfl h1 rfl
theorem At.is (h:At st (x::l))(k:Nat)(b:Xu):st.is k b=((tkB x).k==k&&(tkB x).s.toList==b):=by unfold St.is;rw[h.2.1.1,h.2.1.2.1]
def zQG (x:Xb)(k:Nat):Bool:=decide (1<=x.size)&&(List.range x.size).all (λi=>!zbY (bt x i))&&(tkB x).t==x.size&&(tkB x).k==k&&(tkB x).s.toList==x.toList&&decide (x.size<=40)
theorem zNh (h:zQG x k=true):zNf x/\(tkB x).k=k/\(tkB x).s.toList=x.toList:=by unfold zQG at h;simp only[Bool.and_eq_true,decide_eq_true_eq,beq_iff_eq,List.all_eq_true,List.mem_range,Bool.not_eq_true'] at h;exact⟨⟨⟨h.1.1.1.1.1,h.1.1.1.1.2⟩,h.1.1.1.2,h.2⟩,h.1.1.2,h.1.2⟩
theorem zPI:∀(l:Xu) (c:UInt8) (x:Bool×Nat),zdm (l++[c]) x=if (zdm l x).2 > (9223372036854775807-(c.toNat-48)) / 10 then (false,(zdm l x).2) else ((zdm l x).1,(zdm l x).2*10+(c.toNat-48))
 | [],c,x=>rfl
 | d::l,c,x=>by show zdm (l++[c]) _=_;rw[zPI l c];rfl
theorem zRV (h:k<10):(UInt8.ofNat (48+k)).toNat=48+k:=by rw[UInt8.toNat_ofNat'];omega
theorem zSj:∀n:Nat,zfi (Lib.decDigits n)/\1<=(Lib.decDigits n).length/\(n<=9223372036854775807->zdm (Lib.decDigits n) (true,0)=(true,n)):=by
 intro n;induction n using Nat.strongRecOn with
 | ind n ih =>
   rw[Lib.decDigits];by_cases h:n<10
   . rw[dif_pos h];have e:=zRV h;refine⟨λc hc=>?_,zMK _,λ_=>?_⟩
     . rw[zMZ.1 hc,e];omega
     show (if 0 > (9223372036854775807-((UInt8.ofNat (48+n)).toNat-48)) / 10 then (false,0) else (true,0*10+((UInt8.ofNat (48+n)).toNat-48)))=_;rw[e,zM1 (by omega)];exact congrArg (Prod.mk true) (by omega)
   rw[dif_neg h];obtain⟨h1,h2,h3⟩:=ih (n / 10) (by omega);have e:=zRV (show n % 10<10 by omega);refine⟨λc hc=>?_,by rw[zMM];omega,λhn=>?_⟩
   . rcases zMY.1 hc with hc|hc
     . exact h1 c hc
     rw[zMZ.1 hc,e];omega
   rw[zPI,h3 (by omega),e];simp only;rw[zM1 (by omega)];exact congrArg (Prod.mk true) (by omega)
theorem zNz {l:Xu}(h:i<l.length):bt (⟨l.toArray⟩:Xb) i=(l[i]).toNat:=by
 unfold bt;have hi:i<(⟨l.toArray⟩:Xb).size:=by show i<l.toArray.size;simpa using h
 rw[dif_pos hi];rfl
theorem zPe {P:Xh}(hP:P 32=false)(h:∀i,i<x.size->P (bt x i)=true):zQ P (x++sp1) 0=x.size:=by
 have:∀(n j:Nat),j+n=x.size->zQ P (x++sp1) j=x.size:=by
  intro n;induction n with
  | zero=>intro j hj;rw[Nat.add_zero] at hj;subst hj;exact zif (by rw[zPu];exact hP)
  | succ n ih=>intro j hj;rw[zd1 (by rw[zNA];omega) (by rw[zN0 (by omega)];exact h j (by omega))];exact ih (j+1) (by omega)
 exact this x.size 0 (by omega)
theorem zPV (x:Xb):(x++sp1).extract 0 x.size=x:=by have:=zNO (s:=x++sp1) (y:=x) (a:=0) (m:=x.size) (by rw[zNA];omega) (zMK _) (λi hi=>by rw[Nat.zero_add,zN0 hi]);rw[Nat.zero_add] at this;rw[this];apply ByteArray.ext;simp
theorem zP7:∀(f n:Nat),n<10 ^ (f+1)->(Lib.decDigits n).length<=f+1
 | 0,n,h=>by rw[Lib.decDigits,dif_pos (by omega)];exact zMK _
 | f+1,n,h=>by
   rw[Lib.decDigits];split
   . simp
   have:=zP7 f (n / 10) (by rw[Nat.pow_succ] at h;omega);rw[zMM];simp;omega
theorem zOn {n:Nat}(hn:n<=9223372036854775807):zNf (zwd n)/\(tkB (zwd n)).k=3/\(tkB (zwd n)).n=n:=by
 obtain⟨h1,h2,h3⟩:=zSj n;have e:zwd n=⟨(Lib.decDigits n).toArray⟩:=by unfold zwd Lib.itoa;rw[zM1 (by omega)];rfl
 have h4:=zP7 18 n (by omega);obtain⟨D,hD⟩:∃D,Lib.decDigits n=D:=⟨_,rfl⟩;rw[hD] at h1 h2 h3 h4 e;rw[e];have hz:(⟨D.toArray⟩:Xb).size=D.length:=by show D.toArray.size=_;simp
 have hb:∀i,i<(⟨D.toArray⟩:Xb).size->48<=bt ⟨D.toArray⟩ i/\bt ⟨D.toArray⟩ i<=57:=λi hi=>by rw[hz] at hi;rw[zNz hi];exact h1 _ (List.getElem_mem hi)
 have hd:∀i,i<(⟨D.toArray⟩:Xb).size->zT (bt ⟨D.toArray⟩ i)=true:=λi hi=>by have:=hb i hi;unfold zT;rw[decide_eq_true this.1,decide_eq_true this.2];rfl
 have hs:∀i,i<(⟨D.toArray⟩:Xb).size->zbY (bt ⟨D.toArray⟩ i)=false:=λi hi=>by have:=hb i hi;unfold zbY;simp only[Bool.or_eq_false_iff,zM0];omega
 have s0:zQ zbY (⟨D.toArray⟩++sp1) 0=0:=zif (by rw[zN0 (by omega)];exact hs 0 (by omega));have b0:bt (⟨D.toArray⟩++sp1) 0=bt ⟨D.toArray⟩ 0:=zN0 (by omega);have l0:zeM (bt ⟨D.toArray⟩ 0)=false:=by have:=hb 0 (by omega);unfold zeM;rw[decide_eq_false (by omega)];rfl
 have sd:=zPe (P:=zT) (x:=⟨D.toArray⟩) rfl hd;have tb:tkB ⟨D.toArray⟩=zgc (⟨D.toArray⟩++sp1) 0:=by unfold tkB zZ;simp only;rw[s0,zM1 (by rw[zNA];omega),b0,l0,hd 0 (by omega)];rfl
 have nb:zdt (⟨D.toArray⟩++sp1) ((⟨D.toArray⟩++sp1:Xb).size-0) 0 (true,0)=(true,n):=by rw[(zms _ _ 0 _ rfl).1,sd];unfold zcS;rw[zPV];exact h3 hn
 unfold zgc at tb;simp only at tb;rw[nb,sd] at tb;refine⟨⟨⟨by omega,hs⟩,by rw[tb],by omega⟩,by rw[tb];rfl,by rw[tb]⟩
theorem zRd {a b:Nat}(hb:b<=s.size)(hi:a+i<b):bt (s.extract a b) i=bt s (a+i):=by unfold bt;rw[dif_pos (by rw[ByteArray.size_extract];omega),dif_pos (by omega),ByteArray.getElem_extract]
end
section
variable {p:Nat} {P:Xh}
section
variable {s s':Xb} {off:Nat}
theorem zWX (s:Xb)(i:Nat):i<=zQ P s i:=(zjv P s _ i).1
theorem zW0 {P:Xh}:∀(m i:Nat),m=s'.size-i->zQ P s' i<s'.size->(∀j,i<=j->j<=zQ P s' i->bt s (off+j)=bt s' j)->off+zQ P s' i<s.size->zQ P s (off+i)=off+zQ P s' i
 | 0,i,hm,hlt,_,_=>by have:=zWX (P:=P) s' i;omega
 | m+1,i,hm,hlt,hb,hsz=>by
   have hi:=zWX (P:=P) s' i;have h0:=hb i (zMK _) hi;cases hp:P (bt s' i) with
   | false=>rw[zif hp,zif (by rw[h0];exact hp)]
   | true => have e:=zd1 (p:=P) (s:=s') (i:=i) (by omega) hp;rw[zd1 (p:=P) (s:=s) (i:=off+i) (by omega) (by rw[h0];exact hp)];rw[e] at hlt hb hsz ⊢;exact zW0 m (i+1) (by omega) hlt (λj h1 h2=>hb j (by omega) h2) hsz
theorem zWW {a e:Nat}(hae:a<=e)(h1:off+e<=s.size)(h2:e<=s'.size)(h:∀i,a<=i->i<e->bt s (off+i)=bt s' i):s.extract (off+a) (off+e)=s'.extract a e:=by
 have hz:(s'.extract a e).size=e-a:=by rw[ByteArray.size_extract];omega
 have:=zNO (s:=s) (y:=s'.extract a e) (a:=off+a) (m:=e-a) (by omega) (by omega) (λi hi=>by rw[zRd h2 (by omega),<- h (a+i) (by omega) (by omega),Nat.add_assoc]);rw[show off+a+(e-a)=off+e by omega] at this;rw[this,<- hz];apply ByteArray.ext;rw[ByteArray.data_extract];exact Array.extract_size
theorem zXc (hk:(zZ s' p).k≠1)(hlt:(zZ s' p).t<s'.size)(hb:∀j,p<=j->j<=(zZ s' p).t->bt s (off+j)=bt s' j)(hsz:off+(zZ s' p).t<s.size) :
 zZ s (off+p)=⟨(zZ s' p).k,off+(zZ s' p).a,off+(zZ s' p).t,(zZ s' p).s,(zZ s' p).n⟩:=by
 obtain⟨a,ha⟩:∃a,zQ zbY s' p=a:=⟨_,rfl⟩;have hpa:p<=a:=by rw[<- ha];exact zWX s' p
 have e':zZ s' p=if a=s'.size then ⟨0,a,a,⟨#[]⟩,0⟩ else if zeM (bt s' a) then zfg s' a else if zT (bt s' a) then zgc s' a else zfh s' a:=by unfold zZ;simp only;rw[ha]
 have hne:¬a=s'.size:=λh=>by rw[e',zM2 h] at hlt;exact absurd hlt (by show ¬a<s'.size;omega)
 rw[zM1 hne] at e';have go:a<=(zZ s' p).t->zZ s (off+p)=if zeM (bt s' a) then zfg s (off+a) else if zT (bt s' a) then zgc s (off+a) else zfh s (off+a):=λhat=>by have hs:=zW0 (s:=s) (s':=s') (off:=off) (P:=zbY) _ p rfl (by rw[ha];omega) (λj h1 h2=>hb j h1 (by rw[ha] at h2;omega)) (by rw[ha];omega);unfold zZ;simp only;rw[hs,ha,zM1 (by omega),hb a hpa hat]
 cases hl:zeM (bt s' a) with
 | true => rw[zM2 hl] at e';rw[e'] at hlt hb hsz go ⊢;have hat:a<=(zfg s' a).t:=zWX s' a;rw[go hat,zM2 hl];have hs:=zW0 (s:=s) (s':=s') (off:=off) (P:=inW) _ a rfl hlt (λj h1 h2=>hb j (by omega) h2) hsz;unfold zfg;simp only;rw[hs,zWW (s':=s') (a:=a) (e:=zQ inW s' a) hat (Nat.le_of_lt hsz) (Nat.le_of_lt hlt) (λi h1 h2=>hb i (by omega) (Nat.le_of_lt h2)),show off+zQ inW s' a-(off+a)=zQ inW s' a-a by omega]
 | false =>
   rw[zM1 (by rw[hl];decide)] at e';cases hd:zT (bt s' a) with
   | true => rw[zM2 hd] at e';rw[e'] at hlt hb hsz go ⊢;have hat:a<=(zgc s' a).t:=zWX s' a;rw[go hat,zM1 (by rw[hl];decide),zM2 hd];have hs:=zW0 (s:=s) (s':=s') (off:=off) (P:=zT) _ a rfl hlt (λj h1 h2=>hb j (by omega) h2) hsz;unfold zgc;simp only;rw[(zms s _ (off+a) _ rfl).1,(zms s' _ a _ rfl).1,hs];unfold zcS;rw[zWW (s':=s') (a:=a) (e:=zQ zT s' a) hat (Nat.le_of_lt hsz) (Nat.le_of_lt hlt) (λi h1 h2=>hb i (by omega) (Nat.le_of_lt h2))]
   | false =>
     rw[zM1 (by rw[hd];decide)] at e';rw[e'] at hk hlt hb hsz go ⊢;unfold zfh at hk hlt hb hsz go ⊢;by_cases c:a+2<=s'.size/\((s'.extract a (a+2)).toList==[45,62]||(s'.extract a (a+2)).toList==[60,62]||(s'.extract a (a+2)).toList==[60,61])=true
     . rw[zM2 c] at hlt hb hsz go ⊢;simp only at hlt hb hsz go ⊢;have x2:=zWW (s:=s) (s':=s') (off:=off) (a:=a) (e:=a+2) (by omega) (by omega) (by omega) (λi h1 h2=>hb i (by omega) (by omega));rw[go (by omega),zM1 (by rw[hl];decide),zM1 (by rw[hd];decide)];rw[show off+a+2=off+(a+2) by omega,x2,zM2 ⟨by omega,c.2⟩]
     rw[zM1 c] at hk hlt hb hsz go ⊢;by_cases hg:zfe (bt s' a)=true;case neg=>rw[zM1 hg] at hk;exact absurd rfl hk
     case pos => rw[zM2 hg] at hlt hb hsz go ⊢;simp only at hlt hb hsz go ⊢;have x2:=zWW (s:=s) (s':=s') (off:=off) (a:=a) (e:=a+2) (by omega) (by omega) (by omega) (λi h1 h2=>hb i (by omega) (by omega));have x1:=zWW (s:=s) (s':=s') (off:=off) (a:=a) (e:=a+1) (by omega) (by omega) (by omega) (λi h1 h2=>hb i (by omega) (by omega));rw[go (by omega),zM1 (by rw[hl];decide),zM1 (by rw[hd];decide)];rw[show off+a+2=off+(a+2) by omega,x2,zM1 (λe=>c ⟨by omega,e.2⟩),hb a hpa (by omega),zM2 hg,show off+a+1=off+(a+1) by omega,x1]
def zXb (s':Xb):Nat->List ByteArray->Option Nat
 | p,[]=>some p
 | p,x::l=>if (zZ s' p).k=(tkB x).k/\(zZ s' p).s.toList=(tkB x).s.toList/\(zZ s' p).n=(tkB x).n/\(zZ s' p).k≠1/\p<=(zZ s' p).t/\(zZ s' p).t<s'.size then zXb s' (zZ s' p).t l else none
theorem zXj (hb:∀j,j<s'.size->bt s (off+j)=bt s' j)(hsz:off+s'.size<=s.size){R:Xl}:∀(l:Xl) (p e:Nat),zXb s' p l=some e->Rst s (off+e) R->Rst s (off+p) (l++R)
 | [],p,e,h,hR=>by cases h;exact hR
 | x::l,p,e,h,hR=>by
   unfold zXb at h;split at h
   . rename_i c
     have hn:=zXc (s:=s) (s':=s') (off:=off) (p:=p) c.2.2.2.1 c.2.2.2.2.2 (λj _ h2=>hb j (by have:=c.2.2.2.2.2;omega)) (by have:=c.2.2.2.2.2;omega)
     show (_/\_/\_)/\Rst s (zZ s (off+p)).t (l++R);rw[hn];exact⟨⟨c.1,by have e:=c.2.1;rw[ByteArray.toList_eq,ByteArray.toList_eq] at e;exact ByteArray.ext (Array.toList_inj.1 e),c.2.2.1⟩,zXj hb hsz l _ e h hR⟩
   cases h
theorem zXr {l:Xl}(h:p<s.size)(hw:zbY (bt s p)=true)(hR:Rst s (p+1) l):Rst s p l:=by
 have e:zZ s p=zZ s (p+1):=by unfold zZ;rw[zd1 h hw]
 cases l with
 | nil=>show (zZ s p).k=0;rw[e];exact hR
 | cons x l=>show (_/\_/\_)/\Rst s (zZ s p).t l;rw[e];exact hR
end
end
section
open Go.RowKit
variable {n:Nat}
theorem zW3 (h:n<10):zwd n=⟨#[UInt8.ofNat (48+n)]⟩:=by unfold zwd Lib.itoa;rw[zM1 (by omega),Int.toNat_natCast,Lib.decDigits_one h]
theorem zW8 (h:¬n<10):zwd n=zwd (n / 10)++⟨#[UInt8.ofNat (48+n % 10)]⟩:=by unfold zwd Lib.itoa;rw[zM1 (by omega),zM1 (by omega),Int.toNat_natCast,Int.toNat_natCast,Lib.decDigits,dif_neg h];apply ByteArray.ext;simp[ByteArray.data_append]
theorem zWV:∀(f n:Nat),n<10 ^ (f+1)->(zwd n).size<=f+1
 | 0,n,h=>by rw[zW3 (by simpa using h)];show 1<=1;omega
 | f+1,n,h=>by
   by_cases hn:n<10
   . rw[zW3 hn];show 1<=f+2;omega
   rw[zW8 hn,ByteArray.size_append];have:=zWV f (n / 10) (by rw[Nat.pow_succ] at h;omega)
   show (zwd (n / 10)).size+1<=f+2;omega
theorem zXh (W:Xw)(b:UInt8)(n:Int)(h:n=b.toNat):(convert 31 9 (xS W.heap.size 1 1)).run prog (W.alloc (.cells #[.int .u8 n] 5))=.ok (.string ⟨#[b]⟩) (W.alloc (.cells #[.int .u8 n] 5)):=by
 subst h;exact run_convert_bytes_back (P:=prog) _ 31 9 5 (xD W.heap.size 0) 1 [b] underlying31 underlying5 underlying9 (λj hj=>by
  obtain rfl:j=0:=by simp at hj;omega
  exact (zu (zc W (.cells #[.int .u8 (b.toNat:Int)] 5))).1)
theorem zX3:∀(f n:Nat),n<10 ^ (f+1)->f<=30->n<=9223372036854775807->∀w:Xw,xK 5 #[xI n] w (λe w'=>e=.returned (.string (zwd n))/\xB w w'):=by
 have hdig:Hid (∀n:Nat,(48+(n:Int) % 10)=((UInt8.ofNat (48+n % 10)).toNat:Int)):=λn=>by rw[UInt8.toNat_ofNat'];omega
 have small:∀n:Nat,n<10->∀w:Xw,xK 5 #[xI n] w (λe w'=>e=.returned (.string (zwd n))/\xB w w'):=by
  intro n hn w;have hcv:=zXh w (UInt8.ofNat (48+n % 10)) (48+(n:Int) % 10) (hdig.out n);have hn':(n:Int)<10:=by omega
  have hm1:((n:Int)==-9223372036854775808)=false:=by simp
  have hm2:¬(n:Int)<0:=by omega
  have HN:Hid (zwd n=⟨#[UInt8.ofNat (48+n % 10)]⟩):=by unfold Hid;rw[zW3 hn,Nat.mod_eq_of_lt hn]
  generalize UInt8.ofNat (48+n % 10)=d at *;clear hn;go_enter func5,ntmps5;go_wp2_with fail;go_ret;refine⟨?_,(zWQ _ w).alloc (zMK _) _⟩;rw[HN.o];rfl
 intro f;induction f with
 | zero=>intro n h _ _ w;exact small n (by simpa using h) w
 | succ f ih =>
   intro n h hf hm w;by_cases hn:n<10
   . exact small n hn w
   have h10:n / 10<10 ^ (f+1):=(by rw[Nat.pow_succ] at h;omega);have HI:=za (λW=>ih (n / 10) h10 (by omega) (by omega) W);have hz:=zWV f (n / 10) h10;have hcv:=zXh w (UInt8.ofNat (48+n % 10)) (48+(n:Int) % 10) (hdig.out n);have hn':¬(n:Int)<10:=(by omega);have hm1:((n:Int)==-9223372036854775808)=false:=(by simp);have hm2:¬(n:Int)<0:=(by omega);have HN:=za (zW8 hn);have hq:wrap64 ((n:Int) / 10)=((n / 10:Nat):Int):=by
    have:((n / 10:Nat):Int)=(n:Int) / 10:=by omega
    rw[this];unfold wrap64;omega
   generalize n / 10=m at *;generalize UInt8.ofNat (48+n % 10)=d at *;clear hn h hm h10 small ih;go_enter func5,ntmps5;go_wp2_with fail;refine (HI.o _).mono ?_;rintro e w1 ⟨rfl,hB⟩;have HB:=za (((zWQ _ w).alloc (zMK _) (.cells #[.int .u8 (48+(n:Int) % 10)] 5)).trans (hB.mono (by rw[zsb];omega)));go_wp2_with fail;go_ret;exact⟨by rw[HN.o];rfl,HB.o⟩
def zz2 (o:Int):Int:=if o=-9223372036854775808 then -9223372036854775807 else o
def zWT (o:Int):ByteArray:=if zz2 o<0 then ⟨#[45]⟩++zwd (zz2 o).natAbs else zwd (zz2 o).natAbs
theorem zXa (n:Nat)(h:n<=9223372036854775807)(w:Xw):xK 5 #[xI n] w (λe w'=>e=.returned (.string (zwd n))/\xB w w'):=zX3 18 n (by omega) (by decide) h w
theorem zXw (o:Int)(h1:-9223372036854775808<=o)(h2:o<=9223372036854775807)(w:Xw):xK 5 #[xI o] w (λe w'=>e=.returned (.string (zWT o))/\xB w w'):=by
 by_cases h0:0<=o
 . obtain⟨n,rfl⟩:∃n:Nat,o=n:=⟨o.toNat,by omega⟩;have e:zWT n=zwd n:=by unfold zWT zz2;rw[zM1 (by omega),zM1 (by omega)];rfl
   rw[e];exact zXa n (by omega) w
 by_cases hm:o=-9223372036854775808
 . subst hm;have HI:=za (zXa 9223372036854775807 (by decide) w);have hz:=zWV 18 9223372036854775807 (by decide);have HN:Hid (zWT (-9223372036854775808)=⟨#[45]⟩++zwd 9223372036854775807):=rfl;generalize zwd 9223372036854775807=d at *;clear h0 h1 h2;go_enter func5,ntmps5;go_wp2_with (go_at_call 5;refine HI.o.mono ?_;rintro e w1 ⟨rfl,hB⟩;have HB:=za hB);go_ret;exact⟨by rw[HN.o];rfl,HB.o⟩
 obtain⟨n,rfl⟩:∃n:Nat,o=-n:=⟨o.natAbs,by omega⟩;have HI:=za (zXa n (by omega) w);have hz:=zWV 18 n (by omega);have hm1:(-(n:Int)==-9223372036854775808)=false:=by simp;omega
 have hm2:-(n:Int)<0:=by omega
 have hq:wrap64 (n:Int)=(n:Int):=by unfold wrap64;omega
 have HN:Hid (zWT (-(n:Int))=⟨#[45]⟩++zwd n):=by unfold Hid zWT zz2;rw[zM1 hm,zM2 hm2,Int.natAbs_neg];rfl
 generalize zwd n=d at *;clear h0 h1 h2 hm;go_enter func5,ntmps5;go_wp2_with (go_at_call 5;refine HI.o.mono ?_;rintro e w1 ⟨rfl,hB⟩;have HB:=za hB);go_ret;exact⟨by rw[HN.o];rfl,HB.o⟩
end
end Go.Proofs.YtenadialhccdiaaGreatDoor
