/- Part 9 of the proof. -/
import Derived.Laws.CopyOwn
import Derived.Lib.SliceRun
import Derived.Test.YtbicmofihhjgbaaGreatDoorK07
set_option maxRecDepth 100000
set_option maxHeartbeats 8000000
namespace Go.Proofs.YtbicmofihhjgbaaGreatDoor
open Go.Proofs.Tryz
section
open Go.RowKit
variable {r17 r18:Fn} {xs:Xm} {vars:List Vr} {B f n nb p pb:Nat} {S:Xs} {s st:St} {R x8:St×List Eqn} {x3 x5 x6:St×List Vr} {c0 c1 c3 c4 c5 vs:Xv} {w wr:Xw}
theorem zmU:(⟨#[110,111,100,101]⟩:Xb).toList=zW:=by decide +kernel
theorem zrp:(⟨#[118,97,114]⟩:Xb).toList=zi2:=by decide +kernel
theorem zp4:(⟨#[45,62]⟩:Xb).toList=[45,62]:=by decide +kernel
theorem zrj:(⟨#[123]⟩:Xb).toList=[123]:=by decide +kernel
theorem zro:(⟨#[125]⟩:Xb).toList=[125]:=by decide +kernel
structure zgn (r17 r18:Fn) (f:Nat) (st:St) (x3 x5 x6:St×List Vr) (x8 R:St×List Eqn):Prop where
 h3:zab true (st.fresh.must 5 zW).name []=x3
 h5:zab false (x3.1.must 4 [45,62]) x3.2=x5
 h6:zaS f x5.1 x5.2=x6
 h8:zF r17 r18 (x6.1.must 4 [123]) []=x8
 hR:zb5 r17 r18 f x8=R
theorem znI (h:zgn r17 r18 f st x3 x5 x6 x8 R) :
 zax r17 r18 f st=(R.1.must 4 [125],⟨(st.fresh.must 5 zW).t.s,(st.fresh.must 5 zW).t.a,x6.2,(R.1.must 4 [125]).L,R.2⟩):=by
 have e5:zaI st.fresh=x5:=by unfold zaI;simp only;rw[h.h3,h.h5]
 unfold zax zdr;simp only;rw[e5,h.h6,h.h8,h.hR]
theorem zjJ (g17:zv 17 r17)(g18:zv 18 r18)(hI:Inv p st)(ho:st.op=0)(h:zgn r17 r18 f st x3 x5 x6 x8 R):zlN st x3 x5 x6 x8 R:=by have h0:=zkO g17 g18 hI ho (⟨h.h3,h.h5,h.h6,h.h8,rfl⟩:zo4 r17 r18 f st x3 x5 x6 x8 (zd6 r17 r18 f x8));have gR:=zfZ g17 g18 f 0 x8 h0.i8 h0.o8;rw[h.hR] at gR;exact⟨h0.i0,h0.i1,h0.i2,h0.i3,h0.i4,h0.i5,h0.i6,h0.i7,h0.i8,gR.1.inv,h0.o7,h0.o8,h0.l3,h0.l5,h0.l6⟩
theorem VI.set3 (h:VI S pb nb B p w wr c0 c1 c3 c4 c5 s vars vs n xs)(hnp:pb<nb)(hBn:nb<B)(v:Xv):VI S pb nb B p w (wr.setCell (xD nb 3) v) c0 c1 v c4 c5 s vars vs n xs :=
 ⟨h.inv,h.pl.setOther hnp _ _,zh _ _ _ _ h.blk,zi h.own (λk h1 _ _=>zr (by omega) rfl),h.ok,h.fr.setCell (zM3 (zM4 (zM3 rfl))) _⟩
theorem VI.set4 (h:VI S pb nb B p w wr c0 c1 c3 c4 c5 s vars vs n xs)(hnp:pb<nb)(hBn:nb<B)(v:Xv):VI S pb nb B p w (wr.setCell (xD nb 4) v) c0 c1 c3 v c5 s vars vs n xs :=
 ⟨h.inv,h.pl.setOther hnp _ _,zh _ _ _ _ h.blk,zi h.own (λk h1 _ _=>zr (by omega) rfl),h.ok,h.fr.setCell (zM3 (zM4 (zM3 rfl))) _⟩
theorem PL.fresh (h:PL S w pb st):PL S w pb st.fresh:=⟨h.tx,h.heap,h.gl,h.pb⟩
theorem zfB (t:Tk):(((ck t:Nat):Int)==3)=(t.k==2):=by have h:=zhL (t:=t);rw[bne] at h;cases h1:(((ck t:Nat):Int)==3) <;> cases h2:(t.k==2) <;> simp_all
theorem zj0:zH 155:=λ_ _=>by kernel_rfl
theorem Tryz.infoEq:(prog.info? 184).map (λi=>(i.zero,i.size,i.bytes))=some (some (.agg #[.slice none 0 0,xI 0,.pointer none]),3,40):=by kernel_rfl
theorem zrH {x:Xp}{k c:Nat}{a:Int}{b:Xp}:∀u∈[Value.slice x k c,xI a,.pointer b],u.oneCell'=true:=by intro u hu;simp at hu;rcases hu with rfl|rfl|rfl <;> rfl
theorem zcJ.weak {B':Nat}{av:Xv}{L:List Ex}(hb:B'<=B):∀{qs:List Eqn} {xs:Xm},zcJ B wr av L qs xs->zcJ B' wr (.slice none 0 0) L qs xs:=by
 intro qs;induction qs with
 | nil=>intro xs h;exact h
 | cons q qs ih => rintro xs ⟨lv,a,ys,h1,⟨wi,Bi,k1,k2,k3,_,k5⟩,h3⟩;exact⟨lv,a,ys,h1,⟨wi,Bi,zMO hb k1,k2,k3,λg hg=>(by cases hg),k5⟩,ih h3⟩
theorem zf6 (i o:Bool)(st:St)(vars:List Vr):vars.length<=(zx i o st vars).2.length:=by
 unfold zx;split
 . exact zMK _
 simp only;split <;> simp
theorem zkh (i:Bool):∀(f:Nat) (x:St×List Vr),x.2.length<=(zaG i f x).2.length:=by
 intro f;induction f with
 | zero=>intro x;exact zMK _
 | succ f ih =>
   intro x
   show x.2.length<=(if _ then _ else x).2.length;split
   . exact zMO (zf6 _ _ _ _) (ih _)
   exact zMK _
theorem zlH (i:Bool)(st:St)(vars:List Vr):vars.length<=(zab i st vars).2.length:=by obtain⟨f,hf⟩:∃f,f=1300:=⟨_,rfl⟩;rw[zip hf];exact zMO (zf6 _ _ _ _) (zkh i f _)
theorem zll (g17:zv 17 r17)(g18:zv 18 r18)(hi:zlN st x3 x5 x6 x8 R)(h:zgn r17 r18 f st x3 x5 x6 x8 R)(he:R.1.er=0):(st.fresh.must 5 zW).name.er=0/\x3.1.er=0/\(x3.1.must 4 [45,62]).er=0/\x5.1.er=0/\x6.1.er=0:=by have gR:=zfZ g17 g18 f 0 x8 hi.i8 hi.o8;rw[h.hR] at gR;have e8:=gR.1.back he;have g8:=za1 g17 g18 (eqs:=[]) hi.i7 hi.o7;rw[h.h8] at g8;have e7:=g8.1.back e8;have e6:x6.1.er=0:=(Fwd.must hi.i6 4 [123]).back e7;have g6:=zeP (f:=f) (vars:=x5.2) hi.i5;rw[h.h6] at g6;have e5:=g6.1.back e6;have g5:=zbx (i:=false) (vars:=x3.2) hi.i4;rw[h.h5] at g5;have e4:=g5.1.back e5;have e3:x3.1.er=0:=(Fwd.must hi.i3 4 [45,62]).back e4;have g3:=zbx (i:=true) (vars:=[]) hi.i2;rw[h.h3] at g3;exact⟨g3.1.back e3,e3,e4,e5,e6⟩
def zri (S:Xs)(pb:Nat)(w:Xw)(st':St)(nd:Nd)(ni no:Nat)(e:Ending)(w':Xw):Prop :=
 ∃(nb:Nat),e=.returned (xP nb)/\w.heap.size<=nb/\PL S w' pb st'/\Fr (·=pb) w w' /\
  Hid (st'.er=0->∃(vs ev:Xv) (xs:Xm),w'.heap[nb]?=some (.cells #[.string nd.nm,xI nd.a,vs,xI ni,xI no,ev] 121 (0,0)) /\
   w'.ownsRow w.heap.size 134 7 vs nd.vars.length (zb0 nd.vars)/\nd.vars.length<=16/\w'.ownsRow w.heap.size 184 3 ev nd.eqs.length xs/\zcJ w.heap.size w' (.slice none 0 0) nd.exs nd.eqs xs)
theorem zop (HX:zX 18 190 r18)(HK:zdI 18 r17)(G17:zv 17 r17)(G18:zv 18 r18)(S:Xs)(pb p f:Nat)(hf1:1202<f)(hf2:f<=5000)(st:St)(w:Xw)(hI:Inv p st)(ho:st.op=0)(hR:PL S w pb st)(HNF:zgn r17 r18 f st x3 x5 x6 x8 R) :
 xK 86 #[xP pb] w (zri S pb w (R.1.must 4 [125]) ⟨(st.fresh.must 5 zW).t.s,(st.fresh.must 5 zW).t.a,x6.2,(R.1.must 4 [125]).L,R.2⟩ x3.2.length (x5.2.length-x3.2.length)):=by
 have hlt:=hR.lt;have HNI:=zjJ G17 G18 hI ho HNF;have HR:=za hR.fresh;have HEx1:=za (λw1 h=>zP S pb st.fresh ⟨#[110,111,100,101]⟩ _ zmU w1 HNI.i0.toBad h);rw[ze6 hR.fresh.tx (by decide)] at HEx1;have HNm:=za (λw1 h=>zaZ S pb (st.fresh.must 5 zW) w1 HNI.i1.toBad h);obtain⟨nx,na,hnv,HNk⟩:=zbw (st.fresh.must 5 zW);rw[hnv] at HNm;go_enter func86,ntmps86;go_wp2_with fail;refine (HEx1.o _ (HR.o.alloc _)).mono ?_;rintro e w1 ⟨rfl,hL1,hF1⟩;have hz1:=hF1.size;rw[zsb] at hz1;have hb1:w1.heap[w.heap.size]?=some (.cells #[.string ⟨#[]⟩,xI 0,.slice none 0 0,xI 0,xI 0,.slice none 0 0] 121 (0,0)):=(hF1.block _ (by simp) (by omega)).trans (zc w _);have HL1:=za hL1;have HF1:=za hF1;have Hb1:=za hb1;go_wp2_with fail;refine (HNm.o _ HL1.o).mono ?_;rintro e w2 ⟨rfl,HL2,HF2⟩;have hz2:=HF2.size;have Hb2:=(HF2.block w.heap.size (by omega) (by omega)).trans Hb1.o;obtain⟨q0,q1,q2,q3,q4,q5,qf,qz⟩:=zt Hb2;have HV2:Hid (VI S pb w.heap.size (w.heap.size+1) 0 (w.alloc (.cells #[.string ⟨#[]⟩,xI 0,.slice none 0 0,xI 0,xI 0,.slice none 0 0] 121)) ((w2.setCell (xD w.heap.size 0) (.string nx)).setCell (xD w.heap.size 1) (xI na)) (.string nx) (xI na) (xI 0) (xI 0) (.slice none 0 0) (st.fresh.must 5 zW).name [] (.slice none 0 0) 0 []):=by refine⟨HNI.i2,(HL2.setOther hlt _ _).setOther hlt _ _,zh _ _ _ _ (zh _ _ _ _ Hb2),World.ownsRow_nil _ _ _ _,λ_=>⟨rfl,by simp,rfl⟩,?_⟩;have h:Fr (λk=>k=pb∨k=w.heap.size∨w.heap.size+1<=k) (w.alloc (.cells #[.string ⟨#[]⟩,xI 0,.slice none 0 0,xI 0,xI 0,.slice none 0 0] 121)) w2:=(HF1.o.trans HF2).mono (λ_ _ h=>zM3 h);exact (h.setCell (zM3 (zM4 (zM3 rfl))) _).setCell (zM3 (zM4 (zM3 rfl))) _
 go_wp2_with fail;generalize Hw0:w.alloc (.cells #[.string ⟨#[]⟩,xI 0,.slice none 0 0,xI 0,xI 0,.slice none 0 0] 121)=w0 at HV2;have hz0:w0.heap.size=w.heap.size+1:=by rw[<- Hw0,zsb]
 have HP3:=za (zhz S pb w.heap.size (w.heap.size+1) 0 16 true w0 _ _ _ _ _ _ _ _ _ 0 _ (by omega) (by omega) (by omega) hlt (by omega) (by omega) HV2.o);rw[HNF.h3] at HP3;refine HP3.o.mono ?_;rintro e w3 ⟨vs3,n3,xs3,rfl,hn3,hV3⟩;obtain⟨q0,q1,q2,q3,q4,q5,qf,qz⟩:=zt hV3.blk;have HV3:=za (hV3.set3 hlt (by omega) (xI ((n3:Int)-((0:Nat):Int))));have hz3:=hV3.fr.size;go_wp2_with fail;have HEx4:=za (zP S pb x3.1 ⟨#[45,62]⟩ _ zp4 _ HNI.i3.toBad HV3.o.pl);rw[zan HV3.o.pl.tx (by decide)] at HEx4;refine HEx4.o.mono ?_;rintro e w4 ⟨rfl,hL4,hF4⟩;have HV4:=za (HV3.o.goes hlt (by omega) HNI.i4 (λhe=>zay he) hL4 hF4);go_wp2_with fail;have HP5:=za (zhz S pb w.heap.size (w.heap.size+1) 0 17 false w0 _ _ _ _ _ _ _ _ _ _ _ (by omega) (by omega) (by omega) hlt (by omega) (by omega) HV4.o);rw[HNF.h5] at HP5;refine HP5.o.mono ?_;rintro e w5 ⟨vs5,n5,xs5,rfl,hn5,hV5⟩;obtain⟨q0,q1,q2,q3,q4,q5,qf,qz⟩:=zt hV5.blk;have HV5:=za (hV5.set4 hlt (by omega) (xI ((n5:Int)-(n3:Int))));have hz5:=hV5.fr.size;have Hn3:=za HV4.o.ok;have Hn5:=za hV5.ok;go_wp2_with fail;have HSk:=za (zbg S pb x5.1 ⟨#[118,97,114]⟩ _ zrp _ HNI.i5.toBad HV5.o.pl);have hska:x5.1.skipM zi2=if x5.1.is 5 zi2=true then x5.1.step else x5.1:=by unfold St.skipM;rw[zar HV5.o.pl.tx (by decide)]
 rw[zar HV5.o.pl.tx (by decide),hska] at HSk;refine HSk.o.mono ?_;rintro e w6 ⟨rfl,hL6,hF6⟩;have HL6:=za hL6;have HF6:=za hF6;have hz6:=hF6.size;go_upto_if 30 with fail;go_cut [] (λwy=>∃vs n xs,Hid (VI S pb w.heap.size (w.heap.size+1) 0 w0 wy (.string nx) (xI na) (xI ((n3:Int)-((0:Nat):Int))) (xI ((n5:Int)-(n3:Int))) (.slice none 0 0) x6.1 x6.2 vs n xs));case first =>
  cases hc:x5.1.is 5 zi2 with
  | false => rw[hc,zM1 (by simp)] at HL6;have h6:zaS f x5.1 x5.2=(x5.1,x5.2):=(by unfold zaS;rw[zM1 (by rw[hc];simp)]);rw[HNF.h6] at h6;have H6:=za h6;go_wp2_with fail;go_meet;rw[H6.o];exact⟨_,_,_,HV5.o.goes hlt (by omega) HNI.i5 (λh=>h) HL6.o HF6.o⟩
  | true =>
    rw[hc,zM2 rfl] at HL6;have h6:zaS f x5.1 x5.2=zbA f (zaR x5.1.step x5.2):=(by unfold zaS;rw[zM2 hc]);rw[HNF.h6] at h6;have H6:=za h6;have he:x5.1.er=0:=HNI.i5.toBad.er (by rw[Inv.is_k hc];decide);have e5:=Fwd.step HNI.i5;have HV6:=za (HV5.o.goes hlt (by omega) e5.inv (λ_=>he) HL6.o HF6.o);have hn16:n5<=16:=(by have:=HV5.o.ok he;omega);go_wp2_with fail;go_loopg [4] f (λk mo wx=>∃(b:Bool) (s:St) (vl:List Vr) (vv:Xv) (nn:Nat) (xx:Xm),mo=.bool b/\Hid (VI S pb w.heap.size (w.heap.size+1) 0 w0 wx (.string nx) (xI na) (xI ((n3:Int)-((0:Nat):Int))) (xI ((n5:Int)-(n3:Int))) (.slice none 0 0) s vl vv nn xx)/\Hid (b=true->nn<=16/\zbA k (zaR s vl)=x6/\1201-s.t.a<k)/\Hid (b=false->(s,vl)=x6));case atStart=>exact⟨true,x5.1.step,x5.2,vs5,n5,xs5,rfl,HV6,λ_=>⟨hn16,H6.o.symm,by omega⟩,λh=>by cases h⟩
    case round =>
     obtain⟨b,s,vl,vv,nn,xx,rfl,HA,HT,HFa⟩:=hrel;cases b with
     | false => have HQ:=za (HFa.o rfl);go_wp2_with fail;go_meet;rw[<- HQ.o];exact⟨_,_,_,HA⟩
     | true =>
       obtain⟨hnm,hR1,hrem⟩:=HT.o rfl;have HLc:=za (ziY S pb w.heap.size (w.heap.size+1) 0 w0 wr _ _ _ _ _ s vl vv nn xx (by omega) hlt (by omega) (by omega) HA.o);have hgl:=zej (vars:=vl) HA.o.inv;have HGl:=za hgl;have HMr:=za (λhe hs=>zlj (vars:=vl) HA.o.inv he hs);generalize hy:zaR s vl=y at *;have HR1:=za hR1;have Hrem:=za hrem;have HFy:=za hgl.1;go_wp2_with fail;refine HLc.o.mono ?_;rintro e w8 ⟨rfl,vs8,xs8,hV8⟩;obtain⟨h0,h1,h2,h3,h4,h5,h6⟩:=hV8.pl.cells;have hlt8:=hV8.pl.lt;have HV8:=za hV8;go_wp2_with fail;obtain⟨g,rfl⟩:∃g,gk=g+1:=⟨gk-1,by have:=Hrem.o;omega⟩;go_roundg g;case measure=>omega
       have hunf:zbA (g+1) y=if y.1.er=0/\y.1.t.k=2 then zbA g (zaR y.1 y.2) else y:=rfl;have hR1:=HR1.o;rw[hunf] at hR1;refine⟨(y.1.t.k==2),y.1,y.2,vs8,nn+1,xs8,by rw[zfB],HV8,λhb=>?_,λhb=>?_⟩
       . have hk:y.1.t.k=2:=(by simpa using hb);have he:y.1.er=0:=HV8.o.inv.toBad.er (by rw[hk];decide);rw[zM2 ⟨he,hk⟩] at hR1;have k1:=HV8.o.ok he;have k2:=HMr.o (HFy.o.back he) he;have k3:=Hrem.o;have k4:=HV8.o.inv.ok.ta_le;have k5:=HA.o.inv.ok.ta_le;exact⟨by omega,hR1,by omega⟩
       have hk:¬y.1.t.k=2:=(by simpa using hb);rw[zM1 (λh=>hk h.2)] at hR1;exact hR1
 case rest =>
  obtain⟨vs,n,xs,HV7⟩:=hcut;have hzc:=HV7.o.fr.size;have HEx8:=za (zP S pb x6.1 ⟨#[123]⟩ _ zrj _ HNI.i6.toBad HV7.o.pl);rw[zan HV7.o.pl.tx (by decide)] at HEx8;go_wp2_with fail;refine HEx8.o.mono ?_;rintro e w9 ⟨rfl,hL9,HF9⟩;have hz9:=HF9.size;have hE9:EI S pb w.heap.size (w.heap.size+1) 0 w w9 (.string nx) (xI na) vs (xI ((n3:Int)-((0:Nat):Int))) (xI ((n5:Int)-(n3:Int))) n xs (x6.1.must 4 [123]) [] (.slice none 0 0) 0 []:=by refine⟨HNI.i7,HNI.o7,hL9,(HF9.block _ (by omega) (by omega)).trans HV7.o.blk,zi HV7.o.own (λk h1 h2 _=>HF9.block k h2 (by omega)),(λk _ h=>by cases h),World.ownsRow_nil _ _ _ _,λ_=>⟨rfl,rfl⟩,?_⟩;have h1:Fr (·=pb) w w0:=(by rw[<- Hw0];exact (Fr.refl _ w).alloc _);exact (h1.trans' HV7.o.fr (λi hi h=>by omega)).trans HF9
  have HE9:=za hE9;have HV7k:=za HV7.o.ok;have H8:Hid (zb5 r17 r18 f (zF r17 r18 (x6.1.must 4 [123]) [])=R):=by unfold Hid;rw[HNF.h8,HNF.hR]
  go_wp2_with fail;go_loopg [5] f (λk mo wx=>∃(b:Bool) (s:St) (eqs:List Eqn) (ev:Xv) (m:Nat) (xq:Xm),mo=.bool b/\Hid (EI S pb w.heap.size (w.heap.size+1) 0 w wx (.string nx) (xI na) vs (xI ((n3:Int)-((0:Nat):Int))) (xI ((n5:Int)-(n3:Int))) n xs s eqs ev m xq)/\m+k<=f/\Hid (w0.heap.size<=wx.heap.size)/\Hid (b=true->zb5 r17 r18 k (zF r17 r18 s eqs)=R/\1201-s.t.a<k)/\Hid (b=false->(s,eqs)=R));case atStart=>exact⟨true,_,[],.slice none 0 0,0,[],rfl,HE9,by omega,by unfold Hid;omega,λ_=>⟨H8.o,by omega⟩,λh=>by cases h⟩
  case round =>
   obtain⟨b,s,eqs,ev,m,xq,rfl,HA,hmf,Hzw,HT,HFa⟩:=hrel;cases b with
   | false => have HQ:=za (HFa.o rfl);have hA:EI S pb w.heap.size (w.heap.size+1) 0 w wr (.string nx) (xI na) vs (xI ((n3:Int)-((0:Nat):Int))) (xI ((n5:Int)-(n3:Int))) n xs R.1 R.2 ev m xq:=(by rw[<- HQ.o];exact HA.o);have HA1:=za hA;have HEx:=za (zP S pb R.1 ⟨#[125]⟩ _ zro wr hA.inv.toBad hA.pl);rw[zan hA.pl.tx (by decide)] at HEx;go_wp2_with fail;refine HEx.o.mono ?_;rintro e w10 ⟨rfl,hL10,hF10⟩;have HE10:=za (HA1.o.goes hlt (by omega) (Fwd.must HA1.o.inv 4 [125]).inv (by rw[St.must_op];exact HA1.o.op) (St.must_L _ _ _) (λhe=>zay he) hL10 hF10);go_wp2_with fail;go_ret;refine⟨w.heap.size,rfl,zMK _,HE10.o.pl,HE10.o.fr,?_⟩;intro he;obtain⟨b1,b2,b3,b4,b5⟩:=zll G17 G18 HNI HNF (zay he);obtain⟨c1,c2⟩:=HNk (zeH b1);obtain⟨d1,d2,d3⟩:=HV7k.o b5;obtain⟨e1,e2⟩:=HE10.o.ok he;have f3:=(Hn3.o b3).1;have f5:=(Hn5.o b4).1;have f35:=zlH false (x3.1.must 4 [45,62]) x3.2;rw[HNF.h5] at f35;have hbk:=HE10.o.blk;subst c1 c2 d1 d3 e1;have g3:((n3:Int)-((0:Nat):Int))=((x3.2.length:Nat):Int):=(by omega);have g5:((n5:Int)-(n3:Int))=((x5.2.length-x3.2.length:Nat):Int):=(by omega);rw[g3,g5] at hbk;exact⟨vs,ev,xq,hbk,zR HE10.o.vown (by omega),d2,zR HE10.o.own (by omega),e2.weak (by omega)⟩
   | true =>
     obtain⟨hR1,hrem⟩:=HT.o rfl;have hzr:=Hzw.o;have hltr:=HA.o.pl.lt;have HQe:=za (λw1 h=>zje HX HK G17 G18 S pb 0 s w1 HA.o.inv HA.o.op h);have hge:=za1 G17 G18 (eqs:=eqs) HA.o.inv HA.o.op;have HGe:=za hge;have HMr:=za (λhe hs=>ziF G17 G18 (eqs:=eqs) HA.o.inv HA.o.op he hs);obtain⟨y,hy⟩:∃y,zF r17 r18 s eqs=y:=⟨_,rfl⟩;obtain⟨q,hq⟩:∃q,zgH r17 r18 s=q:=⟨_,rfl⟩;have hy1:(zF r17 r18 s []).1=y.1:=(by rw[<- zj4 r17 r18 s eqs,hy]);have Hy2:y.2=eqs++[q]:=(by rw[<- hy,ziE,hq]);rw[hy1,hq] at HQe;rw[hy] at hR1 HGe HMr;have HR1:=za hR1;have Hrem:=za hrem;obtain⟨q0,q1,q2,q3,q4,q5,qf,qz⟩:=zt HA.o.blk;obtain⟨i0,hi,hi0,hi1,hi2⟩:=info_parts Tryz.infoEq;have mx:m+1<=maxLen:=(by unfold maxLen;omega);have by':(m+1)*40<=140737488355328:=(by omega);go_upto_block 3 with fail;go_cut [] (λwy=>∃ev' xq',Hid (EI S pb w.heap.size (w.heap.size+1) 0 w wy (.string nx) (xI na) vs (xI ((n3:Int)-((0:Nat):Int))) (xI ((n5:Int)-(n3:Int))) n xs y.1 y.2 ev' (m+1) xq')/\Hid (w0.heap.size<=wy.heap.size));case first =>
      go_wp2_with fail;go_region_law (first|(refine zbL rfl 155 (.tmp 59) 172 rfl zj0 (xP pb) rfl (HQe.o _ HA.o.pl.drew) ?_;rintro e w2 ⟨lq,kq,ysq,pq,aq,rfl,⟨xl,cl,rfl⟩,HL2,Hlq,hok2,hF2'⟩;refine⟨_,rfl,?_⟩;have HF2:Fr (·=pb) wr w2:=hF2'.undrew;have hzc2:=HF2.size;have Hb2:=(HF2.block w.heap.size qz (by omega)).trans HA.o.blk;obtain⟨f0,f1,f2,f3,f4,f5,ff,fz⟩:=zt Hb2;have Hown2:=za (zi HA.o.own (λk h1 h2 _=>HF2.block k h2 (by omega)));have Hok2:=za hok2.out;have hzw:w.heap.size+1<=w2.heap.size+1:=(by omega))|(refine zJ _ rfl (.tmp 58) (.tmp 61) 119 rfl (w.heap.size+1) 184 i0 _ 3 40 underlying119 hi hi0 hi1 hi2 rfl (by decide) ev m xq rfl (zD Hown2.o _) (xD w2.heap.size 0) 1 1 [.slice xl kq cl,xI pq,.pointer aq] rfl rfl (zN (zc w2 _) rfl) zrH mx by' (by simpa using hzw) ?_;intro v' w9 Hown9 hgrow Hnew9;obtain⟨g9,cap9,rfl,hg9⟩:=zM Hown9 (by omega);have HF9:=Fr.of_grown hgrow;have hb9:w9.heap[w.heap.size]?=w2.heap[w.heap.size]?:=((HF9.block w.heap.size (by rw[zsb];omega) (λh=>by have:=(Hown2.o.lt _ h).1;omega)).trans (Below.heap_alloc _ _ _ fz));have Hn9:=za (hb9.trans Hb2);obtain⟨m0,m1,m2,m3,m4,m5,mf,mz⟩:=zt Hn9.o;have HL9:=za (PL.fr (HL2.alloc _) HF9 (λk hk=>by have:=(Hown2.o.lt k hk).1;omega));have hzz9:=HF9.size;rw[zsb] at hzz9));all_goals go_wp2_with fail
      all_goals go_meet
      all_goals exact⟨_,_,(by unfold Hid;rw[Hy2];exact zph HA.o hlt (by omega) (by omega) (by omega) HGe.o.1 (HGe.o.2.trans HA.o.op) HF2 Hlq Hok2.o HL9.o HF9 Hn9.o Hown9 Hnew9),(by unfold Hid;simp[World.setCell];omega)⟩
     case rest =>
      obtain⟨ev2,xq2,HA2,Hz2⟩:=hcut;have HBd2:=za HA2.o.inv.toBad;obtain⟨h0,h1,h2,h3,h4,h5,h6⟩:=HA2.o.pl.cells;have hlt2:=HA2.o.pl.lt;obtain⟨g,rfl⟩:∃g,gk=g+1:=⟨gk-1,by have:=Hrem.o;omega⟩;have HAt:=za (zaP S pb y.1 ⟨#[40]⟩ _ zfn wc HBd2.o.ok.tk HA2.o.pl);rw[zaB HA2.o.pl.tx (by decide)] at HAt;have HN1:Hid ((y.1.t.k=2∨y.1.is 4 [40]=true)->zb5 r17 r18 g (zF r17 r18 y.1 y.2)=R/\1201-y.1.t.a<g):=λhc=>by
       have hR1:=HR1.o;rw[show zb5 r17 r18 (g+1) y=if y.1.t.k=2∨y.1.is 4 [40]=true then zb5 r17 r18 g (zF r17 r18 y.1 y.2) else y from rfl,zM2 hc] at hR1;have he:y.1.er=0:=HBd2.o.er (by
        rcases hc with h|h
        . rw[h];decide
        rw[Inv.is_k h];decide)
       have k2:=HMr.o (HGe.o.1.back he) he;have k3:=Hrem.o;have k4:=HA2.o.inv.ok.ta_le;have k5:=HA.o.inv.ok.ta_le;exact⟨hR1,by omega⟩
      have HN0:Hid (¬(y.1.t.k=2∨y.1.is 4 [40]=true)->(y.1,y.2)=R):=λhc=>by have hR1:=HR1.o;rw[show zb5 r17 r18 (g+1) y=if y.1.t.k=2∨y.1.is 4 [40]=true then zb5 r17 r18 g (zF r17 r18 y.1 y.2) else y from rfl,zM1 hc] at hR1;exact hR1
      cases hk:(y.1.t.k==2) with
      | true =>
        have hck:=(zfB y.1.t).trans hk;go_wp2_with fail;go_roundg g;case measure=>omega
        have hk':y.1.t.k=2:=(by simpa using hk);exact⟨true,y.1,y.2,ev2,m+1,xq2,by simp,HA2,by omega,Hz2,λ_=>HN1.o (.inl hk'),λh=>by cases h⟩
      | false =>
        have hck:=(zfB y.1.t).trans hk;go_wp2_with (go_at_call 85;refine HAt.o.mono ?_;rintro e w' ⟨rfl,rfl⟩);go_roundg g;case measure=>omega
        have hk':¬y.1.t.k=2:=(by simpa using hk);refine⟨y.1.is 4 [40],y.1,y.2,ev2,m+1,xq2,by simp,HA2,by omega,Hz2,λh=>HN1.o (.inr h),λh=>HN0.o ?_⟩;rintro (h'|h')
        . exact hk' h'
        rw[h] at h';cases h'
end
section
open Go.RowKit
variable {r17 r18:Fn} {L:List Ex} {l:List Vr} {B B':Nat} {nd:Nd} {av v:Xv} {p:Vr->Bool} {w w':Xw}
def ze0 (L:List Ex)(w:Xw)(B:Nat):List Eqn->List Value->Prop
 | [],xs=>xs=[]
 | q::qs,xs=>∃lv a ys,xs=lv::(xI q.a)::.pointer a::ys/\EQ L q lv a w B/\ze0 L w B qs ys
theorem zcJ.now:∀{qs:List Eqn} {xs:Xm},zcJ B w av L qs xs->ze0 L w B qs xs:=by
 intro qs;induction qs with
 | nil=>intro xs h;exact h
 | cons q qs ih => rintro xs ⟨lv,a,ys,h1,h2,h3⟩;exact⟨lv,a,ys,h1,zq4 h2,ih h3⟩
theorem ze0.kept (hk:∀k,B<=k->k<w.heap.size->w'.heap[k]?=w.heap[k]?):∀{qs:List Eqn} {xs:Xm},ze0 L w B qs xs->ze0 L w' B qs xs:=by
 intro qs;induction qs with
 | nil=>intro xs h;exact h
 | cons q qs ih => rintro xs ⟨lv,a,ys,h1,h2,h3⟩;exact⟨lv,a,ys,h1,h2.kept hk,ih h3⟩
theorem ze0.down (hb:B'<=B):∀{qs:List Eqn} {xs:Xm},ze0 L w B qs xs->ze0 L w B' qs xs:=by
 intro qs;induction qs with
 | nil=>intro xs h;exact h
 | cons q qs ih => rintro xs ⟨lv,a,ys,h1,h2,h3⟩;exact⟨lv,a,ys,h1,h2.down hb,ih h3⟩
def Nd.ins (nd:Nd):Nat:=(nd.vars.filter (·.inn)).length
def Nd.outs (nd:Nd):Nat:=(nd.vars.filter (·.out)).length
theorem zdK (i o:Bool)(st:St)(vars:List Vr):∃E,(zx i o st vars).2=vars++E/\∀v∈E,v.inn=i/\v.out=o:=by
 unfold zx;split
 . exact⟨[],by simp,by simp⟩
 simp only;split
 . exact⟨_,rfl,by simp⟩
 exact⟨_,rfl,by simp⟩
theorem zlI (i:Bool):∀(f:Nat) (x:St×List Vr),∃E,(zaG i f x).2=x.2++E/\∀v∈E,v.inn=i/\v.out=!i:=by
 intro f;induction f with
 | zero=>intro x;exact⟨[],by simp[zaG],by simp⟩
 | succ f ih =>
   intro x;rw[show zaG i (f+1) x=if x.1.er=0/\x.1.is 4 [44]=true then zaG i f (zx i (!i) x.1.step x.2) else x from rfl];split
   . obtain⟨E,h1,h2⟩:=zdK i (!i) x.1.step x.2;obtain⟨E',h3,h4⟩:=ih (zx i (!i) x.1.step x.2);refine⟨E++E',by rw[h3,h1,zMQ],λv hv=>?_⟩;rcases zMY.1 hv with h|h
     . exact h2 v h
     exact h4 v h
   exact⟨[],by simp,by simp⟩
theorem zin (i:Bool)(st:St)(vars:List Vr):∃E,(zab i st vars).2=vars++E/\∀v∈E,v.inn=i/\v.out=!i:=by
 obtain⟨f,hf⟩:∃f,f=1300:=⟨_,rfl⟩;rw[zip hf];obtain⟨E,h1,h2⟩:=zdK i (!i) (st.must 4 [40]) vars;obtain⟨E',h3,h4⟩:=zlI i f (zx i (!i) (st.must 4 [40]) vars);refine⟨E++E',by simp only;rw[h3,h1,zMQ],λv hv=>?_⟩;rcases zMY.1 hv with h|h
 . exact h2 v h
 exact h4 v h
theorem zlE:∀(f:Nat) (x:St×List Vr),∃E,(zbA f x).2=x.2++E/\∀v∈E,v.inn=false/\v.out=false:=by
 intro f;induction f with
 | zero=>intro x;exact⟨[],by simp[zbA],by simp⟩
 | succ f ih =>
   intro x;rw[show zbA (f+1) x=if x.1.er=0/\x.1.t.k=2 then zbA f (zaR x.1 x.2) else x from rfl];split
   . obtain⟨E,h1,h2⟩:=zdK false false x.1 x.2;obtain⟨E',h3,h4⟩:=ih (zaR x.1 x.2);refine⟨E++E',by rw[h3,show (zaR x.1 x.2).2=(zx false false x.1 x.2).2 from rfl,h1,zMQ],λv hv=>?_⟩;rcases zMY.1 hv with h|h
     . exact h2 v h
     exact h4 v h
   exact⟨[],by simp,by simp⟩
theorem zpG (f:Nat)(st:St)(vars:List Vr):∃E,(zaS f st vars).2=vars++E/\∀v∈E,v.inn=false/\v.out=false:=by
 unfold zaS;split
 . obtain⟨E,h1,h2⟩:=zdK false false st.step vars;obtain⟨E',h3,h4⟩:=zlE f (zaR st.step vars);refine⟨E++E',by rw[h3,show (zaR st.step vars).2=(zx false false st.step vars).2 from rfl,h1,zMQ],λv hv=>?_⟩;rcases zMY.1 hv with h|h
   . exact h2 v h
   exact h4 v h
 exact⟨[],by simp,by simp⟩
theorem zg7 (h:∀v∈l,p v=true):(l.filter p).length=l.length:=by rw[List.filter_eq_self.2 h]
theorem zeT (h:∀v∈l,p v=false):(l.filter p).length=0:=by rw[List.filter_eq_nil_iff.2 (λv hv=>by rw[h v hv];simp)];rfl
theorem zm5 {f:Nat}{st:St}{x3 x5 x6:St×List Vr}{x8 R:St×List Eqn}(h:zgn r17 r18 f st x3 x5 x6 x8 R):(x6.2.filter (·.inn)).length=x3.2.length/\(x6.2.filter (·.out)).length=x5.2.length-x3.2.length:=by obtain⟨E3,a3,b3⟩:=zin true (st.fresh.must 5 zW).name [];obtain⟨E5,a5,b5⟩:=zin false (x3.1.must 4 [45,62]) x3.2;obtain⟨E6,a6,b6⟩:=zpG f x5.1 x5.2;rw[h.h3] at a3;rw[h.h5] at a5;rw[h.h6] at a6;simp only[List.nil_append] at a3;rw[a6,a5,a3];simp only[List.filter_append,zMM];rw[zg7 (λv hv=>(b3 v hv).1),zeT (λv hv=>(b5 v hv).1),zeT (λv hv=>(b6 v hv).1),zeT (λv hv=>(b3 v hv).2),zg7 (l:=E5) (λv hv=>(b5 v hv).2),zeT (λv hv=>(b6 v hv).2)];omega
structure NDc (nd:Nd) (w:Xw) (B nb:Nat) (vs ev:Xv) (xs:Xm):Prop where
 blk:xH w nb #[.string nd.nm,xI nd.a,vs,xI nd.ins,xI nd.outs,ev] 121
 lo:B<=nb
 vown:w.ownsRow B 134 7 vs nd.vars.length (zb0 nd.vars)
 few:nd.vars.length<=16
 own:w.ownsRow B 184 3 ev nd.eqs.length xs
 eqs:ze0 nd.exs w B nd.eqs xs
def ND (nd:Nd)(v:Xv)(w:Xw)(B:Nat):Prop:=∃nb vs ev xs,v=xP nb/\NDc nd w B nb vs ev xs
theorem ND.kept (h:ND nd v w B)(hk:∀k,B<=k->k<w.heap.size->w'.heap[k]?=w.heap[k]?):ND nd v w' B:=by obtain⟨nb,vs,ev,xs,h0,h⟩:=h;exact⟨nb,vs,ev,xs,h0,(hk nb h.lo (ze h.blk)).trans h.blk,h.lo,zi h.vown (λk h1 h2 _=>hk k h1 h2),h.few,zi h.own (λk h1 h2 _=>hk k h1 h2),h.eqs.kept hk⟩
theorem ND.down (h:ND nd v w B)(hb:B'<=B):ND nd v w B':=by obtain⟨nb,vs,ev,xs,h0,h⟩:=h;exact⟨nb,vs,ev,xs,h0,h.blk,zMO hb h.lo,zR h.vown hb,h.few,zR h.own hb,h.eqs.down hb⟩
theorem zqU {wr:Xw}(h:Was B wr av (ND nd v)):ND nd v wr B:=by obtain⟨wi,Bi,h1,h2,h3,_,_⟩:=h;exact (h2.kept h3).down h1
theorem zmS (hX:zX 18 190 r18)(hK:zdI 18 r17)(g17:zv 17 r17)(g18:zv 18 r18)(S:Xs)(pb p f:Nat)(hf1:1202<f)(hf2:f<=5000)(st:St)(w:Xw)(hI:Inv p st)(ho:st.op=0)(hR:PL S w pb st) :
 xK 86 #[xP pb] w (λe w'=>∃a:Addr,e=.returned (.pointer (some a))/\PL S w' pb (zax r17 r18 f st).1/\Fr (·=pb) w w'/\Hid ((zax r17 r18 f st).1.er=0->ND (zax r17 r18 f st).2 (.pointer (some a)) w' w.heap.size)):=by
 obtain⟨x3,h3⟩:∃x3,zab true (st.fresh.must 5 zW).name []=x3:=⟨_,rfl⟩;obtain⟨x5,h5⟩:∃x5,zab false (x3.1.must 4 [45,62]) x3.2=x5:=⟨_,rfl⟩;obtain⟨x6,h6⟩:∃x6,zaS f x5.1 x5.2=x6:=⟨_,rfl⟩;obtain⟨x8,h8⟩:∃x8,zF r17 r18 (x6.1.must 4 [123]) []=x8:=⟨_,rfl⟩;obtain⟨R,hRR⟩:∃R,zb5 r17 r18 f x8=R:=⟨_,rfl⟩;have hN:zgn r17 r18 f st x3 x5 x6 x8 R:=⟨h3,h5,h6,h8,hRR⟩;clear h3 h5 h6 h8 hRR;have hi:=zm5 hN;rw[znI hN];refine (zop hX hK g17 g18 S pb p f hf1 hf2 st w hI ho hR hN).mono ?_;rintro e w' ⟨nb,rfl,h1,h2,h3,h4⟩;refine⟨(xD nb 0),rfl,h2,h3,λhe=>?_⟩;obtain⟨vs,ev,xs,k1,k2,k3,k4,k5⟩:=h4.out he;refine⟨nb,vs,ev,xs,rfl,?_,h1,k2,k3,k4,k5.now⟩;dsimp only[Nd.ins,Nd.outs];rw[hi.1,hi.2];exact k1
end
section
open Go.RowKit
variable {r17 r18:Fn} {B:Nat} {q:Nd} {av:Xv} {w wr:Xw}
def zd3 (B:Nat)(wr:Xw)(av:Xv):List Nd->List Value->Prop
 | [],xs=>xs=[]
 | q::qs,xs=>∃v ys,xs=v::ys/\Was B wr av (ND q v)/\zd3 B wr av qs ys
theorem zd3.next {w':Xw}{av':Xv}{T:Xj}(hf:Fr T wr w')(hT:∀k,T k->k<B∨av.ownBlock=some k)(ha:∀k,av'.ownBlock=some k->av.ownBlock=some k∨wr.heap.size<=k) :
 ∀(qs:List Nd) (xs:Xm),zd3 B wr av qs xs->zd3 B w' av' qs xs:=by
 intro qs;induction qs with
 | nil=>intro xs h;exact h
 | cons q qs ih => rintro xs ⟨v,ys,h1,h2,h3⟩;exact⟨v,ys,h1,h2.next hf hT ha,ih ys h3⟩
theorem zd3.snoc {v:Xv}(h2:Was B wr av (ND q v)):∀(qs:List Nd) (xs:Xm),zd3 B wr av qs xs->zd3 B wr av (qs++[q]) (xs++[v]):=by
 intro qs;induction qs with
 | nil=>rintro xs rfl;exact⟨v,[],rfl,h2,rfl⟩
 | cons q' qs ih => rintro xs ⟨v',ys,rfl,h4,h3⟩;exact⟨v',_,rfl,h4,ih ys h3⟩
structure GI (S:Xs) (pb gb B:Nat) (w wr:Xw) (s:St) (nds:List Nd) (gv:Xv) (m:Nat) (xs:Xm):Prop where
 inv:∃p,Inv p s
 op:s.op=0
 pl:PL S wr pb s
 blk:xH wr gb #[gv] 89
 own:wr.ownsRow B 90 1 gv m xs
 ok:s.er=0->m=nds.length/\zd3 B wr gv nds xs
 fr:Fr (·=pb) w wr
theorem zqg {S:Xs}{pb gb:Nat}{w1 w9:Xw}{s s':St}{nds:List Nd}{gv v':Xv}{m:Nat}{xs:Xm}{a:Xp}{X:Obj}
 (h:GI S pb gb B w wr s nds gv m xs) (hnp:pb<gb) (hBn:gb<B) (hwn:w.heap.size<=gb) (hBw:B<=wr.heap.size) (hi:∃p,Inv p s') (her:s'.er=0->s.er=0) (ho:s'.op=0)
 (hF1:Fr (·=pb) wr w1) (hok:s'.er=0->ND q (.pointer a) w1 wr.heap.size)
 (hL9:PL S w9 pb s') (hF9:Fr (λk=>gv.ownBlock=some k) (w1.alloc X) w9) (hn9:w9.heap[gb]?=some (.cells #[gv] 89 (0,0)))
 (hown:w9.ownsRow B 90 1 v' (m+1) (xs++[.pointer a])) (hnew:∀k,v'.ownBlock=some k->gv.ownBlock=some k∨(w1.alloc X).heap.size<=k) :
 GI S pb gb B w (w9.setCell (xD gb 0) v') s' (nds++[q]) v' (m+1) (xs++[.pointer a]):=by
 have hev:∀k,gv.ownBlock=some k->B<=k/\k<wr.heap.size:=λk hk=>h.own.lt k hk;have hz1:=hF1.size;have hz9:=hF9.size;have hzx:(w1.alloc X).heap.size=w1.heap.size+1:=by simp
 have hFa:Fr (λk=>k=pb∨k=gb∨gv.ownBlock=some k) wr (w9.setCell (xD gb 0) v'):=by have h1:Fr (λk=>k=pb∨k=gb∨gv.ownBlock=some k) wr (w1.alloc X):=(hF1.mono (λ_ _ h=>zM3 h)).alloc X;exact (h1.trans' hF9 (λ_ _ h=>zM4 (zM4 h))).setCell (zM3 (zM4 (zM3 rfl))) _
 refine⟨hi,ho,hL9.setOther hnp _ _,zh _ _ _ _ hn9,zi hown (λk h1 _ _=>zr (by omega) rfl),?_,?_⟩
 . intro he;obtain⟨e1,e2⟩:=h.ok (her he);refine⟨by simp[e1],?_⟩;have hE2:=zd3.next (av':=v') hFa (λk hk=>by
    rcases hk with hk|hk|hk
    . left;omega
    . left;omega
    . exact zM4 hk) (λk hk=>by
    rcases hnew k hk with h1|h1
    . exact zM3 h1
    right;omega) _ _ e2
   refine zd3.snoc ?_ _ _ hE2;refine⟨w1,wr.heap.size,hBw,hok he,λk h1 h2=>?_,λg hg=>?_,?_⟩
   . exact zr (by omega) ((hF9.block k (by omega) (λh=>by have:=(hev k h).2;omega)).trans (Below.heap_alloc _ _ _ h2))
   . rcases hnew g hg with h|h
     . left;exact (hev g h).2
     right;omega
   simp[World.setCell];omega
 have h1:Fr (·=pb) w (w1.alloc X):=(h.fr.trans hF1).alloc X;exact (h1.trans' hF9 (λi hi hs=>by have:=(hev i hs).1;omega)).setNew hwn _ _
theorem zmC (t:Tk):(((ck t:Nat):Int) != 1)=!(t.k==0):=by
 by_cases h:t.k=0
 . simp[ck,h]
 have:ck t≠1:=by unfold ck;(repeat' split) <;> first|decide|(exfalso;omega)
 have h2:(t.k==0)=false:=by simp[h]
 rw[h2];simp;omega
theorem zny (g17:zv 17 r17)(g18:zv 18 r18){f p:Nat}{st:St}(hI:Inv p st)(ho:st.op=0)(he:(zax r17 r18 f st).1.er=0):st.er=0:=by
 have h1:=(zhx g17 g18 (f:=f) (nodes:=[]) hI ho (by simp)).1.er;by_cases h:st.er=0
 . exact h
 exact absurd (h1.symm.trans he) ((zmW g17 g18 (f:=f) (nodes:=[]) hI ho).2.2.2 h)
theorem zqd:zH 86:=λ_ _=>by kernel_rfl
theorem Tryz.infoNp:(prog.info? 90).map (λi=>(i.zero,i.size,i.bytes))=some (some (.pointer none),1,8):=by kernel_rfl
def zgE (w:Xw)(B:Nat):List Nd->List Value->Prop
 | [],xs=>xs=[]
 | q::qs,xs=>∃v ys,xs=v::ys/\ND q v w B/\zgE w B qs ys
theorem zd3.now:∀{qs:List Nd} {xs:Xm},zd3 B w av qs xs->zgE w B qs xs:=by
 intro qs;induction qs with
 | nil=>intro xs h;exact h
 | cons q qs ih => rintro xs ⟨v,ys,h1,h2,h3⟩;exact⟨v,ys,h1,zqU h2,ih h3⟩
theorem zgE.down {B':Nat}(hb:B'<=B):∀{qs:List Nd} {xs:Xm},zgE w B qs xs->zgE w B' qs xs:=by
 intro qs;induction qs with
 | nil=>intro xs h;exact h
 | cons q qs ih => rintro xs ⟨v,ys,h1,h2,h3⟩;exact⟨v,ys,h1,h2.down hb,ih h3⟩
def PG (nds:List Nd)(v:Xv)(w:Xw)(B:Nat):Prop:=∃gb gv xs,v=xP gb/\B<=gb/\w.heap[gb]?=some (.cells #[gv] 89 (0,0))/\w.ownsRow B 90 1 gv nds.length xs/\zgE w B nds xs
theorem zke (HX:zX 18 190 r18)(HK:zdI 18 r17)(G17:zv 17 r17)(G18:zv 18 r18)(S:Xs)(pb p f:Nat)(hf1:1202<f)(hf2:f<=5000)(st:St)(w:Xw)(hI:Inv p st)(ho:st.op=0)(hR:PL S w pb st){R:St×List Nd}(hRR:zdZ r17 r18 f f ((zax r17 r18 f st).1,[]++[(zax r17 r18 f st).2])=R) :
 xK 44 #[xP pb] w (λe w'=>∃a:Addr,e=.returned (.pointer (some a))/\PL S w' pb (zbB R.1)/\Fr (·=pb) w w'/\Hid ((zbB R.1).er=0->PG R.2 (.pointer (some a)) w' w.heap.size)):=by
 have hlt:=hR.lt;have HRR:=za hRR
 have hG0:GI S pb w.heap.size (w.heap.size+1) w (w.alloc (.cells #[.slice none 0 0] 89)) st [] (.slice none 0 0) 0 [] :=
  ⟨⟨p,hI⟩,ho,hR.alloc _,zc w _,World.ownsRow_nil _ _ _ _,λ_=>⟨rfl,rfl⟩,(Fr.refl _ w).alloc _⟩
 have HG0:=za hG0;go_enter func44,ntmps44;go_wp2_with fail;go_loopg [4] f (λk mo wx=>∃(b:Bool) (s:St) (nds:List Nd) (gv:Xv) (m:Nat) (xs:Xm),mo=.bool b/\Hid (GI S pb w.heap.size (w.heap.size+1) w wx s nds gv m xs)/\Hid (w.heap.size+1<=wx.heap.size)/\Hid (b=true->m<=5/\zdZ r17 r18 f k ((zax r17 r18 f s).1,nds++[(zax r17 r18 f s).2])=R/\1201-s.t.a<k)/\Hid (b=false->(s,nds)=R));case atStart=>exact⟨true,st,[],.slice none 0 0,0,[],rfl,HG0,by unfold Hid;simp,λ_=>⟨by omega,HRR.o,by omega⟩,λh=>by cases h⟩
 case round =>
  obtain⟨b,s,nds,gv,m,xs,rfl,HA,Hzw,HT,HFa⟩:=hrel;cases b with
  | false =>
    have HQ:=za (HFa.o rfl);have HA1:GI S pb w.heap.size (w.heap.size+1) w wr R.1 R.2 gv m xs:=(by rw[<- HQ.o];exact HA.o);obtain⟨h0,h1,h2,h3,h4,h5,h6⟩:=HA1.pl.cells;have hltr:=HA1.pl.lt;have hsyn:wr.cell? (xD 8 0)=some (.iface 324 (.pointer (some (S 2)))):=HA1.pl.gl.syn;have hck:=zmC R.1.t;cases hk:(R.1.t.k==0) with
    | true => rw[hk] at hck;go_wp2_with fail;go_ret;have he:zbB R.1=R.1:=(by unfold zbB;rw[zM2 (by simpa using hk)]);rw[he];refine⟨(xD w.heap.size 0),rfl,HA1.pl,HA1.fr,λhe'=>?_⟩;obtain⟨e1,e2⟩:=HA1.ok he';subst e1;exact⟨w.heap.size,gv,xs,rfl,zMK _,HA1.blk,zR HA1.own (by omega),e2.now.down (by omega)⟩
    | false => rw[hk] at hck;go_wp2_with fail;refine (zc5 S pb R.1 2 (by decide) wr HA1.pl).mono ?_;rintro e w5 ⟨rfl,HL5,HF5⟩;go_wp2_with fail;go_ret;have he:zbB R.1=R.1.fail 2 R.1.t.a:=(by unfold zbB;rw[zM1 (by simpa using hk)]);rw[he];exact⟨(xD w.heap.size 0),rfl,HL5,HA1.fr.trans HF5,λhe'=>absurd he' (St.fail_er _ (by decide))⟩
  | true =>
    obtain⟨hm5,hR1,hrem⟩:=HT.o rfl;have hzr:=Hzw.o;have hltr:=HA.o.pl.lt;obtain⟨p1,HI1⟩:=HA.o.inv;have HQe:=za (λw1 h=>zmS HX HK G17 G18 S pb p1 f hf1 hf2 s w1 HI1 HA.o.op h);obtain⟨_,_,n3,n4,n5⟩:=zhx G17 G18 (f:=f) (nodes:=[]) HI1 HA.o.op (by simp);have HEr:=za (λhe=>zny G17 G18 (f:=f) HI1 HA.o.op he);obtain⟨y,hy⟩:∃y,zax r17 r18 f s=y:=⟨_,rfl⟩;rw[hy] at HQe n3 n4 n5 HEr hR1;have HR1:=za hR1;have Hrem:=za hrem;have Hn3:=za n3;have Hn4:=za n4;have Hn5:=za n5;obtain⟨q0,qf,qz⟩:=zu HA.o.blk;obtain⟨i0,hi,hi0,hi1,hi2⟩:=info_parts Tryz.infoNp;have mx:m+1<=maxLen:=(by unfold maxLen;omega);have by':(m+1)*8<=140737488355328:=(by omega);go_upto_block 1 with fail;go_cut [] (λwy=>∃gv' xs',Hid (GI S pb w.heap.size (w.heap.size+1) w wy y.1 (nds++[y.2]) gv' (m+1) xs')/\Hid (w.heap.size+1<=wy.heap.size));case first =>
     go_wp2_with fail;go_region_law (first|(refine zbL rfl 86 (.tmp 23) 172 rfl zqd (xP pb) rfl (HQe.o _ HA.o.pl.drew) ?_;rintro e w2 ⟨aq,rfl,HL2,hF2',hok2⟩;refine⟨_,rfl,?_⟩;have HF2:Fr (·=pb) wr w2:=hF2'.undrew;have hzc2:=HF2.size;have Hb2:=(HF2.block w.heap.size qz (by omega)).trans HA.o.blk;obtain⟨f0,ff,fz⟩:=zu Hb2;have Hown2:=za (zi HA.o.own (λk h1 h2 _=>HF2.block k h2 (by omega)));have Hok2:=za hok2.out;have hzw:w.heap.size+1<=w2.heap.size+1:=(by omega))|(refine zJ _ rfl (.tmp 22) (.tmp 25) 87 rfl (w.heap.size+1) 90 i0 _ 1 8 underlying87 hi hi0 hi1 hi2 rfl (by decide) gv m xs rfl (zD Hown2.o _) (xD w2.heap.size 0) 1 1 [.pointer (some aq)] rfl rfl (zN (zc w2 _) rfl) zku mx by' (by simpa using hzw) ?_;intro v' w9 Hown9 hgrow Hnew9;obtain⟨g9,cap9,rfl,hg9⟩:=zM Hown9 (by omega);have HF9:=Fr.of_grown hgrow;have hb9:w9.heap[w.heap.size]?=w2.heap[w.heap.size]?:=((HF9.block w.heap.size (by rw[zsb];omega) (λh=>by have:=(Hown2.o.lt _ h).1;omega)).trans (Below.heap_alloc _ _ _ fz));have Hn9:=za (hb9.trans Hb2);obtain⟨m0,mf,mz⟩:=zu Hn9.o;have HL9:=za (PL.fr (HL2.alloc _) HF9 (λk hk=>by have:=(Hown2.o.lt k hk).1;omega));have hzz9:=HF9.size;rw[zsb] at hzz9));all_goals go_wp2_with fail
     all_goals go_meet
     all_goals exact⟨_,_,zqg HA.o hlt (by omega) (by omega) (by omega) ⟨0,Hn3.o⟩ HEr.o Hn4.o HF2 Hok2.o HL9.o HF9 Hn9.o Hown9 Hnew9,(by unfold Hid;simp[World.setCell];omega)⟩
    case rest =>
     obtain⟨gv2,xs2,HA2,Hz2⟩:=hcut;have HBd2:=za Hn3.o.toBad;obtain⟨x2,cp2,hgv⟩:=zbP HA2.o.own;have Hb2:=HA2.o.blk;rw[hgv] at Hb2;obtain⟨m0,mf,mz⟩:=zu Hb2;obtain⟨g,rfl⟩:∃g,gk=g+1:=⟨gk-1,by have:=Hrem.o;omega⟩;have HAt:=za (zaP S pb y.1 ⟨#[110,111,100,101]⟩ _ zmU wc HBd2.o.ok.tk HA2.o.pl);rw[zar HA2.o.pl.tx (by decide)] at HAt;have hunf:zdZ r17 r18 f (g+1) (y.1,nds++[y.2])=if y.1.is 5 zW=true/\(nds++[y.2]).length<6 then zdZ r17 r18 f g ((zax r17 r18 f y.1).1,(nds++[y.2])++[(zax r17 r18 f y.1).2]) else (y.1,nds++[y.2]):=rfl;have hR1:=HR1.o;rw[hunf] at hR1;have HN1:Hid (y.1.is 5 zW=true->m+1<6->zdZ r17 r18 f g ((zax r17 r18 f y.1).1,(nds++[y.2])++[(zax r17 r18 f y.1).2])=R/\1201-y.1.t.a<g):=λhc hl=>by have he:y.1.er=0:=HBd2.o.er (by rw[Inv.is_k hc];decide);have k1:=(HA2.o.ok he).1;rw[zM2 ⟨hc,by omega⟩] at hR1;have k2:=Hn5.o (HEr.o he) he;have k3:=Hrem.o;have k4:=Hn3.o.ok.ta_le;have k5:=HI1.ok.ta_le;exact⟨hR1,by omega⟩
     have HN0:Hid (¬(y.1.is 5 zW=true/\m+1<6)->(y.1,nds++[y.2])=R):=λhc=>by
      rw[zM1] at hR1
      . exact hR1
      rintro⟨c1,c2⟩;have he:y.1.er=0:=HBd2.o.er (by rw[Inv.is_k c1];decide);have k1:=(HA2.o.ok he).1;exact hc ⟨c1,by omega⟩
     cases hc:y.1.is 5 zW with
     | false =>
       rw[hc] at HAt;go_wp2_with (go_at_call 85;refine HAt.o.mono ?_;rintro e w' ⟨rfl,rfl⟩);go_roundg g;case measure=>omega
       exact⟨false,y.1,nds++[y.2],gv2,m+1,xs2,rfl,HA2,Hz2,λh=>(by cases h),λ_=>HN0.o (λh=>by rw[hc] at h;cases h.1)⟩
     | true =>
       rw[hc] at HAt;go_wp2_with (go_at_call 85;refine HAt.o.mono ?_;rintro e w' ⟨rfl,rfl⟩);go_roundg g;case measure=>omega
       refine⟨decide (m+1<6),y.1,nds++[y.2],gv2,m+1,xs2,?_,HA2,Hz2,λh=>?_,λh=>?_⟩
       . congr 1;by_cases h6:m+1<6
         . rw[decide_eq_true h6];exact decide_eq_true (by omega)
         rw[decide_eq_false h6];exact decide_eq_false (by omega)
       . have h6:m+1<6:=(by simpa using h);obtain⟨k1,k2⟩:=HN1.o hc h6;exact⟨by omega,k1,k2⟩
       have h6:¬m+1<6:=(by simpa using h);exact HN0.o (λh'=>h6 h'.2)
end
section
open Go.RowKit
def zeQ (p:Xb)(e:Xv):Value:=.iface 169 (.agg #[.string p,e])
theorem zdo (p:Xb)(t:Xy)(v:Xv)(w:Xw):xK 41 #[.string p,.iface t v] w λe w'=>e=.returned (zeQ p (.iface t v))/\w=w':=by go_enter func41,ntmps41;go_wp2_with fail;go_ret;exact⟨rfl,rfl⟩
def St.first (s:Xb):St:=⟨s,zZ s 0,0,0,0,[]⟩
theorem zmc {s:Xb}(hs:s.size<=1200):Inv 0 (St.first s):=by have h:=zV s 0 (zMN _);refine⟨⟨hs,h.2.2.1,h.2.1,h.2.2.2.1,by simp[St.first],by simp[St.first],by simp[St.first],h.2.2.2.2.1⟩,?_,?_,?_,?_,?_⟩;all_goals first|exact h.2.2.2.2.2|simp[St.first]
def zfv:ByteArray:=⟨#[114,101,97,100,105,110,103]⟩
def znP (S:Xs)(w:Xw)(r:St×List Nd)(e:Ending)(w':Xw):Prop :=
 (r.1.er≠0->e=.returned (.tuple #[.pointer none,zeQ zfv (za2 S r.1.er r.1.at')])) /\
 (r.1.er=0->∃a:Addr,e=.returned (.tuple #[.pointer (some a),.nilIface])/\PG r.2 (.pointer (some a)) w' w.heap.size)/\xB w w'
theorem zni {r17 r18:Fn}(hX:zX 18 190 r18)(hK:zdI 18 r17)(g17:zv 17 r17)(g18:zv 18 r18)(S:Xs)(f:Nat)(hf1:1202<f)(hf2:f<=5000)(s:Xb)(w:Xw)(HG:Gl S w)(hs:s.size<=1200){R:St×List Nd}(hRR:zgo r17 r18 f s=R) :
 xK 28 #[.string s] w (znP S w R):=by
 have hsz:=HG.size;have HSc:=za (zi0 S s 0 w hs (zMN _) HG);obtain⟨Q,hQ⟩:∃Q,zdZ r17 r18 f f ((zax r17 r18 f (St.first s)).1,[]++[(zax r17 r18 f (St.first s)).2])=Q:=⟨_,rfl⟩;have HRQ:R=(zbB Q.1,Q.2):=by rw[<- hRR,<- hQ];rfl
 have HPr:=za (λpb w1 h=>zke hX hK g17 g18 S pb 0 f hf1 hf2 (St.first s) w1 (zmc hs) rfl h hQ);have hls:¬(1200<(s.size:Int)):=by omega
 go_enter func28,ntmps28;go_wp2_with fail;refine HSc.o.mono ?_;rintro e w1 ⟨rfl,HB1⟩;have hz1:=HB1.size;have hL1:PL S (w1.alloc (zgL S (St.first s))) w1.heap.size (St.first s):=⟨zkH s 0,zc w1 _,HG.of (T:=λ_=>False) (Fr.alloc (Fr.of_below HB1) _) (λ_ h=>h.elim),by omega⟩;have HL1:=za hL1;unfold Tk.cval;have hpo:zgL S (St.first s)=.cells #[.string s,xI (ck (zZ s 0)),.string (cs s (zZ s 0)),.int .i64 (zZ s 0).a,xI (cn (zZ s 0)),xI 0,.nilIface] 82:=by simp[zgL,St.first,za2]
 rw[hpo] at HL1;go_wp2_with fail;refine (HPr.o _ _ HL1.o).mono ?_;rintro e w2 ⟨a,rfl,hL2,hF2,hP2⟩;have hz2:=hF2.size;rw[zsb] at hz2;have HB2:Hid (xB w w2):=by have h1:Fr (λ_=>False) w w1:=Fr.of_below HB1;have h:=(h1.alloc (.cells #[.string s,xI (ck (zZ s 0)),.string (cs s (zZ s 0)),.int .i64 (zZ s 0).a,xI (cn (zZ s 0)),xI 0,.nilIface] 82)).trans' hF2 (λi hi h=>by omega);exact⟨h.os,h.tape,h.output,h.size,λk hk=>h.block k hk (λh=>h)⟩
 obtain⟨h0,h1,h2,h3,h4,h5,h6⟩:=hL2.cells;have hlt2:=hL2.lt;have HP2:=za hP2.out;by_cases He:(zbB Q.1).er=0
 . rw[show za2 S (zbB Q.1).er (zbB Q.1).at'=.nilIface by simp[za2,He]] at h6;go_wp2_with fail;refine bodyPost_ret (v:=.tuple #[.pointer (some a),.nilIface]) (by simp[results,results28,go_sem]) rfl ?_;rw[HRQ];refine⟨λh=>absurd He h,λ_=>⟨a,rfl,?_⟩,HB2.o⟩;have hp:=HP2.o He;obtain⟨gb,gv,xs,k0,k1,k2,k3,k4⟩:=hp;rw[zsb] at k1 k3 k4;exact⟨gb,gv,xs,k0,by omega,k2,zR k3 (by omega),k4.down (by omega)⟩
 rw[show za2 S (zbB Q.1).er (zbB Q.1).at'=.iface 71 (.agg #[sen S (zbB Q.1).er,.int .i64 (zbB Q.1).at']) by simp[za2,He]] at h6;go_wp2_with (go_at_call 41;refine (zdo _ _ _ _).mono ?_;rintro e w3 ⟨rfl,rfl⟩);refine bodyPost_ret (v:=.tuple #[.pointer none,zeQ zfv (.iface 71 (.agg #[sen S (zbB Q.1).er,.int .i64 (zbB Q.1).at']))]) (by simp[results,results28,go_sem,zfv]) rfl ?_;rw[HRQ];refine⟨λ_=>?_,λh=>absurd h He,HB2.o⟩
 show _=Ending.returned (.tuple #[.pointer none,zeQ zfv (za2 S (zbB Q.1).er (zbB Q.1).at')]);rw[show za2 S (zbB Q.1).er (zbB Q.1).at'=.iface 71 (.agg #[sen S (zbB Q.1).er,.int .i64 (zbB Q.1).at']) by simp[za2,He]]
theorem zB3 (S:Xs)(s:Xb)(w:Xw)(hG:Gl S w)(hs:1200<s.size) :
 xK 28 #[.string s] w (λe w'=>e=.returned (.tuple #[.pointer none,zeQ zfv (za2 S 1 0)])/\xB w w'):=by
 have hsz:=hG.size;have hlong:=hG.long;have hls:1200<(s.size:Int):=by omega
 unfold sen at hlong;go_enter func28,ntmps28;go_wp2_with (first|(go_at_call 42;refine (zi3 S 1 0 _).mono ?_;rintro e1 w1 ⟨rfl,Hb1⟩;have hz1:=Hb1.size)|(go_at_call 41;refine (zdo _ _ _ _).mono ?_;rintro e w3 ⟨rfl,rfl⟩));refine bodyPost_ret (v:=.tuple #[.pointer none,zeQ zfv (za2 S 1 0)]) (by simp[results,results28,go_sem,zfv,za2,sen]) rfl ⟨rfl,Hb1⟩
theorem zk1:∃r17 r18:Fn,r17=(lev 17).ex/\r18=(lev 18).ex/\zX 18 190 r18/\zdI 18 r17/\zv 17 r17/\zv 18 r18:=by obtain⟨c1,_,_,c4⟩:=znu 18;refine⟨_,_,rfl,rfl,c1,?_,(zgP 17).1,(zgP 18).1⟩;rw[zM1 (by decide)] at c4;exact c4
end
section
open Go.RowKit
variable {a:Addr} {B N b i j:Nat} {o1 o2:Obj} {u v:Xv} {W w w' w1:Xw}
theorem zg (h:W.cell? a=some v):W.drew.cell? a=some v:=h
theorem zj (o:Obj)(h:W.cell? a=some v):(W.alloc o).cell? a=some v:=Lib.cell?_alloc_some o h
theorem zk {k:Nat}(hk:¬k=b)(h:W.cell? (xD k i)=some v):(W.setCell (xD b j) u).cell? (xD k i)=some v :=
 (World.cell?_of_block (w:=W) (Below.heap_setCell W _ u k hk)).trans h
theorem za0 (h:∃v,W.cell? (xD b i)=some v):(W.setCell (xD b i) u).cell? (xD b i)=some u:=by
 obtain⟨v,hv⟩:=h;unfold World.cell? at hv ⊢;simp only[World.setCell,Array.getElem?_modify] at hv ⊢;cases ho:W.heap[b]? with
 | none=>simp[ho] at hv
 | some o =>
   cases o with
   | cells c e f =>
     simp only[ho] at hv;have hi:i<c.size:=by
      rcases Nat.lt_or_ge i c.size with h|h
      . exact h
      simp[Array.getElem?_eq_none h] at hv
     simp[hi]
   | _=>simp[ho] at hv
theorem zce (h:W.cell? (xD b i)=some v):∃v,(W.setCell (xD b j) u).cell? (xD b i)=some v:=by
 unfold World.cell? at h ⊢;simp only[World.setCell,Array.getElem?_modify] at h ⊢;cases ho:W.heap[b]? with
 | none=>simp[ho] at h
 | some o =>
   cases o with
   | cells c e f =>
     simp only[ho] at h;have hi:i<c.size:=by
      rcases Nat.lt_or_ge i c.size with h'|h'
      . exact h'
      simp[Array.getElem?_eq_none h'] at h
     simp[hi]
   | _=>simp[ho] at h
theorem zd (h:Below B w W)(hc:w.cell? (xD b i)=some v)(hb:b<B):W.cell? (xD b i)=some v:=(World.cell?_of_block (w:=w) (h.block b hb)).trans hc
theorem zE (h:Below (w.alloc o1).heap.size (w.alloc o1) w1):xB w w1 :=
 ((Below.refl w.heap.size w).alloc (zMK _) o1).trans (h.mono (by simp))
theorem zhh (h:Below ((w.alloc o1).alloc o2).heap.size ((w.alloc o1).alloc o2) w1):xB w w1:=zE (zE h)
theorem zg2 {o3:Obj}(h:Below (((w.alloc o1).alloc o2).alloc o3).heap.size (((w.alloc o1).alloc o2).alloc o3) w1):xB w w1:=zE (zhh h)
theorem zeW (hN:N<=w.heap.size)(o1:Obj):∀k,k<N->(w.alloc o1).heap[k]?=w.heap[k]?:=λk hk=>Below.heap_alloc _ _ _ (by omega)
theorem zfr (hN:N<=w.heap.size)(o1 o2:Obj):∀k,k<N->((w.alloc o1).alloc o2).heap[k]?=w.heap[k]?:=λk hk=>(Below.heap_alloc _ _ _ (by simp;omega)).trans (Below.heap_alloc _ _ _ (by omega))
theorem zot (hN:N<=w.heap.size)(o1 o2 o3:Obj):∀k,k<N->(((w.alloc o1).alloc o2).alloc o3).heap[k]?=w.heap[k]?:=λk hk=>(Below.heap_alloc _ _ _ (by simp;omega)).trans (zfr hN o1 o2 k hk)
theorem zq (w:Xw)(o1:Obj):xB w (w.alloc o1):=(Below.refl w.heap.size w).alloc (zMK _) o1
theorem zaD (w:Xw)(o1 o2:Obj):xB w ((w.alloc o1).alloc o2):=zE (zq _ _)
theorem zcz (w:Xw)(o1 o2 o3:Obj):xB w (((w.alloc o1).alloc o2).alloc o3):=zE (zaD _ _ _)
theorem zo (h:Below B w W):Below B w W.drew:=⟨h.os,h.tape,h.output,h.size,h.block⟩
theorem zC (h:Below B w W)(hb:B<=b)(u:Xv):Below B w (W.setCell (xD b i) u):=h.setCell hb u
def Old (N:Nat)(w w':Xw):Prop:=∀k,k<N->w'.heap[k]?=w.heap[k]?
theorem Old.trans {a b c:Xw}(h:Old N a b)(k:Old N b c):Old N a c:=λi hi=>(k i hi).trans (h i hi)
theorem Fr.old {S:Xj}(h:Fr S w w')(hN:N<=w.heap.size)(hS:∀k,S k->N<=k):Old N w w':=λk hk=>h.block k (by omega) (λhs=>by have:=hS k hs;omega)
theorem zm (h:Below B w w')(hN:N<=B):Old N w w':=λk hk=>h.block k (by omega)
end
section
open Go.RowKit
variable {L:List Ex} {xs:Xm} {B N:Nat} {v:Xv} {w w':Xw}
inductive Tm where
 | mk (k a:Nat) (s:Xb) (nm n:Nat) (as':List Tm)
def Tm.k:Tm->Nat|.mk k _ _ _ _ _=>k
def Tm.a:Tm->Nat|.mk _ a _ _ _ _=>a
def Tm.s:Tm->ByteArray|.mk _ _ s _ _ _=>s
def Tm.nm:Tm->Nat|.mk _ _ _ nm _ _=>nm
def Tm.n:Tm->Nat|.mk _ _ _ _ n _=>n
def Tm.ts:Tm->List Tm|.mk _ _ _ _ _ l=>l
inductive zeA (L:List Ex):Nat->Tm->Prop
 | mk (x:Nat) (ex:Ex) (ts:List Tm) (hx:L[x]?=some ex) (hl:ts.length=ex.ins.length) (hr:∀(i y:Nat) (t:Tm),ex.ins[i]?=some y->ts[i]?=some t->zeA L y t) :
    zeA L x (.mk (zag ex.op.toList ex.n) ex.a ex.s ex.nm (zbF ex.op.toList ex.n) ts)
inductive TT (w:Xw) (N:Nat):Tm->Value->Prop
 | mk (k a:Nat) (s:Xb) (nm n:Nat) (ts:List Tm) (b:Nat) (args:Xv) (vs:Xm) (hN:b<N)
    (hb:xH w b #[xI k,xI a,.string s,xI nm,xI n,args] 226)
    (ha:w.ownsRow 0 182 1 args vs.length vs) (hg:∀g,args.ownBlock=some g->g<N) (hl:vs.length=ts.length)
    (hr:∀(i:Nat) (t:Tm) (v:Xv),ts[i]?=some t->vs[i]?=some v->TT w N t v):TT w N (.mk k a s nm n ts) (xP b)
theorem TT.old {t:Tm}(h:TT w N t v)(ho:Old N w w'):TT w' N t v:=by
 induction h with
 | mk k a s nm n ts b args vs hN hb ha hg hl _ ih => exact TT.mk k a s nm n ts b args vs hN ((ho b hN).trans hb) (zi ha (λg _ _ e=>ho g (hg g e))) hg hl ih
theorem zjR {P:Nat->Tm->Value->Prop}:∀(ins:Xn) (vs:Xm),vs.length=ins.length->(∀(i y:Nat) (v:Xv),ins[i]?=some y->vs[i]?=some v->∃t,P y t v)->∃ts:List Tm,ts.length=ins.length/\∀(i y:Nat) (t:Tm) (v:Xv),ins[i]?=some y->ts[i]?=some t->vs[i]?=some v->P y t v:=by
 intro ins;induction ins with
 | nil=>intro vs _ _;exact⟨[],rfl,λi y t v h=>by simp at h⟩
 | cons y ins ih =>
   intro vs hl h;cases vs with
   | nil=>simp at hl
   | cons v vs =>
     obtain⟨t,ht⟩:=h 0 y v rfl rfl;obtain⟨ts,h1,h2⟩:=ih vs (by simpa using hl) (λi y v hy hv=>h (i+1) y v (by simpa using hy) (by simpa using hv));refine⟨t::ts,by simp[h1],λi y' t' v' hy ht' hv=>?_⟩;cases i with
     | zero=>simp at hy ht' hv;subst hy ht' hv;exact ht
     | succ i=>exact h2 i y' t' v' (by simpa using hy) (by simpa using ht') (by simpa using hv)
theorem TR.tree {x:Nat}(h:TR w B L x v):∃t,zeA L x t/\TT w w.heap.size t v:=by
 induction h with
 | mk x ex b args vs hx hB hb ha hl _ ih =>
   obtain⟨ts,h1,h2⟩:=zjR (P:=λy t v=>zeA L y t/\TT w w.heap.size t v) ex.ins vs hl ih;have hv:∀i t,ts[i]?=some t->∃y v,ex.ins[i]?=some y/\vs[i]?=some v:=λi t ht=>by have hi:=(zMJ.1 ht).1;exact⟨_,_,zsc (by omega),zsc (by omega)⟩
   refine⟨.mk (zag ex.op.toList ex.n) ex.a ex.s ex.nm (zbF ex.op.toList ex.n) ts,zeA.mk x ex ts hx h1 (λi y t hy ht=>?_),TT.mk _ _ _ _ _ ts b args vs (ze hb) hb (zR ha (zMN _)) (λg e=>(ha.lt g e).2) (by omega) (λi t v ht hv'=>?_)⟩
   . obtain⟨y',v,e1,e2⟩:=hv i t ht;exact (h2 i y t v hy ht e2).1
   obtain⟨y',v',e1,e2⟩:=hv i t ht;exact (h2 i y' t v e1 ht hv').2
structure Qn where
 ns:List ByteArray
 ps:List Nat
 a:Nat
 r:Tm
structure Nod where
 nm:ByteArray
 a:Nat
 vars:List Vr
 ins:Nat
 outs:Nat
 eqs:List Qn
def zcU (w:Xw)(N:Nat):List Qn->List Value->Prop
 | [],xs=>xs=[]
 | q::qs,xs=>∃lv v ys,xs=lv::(xI q.a)::v::ys/\w.ownsRow 0 117 2 lv q.ns.length (nmC q.ns q.ps)/\(∀g,lv.ownBlock=some g->g<N)/\TT w N q.r v/\zcU w N qs ys
theorem zcU.old (ho:Old N w w'):∀{qs:List Qn} {xs:Xm},zcU w N qs xs->zcU w' N qs xs:=by
 intro qs;induction qs with
 | nil=>intro xs h;exact h
 | cons q qs ih => rintro xs ⟨lv,v,ys,h1,h2,h3,h4,h5⟩;exact⟨lv,v,ys,h1,zi h2 (λg _ _ e=>ho g (h3 g e)),h3,h4.old ho,ih h5⟩
structure NT (w:Xw) (N:Nat) (n:Nod) (nb:Nat) (vs ev:Xv) (xs:Xm):Prop where
 blk:xH w nb #[.string n.nm,xI n.a,vs,xI n.ins,xI n.outs,ev] 121
 lo:nb<N
 vown:w.ownsRow 0 134 7 vs n.vars.length (zb0 n.vars)
 vlo:∀g,vs.ownBlock=some g->g<N
 own:w.ownsRow 0 184 3 ev n.eqs.length xs
 elo:∀g,ev.ownBlock=some g->g<N
 eqs:zcU w N n.eqs xs
 few:n.vars.length<=16
theorem NT.old {n:Nod}{nb:Nat}{vs ev:Xv}(h:NT w N n nb vs ev xs)(ho:Old N w w'):NT w' N n nb vs ev xs :=
 ⟨(ho _ h.lo).trans h.blk,h.lo,zi h.vown (λg _ _ e=>ho g (h.vlo g e)),h.vlo,zi h.own (λg _ _ e=>ho g (h.elo g e)),h.elo,h.eqs.old ho,h.few⟩
def NP (w:Xw)(N:Nat)(n:Nod)(v:Xv):Prop:=∃nb vs ev xs,v=xP nb/\NT w N n nb vs ev xs
theorem NP.old {n:Nod}(h:NP w N n v)(ho:Old N w w'):NP w' N n v:=by obtain⟨nb,vs,ev,xs,h0,h⟩:=h;exact⟨nb,vs,ev,xs,h0,h.old ho⟩
structure NL (w:Xw) (N:Nat) (ns:List Nod) (gv:Xv) (xs:Xm):Prop where
 own:w.ownsRow 0 90 1 gv ns.length xs
 lo:∀g,gv.ownBlock=some g->g<N
 at':∀(i:Nat) (n:Nod),ns[i]?=some n->∃v,xs[i]?=some v/\NP w N n v
 few:ns.length<=6
theorem NL.old {ns:List Nod}{gv:Xv}(h:NL w N ns gv xs)(ho:Old N w w'):NL w' N ns gv xs :=
 ⟨zi h.own (λg _ _ e=>ho g (h.lo g e)),h.lo,λi n hi=>by obtain⟨v,h1,h2⟩:=h.at' i n hi;exact⟨v,h1,h2.old ho⟩,h.few⟩
def PT (w:Xw)(N:Nat)(ns:List Nod)(v:Xv):Prop:=∃gb gv xs,v=xP gb/\gb<N/\w.heap[gb]?=some (.cells #[gv] 89 (0,0))/\NL w N ns gv xs
theorem PT.old {ns:List Nod}(h:PT w N ns v)(ho:Old N w w'):PT w' N ns v:=by obtain⟨gb,gv,xs,h0,h1,h2,h3⟩:=h;exact⟨gb,gv,xs,h0,h1,(ho _ h1).trans h2,h3.old ho⟩
structure zrJ (L:List Ex) (q:Eqn) (q':Qn):Prop where
 ns:q'.ns=q.ns
 ps:q'.ps=q.ps
 a:q'.a=q.a
 r:zeA L q.ex q'.r
def zge (L:List Ex):List Eqn->List Qn->Prop
 | [],qs=>qs=[]
 | q::l,qs=>∃q' l',qs=q'::l'/\zrJ L q q'/\zge L l l'
theorem zge.len:∀{l:List Eqn} {qs:List Qn},zge L l qs->qs.length=l.length:=by
 intro l;induction l with
 | nil=>rintro qs rfl;rfl
 | cons q l ih=>rintro qs ⟨q',l',rfl,_,h⟩;simp[ih h]
structure zo6 (nd:Nd) (n:Nod):Prop where
 nm:n.nm=nd.nm
 a:n.a=nd.a
 vars:n.vars=nd.vars
 ins:n.ins=nd.ins
 outs:n.outs=nd.outs
 eqs:zge nd.exs nd.eqs n.eqs
def ze5:List Nd->List Nod->Prop
 | [],ns=>ns=[]
 | d::l,ns=>∃n l',ns=n::l'/\zo6 d n/\ze5 l l'
theorem ze5.len:∀{l:List Nd} {ns:List Nod},ze5 l ns->ns.length=l.length:=by
 intro l;induction l with
 | nil=>rintro ns rfl;rfl
 | cons q l ih=>rintro ns ⟨q',l',rfl,_,h⟩;simp[ih h]
theorem zno:∀{qs:List Eqn} {xs:Xm},ze0 L w B qs xs->∃qs',zge L qs qs'/\zcU w w.heap.size qs' xs:=by
 intro qs;induction qs with
 | nil=>intro xs h;exact⟨[],rfl,h⟩
 | cons q qs ih => rintro xs ⟨lv,a,ys,h1,h2,h3⟩;obtain⟨l',h4,h5⟩:=ih h3;obtain⟨t,h6,h7⟩:=h2.tr.tree;exact⟨⟨q.ns,q.ps,q.a,t⟩::l',⟨_,_,rfl,⟨rfl,rfl,rfl,h6⟩,h4⟩,lv,_,ys,h1,zR h2.own (zMN _),λg e=>(h2.own.lt g e).2,h7,h5⟩
theorem zpW {nd:Nd}(h:ND nd v w B):∃n,zo6 nd n/\NP w w.heap.size n v:=by obtain⟨nb,vs,ev,xs,h0,h⟩:=h;obtain⟨qs,h1,h2⟩:=zno h.eqs;refine⟨⟨nd.nm,nd.a,nd.vars,nd.ins,nd.outs,qs⟩,⟨rfl,rfl,rfl,rfl,rfl,h1⟩,nb,vs,ev,xs,h0,⟨h.blk,ze h.blk,zR h.vown (zMN _),λg e=>(h.vown.lt g e).2,?_,λg e=>(h.own.lt g e).2,h2,h.few⟩⟩;rw[show (qs.length)=nd.eqs.length from h1.len];exact zR h.own (zMN _)
theorem zoA:∀{nds:List Nd} {xs:Xm},zgE w B nds xs->∃ns,ze5 nds ns/\∀(i:Nat) (n:Nod),ns[i]?=some n->∃v,xs[i]?=some v/\NP w w.heap.size n v:=by
 intro nds;induction nds with
 | nil=>intro xs _;exact⟨[],rfl,λi n h=>by simp at h⟩
 | cons d nds ih =>
   rintro xs ⟨v,ys,rfl,h2,h3⟩;obtain⟨ns,h4,h5⟩:=ih h3;obtain⟨n,h6,h7⟩:=zpW h2;refine⟨n::ns,⟨n,ns,rfl,h6,h4⟩,λi m hi=>?_⟩;cases i with
   | zero=>simp at hi;subst hi;exact⟨v,rfl,h7⟩
   | succ i=>simpa using h5 i m (by simpa using hi)
theorem zpt {nds:List Nd}(h:PG nds v w B)(h6:nds.length<=6):∃ns,ze5 nds ns/\PT w w.heap.size ns v:=by obtain⟨gb,gv,xs,h0,h1,h2,h3,h4⟩:=h;obtain⟨ns,h5,h7⟩:=zoA h4;refine⟨ns,h5,gb,gv,xs,h0,ze h2,h2,?_,λg e=>(h3.lt g e).2,h7,by rw[h5.len];exact h6⟩;rw[h5.len];exact zR h3 (zMN _)
end
section
variable {s:Xb} {k:Nat}
structure Sc where
 er:List Nod
 nd:Nod
def zfj (s:Xb):List Vr->Nat->Option Nat
 | [],_=>none
 | v::l,i=>if v.nm=s then some i else zfj s l (i+1)
def Nod.find (n:Nod)(s:Xb):Option Nat:=zfj s n.vars 0
def Sc.idx (c:Sc)(s:Xb):Nat:=(c.nd.find s).getD 0
def zgg (s:Xb):List Nod->Nat->Option Nat
 | [],_=>none
 | n::l,i=>if n.nm=s then some i else zgg s l (i+1)
def Sc.called (c:Sc)(s:Xb):Option Sc :=
 match zgg s c.er 0 with
 | none=>none
 | some i=>match c.er[i]? with
   | none=>none
   | some n=>some ⟨c.er.take i,n⟩
theorem zld {l:List Vr}{v:Vr}(h:l[k]?=some v):zfj s (l.drop k) k=if v.nm=s then some k else zfj s (l.drop (k+1)) (k+1):=by obtain⟨h1,h2⟩:=zMJ.1 h;rw[zMT h1,h2];rfl
theorem zla {l:List Nod}{v:Nod}(h:l[k]?=some v):zgg s (l.drop k) k=if v.nm=s then some k else zgg s (l.drop (k+1)) (k+1):=by obtain⟨h1,h2⟩:=zMJ.1 h;rw[zMT h1,h2];rfl
theorem zgO:∀{l:List Vr} {i j:Nat},zfj s l i=some j->i<=j/\j<i+l.length/\∃v,l[j-i]?=some v/\v.nm=s:=by
 intro l;induction l with
 | nil=>intro i j h;cases h
 | cons v l ih =>
   intro i j h;unfold zfj at h;split at h
   . rename_i hv;cases h;exact⟨zMK _,by simp,v,by simp,hv⟩
   obtain⟨h1,h2,u,h3,h4⟩:=ih h;refine⟨by omega,by simp only[zMR];omega,u,?_,h4⟩;rw[show j-i=(j-(i+1))+1 by omega];simpa using h3
abbrev xE (x:Xp) (c:Sc) (p:Nat):Value:=.slice x c.er.length p
end
end Go.Proofs.YtbicmofihhjgbaaGreatDoor
