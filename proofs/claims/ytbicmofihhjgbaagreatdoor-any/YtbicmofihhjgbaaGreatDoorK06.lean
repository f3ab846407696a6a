/- Part 7 of the proof: CoeI CoeJ CoeK CoeL CoeN. -/
import Derived.Test.YtbicmofihhjgbaaGreatDoorK05
set_option maxRecDepth 100000
set_option maxHeartbeats 8000000
namespace Go.Proofs.YtbicmofihhjgbaaGreatDoor
open Go.Proofs.Tryz
open Go.RowKit
section
theorem zqJ:(⟨#[116,104,101,110]⟩:ByteArray).toList=[116,104,101,110]:=by decide +kernel
theorem zq2:(⟨#[101,108,115,101]⟩:ByteArray).toList=[101,108,115,101]:=by decide +kernel
theorem Fwd.er0 {p:Nat}{a b:St}(h:Fwd p a b)(hb:b.er=0):a.er=0:=by
 by_cases ha:a.er=0
 . exact ha
 . exact absurd hb (h.er ha)
theorem zjN {d:Nat}{rx:Fn}(hX:zX d 190 rx)(gX:zv d rx)(S:Nat->Addr)(pb:Nat)(st:St)(p:Nat)(w:World)(bp be eb:Nat)(v0 v1 v2 v3 v4 v5:Value)(s1 s2 s3:St×Nat)(h1:rx st=s1)(h2:rx (s1.1.must 5 [116,104,101,110])=s2)(h3:rx (s2.1.must 5 [101,108,115,101])=s3)
 (hI:Inv p st) (ho:18<=st.op+d) (hR:PL S w pb st) (Hbp:Box w bp 172 (xP pb)) (Hbe:Box w be 182 (xP eb)) (Heb:w.heap[eb]?=some (.cells #[v0,v1,v2,v3,v4,v5] 226 (0,0))) (n0:¬bp=pb) (n1:¬be=pb) (n3:pb<eb) :
 xK 248 #[xP bp,xP be] w λe w'=>e=.returned (.tuple #[])/\∃a1 a2 a3 g,PL S w' pb s3.1/\Hid (s3.1.er=0->TR w' w.heap.size s3.1.L s1.2 (.pointer a1)/\TR w' w.heap.size s3.1.L s2.2 (.pointer a2)/\TR w' w.heap.size s3.1.L s3.2 (.pointer a3)) /\
  w'.heap[eb]?=some (.cells #[v0,v1,v2,v3,v4,xS g 3 3] 226 (0,0))/\w'.heap[g]?=some (.cells #[.pointer a1,.pointer a2,.pointer a3] 182 (0,0))/\w.heap.size<=g/\Fr (λk=>k=pb∨k=eb) w w':=by
 have n2:¬eb=pb:=by omega
 have g1:=gX st p hI ho;have H1:=za (hX S pb st p w hI ho hR);have g1i:Inv p s1.1:=by rw[<- h1];exact g1.inv
 have g1o:s1.1.op=st.op:=by rw[<- h1];exact g1.op
 rw[h1] at H1;have m1:=Fwd.must g1i 5 [116,104,101,110];have o1:18<=(s1.1.must 5 [116,104,101,110]).op+d:=by rw[St.must_op,g1o];exact ho
 have g2:=gX _ p m1.inv o1;have H2:=za (λw1 h=>hX S pb _ p w1 m1.inv o1 h);have g2i:Inv p s2.1:=by rw[<- h2];exact g2.inv
 have g2o:s2.1.op=st.op:=by rw[<- h2,g2.op,St.must_op,g1o]
 rw[h2] at H2;have m2:=Fwd.must g2i 5 [101,108,115,101];have o2:18<=(s2.1.must 5 [101,108,115,101]).op+d:=by rw[St.must_op,g2o];exact ho
 have g3:=gX _ p m2.inv o2;have H3:=za (λw1 h=>hX S pb _ p w1 m2.inv o2 h);rw[h3] at H3;have f2:Fwd p (s1.1.must 5 [116,104,101,110]) s2.1:=by rw[<- h2];exact g2.fwd
 have f3:Fwd p (s2.1.must 5 [101,108,115,101]) s3.1:=by rw[<- h3];exact g3.fwd
 obtain⟨E2,HE2⟩:=f2.L;obtain⟨E3,HE3⟩:=f3.L;rw[St.must_L] at HE2 HE3;have HR32:=za (λh:s3.1.er=0=>m2.er0 (f3.er0 h));have HR21:=za (λh:s2.1.er=0=>m1.er0 (f2.er0 h));have HB1:=za g1i.toBad;have HB2:=za g2i.toBad;obtain⟨c0,cf,cz⟩:=zu Hbp;obtain⟨e0,ef,ez⟩:=zu Hbe;have hzb:=ze Heb;have hlt:=hR.lt;go_enter func248,ntmps248;go_wp2_with fail;refine H1.o.mono ?_;rintro e w1 ⟨a1,rfl,HL1,hT1,HF1⟩;have hz1:=HF1.size;obtain⟨d0,df,dz⟩:=zu (Hbp.fr HF1 n0);have HX1:=za (zP S pb s1.1 _ _ zqJ w1 HB1.o HL1);rw[ze6 HL1.tx (by decide)] at HX1;go_wp2_with (go_at_call 150;refine HX1.o.mono ?_;rintro e w2 ⟨rfl,HL2,HF2⟩;obtain⟨i0,if',iz⟩:=zu ((Hbp.fr HF1 n0).fr HF2 n0);have hz2:=HF2.size);refine (H2.o w2 HL2).mono ?_;rintro e w3 ⟨a3,rfl,HL3,hT3,HF3⟩;have hz3:=HF3.size;have F13:=za ((HF1.trans HF2).trans HF3);obtain⟨j0,jf,jz⟩:=zu (Hbp.fr F13.o n0);have HX2:=za (zP S pb s2.1 _ _ zq2 w3 HB2.o HL3);rw[ze6 HL3.tx (by decide)] at HX2;go_wp2_with (go_at_call 150;refine HX2.o.mono ?_;rintro e w4 ⟨rfl,HL4,HF4⟩;have hz4:=HF4.size;have F14:=za (F13.o.trans HF4);obtain⟨k0,kf,kz⟩:=zu (Hbp.fr F14.o n0);obtain⟨l0,lf,lz⟩:=zu (Hbe.fr F14.o n1);have Heb4:=za ((F14.o.block eb hzb n2).trans Heb));go_region_with (go_at_call 190;refine (H3.o _ HL4.drew).mono ?_;rintro e w5 ⟨a5,rfl,HL5,hT5,hF5'⟩;have HF5:Fr (·=pb) w4 w5:=hF5'.undrew;have hz5:=HF5.size;have F15:=za (F14.o.trans HF5);have Heb5:=(HF5.block eb (ze Heb4.o) n2).trans Heb4.o;obtain⟨d0,d1,d2,d3,d4,d5,df,dz⟩:=zt Heb5;obtain⟨f0,ff,fz⟩:=zu (Hbe.fr F15.o n1))
 all_goals go_wp2_with fail
 all_goals go_end0
 all_goals
  have hk5:(w5.setCell (xD eb 5) (xS w5.heap.size 3 3)).heap.size=w5.heap.size:=by simp[World.setCell]
  refine⟨rfl,a1,a3,a5,w5.heap.size,?_,?_,?_,?_,by omega,?_⟩
  . exact (HL5.setOther n3 _ _).alloc _
  . intro he3;have t5:=hT5.out he3;have t3:=hT3.out (HR32.o he3);have t1:=hT1.out (HR21.o (HR32.o he3));have F35:Fr (·=pb) w3 w5:=HF4.trans HF5;have F15':Fr (·=pb) w1 w5:=(HF2.trans HF3).trans F35;have Fend:Fr (·=eb) w5 ((w5.setCell (xD eb 5) (xS w5.heap.size 3 3)).alloc (.cells #[.pointer a1,.pointer a3,.pointer a5] 182)):=((Fr.refl _ w5).set1 _ _).alloc _;refine⟨?_,?_,?_⟩
    . rw[HE3,HE2];exact (((t1.fr F15' (λk h1 _ h2=>by omega)).fr Fend (λk h1 _ h2=>by omega)).more E2).more E3
    . rw[HE3];exact (((t3.down (by omega:w.heap.size<=w2.heap.size)).fr F35 (λk h1 _ h2=>by omega)).fr Fend (λk h1 _ h2=>by omega)).more E3
    . exact (t5.down (by show w.heap.size<=w4.heap.size;omega)).fr Fend (λk h1 _ h2=>by omega)
  . exact (Below.heap_alloc _ _ _ (by rw[hk5];exact dz)).trans (zh _ _ _ _ Heb5)
  . have:=zc (w5.setCell (xD eb 5) (xS w5.heap.size 3 3)) (.cells #[.pointer a1,.pointer a3,.pointer a5] 182);rw[hk5] at this;exact this
  . exact (F15.o.with2 eb _ _).alloc _
theorem zkR:zH 248:=λ_ _=>by kernel_rfl
theorem kIf:zag sIf.toList 0=5:=by decide +kernel
structure zlO (w w0:World) (pb:Nat) (k a:Nat):Prop where
 bp:Box w0 w.heap.size 172 (xP pb)
 eb:xH w0 (w.heap.size+1) #[xI k,xI a,.string ⟨#[]⟩,xI 0,xI 0,.slice none 0 0] 226
 be:Box w0 (w.heap.size+1+1) 182 (xP (w.heap.size+1))
 fr:Fr (·=pb) w w0
 size:w0.heap.size=w.heap.size+1+1+1
theorem zoW (w:World)(pb k a:Nat):zlO w (((w.alloc (.cells #[xP pb] 172)).alloc (.cells #[xI k,xI a,.string ⟨#[]⟩,xI 0,xI 0,.slice none 0 0] 226)).alloc (.cells #[xP (w.heap.size+1)] 182)) pb k a:=by
 refine⟨?_,?_,?_,(((Fr.refl _ w).alloc _).alloc _).alloc _,by simp⟩
 . exact (Below.heap_alloc _ _ _ (by simp;omega)).trans ((Below.heap_alloc _ _ _ (by simp)).trans (zc w _))
 . refine (Below.heap_alloc _ _ _ (by simp)).trans ?_;have:=zc (w.alloc (.cells #[xP pb] 172)) (.cells #[xI k,xI a,.string ⟨#[]⟩,xI 0,xI 0,.slice none 0 0] 226);simpa using this
 . have:=zc ((w.alloc (.cells #[xP pb] 172)).alloc (.cells #[xI k,xI a,.string ⟨#[]⟩,xI 0,xI 0,.slice none 0 0] 226)) (.cells #[xP (w.heap.size+1)] 182);unfold Box;simpa using this
theorem zkZ {d:Nat}{rx:Fn}(hX:zX d 190 rx)(gX:zv d rx)(S:Nat->Addr)(pb:Nat)(st:St)(p:Nat)(w:World)(HI:Inv p st)(hk:2<=st.t.k)(ho:18<=st.op+(d+1))(HR:PL S w pb st) :
 xK 245 #[xP pb] w (zaW S pb w.heap.size w (zdx rx st).1 (zdx rx st).2):=by
 have hlt:=HR.lt;have hmf:∀(fn:Go.Fn) (first cap:Array Value) (w:World),(Instr.makeFunc fn first cap).run prog w=.ok (.func fn first cap) w:=λ_ _ _ _=>rfl;have he:=HI.toBad.er (by omega);have e1:=Fwd.enter HI he hk;have hoE:18<=st.enter.op+d:=by rw[St.enter_op];omega
 obtain⟨s1,h1⟩:∃s,rx st.enter=s:=⟨_,rfl⟩;obtain⟨s2,h2⟩:∃s,rx (s1.1.must 5 [116,104,101,110])=s:=⟨_,rfl⟩;obtain⟨s3,h3⟩:∃s,rx (s2.1.must 5 [101,108,115,101])=s:=⟨_,rfl⟩;have hM:zdx rx st=s3.1.leave.put ⟨sIf,st.t.a,0,[s1.2,s2.2,s3.2],sE,0⟩:=by unfold zdx;simp only[h1,h2,h3]
 rw[hM];have g1:=gX st.enter (p+1) e1.inv hoE;have g1i:Inv (p+1) s1.1:=by rw[<- h1];exact g1.inv
 have g1o:s1.1.op=st.op+1:=by rw[<- h1,g1.op,St.enter_op]
 have m1:=Fwd.must g1i 5 [116,104,101,110];have g2:=gX _ (p+1) m1.inv (by rw[St.must_op,g1o];omega);have g2i:Inv (p+1) s2.1:=by rw[<- h2];exact g2.inv
 have g2o:s2.1.op=st.op+1:=by rw[<- h2,g2.op,St.must_op,g1o]
 have m2:=Fwd.must g2i 5 [101,108,115,101];have g3:=gX _ (p+1) m2.inv (by rw[St.must_op,g2o];omega);have HgO:s3.1.op=st.op+1:=by rw[<- h3,g3.op,St.must_op,g2o]
 have HD:Hid (st.op=16->s3.1.leave=st.fail 3 st.t.a):=by
  intro h16;have hE:=St.enter_deep h16;have he3:st.enter.er≠0:=by rw[hE];exact St.fail_er _ (by decide)
  have q1:s1.1=st.enter:=by rw[<- h1,g1.er he3]
  have q2:s1.1.must 5 [116,104,101,110]=st.enter:=by rw[q1,hE];exact St.fail_must _ (by decide) (by decide)
  have q3:s2.1=st.enter:=by rw[<- h2,g2.er (by rw[q2];exact he3),q2]
  have q4:s2.1.must 5 [101,108,115,101]=st.enter:=by rw[q3,hE];exact St.fail_must _ (by decide) (by decide)
  have q5:s3.1=st.enter:=by rw[<- h3,g3.er (by rw[q4];exact he3),q4]
  rw[q5,zd0 h16]
 have HC:=za (λw1 b0 b1 b2 hR1=>zjN hX gX S pb st.enter (p+1) w1 w.heap.size (w.heap.size+1+1) (w.heap.size+1) (xI 5) (xI st.t.a) (.string ⟨#[]⟩) (xI 0) (xI 0) (.slice none 0 0) s1 s2 s3 h1 h2 h3 e1.inv hoE hR1 b0 b1 b2 (by omega) (by omega) (by omega));go_enter func245,ntmps245;go_wp2_with (go_at_call 208;refine (zb8 S pb st 5 _ (HR.alloc _)).mono ?_;rintro e w' ⟨rfl,rfl⟩);have T0:=zoW w pb 5 st.t.a;have hL0:=((HR.alloc (.cells #[xP pb] 172)).alloc (.cells #[xI 5,xI st.t.a,.string ⟨#[]⟩,xI 0,xI 0,.slice none 0 0] 226)).alloc (.cells #[xP (w.heap.size+1)] 182);obtain⟨w0,hw0⟩:∃w0,(((w.alloc (.cells #[xP pb] 172)).alloc (.cells #[xI 5,xI st.t.a,.string ⟨#[]⟩,xI 0,xI 0,.slice none 0 0] 226)).alloc (.cells #[xP (w.heap.size+1)] 182))=w0:=⟨_,rfl⟩;have T1:zlO w w0 pb 5 st.t.a:=hw0▸T0;have hL1:PL S w0 pb st:=hw0▸hL0;refine Eq.mpr (congrArg (λz=>xK 205 _ z _) hw0) ?_;refine (zdz _ _ zkR S pb st p w0 HI hk hL1 (λe w'=>e=.returned (.tuple #[])/\Box w' (w.heap.size+1+1) 182 (xP (w.heap.size+1))/\zaW S pb w.heap.size w (s3.1.leave.put ⟨sIf,st.t.a,0,[s1.2,s2.2,s3.2],sE,0⟩).1 (s3.1.leave.put ⟨sIf,st.t.a,0,[s1.2,s2.2,s3.2],sE,0⟩).2 (.returned (xP (w.heap.size+1))) w') ?_ ?_).mono ?_
 . intro hlt16 w2 hL2 hF2;refine (HC.o w2 (T1.bp.fr hF2 (by omega)) (T1.be.fr hF2 (by omega)) ((hF2.block _ (ze T1.eb) (by omega)).trans T1.eb) hL2).mono ?_;rintro e w3 ⟨rfl,a1,a2,a3,g,hL3,hT3,hb3,hg3,hzg,hF3⟩;refine⟨rfl,s3.1,hL3,by rw[HgO];omega,by rw[HgO];omega,?_⟩;intro w4 hL4 hF4;have hFw:Fr (·=pb) w w4:=(Fr.drop2 (T1.fr.trans hF2) hF3 (by omega)).trans hF4;have hz02:w0.heap.size<=w2.heap.size:=hF2.size;have hz0:=T1.size;refine⟨rfl,Box.fr (Fr.keep2 hF3 (T1.be.fr hF2 (by omega)) (by omega) (by omega)) hF4 (by omega),_,rfl,hL4.put _,?_,hFw⟩;intro he';obtain⟨t1,t2,t3⟩:=hT3.out he';refine TR.three (x:=s1.2) (y:=s2.2) (z:=s3.2) (g:=g) (t:=.pointer a1) (u:=.pointer a2) (v:=.pointer a3) (by omega) (by omega) ?_ ((hF4.block g (ze hg3) (by omega)).trans hg3) rfl ?_ ?_ ?_
   . show _=some (Obj.cells #[xI (zag sIf.toList 0:Nat),xI st.t.a,.string ⟨#[]⟩,xI (0:Nat),xI (zbF sIf.toList 0:Nat),xS g 3 3] 226 (0,0));rw[kIf,zbK];exact (hF4.block _ (ze hb3) (by omega)).trans hb3
   . exact (t1.fr hF4 (λk h1 _ h2=>by omega)).down (by omega)
   . exact (t2.fr hF4 (λk h1 _ h2=>by omega)).down (by omega)
   . exact (t3.fr hF4 (λk h1 _ h2=>by omega)).down (by omega)
 . intro h16 w3 hL3 hF3;rw[HD.o h16];exact⟨rfl,T1.be.fr hF3 (by omega),_,rfl,hL3.put _,λhe'=>absurd he' (St.fail_er st (by decide)),T1.fr.trans hF3⟩
 . rintro e w4 ⟨rfl,hb4,HQ⟩;obtain⟨f0,ff,fz⟩:=zu hb4;go_wp2_with fail;go_ret;exact HQ
theorem zli {d:Nat}{sd:Fn}(hS:zX d 250 sd)(gS:zv d sd)(S:Nat->Addr)(pb:Nat)(st:St)(p:Nat)(w:World)(bp be eb:Nat)(v0 v1 v2 v3 v4 v5:Value)(ns:ByteArray)(na:Nat)(hnv:zcc st=.agg #[.string ns,xI na])(s1 s2:St×Nat)(h1:sd st.name=s1)(h2:sd s1.1=s2)
 (hI:Inv p st) (ho:18<=st.op+d) (hR:PL S w pb st) (hbp:Box w bp 172 (xP pb)) (hbe:Box w be 182 (xP eb)) (heb:w.heap[eb]?=some (.cells #[v0,v1,v2,v3,v4,v5] 226 (0,0))) (n0:¬bp=pb) (n1:¬be=pb) (n3:pb<eb) (n4:¬bp=eb) (n5:¬be=eb) :
 xK 249 #[xP bp,xP be] w λe w'=>e=.returned (.tuple #[])/\∃a1 a2 g,PL S w' pb s2.1/\Hid (s2.1.er=0->TR w' w.heap.size s2.1.L s1.2 (.pointer a1)/\TR w' w.heap.size s2.1.L s2.2 (.pointer a2)) /\
  w'.heap[eb]?=some (.cells #[v0,v1,.string ns,xI na,v4,xS g 2 2] 226 (0,0))/\w'.heap[g]?=some (.cells #[.pointer a1,.pointer a2] 182 (0,0))/\w.heap.size<=g/\Fr (λk=>k=pb∨k=eb) w w':=by
 have n2:¬eb=pb:=by omega
 have f0:=Fwd.name hI;have HN:=za (λw1 h=>zaZ S pb st w1 hI.toBad h);rw[hnv] at HN;have o0:18<=st.name.op+d:=by rw[St.name_op];exact ho
 have g1:=gS st.name p f0.inv o0;have H1:=za (λw1 h=>hS S pb st.name p w1 f0.inv o0 h);have g1i:Inv p s1.1:=by rw[<- h1];exact g1.inv
 have g1o:s1.1.op=st.op:=by rw[<- h1,g1.op,St.name_op]
 rw[h1] at H1;have o1:18<=s1.1.op+d:=by rw[g1o];exact ho
 have g2:=gS _ p g1i o1;have H2:=za (λw1 h=>hS S pb s1.1 p w1 g1i o1 h);rw[h2] at H2;have f2:Fwd p s1.1 s2.1:=by rw[<- h2];exact g2.fwd
 obtain⟨E2,HE2⟩:=f2.L;have HR21:=za (λh:s2.1.er=0=>f2.er0 h);obtain⟨c0,cf,cz⟩:=zu hbp;obtain⟨e0,ef,ez⟩:=zu hbe;have HR:=za hR;have Hbp:=za hbp;have Hbe:=za hbe;have Heb:=za heb;have hzb:=ze heb;have hlt:=hR.lt;go_enter func249,ntmps249;go_wp2_with fail;go_region_with (go_at_call 151;refine (HN.o _ HR.o.drew).mono ?_;rintro e w1 ⟨rfl,hL1,hF1'⟩;have hF1:Fr (·=pb) w w1:=hF1'.undrew;have hz1:=hF1.size;have heb1:=(hF1.block eb hzb n2).trans Heb.o;obtain⟨d0,d1,d2,d3,d4,d5,df,dz⟩:=zt heb1;obtain⟨f0,ff,fz⟩:=zu (Hbe.o.fr hF1 n1);have HL1:=za hL1;have HF1:=za hF1;have Heb1:=za heb1)
 all_goals
  have HF2:Fr (λk=>k=pb∨k=eb) w ((w1.setCell (xD eb 2) (.string ns)).setCell (xD eb 3) (xI na)):=(HF1.o.with2 eb _ _).setCell (Or.inl (Or.inr rfl)) _;have Heb2:((w1.setCell (xD eb 2) (.string ns)).setCell (xD eb 3) (xI na)).heap[eb]?=some (.cells #[v0,v1,.string ns,xI na,v4,v5] 226 (0,0)):=zh _ _ _ _ (zh _ _ _ _ Heb1.o);have HL2:PL S ((w1.setCell (xD eb 2) (.string ns)).setCell (xD eb 3) (xI na)) pb st.name:=(HL1.o.setOther n3 _ _).setOther n3 _ _;have Hbe2:=HF2.keep2 Hbe.o n1 n5;have Hbp2:=HF2.keep2 Hbp.o n0 n4;generalize ((w1.setCell (xD eb 2) (.string ns)).setCell (xD eb 3) (xI na))=w2 at *;obtain⟨p0,pf,pz⟩:=zu Hbp2;have hz2:=HF2.size;go_wp2_with fail;refine (H1.o w2 HL2).mono ?_;rintro e w3 ⟨a3,rfl,HL3,hT3,HF3⟩;have hz3:=HF3.size;have Heb3:=za ((HF3.block eb (ze Heb2) n2).trans Heb2);obtain⟨k0,kf,kz⟩:=zu (Hbp2.fr HF3 n0);obtain⟨l0,lf,lz⟩:=zu (Hbe2.fr HF3 n1);go_wp2_with fail;go_region_with (go_at_call 250;refine (H2.o _ HL3.drew).mono ?_;rintro e w5 ⟨a5,rfl,HL5,hT5,hF5'⟩;have HF5:Fr (·=pb) w3 w5:=hF5'.undrew;have hz5:=HF5.size;have Heb5:=(HF5.block eb (ze Heb3.o) n2).trans Heb3.o;obtain⟨d0,d1,d2,d3,d4,d5,df,dz⟩:=zt Heb5;obtain⟨f0,ff,fz⟩:=zu ((Hbe2.fr HF3 n1).fr HF5 n1))
  all_goals go_wp2_with fail
  all_goals go_end0
  all_goals
   have hk5:(w5.setCell (xD eb 5) (xS w5.heap.size 2 2)).heap.size=w5.heap.size:=(by simp[World.setCell]);refine⟨rfl,a3,a5,w5.heap.size,?_,?_,?_,?_,by omega,?_⟩
   . exact (HL5.setOther n3 _ _).alloc _
   . intro he2;have t5:=hT5.out he2;have t3:=hT3.out (HR21.o he2);have Fend:Fr (·=eb) w5 ((w5.setCell (xD eb 5) (xS w5.heap.size 2 2)).alloc (.cells #[.pointer a3,.pointer a5] 182)):=((Fr.refl _ w5).set1 _ _).alloc _;refine⟨?_,?_⟩
     . rw[HE2];exact (((t3.down hz2).fr HF5 (λk h1 _ h2=>by omega)).fr Fend (λk h1 _ h2=>by omega)).more E2
     . exact (t5.down (by show w.heap.size<=w3.heap.size;omega)).fr Fend (λk h1 _ h2=>by omega)
   . exact (Below.heap_alloc _ _ _ (by rw[hk5];exact dz)).trans (zh _ _ _ _ Heb5)
   . have:=zc (w5.setCell (xD eb 5) (xS w5.heap.size 2 2)) (.cells #[.pointer a3,.pointer a5] 182);rw[hk5] at this;exact this
   . exact ((((HF2.trans' HF3 (λ_ _ h=>Or.inl h)).trans' HF5 (λ_ _ h=>Or.inl h)).setCell (Or.inl (Or.inr rfl)) _).alloc _)
theorem zmY:zH 249:=λ_ _=>by kernel_rfl
theorem zqI:zag zep.toList 0=6:=by decide +kernel
theorem St.fail_name (s:St){e a:Nat}(he:e≠0):(s.fail e a).name=s.fail e a:=by
 unfold St.name;have:(s.fail e a).t.k=1:=by unfold St.fail;split <;> rfl
 rw[if_neg (by omega)];exact St.fail_fail s he
theorem zmk {d:Nat}{ra:Fn}(hS:zX d 250 (zch ra))(gA:zv d ra)(S:Nat->Addr)(pb:Nat)(st:St)(p:Nat)(w:World)(HI:Inv p st)(hk:2<=st.t.k)(ho:18<=st.op+(d+1))(HR:PL S w pb st) :
 xK 246 #[xP pb] w (zaW S pb w.heap.size w (zeE ra st).1 (zeE ra st).2):=by
 have gS:zv d (zch ra):=zf0 gA;have hlt:=HR.lt;have hmf:∀(fn:Go.Fn) (first cap:Array Value) (w:World),(Instr.makeFunc fn first cap).run prog w=.ok (.func fn first cap) w:=λ_ _ _ _=>rfl;have he:=HI.toBad.er (by omega);have e1:=Fwd.enter HI he hk;have hoE:18<=st.enter.op+d:=by rw[St.enter_op];omega
 obtain⟨s1,h1⟩:∃s,zch ra st.enter.name=s:=⟨_,rfl⟩;obtain⟨s2,h2⟩:∃s,zch ra s1.1=s:=⟨_,rfl⟩;obtain⟨ns,na,hnv,hnk⟩:=zjf st.enter;have hM:zeE ra st=s2.1.leave.put ⟨zep,st.t.a,st.enter.t.a,[s1.2,s2.2],st.enter.t.s,0⟩:=by unfold zeE;simp only[h1,h2]
 rw[hM];have f0:=Fwd.name e1.inv;have g1:=gS st.enter.name (p+1) f0.inv (by rw[St.name_op];exact hoE);have g1i:Inv (p+1) s1.1:=by rw[<- h1];exact g1.inv
 have g1o:s1.1.op=st.op+1:=by rw[<- h1,g1.op,St.name_op,St.enter_op]
 have g2:=gS _ (p+1) g1i (by rw[g1o];omega);have HgO:s2.1.op=st.op+1:=by rw[<- h2,g2.op,g1o]
 have f1:Fwd (p+1) st.enter.name s1.1:=by rw[<- h1];exact g1.fwd
 have f2:Fwd (p+1) s1.1 s2.1:=by rw[<- h2];exact g2.fwd
 have HNk:Hid (s2.1.er=0->ns=st.enter.t.s/\na=st.enter.t.a):=by
  intro h;apply hnk;have h3:=f1.er0 (f2.er0 h);by_cases h4:st.enter.t.k=2
  . exact h4
  . exfalso;unfold St.name at h3;rw[if_neg h4] at h3;exact St.fail_er _ (by decide) h3
 have HD:Hid (st.op=16->s2.1.leave=st.fail 3 st.t.a):=by
  intro h16;have hE:=St.enter_deep h16;have he3:st.enter.er≠0:=by rw[hE];exact St.fail_er _ (by decide)
  have q0:st.enter.name=st.enter:=by rw[hE];exact St.fail_name _ (by decide)
  have q1:s1.1=st.enter:=by rw[<- h1,g1.er (by rw[q0];exact he3),q0]
  have q3:s2.1=st.enter:=by rw[<- h2,g2.er (by rw[q1];exact he3),q1]
  rw[q3,zd0 h16]
 have HC:=za (λw1 b0 b1 b2 hR1=>zli hS gS S pb st.enter (p+1) w1 w.heap.size (w.heap.size+1+1) (w.heap.size+1) (xI 6) (xI st.t.a) (.string ⟨#[]⟩) (xI 0) (xI 0) (.slice none 0 0) ns na hnv s1 s2 h1 h2 e1.inv hoE hR1 b0 b1 b2 (by omega) (by omega) (by omega) (by omega) (by omega));go_enter func246,ntmps246;go_wp2_with (go_at_call 208;refine (zb8 S pb st 6 _ (HR.alloc _)).mono ?_;rintro e w' ⟨rfl,rfl⟩);have T0:=zoW w pb 6 st.t.a;have hL0:=((HR.alloc (.cells #[xP pb] 172)).alloc (.cells #[xI 6,xI st.t.a,.string ⟨#[]⟩,xI 0,xI 0,.slice none 0 0] 226)).alloc (.cells #[xP (w.heap.size+1)] 182);obtain⟨w0,hw0⟩:∃w0,(((w.alloc (.cells #[xP pb] 172)).alloc (.cells #[xI 6,xI st.t.a,.string ⟨#[]⟩,xI 0,xI 0,.slice none 0 0] 226)).alloc (.cells #[xP (w.heap.size+1)] 182))=w0:=⟨_,rfl⟩;have T1:zlO w w0 pb 6 st.t.a:=hw0▸T0;have hL1:PL S w0 pb st:=hw0▸hL0;refine Eq.mpr (congrArg (λz=>xK 205 _ z _) hw0) ?_;refine (zdz _ _ zmY S pb st p w0 HI hk hL1 (λe w'=>e=.returned (.tuple #[])/\Box w' (w.heap.size+1+1) 182 (xP (w.heap.size+1))/\zaW S pb w.heap.size w (s2.1.leave.put ⟨zep,st.t.a,st.enter.t.a,[s1.2,s2.2],st.enter.t.s,0⟩).1 (s2.1.leave.put ⟨zep,st.t.a,st.enter.t.a,[s1.2,s2.2],st.enter.t.s,0⟩).2 (.returned (xP (w.heap.size+1))) w') ?_ ?_).mono ?_
 . intro hlt16 w2 hL2 hF2;refine (HC.o w2 (T1.bp.fr hF2 (by omega)) (T1.be.fr hF2 (by omega)) ((hF2.block _ (ze T1.eb) (by omega)).trans T1.eb) hL2).mono ?_;rintro e w3 ⟨rfl,a1,a2,g,hL3,hT3,hb3,hg3,hzg,hF3⟩;refine⟨rfl,s2.1,hL3,by rw[HgO];omega,by rw[HgO];omega,?_⟩;intro w4 hL4 hF4;have hFw:Fr (·=pb) w w4:=(Fr.drop2 (T1.fr.trans hF2) hF3 (by omega)).trans hF4;have hz02:w0.heap.size<=w2.heap.size:=hF2.size;have hz0:=T1.size;refine⟨rfl,Box.fr (Fr.keep2 hF3 (T1.be.fr hF2 (by omega)) (by omega) (by omega)) hF4 (by omega),_,rfl,hL4.put _,?_,hFw⟩;intro he';obtain⟨t1,t2⟩:=hT3.out he';obtain⟨r1,r2⟩:=HNk.o he';refine TR.two (y:=s1.2) (z:=s2.2) (g:=g) (u:=.pointer a1) (v:=.pointer a2) (by omega) (by omega) ?_ ((hF4.block g (ze hg3) (by omega)).trans hg3) rfl ?_ ?_
   . show _=some (Obj.cells #[xI (zag zep.toList 0:Nat),xI st.t.a,.string st.enter.t.s,xI st.enter.t.a,xI (zbF zep.toList 0:Nat),xS g 2 2] 226 (0,0));rw[zqI,zbK,<- r1,<- r2];exact (hF4.block _ (ze hb3) (by omega)).trans hb3
   . exact (t1.fr hF4 (λk h1 _ h2=>by omega)).down (by omega)
   . exact (t2.fr hF4 (λk h1 _ h2=>by omega)).down (by omega)
 . intro h16 w3 hL3 hF3;rw[HD.o h16];exact⟨rfl,T1.be.fr hF3 (by omega),_,rfl,hL3.put _,λhe'=>absurd he' (St.fail_er st (by decide)),T1.fr.trans hF3⟩
 . rintro e w4 ⟨rfl,hb4,HQ⟩;obtain⟨f0,ff,fz⟩:=zu hb4;go_wp2_with fail;go_ret;exact HQ
end
section
variable {rx:Fn} {L:List Ex} {d p y:Nat} {av u:Value} {w wr:World}
theorem zpl:zH 190:=λ_ _=>by kernel_rfl
theorem Tryz.infoXp:(prog.info? 182).map (λi=>(i.zero,i.size,i.bytes))=some (some (.pointer none),1,8):=by kernel_rfl
theorem zlz:(⟨#[44]⟩:ByteArray).toList=[44]:=by decide +kernel
theorem Fwd.er0' {a b:St}(h:Fwd p a b)(hb:b.er=0):a.er=0:=h.er0 hb
def TRI (w wr:World)(av:Value)(L:List Ex)(y:Nat)(u:Value):Prop :=
 ∃(wi:World) (Bi:Nat),w.heap.size<=Bi/\TR wi Bi L y u/\(∀k,Bi<=k->k<wi.heap.size->wr.heap[k]?=wi.heap[k]?)/\(∀g,av.ownBlock=some g->g<Bi∨wi.heap.size<=g)/\wi.heap.size<=wr.heap.size
theorem TRI.now (h:TRI w wr av L y u):TR wr w.heap.size L y u:=by obtain⟨wi,Bi,h1,h2,h3,_,_⟩:=h;exact (h2.kept h3).down h1
theorem TRI.next {w':World}{av':Value}(h:TRI w wr av L y u)(E:List Ex){T:Nat->Prop}(hf:Fr T wr w')(hT:∀k,T k->k<w.heap.size∨av.ownBlock=some k)(ha:∀k,av'.ownBlock=some k->av.ownBlock=some k∨wr.heap.size<=k):TRI w w' av' (L++E) y u:=by
 obtain⟨wi,Bi,h1,h2,h3,h4,h5⟩:=h;refine⟨wi,Bi,h1,h2.more E,λk hk1 hk2=>?_,λg hg=>?_,Nat.le_trans h5 hf.size⟩
 . refine (hf.block k (Nat.lt_of_lt_of_le hk2 h5) (λht=>?_)).trans (h3 k hk1 hk2);rcases hT k ht with h|h
   . omega
   . rcases h4 k h with h|h <;> omega
 . rcases ha g hg with h|h
   . exact h4 g h
   . exact Or.inr (Nat.le_trans h5 h)
structure zjp (S:Nat->Addr) (pb eb p d:Nat) (w wr:World) (v0 v1 v2 v3 v4:Value) (s:St) (l:List Nat) (vs:List Value) (av:Value):Prop where
 inv:Inv p s
 op:18<=s.op+d
 pl:PL S wr pb s
 blk:xH wr eb #[v0,v1,v2,v3,v4,av] 226
 own:wr.ownsRow w.heap.size 182 1 av vs.length vs
 len:vs.length=l.length
 tr:s.er=0->∀(i y:Nat) (u:Value),l[i]?=some y->vs[i]?=some u->TRI w wr av s.L y u
 fr:Fr (λk=>k=pb∨k=eb) w wr
 few:l.length<=s.t.a
theorem zmt {S:Nat->Addr}{pb eb:Nat}{w1 w9:World}{v0 v1 v2 v3 v4:Value}{s:St}{l:List Nat}{vs:List Value}{v':Value}{a1:Option Addr}{X:Obj}
 (HA:zjp S pb eb p d w wr v0 v1 v2 v3 v4 s l vs av) (g1:zaN rx s p) (hll:l.length+1<=s.t.a) (n3:pb<eb) (hzb:eb<w.heap.size) (hF1:Fr (·=pb) wr w1) (hT1:(rx s).1.er=0->TR w1 wr.heap.size (rx s).1.L (rx s).2 (.pointer a1))
 (hL9:PL S w9 pb (rx s).1) (hF9:Fr (λk=>av.ownBlock=some k) (w1.alloc X) w9) (heb9:w9.heap[eb]?=some (.cells #[v0,v1,v2,v3,v4,av] 226 (0,0))) (hown:w9.ownsRow w.heap.size 182 1 v' (vs.length+1) (vs++[.pointer a1]))
 (hnew:∀k,v'.ownBlock=some k->av.ownBlock=some k∨(w1.alloc X).heap.size<=k):zjp S pb eb p d w (w9.setCell (xD eb 5) v') v0 v1 v2 v3 v4 (rx s).1 (l++[(rx s).2]) (vs++[.pointer a1]) v':=by
 have hav:∀k,av.ownBlock=some k->w.heap.size<=k/\k<wr.heap.size:=λk hk=>HA.own.lt k hk;have hzr:=HA.fr.size;have hz1:=hF1.size;have hplt:=HA.pl.lt;have hzx:(w1.alloc X).heap.size=w1.heap.size+1:=by simp
 have hFa:Fr (λk=>k=pb∨k=eb∨av.ownBlock=some k) wr (w9.setCell (xD eb 5) v'):=by have h1:Fr (λk=>k=pb∨k=eb∨av.ownBlock=some k) wr (w1.alloc X):=(hF1.mono (λ_ _ h=>Or.inl h)).alloc X;exact (h1.trans' hF9 (λ_ _ h=>Or.inr (Or.inr h))).setCell (Or.inl (Or.inr (Or.inl rfl))) _
 obtain⟨E,hE⟩:=g1.L;have hv':∀k,v'.ownBlock=some k->w.heap.size<=k:=λk hk=>(hown.lt k hk).1;refine⟨g1.inv,by rw[g1.op];exact HA.op,hL9.setOther n3 _ _,zh _ _ _ _ heb9,?_,by simp[HA.len],?_,?_,?_⟩
 . rw[List.length_append];exact zi hown (λk h1 _ _=>zr (by omega) rfl)
 . intro he i y u hi hu;rcases Nat.lt_or_ge i l.length with h|h
   . rw[List.getElem?_append_left h] at hi;rw[List.getElem?_append_left (by rw[HA.len];exact h)] at hu;rw[hE];refine (HA.tr (g1.fwd.er0' he) i y u hi hu).next E hFa (λk hk=>?_) (λk hk=>?_)
     . rcases hk with h|h|h
       . left;omega
       . left;omega
       . exact Or.inr h
     . rcases hnew k hk with h|h
       . exact Or.inl h
       . right;omega
   . have h2:i=l.length:=(by have:=(List.getElem?_eq_some_iff.1 hi).1;simp at this;omega);subst h2;rw[List.getElem?_append_right (Nat.le_refl _)] at hi;rw[<- HA.len,List.getElem?_append_right (Nat.le_refl _)] at hu;simp at hi hu;subst hi hu;refine⟨w1,wr.heap.size,hzr,hT1 he,λk h1 h2=>?_,λg hg=>?_,?_⟩
     . refine zr (by omega) ((hF9.block k (by omega) (λh=>by have:=(hav k h).2;omega)).trans (Below.heap_alloc _ _ _ h2))
     . rcases hnew g hg with h|h
       . left;exact (hav g h).2
       . right;omega
     . have:=hF9.size;simp[World.setCell];omega
 . have h1:Fr (λk=>k=pb∨k=eb) w (w1.alloc X):=(HA.fr.trans' hF1 (λ_ _ h=>Or.inl h)).alloc X;exact (h1.trans' hF9 (λi hi h=>by have:=(hav i h).1;omega)).setCell (Or.inl (Or.inr rfl)) _
 . have:=g1.ta;simp;omega
theorem zku {a:Option Addr}:∀u∈[Value.pointer a],u.oneCell'=true:=by intro u hu;simp at hu;subst hu;rfl
theorem zmh (HX:zX d 190 rx)(GX:zv d rx)(S:Nat->Addr)(pb:Nat)(st:St)(p:Nat)(w:World)(bp be eb:Nat)(v0 v1 v2 v3 v4:Value)(hI:Inv p st)(ho:18<=st.op+d)(ha:1<=st.t.a)(hR:PL S w pb st)(Hbp:Box w bp 172 (xP pb))(Hbe:Box w be 182 (xP eb))(heb:xH w eb #[v0,v1,v2,v3,v4,.slice none 0 0] 226)(n0:¬bp=pb)(n1:¬be=pb)(n3:pb<eb)(n4:¬bp=eb)(n5:¬be=eb) :
 xK 206 #[xP bp,xP be] w λe w'=>e=.returned (.tuple #[])/\∃vs av,PL S w' pb ((zbG rx st).1.must 4 [41])/\xH w' eb #[v0,v1,v2,v3,v4,av] 226/\w'.ownsRow w.heap.size 182 1 av vs.length vs/\vs.length=(zbG rx st).2.length /\
  Hid (((zbG rx st).1.must 4 [41]).er=0->∀(i y:Nat) (u:Value),(zbG rx st).2[i]?=some y->vs[i]?=some u->TR w' w.heap.size (zbG rx st).1.L y u)/\Fr (λk=>k=pb∨k=eb) w w':=by
 have n2:¬eb=pb:=by omega
 have hzb:=ze heb;have hlt:=hR.lt;have HA0:zjp S pb eb p d w w v0 v1 v2 v3 v4 st [] [] (.slice none 0 0):=⟨hI,ho,hR,heb,World.ownsRow_nil _ _ _ _,rfl,λ_ i y u h _=>by simp at h,Fr.refl _ _,by simp⟩;have Hst:Hid (1201-st.t.a<1300):=by unfold Hid;omega
 have hRes0:zbG rx st=zc1 rx 1300 ((rx st).1,[]++[(rx st).2]):=rfl;obtain⟨i0,hi,hz0,hz1,hz2⟩:=info_parts Tryz.infoXp;obtain⟨R,hRes⟩:∃R,zbG rx st=R:=⟨_,rfl⟩;rw[hRes];rw[hRes] at hRes0;have HRes:=za hRes0.symm;clear hRes hRes0 hR hI ho heb;go_enter func206,ntmps206;go_wp2_with fail;go_loopg [2] 1300 (λk m wr=>∃(b:Bool) (s:St) (l:List Nat) (vs:List Value) (av:Value),m=.bool b/\Hid (zjp S pb eb p d w wr v0 v1 v2 v3 v4 s l vs av)/\Hid (b=true->zc1 rx k ((rx s).1,l++[(rx s).2])=R/\1201-s.t.a<k/\l.length+1<=s.t.a)/\Hid (b=false->(s,l)=R));case atStart=>exact⟨true,st,[],[],_,rfl,HA0,λ_=>⟨HRes.o,Hst.o,by simpa using ha⟩,λh=>by cases h⟩
 case round =>
  obtain⟨b,s,l,vs,av,rfl,HA,HT,HFa⟩:=hrel;have hz:=HA.o.fr.size;have hltr:=HA.o.pl.lt;have Hbp1:=HA.o.fr.keep2 Hbp n0 n4;have Hbe1:=HA.o.fr.keep2 Hbe n1 n5;obtain⟨p0,pf,pz⟩:=zu Hbp1;obtain⟨e0,ef,ez⟩:=zu Hbe1;cases b with
  | false => have HQ:=HFa.o rfl;have HBd:=za HA.o.inv.toBad;clear HT HFa;go_wp2_with (go_at_call 150;refine (zP S pb s _ [41] zlq _ HBd.o HA.o.pl).mono ?_;rintro e w2 ⟨rfl,HL2,HF2⟩);go_end0;rw[<- HQ];have hm:s.expM [41]=s.must 4 [41]:=zan HA.o.pl.tx (by decide);refine⟨rfl,vs,av,hm▸HL2,(HF2.block eb (ze HA.o.blk) n2).trans HA.o.blk,zi HA.o.own (λk h1 h2 _=>HF2.block k h2 (by omega)),HA.o.len,?_,HA.o.fr.trans' HF2 (λ_ _ h=>Or.inl h)⟩;intro Her i y u h1 h2;exact (HA.o.tr ((Fwd.must HA.o.inv 4 [41]).er0 Her) i y u h1 h2).now.fr HF2 (λk h1 _ h2=>by omega)
  | true =>
    obtain⟨hR1,Hrem,Hll⟩:=HT.o rfl;have Hg:=GX s p HA.o.inv HA.o.op;have HXs:=za (λw1 h=>HX S pb s p w1 HA.o.inv HA.o.op h);obtain⟨E,HE⟩:=Hg.L;have HR1:=za hR1;have hvl:vs.length<=1200:=(by have:=HA.o.few;have:=HA.o.inv.ok.ta_le;have:=HA.o.len;omega);have mx:vs.length+1<=maxLen:=(by unfold maxLen;omega);have by':(vs.length+1)*8<=140737488355328:=(by omega);obtain⟨d0,d1,d2,d3,d4,Hd5,df,dz⟩:=zt HA.o.blk;clear HT HFa hR1;go_upto_block 1 with fail;go_cut [] (λwx=>∃vs' av',Hid (zjp S pb eb p d w wx v0 v1 v2 v3 v4 (rx s).1 (l++[(rx s).2]) vs' av'));case first =>
     go_wp2_with fail;go_region_law (first|(refine zbL rfl 190 (.tmp 11) 172 rfl zpl (xP pb) rfl (HXs.o _ HA.o.pl.drew) ?_;rintro e w1 ⟨a1,rfl,HL1,hT1,hF1'⟩;refine⟨_,rfl,?_⟩;have HF1:Fr (·=pb) wr w1:=hF1'.undrew;have hzc:=HF1.size;have Heb1:=(HF1.block eb (ze HA.o.blk) n2).trans HA.o.blk;obtain⟨f0,f1,f2,f3,f4,f5,ff,fz⟩:=zt Heb1;obtain⟨j0,jf,jz⟩:=zu (Hbe1.fr HF1 n1);obtain⟨k0,kf,kz⟩:=zu (Hbp1.fr HF1 n0);have Hown1:=za (zi HA.o.own (λk h1 h2 _=>HF1.block k h2 (by omega)));have hzw:w.heap.size<=w1.heap.size+1:=(by omega);clear hF1')|(refine zJ _ rfl (.tmp 10) (.tmp 13) 224 rfl w.heap.size 182 i0 _ 1 8 underlying224 hi hz0 hz1 hz2 rfl (by decide) av vs.length vs rfl (zD Hown1.o _) (xD w1.heap.size 0) 1 1 [.pointer a1] rfl rfl (zN (zc w1 _) rfl) zku mx by' (by simpa using hzw) ?_;intro v' w9 Hown9 hgrow Hnew9;obtain⟨g9,cap9,rfl,hg9⟩:=zM Hown9 (by omega);have Hav:∀k,av.ownBlock=some k->w.heap.size<=k:=λk hk=>(Hown1.o.lt k hk).1;have HF9:=Fr.of_grown hgrow;have hb9:∀k,k<w.heap.size->w9.heap[k]?=w1.heap[k]?:=(λk hk=>(HF9.block k (by rw[zsb];omega) (λh=>by have:=Hav k h;omega)).trans (Below.heap_alloc _ _ _ (by omega)));obtain⟨m0,m1,m2,m3,m4,m5,mf,mz⟩:=zt ((hb9 eb hzb).trans Heb1);have Heb9:=za ((hb9 eb hzb).trans Heb1);obtain⟨o0,of',oz⟩:=zu ((hb9 be (ze Hbe)).trans (Hbe1.fr HF1 n1));have Hbp9:=za ((hb9 bp (ze Hbp)).trans (Hbp1.fr HF1 n0));have HL9:Hid (PL S w9 pb (rx s).1):=(HL1.alloc _).fr HF9 (λk hk=>by have:=Hav k hk;omega);clear hgrow hb9));all_goals go_wp2_with fail
     all_goals go_meet
     all_goals exact⟨_,_,zmt HA.o Hg Hll n3 hzb HF1 hT1.out HL9.o HF9 Heb9.o Hown9 Hnew9⟩
    case rest =>
     obtain⟨vs2,av2,HA2⟩:=hcut;have hzq:=HA2.o.fr.size;obtain⟨p2,pf2,pz2⟩:=zu (HA2.o.fr.keep2 Hbp n0 n4);have HBd:=za HA2.o.inv.toBad;have HSk:=za (zbg S pb (rx s).1 ⟨#[44]⟩ [44] zlz wc HBd.o HA2.o.pl);rw[zaB HA2.o.pl.tx (by decide)] at HSk;have hska:(rx s).1.skipM [44]=if (rx s).1.is 4 [44]=true then (rx s).1.step else (rx s).1:=(by unfold St.skipM;rw[zaB HA2.o.pl.tx (by decide)]);rw[hska] at HSk;clear p0 pf pz e0 ef ez d0 d1 d2 d3 d4 df dz hska;obtain⟨g,rfl⟩:∃g,gk=g+1:=⟨gk-1,by have:=Hrem;omega⟩;have hR1:=HR1.o;have hunf:zc1 rx (g+1) ((rx s).1,l++[(rx s).2])=if (rx s).1.er=0/\(rx s).1.is 4 [44]=true then zc1 rx g ((rx (rx s).1.step).1,(l++[(rx s).2])++[(rx (rx s).1.step).2]) else ((rx s).1,l++[(rx s).2]):=rfl;rw[hunf] at hR1;cases hc:(rx s).1.is 4 [44] with
     | true =>
       have Her:(rx s).1.er=0:=HBd.o.er (by rw[Inv.is_k hc];decide);rw[if_pos ⟨Her,hc⟩] at hR1;have HR2:=za hR1;rw[hc,if_pos rfl] at HSk;have e5:=Fwd.use HA2.o.inv Her (by rw[Inv.is_k hc];decide);have e5':=Fwd.step HA2.o.inv;have Hta:(rx s).1.t.a+1<=(rx s).1.step.t.a:=(by have h1:=HA2.o.inv.tok (by rw[Inv.is_k hc];decide);have h2:=zV (rx s).1.src (rx s).1.t.t HA2.o.inv.ok.tt;rw[St.step_ok Her];simp only;omega);have HS5:(rx s).1.step.L=(rx s).1.L:=St.step_L _;have HN:Hid (zc1 rx g ((rx (rx s).1.step).1,(l++[(rx s).2])++[(rx (rx s).1.step).2])=R/\1201-(rx s).1.step.t.a<g/\(l++[(rx s).2]).length+1<=(rx s).1.step.t.a):=by
        refine⟨HR2.o,?_,?_⟩
        . have h1:=Hg.ta;have h2:=Hrem;have h3:=HA.o.inv.ok.ta_le;have h4:=e5'.inv.ok.ta_le;omega
        . have h1:=HA2.o.few;omega
       have HI5:=za e5'.inv;clear hR1 hunf hc e5 e5';go_wp2_with (go_at_call 153;refine HSk.o.mono ?_;rintro e w3 ⟨rfl,HL3,HF3⟩);go_roundg g;case measure=>omega
       refine⟨true,(rx s).1.step,l++[(rx s).2],vs2,av2,rfl,⟨HI5.o,by rw[St.step_op];exact HA2.o.op,HL3,(HF3.block eb (ze HA2.o.blk) n2).trans HA2.o.blk,zi HA2.o.own (λk h1 h2 _=>HF3.block k h2 (by omega)),HA2.o.len,?_,HA2.o.fr.trans' HF3 (λ_ _ h=>Or.inl h),?_⟩,λ_=>HN.o,λh=>by cases h⟩
       . intro _ i y u h1 h2;rw[HS5];have:=(HA2.o.tr Her i y u h1 h2).next [] HF3 (av':=av2) (λk hk=>by left;omega) (λk hk=>Or.inl hk);rwa [List.append_nil] at this
       . have h1:=HA2.o.few;have h2:=Hta;omega
     | false =>
       rw[if_neg (by rw[hc];simp)] at hR1;have HR2:=za hR1;rw[hc,if_neg (by simp)] at HSk;clear hR1 hunf hc;go_wp2_with (go_at_call 153;refine HSk.o.mono ?_;rintro e w3 ⟨rfl,HL3,HF3⟩);go_roundg g;case measure=>omega
       refine⟨false,(rx s).1,l++[(rx s).2],vs2,av2,rfl,⟨HA2.o.inv,HA2.o.op,HL3,(HF3.block eb (ze HA2.o.blk) n2).trans HA2.o.blk,zi HA2.o.own (λk h1 h2 _=>HF3.block k h2 (by omega)),HA2.o.len,?_,HA2.o.fr.trans' HF3 (λ_ _ h=>Or.inl h),HA2.o.few⟩,(λh=>by cases h),λ_=>HR2.o⟩;intro Her i y u h1 h2;have:=(HA2.o.tr Her i y u h1 h2).next [] HF3 (av':=av2) (λk hk=>by left;omega) (λk hk=>Or.inl hk);rwa [List.append_nil] at this
end
end Go.Proofs.YtbicmofihhjgbaaGreatDoor
