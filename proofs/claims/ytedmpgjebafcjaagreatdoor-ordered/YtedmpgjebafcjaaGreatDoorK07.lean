/- Part 8 of the proof: CoeH CoeI CoeJ CoeK CoeL. -/
import Derived.Test.YtedmpgjebafcjaaGreatDoorK06
set_option maxRecDepth 100000
set_option maxHeartbeats 8000000
namespace Go.Proofs.YtedmpgjebafcjaaGreatDoor
section
open Go.RowKit
theorem zjf (st:St):∃(ns:ByteArray) (na:Nat),zcc st=.agg #[.string ns,.int .i64 na]/\(st.t.k=2->ns=st.t.s/\na=st.t.a):=by
 by_cases h:st.t.k=2
 · exact ⟨st.t.s,st.t.a,zgJ h,λ_=>⟨rfl,rfl⟩⟩
 · exact ⟨⟨#[]⟩,0,by unfold zcc;rw [if_neg h];rfl,λh2=>absurd h2 h⟩
theorem zjU (k:Int) (s:ByteArray) (a n:Int) (w:World):(Instr.field 144 (.agg #[.int .i64 k,.string s,.int .i64 a,.int .i64 n]) 2).run Tryz.prog w=.ok (.int .i64 a) w:=by kernel_rfl
theorem zka (k:Int) (s:ByteArray) (a n:Int) (w:World):(Instr.field 144 (.agg #[.int .i64 k,.string s,.int .i64 a,.int .i64 n]) 3).run Tryz.prog w=.ok (.int .i64 n) w:=by kernel_rfl
theorem zjM {d:Nat} {atm:Fn} (hA:zX d 205 atm) (gA:zv d atm):zX d 203 (zfu atm):=by
 intro S pb st p w hI ho hR
 have hlt:=hR.lt
 have g1:=gA st p hI ho
 have H1:=za (hA S pb st p w hI ho hR)
 have hM:zfu atm st=zaY 1300 (atm st):=rfl
 rw [hM]
 have G1:=za g1.inv
 clear hR hM g1 gA hA
 generalize atm st=x0 at *
 obtain ⟨R,hRes⟩:∃R,zaY 1300 x0=R:=⟨_,rfl⟩
 rw [hRes]
 have HRes:=za hRes
 clear hRes
 go_enter Tryz.func203,Tryz.ntmps203
 go_wp2_with fail
 refine H1.out.mono ?_
 rintro e w1 ⟨a1,rfl,hL1,hT1,hF1⟩
 have HL1:=za hL1
 have HF1:=za hF1
 clear hL1 hF1
 go_wp2_with fail
 go_loopg [3] 1300 (λk l wr=>∃(x:St×Nat) (a:Option Addr),l=.pointer a/\Hid (zaY k x=R)/\rem x.1<k/\Hid (Inv p x.1)/\Hid (PL S wr pb x.1)/\Hid (x.1.er=0->TR wr w.heap.size x.1.L x.2 (.pointer a))/\Hid (Fr (·=pb) w wr))
 case atStart =>
  refine ⟨x0,a1,rfl,HRes.out,?_,G1.out,HL1.out,hT1.out,HF1.out⟩
  unfold rem;split <;> omega
 case round =>
  obtain ⟨x,a,rfl,HF,hrem,HI2,HL2,HT2,HF2⟩:=hrel
  have hlt2:=HL2.out.lt
  obtain ⟨g,rfl⟩:∃g,gk=g+1:=⟨gk-1,by omega⟩
  have HOp:=za (zbd S pb x.1 wr.heap.size 2 [7,8] rfl (by decide) (wr.alloc (.cells #[.int .i64 7,.int .i64 8] 213)) (zcD wr _ _ _ rfl) (by decide) HI2.out.ok.tk (HL2.out.alloc _))
  rw [zpZ x.1 HI2.out.ok.tk HL2.out.tx] at HOp
  have hz2:=HF2.out.size
  cases hl:zdi x.1 with
  | false =>
    rw [hl,if_neg (by simp)] at HOp
    have hR2:R=x:=by
     rw [<- HF.out]
     show (if x.1.er=0/\zdi x.1=true then _ else x)=x
     rw [if_neg (by rw [hl];simp)]
    have HR2:=za hR2
    simp only [opV] at HOp
    clear hl hR2 HF
    go_wp2_with (go_at_call 184;refine HOp.out.mono ?_;rintro e w' ⟨rfl,rfl⟩)
    go_ret
    rw [HR2.out]
    exact ⟨a,rfl,HL2.out.alloc _,λhe=>(HT2.out he).fr ((Fr.refl (·=pb) wr).alloc _) (λk _ _ _=>by omega),HF2.out.alloc _⟩
  | true =>
    rw [hl,if_pos rfl] at HOp
    simp only [opV] at HOp
    have hk5:x.1.t.k=5:=by
     unfold zdi at hl
     simp only [Bool.or_eq_true] at hl
     rcases hl with h|h <;> exact Inv.is_k h
    have he:=HI2.out.toBad.er (by omega)
    have e3:=Fwd.use HI2.out he (by omega:2<=x.1.t.k)
    have e4:=Fwd.name e3.inv
    have HFn:Hid (zaY g (x.1.step.name.put ⟨x.1.t.s,x.1.t.a,x.1.step.t.a,[x.2],x.1.step.t.s,0⟩)=R):=by
     have h:=HF.out
     unfold Hid
     rw [<- h]
     show _=(if x.1.er=0/\zdi x.1=true then _ else x)
     rw [if_pos ⟨he,hl⟩]
    have hput:Hid (Inv p (x.1.step.name.put ⟨x.1.t.s,x.1.t.a,x.1.step.t.a,[x.2],x.1.step.t.s,0⟩).1):=(Fwd.put e4.inv _).inv
    have hrem':Hid (rem (x.1.step.name.put ⟨x.1.t.s,x.1.t.a,x.1.step.t.a,[x.2],x.1.step.t.s,0⟩).1<g):=by
     unfold Hid rem
     show (if x.1.step.name.er=0 then 1201-x.1.step.name.t.a else 0)<g
     have h1:rem x.1=1201-x.1.t.a:=by unfold rem;rw [if_pos he]
     have h2:=e4.ta
     have h3:x.1.t.a+1<=x.1.step.t.a:=by
      have:=HI2.out.tok (by omega)
      rw [St.step_ok he]
      have hf:=zV x.1.src x.1.t.t HI2.out.ok.tt
      simp only;omega
     have h4:=e4.inv.ok.ta_le
     have h5:=HI2.out.ok.ta_le
     split <;> omega
    have HB2:=za HI2.out.toBad
    have HB3:=za e3.inv.toBad
    have Hst:=za (zc8 HI2.out.toBad (by omega:x.1.t.k≠1))
    have Hk5:=za hk5
    obtain ⟨kk,hkk⟩:∃kk,zag x.1.t.s.toList 0=kk:=⟨_,rfl⟩
    rw [hkk] at HOp
    have Hkk:=za hkk
    have HLs:Hid (x.1.step.name.L=x.1.L):=by unfold Hid;rw [St.name_L,St.step_L]
    have HEn:Hid (x.1.step.name.er=0->x.1.step.t.k=2):=by
     intro h
     by_cases h2:x.1.step.t.k=2
     · exact h2
     · exfalso;unfold St.name at h;rw [if_neg h2] at h;exact St.fail_er _ (by decide) h
    have He:=za he
    have hfd:=zjU
    clear hl HF he e3 e4 hk5 hkk
    go_wp2_with (first|(go_at_call 184;refine HOp.out.mono ?_;rintro e w' ⟨rfl,rfl⟩)|(go_at_call 157;refine (zb9 S pb x.1 _ HB2.out.ok (Nat.le_trans (by decide) (Nat.le_of_eq Hk5.out.symm)) (HL2.out.alloc _)).mono ?_;rintro e w3 ⟨rfl,hL3,hF3⟩;rw [Hst.out] at hL3;have HL3:=za hL3;have HF3:=za hF3;clear hL3 hF3;simp only [Tk.cval]))
    obtain ⟨ns,na,hnv,hnk⟩:=zjf x.1.step
    have HNk:=za hnk
    have HN:=za (zaZ S pb x.1.step w3 HB3.out HL3.out)
    rw [hnv] at HN
    clear hnv hnk
    go_wp2_with (go_at_call 131;refine HN.out.mono ?_;rintro e w4 ⟨rfl,hL4,hF4⟩;have HL4:=za hL4;have HF4:=za hF4;clear hL4 hF4)
    go_roundg g
    case measure=>omega
    have hF34:Fr (·=pb) wr w4:=(((Fr.refl _ wr).alloc _).trans HF3.out).trans HF4.out
    refine ⟨(x.1.step.name.put ⟨x.1.t.s,x.1.t.a,x.1.step.t.a,[x.2],x.1.step.t.s,0⟩),some ⟨w4.heap.size+1,0,none⟩,rfl,HFn,hrem'.out,hput,((HL4.out.alloc _).alloc _).put _,?_,(((HF2.out.trans hF34).alloc _).alloc _)⟩
    intro he'
    obtain ⟨r1,r2⟩:=HNk.out (HEn.out he')
    have hz4:=hF34.size
    refine TR.one (y:=x.2) (b:=w4.heap.size+1) (g:=w4.heap.size) (u:=.pointer a) (by omega) (by omega) ?_ ((Below.heap_alloc _ _ _ (by simp)).trans (zc w4 _)) rfl ?_
    · show _=some (Obj.cells #[.int .i64 (zag x.1.t.s.toList 0:Nat),.int .i64 x.1.t.a,.string x.1.step.t.s,.int .i64 x.1.step.t.a,.int .i64 (zbF x.1.t.s.toList 0:Nat),.slice (some ⟨w4.heap.size,0,none⟩) 1 1] 216 (0,0))
      rw [Hkk.out,zbK,<- r1,<- r2]
      have:=zc (w4.alloc (.cells #[.pointer a] 164)) (.cells #[.int .i64 kk,.int .i64 x.1.t.a,.string ns,.int .i64 na,.int .i64 0,.slice (some ⟨w4.heap.size,0,none⟩) 1 1] 216)
      simpa using this
    · show TR _ w.heap.size x.1.step.name.L x.2 (.pointer a)
      rw [HLs.out]
      exact (HT2.out He.out).fr ((hF34.alloc _).alloc _) (λk h1 _ h2=>by omega)
theorem zqJ:(⟨#[116,104,101,110]⟩:ByteArray).toList=[116,104,101,110]:=by decide +kernel
theorem zq2:(⟨#[101,108,115,101]⟩:ByteArray).toList=[101,108,115,101]:=by decide +kernel
theorem Fwd.er0 {p:Nat} {a b:St} (h:Fwd p a b) (hb:b.er=0):a.er=0:=by
 by_cases ha:a.er=0
 · exact ha
 · exact absurd hb (h.er ha)
theorem zjN {d:Nat} {rx:Fn} (hX:zX d 161 rx) (gX:zv d rx) (S:Nat->Addr) (pb:Nat) (st:St) (p:Nat) (w:World) (bp be eb:Nat) (v0 v1 v2 v3 v4 v5:Value) (s1 s2 s3:St×Nat) (h1:rx st=s1) (h2:rx (s1.1.must 5 [116,104,101,110])=s2) (h3:rx (s2.1.must 5 [101,108,115,101])=s3)
 (hI:Inv p st) (ho:18<=st.op+d) (hR:PL S w pb st) (hbp:Box w bp 199 (.pointer (some ⟨pb,0,none⟩))) (hbe:Box w be 164 (.pointer (some ⟨eb,0,none⟩))) (heb:w.heap[eb]?=some (.cells #[v0,v1,v2,v3,v4,v5] 216 (0,0))) (n0:¬bp=pb) (n1:¬be=pb) (n3:pb<eb) :
 Calls Tryz.prog 212 #[.pointer (some ⟨bp,0,none⟩),.pointer (some ⟨be,0,none⟩)] w λe w'=>e=.returned (.tuple #[])/\∃a1 a2 a3 g,PL S w' pb s3.1/\Hid (s3.1.er=0->TR w' w.heap.size s3.1.L s1.2 (.pointer a1)/\TR w' w.heap.size s3.1.L s2.2 (.pointer a2)/\TR w' w.heap.size s3.1.L s3.2 (.pointer a3)) /\
  w'.heap[eb]?=some (.cells #[v0,v1,v2,v3,v4,.slice (some ⟨g,0,none⟩) 3 3] 216 (0,0))/\w'.heap[g]?=some (.cells #[.pointer a1,.pointer a2,.pointer a3] 164 (0,0))/\w.heap.size<=g/\Fr (λk=>k=pb∨k=eb) w w':=by
 have n2:¬eb=pb:=by omega
 have g1:=gX st p hI ho
 have H1:=za (hX S pb st p w hI ho hR)
 have g1i:Inv p s1.1:=by rw [<- h1];exact g1.inv
 have g1o:s1.1.op=st.op:=by rw [<- h1];exact g1.op
 rw [h1] at H1
 have m1:=Fwd.must g1i 5 [116,104,101,110]
 have o1:18<=(s1.1.must 5 [116,104,101,110]).op+d:=by rw [St.must_op,g1o];exact ho
 have g2:=gX _ p m1.inv o1
 have H2:=za (λw1 h=>hX S pb _ p w1 m1.inv o1 h)
 have g2i:Inv p s2.1:=by rw [<- h2];exact g2.inv
 have g2o:s2.1.op=st.op:=by rw [<- h2,g2.op,St.must_op,g1o]
 rw [h2] at H2
 have m2:=Fwd.must g2i 5 [101,108,115,101]
 have o2:18<=(s2.1.must 5 [101,108,115,101]).op+d:=by rw [St.must_op,g2o];exact ho
 have g3:=gX _ p m2.inv o2
 have H3:=za (λw1 h=>hX S pb _ p w1 m2.inv o2 h)
 rw [h3] at H3
 have f2:Fwd p (s1.1.must 5 [116,104,101,110]) s2.1:=by rw [<- h2];exact g2.fwd
 have f3:Fwd p (s2.1.must 5 [101,108,115,101]) s3.1:=by rw [<- h3];exact g3.fwd
 obtain ⟨E2,hE2⟩:=f2.L
 obtain ⟨E3,hE3⟩:=f3.L
 rw [St.must_L] at hE2 hE3
 have HE2:=za hE2
 have HE3:=za hE3
 have HR32:=za (λh:s3.1.er=0=>m2.er0 (f3.er0 h))
 have HR21:=za (λh:s2.1.er=0=>m1.er0 (f2.er0 h))
 have HB1:=za g1i.toBad
 have HB2:=za g2i.toBad
 obtain ⟨c0,cf,cz⟩:=zu hbp
 obtain ⟨e0,ef,ez⟩:=zu hbe
 have Hbp:=za hbp
 have Hbe:=za hbe
 have Heb:=za heb
 have hzb:=ze heb
 have hlt:=hR.lt
 clear hR hI hX hbp hbe heb gX g1 g2 g3 m1 m2 o1 o2 hE2 hE3 h1 h2 h3 f2 f3 g1i g1o g2i g2o
 go_enter Tryz.func212,Tryz.ntmps212
 go_wp2_with fail
 refine H1.out.mono ?_
 rintro e w1 ⟨a1,rfl,hL1,hT1,hF1⟩
 have hz1:=hF1.size
 obtain ⟨d0,df,dz⟩:=zu (Hbp.out.fr hF1 n0)
 have HX1:=za (zP S pb s1.1 _ _ zqJ w1 HB1.out hL1)
 rw [ze6 hL1.tx (by decide)] at HX1
 have HL1:=za hL1
 have HF1:=za hF1
 clear hL1 hF1
 go_wp2_with (go_at_call 130;refine HX1.out.mono ?_;rintro e w2 ⟨rfl,hL2,hF2⟩;obtain ⟨i0,if',iz⟩:=zu ((Hbp.out.fr HF1.out n0).fr hF2 n0);have hz2:=hF2.size;have HL2:=za hL2;have HF2:=za hF2;clear hL2 hF2)
 refine (H2.out w2 HL2.out).mono ?_
 rintro e w3 ⟨a3,rfl,hL3,hT3,hF3⟩
 have hz3:=hF3.size
 have F13:=za ((HF1.out.trans HF2.out).trans hF3)
 obtain ⟨j0,jf,jz⟩:=zu (Hbp.out.fr F13.out n0)
 have HX2:=za (zP S pb s2.1 _ _ zq2 w3 HB2.out hL3)
 rw [ze6 hL3.tx (by decide)] at HX2
 have HL3:=za hL3
 have HF3:=za hF3
 clear hL3 hF3 d0 df dz i0 if' iz c0 cf cz
 go_wp2_with (go_at_call 130;refine HX2.out.mono ?_;rintro e w4 ⟨rfl,hL4,hF4⟩;have hz4:=hF4.size;have F14:=za (F13.out.trans hF4);obtain ⟨k0,kf,kz⟩:=zu (Hbp.out.fr F14.out n0);obtain ⟨l0,lf,lz⟩:=zu (Hbe.out.fr F14.out n1);have Heb4:=za ((F14.out.block eb hzb n2).trans Heb.out);have HL4:=za hL4;have HF4:=za hF4;clear hL4 hF4)
 clear j0 jf jz e0 ef ez
 clear HX1 HX2 H1 H2 HB1 HB2
 go_region_with (go_at_call 161;refine (H3.out _ HL4.out.drew).mono ?_;rintro e w5 ⟨a5,rfl,hL5,hT5,hF5'⟩;have hF5:Fr (·=pb) w4 w5:=hF5'.undrew;have hz5:=hF5.size;have F15:=za (F14.out.trans hF5);have heb5:=(hF5.block eb (ze Heb4.out) n2).trans Heb4.out;obtain ⟨d0,d1,d2,d3,d4,d5,df,dz⟩:=zt heb5;obtain ⟨f0,ff,fz⟩:=zu (Hbe.out.fr F15.out n1);have HL5:=za hL5;have HF5:=za hF5;have Heb5:=za heb5;clear hL5 hF5 heb5 hF5')
 all_goals go_wp2_with fail
 all_goals go_end0
 all_goals
  have hk5:(w5.setCell ⟨eb,5,none⟩ (.slice (some ⟨w5.heap.size,0,none⟩) 3 3)).heap.size=w5.heap.size:=by simp [World.setCell]
  refine ⟨rfl,a1,a3,a5,w5.heap.size,?_,?_,?_,?_,by omega,?_⟩
  · exact (HL5.out.setOther n3 _ _).alloc _
  · intro he3
    have t5:=hT5.out he3
    have t3:=hT3.out (HR32.out he3)
    have t1:=hT1.out (HR21.out (HR32.out he3))
    have F35:Fr (·=pb) w3 w5:=HF4.out.trans HF5.out
    have F15':Fr (·=pb) w1 w5:=(HF2.out.trans HF3.out).trans F35
    have Fend:Fr (·=eb) w5 ((w5.setCell ⟨eb,5,none⟩ (.slice (some ⟨w5.heap.size,0,none⟩) 3 3)).alloc (.cells #[.pointer a1,.pointer a3,.pointer a5] 164)):=((Fr.refl _ w5).set1 _ _).alloc _
    refine ⟨?_,?_,?_⟩
    · rw [HE3.out,HE2.out]
      exact (((t1.fr F15' (λk h1 _ h2=>by omega)).fr Fend (λk h1 _ h2=>by omega)).more E2).more E3
    · rw [HE3.out]
      exact (((t3.down (by omega:w.heap.size<=w2.heap.size)).fr F35 (λk h1 _ h2=>by omega)).fr Fend (λk h1 _ h2=>by omega)).more E3
    · exact (t5.down (by show w.heap.size<=w4.heap.size;omega)).fr Fend (λk h1 _ h2=>by omega)
  · exact (Below.heap_alloc _ _ _ (by rw [hk5];exact dz)).trans (zh _ _ _ _ Heb5.out)
  · have:=zc (w5.setCell ⟨eb,5,none⟩ (.slice (some ⟨w5.heap.size,0,none⟩) 3 3)) (.cells #[.pointer a1,.pointer a3,.pointer a5] 164)
    rw [hk5] at this
    exact this
  · exact (F15.out.with2 eb _ _).alloc _
theorem zkR:zH 212:=λ_ _=>by kernel_rfl
theorem kIf:zag sIf.toList 0=5:=by decide +kernel
structure zlO (w w0:World) (pb:Nat) (k a:Nat):Prop where
 bp:Box w0 w.heap.size 199 (.pointer (some ⟨pb,0,none⟩))
 eb:w0.heap[w.heap.size+1]?=some (.cells #[.int .i64 k,.int .i64 a,.string ⟨#[]⟩,.int .i64 0,.int .i64 0,.slice none 0 0] 216 (0,0))
 be:Box w0 (w.heap.size+1+1) 164 (.pointer (some ⟨w.heap.size+1,0,none⟩))
 fr:Fr (·=pb) w w0
 size:w0.heap.size=w.heap.size+1+1+1
theorem zoW (w:World) (pb k a:Nat):zlO w (((w.alloc (.cells #[.pointer (some ⟨pb,0,none⟩)] 199)).alloc (.cells #[.int .i64 k,.int .i64 a,.string ⟨#[]⟩,.int .i64 0,.int .i64 0,.slice none 0 0] 216)).alloc (.cells #[.pointer (some ⟨w.heap.size+1,0,none⟩)] 164)) pb k a:=by
 refine ⟨?_,?_,?_,(((Fr.refl _ w).alloc _).alloc _).alloc _,by simp⟩
 · exact (Below.heap_alloc _ _ _ (by simp;omega)).trans ((Below.heap_alloc _ _ _ (by simp)).trans (zc w _))
 · refine (Below.heap_alloc _ _ _ (by simp)).trans ?_
   have:=zc (w.alloc (.cells #[.pointer (some ⟨pb,0,none⟩)] 199)) (.cells #[.int .i64 k,.int .i64 a,.string ⟨#[]⟩,.int .i64 0,.int .i64 0,.slice none 0 0] 216)
   simpa using this
 · have:=zc ((w.alloc (.cells #[.pointer (some ⟨pb,0,none⟩)] 199)).alloc (.cells #[.int .i64 k,.int .i64 a,.string ⟨#[]⟩,.int .i64 0,.int .i64 0,.slice none 0 0] 216)) (.cells #[.pointer (some ⟨w.heap.size+1,0,none⟩)] 164)
   unfold Box
   simpa using this
theorem zkZ {d:Nat} {rx:Fn} (hX:zX d 161 rx) (gX:zv d rx) (S:Nat->Addr) (pb:Nat) (st:St) (p:Nat) (w:World) (hI:Inv p st) (hk:2<=st.t.k) (ho:18<=st.op+(d+1)) (hR:PL S w pb st) :
 Calls Tryz.prog 209 #[.pointer (some ⟨pb,0,none⟩)] w (zaW S pb w.heap.size w (zdx rx st).1 (zdx rx st).2):=by
 have hlt:=hR.lt
 have hmf:∀(fn:Go.Fn) (first cap:Array Value) (w:World),(Instr.makeFunc fn first cap).run Tryz.prog w=.ok (.func fn first cap) w:=λ_ _ _ _=>rfl
 have he:=hI.toBad.er (by omega)
 have e1:=Fwd.enter hI he hk
 have hoE:18<=st.enter.op+d:=by rw [St.enter_op];omega
 obtain ⟨s1,h1⟩:∃s,rx st.enter=s:=⟨_,rfl⟩
 obtain ⟨s2,h2⟩:∃s,rx (s1.1.must 5 [116,104,101,110])=s:=⟨_,rfl⟩
 obtain ⟨s3,h3⟩:∃s,rx (s2.1.must 5 [101,108,115,101])=s:=⟨_,rfl⟩
 have hM:zdx rx st=s3.1.leave.put ⟨sIf,st.t.a,0,[s1.2,s2.2,s3.2],sE,0⟩:=by unfold zdx;simp only [h1,h2,h3]
 rw [hM]
 have g1:=gX st.enter (p+1) e1.inv hoE
 have g1i:Inv (p+1) s1.1:=by rw [<- h1];exact g1.inv
 have g1o:s1.1.op=st.op+1:=by rw [<- h1,g1.op,St.enter_op]
 have m1:=Fwd.must g1i 5 [116,104,101,110]
 have g2:=gX _ (p+1) m1.inv (by rw [St.must_op,g1o];omega)
 have g2i:Inv (p+1) s2.1:=by rw [<- h2];exact g2.inv
 have g2o:s2.1.op=st.op+1:=by rw [<- h2,g2.op,St.must_op,g1o]
 have m2:=Fwd.must g2i 5 [101,108,115,101]
 have g3:=gX _ (p+1) m2.inv (by rw [St.must_op,g2o];omega)
 have g3o:s3.1.op=st.op+1:=by rw [<- h3,g3.op,St.must_op,g2o]
 have HD:Hid (st.op=16->s3.1.leave=st.fail 3 st.t.a):=by
  intro h16
  have hE:=St.enter_deep h16
  have he3:st.enter.er≠0:=by rw [hE];exact St.fail_er _ (by decide)
  have q1:s1.1=st.enter:=by rw [<- h1,g1.er he3]
  have q2:s1.1.must 5 [116,104,101,110]=st.enter:=by rw [q1,hE];exact St.fail_must _ (by decide) (by decide)
  have q3:s2.1=st.enter:=by rw [<- h2,g2.er (by rw [q2];exact he3),q2]
  have q4:s2.1.must 5 [101,108,115,101]=st.enter:=by rw [q3,hE];exact St.fail_must _ (by decide) (by decide)
  have q5:s3.1=st.enter:=by rw [<- h3,g3.er (by rw [q4];exact he3),q4]
  rw [q5,zd0 h16]
 have HC:=za (λw1 b0 b1 b2 hR1=>zjN hX gX S pb st.enter (p+1) w1 w.heap.size (w.heap.size+1+1) (w.heap.size+1) (.int .i64 5) (.int .i64 st.t.a) (.string ⟨#[]⟩) (.int .i64 0) (.int .i64 0) (.slice none 0 0) s1 s2 s3 h1 h2 h3 e1.inv hoE hR1 b0 b1 b2 (by omega) (by omega) (by omega))
 have HR:=za hR
 have HI:=za hI
 have HgO:=za g3o
 clear hR hI hX gX e1 g1 g2 g3 m1 m2 hoE he h1 h2 h3 hM g1i g1o g2i g2o g3o
 go_enter Tryz.func209,Tryz.ntmps209
 go_wp2_with (go_at_call 173;refine (zb8 S pb st 5 _ (HR.out.alloc _)).mono ?_;rintro e w' ⟨rfl,rfl⟩)
 have T0:=zoW w pb 5 st.t.a
 have hL0:=((HR.out.alloc (.cells #[.pointer (some ⟨pb,0,none⟩)] 199)).alloc (.cells #[.int .i64 5,.int .i64 st.t.a,.string ⟨#[]⟩,.int .i64 0,.int .i64 0,.slice none 0 0] 216)).alloc (.cells #[.pointer (some ⟨w.heap.size+1,0,none⟩)] 164)
 obtain ⟨w0,hw0⟩:∃w0,(((w.alloc (.cells #[.pointer (some ⟨pb,0,none⟩)] 199)).alloc (.cells #[.int .i64 5,.int .i64 st.t.a,.string ⟨#[]⟩,.int .i64 0,.int .i64 0,.slice none 0 0] 216)).alloc (.cells #[.pointer (some ⟨w.heap.size+1,0,none⟩)] 164))=w0:=⟨_,rfl⟩
 have T1:zlO w w0 pb 5 st.t.a:=hw0▸T0
 have hL1:PL S w0 pb st:=hw0▸hL0
 refine Eq.mpr (congrArg (λz=>Calls Tryz.prog 170 _ z _) hw0) ?_
 clear T0 hL0 hw0
 refine (zdz _ _ zkR S pb st p w0 HI.out hk hL1 (λe w'=>e=.returned (.tuple #[])/\Box w' (w.heap.size+1+1) 164 (.pointer (some ⟨w.heap.size+1,0,none⟩))/\zaW S pb w.heap.size w (s3.1.leave.put ⟨sIf,st.t.a,0,[s1.2,s2.2,s3.2],sE,0⟩).1 (s3.1.leave.put ⟨sIf,st.t.a,0,[s1.2,s2.2,s3.2],sE,0⟩).2 (.returned (.pointer (some ⟨w.heap.size+1,0,none⟩))) w') ?_ ?_).mono ?_
 · intro hlt16 w2 hL2 hF2
   refine (HC.out w2 (T1.bp.fr hF2 (by omega)) (T1.be.fr hF2 (by omega)) ((hF2.block _ (ze T1.eb) (by omega)).trans T1.eb) hL2).mono ?_
   rintro e w3 ⟨rfl,a1,a2,a3,g,hL3,hT3,hb3,hg3,hzg,hF3⟩
   refine ⟨rfl,s3.1,hL3,by rw [HgO.out];omega,by rw [HgO.out];omega,?_⟩
   intro w4 hL4 hF4
   have hFw:Fr (·=pb) w w4:=(Fr.drop2 (T1.fr.trans hF2) hF3 (by omega)).trans hF4
   have hz02:w0.heap.size<=w2.heap.size:=hF2.size
   have hz0:=T1.size
   refine ⟨rfl,Box.fr (Fr.keep2 hF3 (T1.be.fr hF2 (by omega)) (by omega) (by omega)) hF4 (by omega),_,rfl,hL4.put _,?_,hFw⟩
   intro he'
   obtain ⟨t1,t2,t3⟩:=hT3.out he'
   refine TR.three (x:=s1.2) (y:=s2.2) (z:=s3.2) (g:=g) (t:=.pointer a1) (u:=.pointer a2) (v:=.pointer a3) (by omega) (by omega) ?_ ((hF4.block g (ze hg3) (by omega)).trans hg3) rfl ?_ ?_ ?_
   · show _=some (Obj.cells #[.int .i64 (zag sIf.toList 0:Nat),.int .i64 st.t.a,.string ⟨#[]⟩,.int .i64 (0:Nat),.int .i64 (zbF sIf.toList 0:Nat),.slice (some ⟨g,0,none⟩) 3 3] 216 (0,0))
     rw [kIf,zbK]
     exact (hF4.block _ (ze hb3) (by omega)).trans hb3
   · exact (t1.fr hF4 (λk h1 _ h2=>by omega)).down (by omega)
   · exact (t2.fr hF4 (λk h1 _ h2=>by omega)).down (by omega)
   · exact (t3.fr hF4 (λk h1 _ h2=>by omega)).down (by omega)
 · intro h16 w3 hL3 hF3
   rw [HD.out h16]
   exact ⟨rfl,T1.be.fr hF3 (by omega),_,rfl,hL3.put _,λhe'=>absurd he' (St.fail_er st (by decide)),T1.fr.trans hF3⟩
 · rintro e w4 ⟨rfl,hb4,hQ⟩
   obtain ⟨f0,ff,fz⟩:=zu hb4
   have HQ:=za hQ
   clear hQ hb4 T1 hL1
   go_wp2_with fail
   go_ret
   exact HQ.out
theorem zli {d:Nat} {sd:Fn} (hS:zX d 214 sd) (gS:zv d sd) (S:Nat->Addr) (pb:Nat) (st:St) (p:Nat) (w:World) (bp be eb:Nat) (v0 v1 v2 v3 v4 v5:Value) (ns:ByteArray) (na:Nat) (hnv:zcc st=.agg #[.string ns,.int .i64 na]) (s1 s2:St×Nat) (h1:sd st.name=s1) (h2:sd s1.1=s2)
 (hI:Inv p st) (ho:18<=st.op+d) (hR:PL S w pb st) (hbp:Box w bp 199 (.pointer (some ⟨pb,0,none⟩))) (hbe:Box w be 164 (.pointer (some ⟨eb,0,none⟩))) (heb:w.heap[eb]?=some (.cells #[v0,v1,v2,v3,v4,v5] 216 (0,0))) (n0:¬bp=pb) (n1:¬be=pb) (n3:pb<eb) (n4:¬bp=eb) (n5:¬be=eb) :
 Calls Tryz.prog 213 #[.pointer (some ⟨bp,0,none⟩),.pointer (some ⟨be,0,none⟩)] w λe w'=>e=.returned (.tuple #[])/\∃a1 a2 g,PL S w' pb s2.1/\Hid (s2.1.er=0->TR w' w.heap.size s2.1.L s1.2 (.pointer a1)/\TR w' w.heap.size s2.1.L s2.2 (.pointer a2)) /\
  w'.heap[eb]?=some (.cells #[v0,v1,.string ns,.int .i64 na,v4,.slice (some ⟨g,0,none⟩) 2 2] 216 (0,0))/\w'.heap[g]?=some (.cells #[.pointer a1,.pointer a2] 164 (0,0))/\w.heap.size<=g/\Fr (λk=>k=pb∨k=eb) w w':=by
 have n2:¬eb=pb:=by omega
 have f0:=Fwd.name hI
 have HN:=za (λw1 h=>zaZ S pb st w1 hI.toBad h)
 rw [hnv] at HN
 have o0:18<=st.name.op+d:=by rw [St.name_op];exact ho
 have g1:=gS st.name p f0.inv o0
 have H1:=za (λw1 h=>hS S pb st.name p w1 f0.inv o0 h)
 have g1i:Inv p s1.1:=by rw [<- h1];exact g1.inv
 have g1o:s1.1.op=st.op:=by rw [<- h1,g1.op,St.name_op]
 rw [h1] at H1
 have o1:18<=s1.1.op+d:=by rw [g1o];exact ho
 have g2:=gS _ p g1i o1
 have H2:=za (λw1 h=>hS S pb s1.1 p w1 g1i o1 h)
 rw [h2] at H2
 have f2:Fwd p s1.1 s2.1:=by rw [<- h2];exact g2.fwd
 obtain ⟨E2,hE2⟩:=f2.L
 have HE2:=za hE2
 have HR21:=za (λh:s2.1.er=0=>f2.er0 h)
 obtain ⟨c0,cf,cz⟩:=zu hbp
 obtain ⟨e0,ef,ez⟩:=zu hbe
 have HR:=za hR
 have Hbp:=za hbp
 have Hbe:=za hbe
 have Heb:=za heb
 have hzb:=ze heb
 have hlt:=hR.lt
 clear hR hI hS hbp hbe heb gS g1 g2 o0 o1 hE2 h1 h2 f2 f0 g1i g1o hnv
 go_enter Tryz.func213,Tryz.ntmps213
 go_wp2_with fail
 go_region_with (go_at_call 131;refine (HN.out _ HR.out.drew).mono ?_;rintro e w1 ⟨rfl,hL1,hF1'⟩;have hF1:Fr (·=pb) w w1:=hF1'.undrew;have hz1:=hF1.size;have heb1:=(hF1.block eb hzb n2).trans Heb.out;obtain ⟨d0,d1,d2,d3,d4,d5,df,dz⟩:=zt heb1;obtain ⟨f0,ff,fz⟩:=zu (Hbe.out.fr hF1 n1);have HL1:=za hL1;have HF1:=za hF1;have Heb1:=za heb1;clear hL1 hF1 heb1 hF1')
 all_goals
  have hF2:Fr (λk=>k=pb∨k=eb) w ((w1.setCell ⟨eb,2,none⟩ (.string ns)).setCell ⟨eb,3,none⟩ (.int .i64 na)):=(HF1.out.with2 eb _ _).setCell (Or.inl (Or.inr rfl)) _
  have heb2:((w1.setCell ⟨eb,2,none⟩ (.string ns)).setCell ⟨eb,3,none⟩ (.int .i64 na)).heap[eb]?=some (.cells #[v0,v1,.string ns,.int .i64 na,v4,v5] 216 (0,0)):=zh _ _ _ _ (zh _ _ _ _ Heb1.out)
  have hL2:PL S ((w1.setCell ⟨eb,2,none⟩ (.string ns)).setCell ⟨eb,3,none⟩ (.int .i64 na)) pb st.name:=(HL1.out.setOther n3 _ _).setOther n3 _ _
  have hbe2:=hF2.keep2 Hbe.out n1 n5
  have hbp2:=hF2.keep2 Hbp.out n0 n4
  clear d0 d1 d2 d3 d4 d5 df dz f0 ff fz HL1 HF1 Heb1
  generalize ((w1.setCell ⟨eb,2,none⟩ (.string ns)).setCell ⟨eb,3,none⟩ (.int .i64 na))=w2 at *
  obtain ⟨p0,pf,pz⟩:=zu hbp2
  have hz2:=hF2.size
  have Hbe2:=za hbe2
  have Hbp2:=za hbp2
  have Heb2:=za heb2
  have HL2:=za hL2
  have HF2:=za hF2
  clear hbe2 hbp2 heb2 hL2 hF2 c0 cf cz e0 ef ez hz1 Hbp Hbe Heb HR HN
  go_wp2_with fail
  refine (H1.out w2 HL2.out).mono ?_
  rintro e w3 ⟨a3,rfl,hL3,hT3,hF3⟩
  have hz3:=hF3.size
  have Heb3:=za ((hF3.block eb (ze Heb2.out) n2).trans Heb2.out)
  obtain ⟨k0,kf,kz⟩:=zu (Hbp2.out.fr hF3 n0)
  obtain ⟨l0,lf,lz⟩:=zu (Hbe2.out.fr hF3 n1)
  have HL3:=za hL3
  have HF3:=za hF3
  clear hL3 hF3 p0 pf pz
  go_wp2_with fail
  go_region_with (go_at_call 214;refine (H2.out _ HL3.out.drew).mono ?_;rintro e w5 ⟨a5,rfl,hL5,hT5,hF5'⟩;have hF5:Fr (·=pb) w3 w5:=hF5'.undrew;have hz5:=hF5.size;have heb5:=(hF5.block eb (ze Heb3.out) n2).trans Heb3.out;obtain ⟨d0,d1,d2,d3,d4,d5,df,dz⟩:=zt heb5;obtain ⟨f0,ff,fz⟩:=zu ((Hbe2.out.fr HF3.out n1).fr hF5 n1);have HL5:=za hL5;have HF5:=za hF5;have Heb5:=za heb5;clear hL5 hF5 heb5 hF5')
  all_goals go_wp2_with fail
  all_goals go_end0
  all_goals
   have hk5:(w5.setCell ⟨eb,5,none⟩ (.slice (some ⟨w5.heap.size,0,none⟩) 2 2)).heap.size=w5.heap.size:=by simp [World.setCell]
   refine ⟨rfl,a3,a5,w5.heap.size,?_,?_,?_,?_,by omega,?_⟩
   · exact (HL5.out.setOther n3 _ _).alloc _
   · intro he2
     have t5:=hT5.out he2
     have t3:=hT3.out (HR21.out he2)
     have Fend:Fr (·=eb) w5 ((w5.setCell ⟨eb,5,none⟩ (.slice (some ⟨w5.heap.size,0,none⟩) 2 2)).alloc (.cells #[.pointer a3,.pointer a5] 164)):=((Fr.refl _ w5).set1 _ _).alloc _
     refine ⟨?_,?_⟩
     · rw [HE2.out]
       exact (((t3.down hz2).fr HF5.out (λk h1 _ h2=>by omega)).fr Fend (λk h1 _ h2=>by omega)).more E2
     · exact (t5.down (by show w.heap.size<=w3.heap.size;omega)).fr Fend (λk h1 _ h2=>by omega)
   · exact (Below.heap_alloc _ _ _ (by rw [hk5];exact dz)).trans (zh _ _ _ _ Heb5.out)
   · have:=zc (w5.setCell ⟨eb,5,none⟩ (.slice (some ⟨w5.heap.size,0,none⟩) 2 2)) (.cells #[.pointer a3,.pointer a5] 164)
     rw [hk5] at this
     exact this
   · exact ((((HF2.out.trans' HF3.out (λ_ _ h=>Or.inl h)).trans' HF5.out (λ_ _ h=>Or.inl h)).setCell (Or.inl (Or.inr rfl)) _).alloc _)
theorem zmY:zH 213:=λ_ _=>by kernel_rfl
theorem zqI:zag zep.toList 0=6:=by decide +kernel
theorem St.fail_name (s:St) {e a:Nat} (he:e≠0):(s.fail e a).name=s.fail e a:=by
 unfold St.name
 have:(s.fail e a).t.k=1:=by unfold St.fail;split <;> rfl
 rw [if_neg (by omega)]
 exact St.fail_fail s he
theorem zmk {d:Nat} {ra:Fn} (hS:zX d 214 (zch ra)) (gA:zv d ra) (S:Nat->Addr) (pb:Nat) (st:St) (p:Nat) (w:World) (hI:Inv p st) (hk:2<=st.t.k) (ho:18<=st.op+(d+1)) (hR:PL S w pb st) :
 Calls Tryz.prog 210 #[.pointer (some ⟨pb,0,none⟩)] w (zaW S pb w.heap.size w (zeE ra st).1 (zeE ra st).2):=by
 have gS:zv d (zch ra):=zf0 gA
 have hlt:=hR.lt
 have hmf:∀(fn:Go.Fn) (first cap:Array Value) (w:World),(Instr.makeFunc fn first cap).run Tryz.prog w=.ok (.func fn first cap) w:=λ_ _ _ _=>rfl
 have he:=hI.toBad.er (by omega)
 have e1:=Fwd.enter hI he hk
 have hoE:18<=st.enter.op+d:=by rw [St.enter_op];omega
 obtain ⟨s1,h1⟩:∃s,zch ra st.enter.name=s:=⟨_,rfl⟩
 obtain ⟨s2,h2⟩:∃s,zch ra s1.1=s:=⟨_,rfl⟩
 obtain ⟨ns,na,hnv,hnk⟩:=zjf st.enter
 have hM:zeE ra st=s2.1.leave.put ⟨zep,st.t.a,st.enter.t.a,[s1.2,s2.2],st.enter.t.s,0⟩:=by unfold zeE;simp only [h1,h2]
 rw [hM]
 have f0:=Fwd.name e1.inv
 have g1:=gS st.enter.name (p+1) f0.inv (by rw [St.name_op];exact hoE)
 have g1i:Inv (p+1) s1.1:=by rw [<- h1];exact g1.inv
 have g1o:s1.1.op=st.op+1:=by rw [<- h1,g1.op,St.name_op,St.enter_op]
 have g2:=gS _ (p+1) g1i (by rw [g1o];omega)
 have g2o:s2.1.op=st.op+1:=by rw [<- h2,g2.op,g1o]
 have f1:Fwd (p+1) st.enter.name s1.1:=by rw [<- h1];exact g1.fwd
 have f2:Fwd (p+1) s1.1 s2.1:=by rw [<- h2];exact g2.fwd
 have HNk:Hid (s2.1.er=0->ns=st.enter.t.s/\na=st.enter.t.a):=by
  intro h
  apply hnk
  have h3:=f1.er0 (f2.er0 h)
  by_cases h4:st.enter.t.k=2
  · exact h4
  · exfalso;unfold St.name at h3;rw [if_neg h4] at h3;exact St.fail_er _ (by decide) h3
 have HD:Hid (st.op=16->s2.1.leave=st.fail 3 st.t.a):=by
  intro h16
  have hE:=St.enter_deep h16
  have he3:st.enter.er≠0:=by rw [hE];exact St.fail_er _ (by decide)
  have q0:st.enter.name=st.enter:=by rw [hE];exact St.fail_name _ (by decide)
  have q1:s1.1=st.enter:=by rw [<- h1,g1.er (by rw [q0];exact he3),q0]
  have q3:s2.1=st.enter:=by rw [<- h2,g2.er (by rw [q1];exact he3),q1]
  rw [q3,zd0 h16]
 have HC:=za (λw1 b0 b1 b2 hR1=>zli hS gS S pb st.enter (p+1) w1 w.heap.size (w.heap.size+1+1) (w.heap.size+1) (.int .i64 6) (.int .i64 st.t.a) (.string ⟨#[]⟩) (.int .i64 0) (.int .i64 0) (.slice none 0 0) ns na hnv s1 s2 h1 h2 e1.inv hoE hR1 b0 b1 b2 (by omega) (by omega) (by omega) (by omega) (by omega))
 have HR:=za hR
 have HI:=za hI
 have HgO:=za g2o
 clear hR hI hS gS gA e1 g1 g2 hoE he h1 h2 hM g1i g1o g2o f0 f1 f2 hnv hnk
 go_enter Tryz.func210,Tryz.ntmps210
 go_wp2_with (go_at_call 173;refine (zb8 S pb st 6 _ (HR.out.alloc _)).mono ?_;rintro e w' ⟨rfl,rfl⟩)
 have T0:=zoW w pb 6 st.t.a
 have hL0:=((HR.out.alloc (.cells #[.pointer (some ⟨pb,0,none⟩)] 199)).alloc (.cells #[.int .i64 6,.int .i64 st.t.a,.string ⟨#[]⟩,.int .i64 0,.int .i64 0,.slice none 0 0] 216)).alloc (.cells #[.pointer (some ⟨w.heap.size+1,0,none⟩)] 164)
 obtain ⟨w0,hw0⟩:∃w0,(((w.alloc (.cells #[.pointer (some ⟨pb,0,none⟩)] 199)).alloc (.cells #[.int .i64 6,.int .i64 st.t.a,.string ⟨#[]⟩,.int .i64 0,.int .i64 0,.slice none 0 0] 216)).alloc (.cells #[.pointer (some ⟨w.heap.size+1,0,none⟩)] 164))=w0:=⟨_,rfl⟩
 have T1:zlO w w0 pb 6 st.t.a:=hw0▸T0
 have hL1:PL S w0 pb st:=hw0▸hL0
 refine Eq.mpr (congrArg (λz=>Calls Tryz.prog 170 _ z _) hw0) ?_
 clear T0 hL0 hw0
 refine (zdz _ _ zmY S pb st p w0 HI.out hk hL1 (λe w'=>e=.returned (.tuple #[])/\Box w' (w.heap.size+1+1) 164 (.pointer (some ⟨w.heap.size+1,0,none⟩))/\zaW S pb w.heap.size w (s2.1.leave.put ⟨zep,st.t.a,st.enter.t.a,[s1.2,s2.2],st.enter.t.s,0⟩).1 (s2.1.leave.put ⟨zep,st.t.a,st.enter.t.a,[s1.2,s2.2],st.enter.t.s,0⟩).2 (.returned (.pointer (some ⟨w.heap.size+1,0,none⟩))) w') ?_ ?_).mono ?_
 · intro hlt16 w2 hL2 hF2
   refine (HC.out w2 (T1.bp.fr hF2 (by omega)) (T1.be.fr hF2 (by omega)) ((hF2.block _ (ze T1.eb) (by omega)).trans T1.eb) hL2).mono ?_
   rintro e w3 ⟨rfl,a1,a2,g,hL3,hT3,hb3,hg3,hzg,hF3⟩
   refine ⟨rfl,s2.1,hL3,by rw [HgO.out];omega,by rw [HgO.out];omega,?_⟩
   intro w4 hL4 hF4
   have hFw:Fr (·=pb) w w4:=(Fr.drop2 (T1.fr.trans hF2) hF3 (by omega)).trans hF4
   have hz02:w0.heap.size<=w2.heap.size:=hF2.size
   have hz0:=T1.size
   refine ⟨rfl,Box.fr (Fr.keep2 hF3 (T1.be.fr hF2 (by omega)) (by omega) (by omega)) hF4 (by omega),_,rfl,hL4.put _,?_,hFw⟩
   intro he'
   obtain ⟨t1,t2⟩:=hT3.out he'
   obtain ⟨r1,r2⟩:=HNk.out he'
   refine TR.two (y:=s1.2) (z:=s2.2) (g:=g) (u:=.pointer a1) (v:=.pointer a2) (by omega) (by omega) ?_ ((hF4.block g (ze hg3) (by omega)).trans hg3) rfl ?_ ?_
   · show _=some (Obj.cells #[.int .i64 (zag zep.toList 0:Nat),.int .i64 st.t.a,.string st.enter.t.s,.int .i64 st.enter.t.a,.int .i64 (zbF zep.toList 0:Nat),.slice (some ⟨g,0,none⟩) 2 2] 216 (0,0))
     rw [zqI,zbK,<- r1,<- r2]
     exact (hF4.block _ (ze hb3) (by omega)).trans hb3
   · exact (t1.fr hF4 (λk h1 _ h2=>by omega)).down (by omega)
   · exact (t2.fr hF4 (λk h1 _ h2=>by omega)).down (by omega)
 · intro h16 w3 hL3 hF3
   rw [HD.out h16]
   exact ⟨rfl,T1.be.fr hF3 (by omega),_,rfl,hL3.put _,λhe'=>absurd he' (St.fail_er st (by decide)),T1.fr.trans hF3⟩
 · rintro e w4 ⟨rfl,hb4,hQ⟩
   obtain ⟨f0,ff,fz⟩:=zu hb4
   have HQ:=za hQ
   clear hQ hb4 T1 hL1
   go_wp2_with fail
   go_ret
   exact HQ.out
end
end Go.Proofs.YtedmpgjebafcjaaGreatDoor
