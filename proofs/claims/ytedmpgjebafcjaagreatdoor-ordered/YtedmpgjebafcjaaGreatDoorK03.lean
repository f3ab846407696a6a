/- Part 4 of the proof: MdlH CodS CodT CodU MdlX App. -/
import Derived.Deep.RegionLaw
import Derived.Test.YtedmpgjebafcjaaGreatDoorK02
set_option maxRecDepth 100000
set_option maxHeartbeats 8000000
namespace Go.Proofs.YtedmpgjebafcjaaGreatDoor
section
theorem zaN.same {M N:Fn} {st:St} {p:Nat} (h:zaN N st p) (e:M st=N st):zaN M st p :=
 ⟨by rw [e];exact h.inv,by rw [e];exact h.op,by rw [e];exact h.src,by rw [e];exact h.ta,by rw [e];exact h.L,by rw [e];exact h.er,by rw [e];exact h.num⟩
theorem zaN.of_put {M:Fn} {st s1:St} {p:Nat} {e:Ex} (he:st.er=0) (hM:M st=s1.put e) (h:Fwd (p+1) st s1) (ho:s1.op=st.op):zaN M st p:=by
 refine zaN.of_fwd he ?_ ?_ ?_
 · rw [hM];exact h.trans (Fwd.put h.inv e)
 · rw [hM];exact ho
 · rw [hM];exact λ_=>zgp _ _
theorem zfk (op:ByteArray) (n:Nat) {st:St} {p:Nat} (hI:Inv p st) (he:st.er=0) (hk:2<=st.t.k):zaN (zdP op n) st p :=
 zaN.of_put he rfl (Fwd.use hI he hk) (St.step_op _)
theorem zjD {st:St} {p:Nat} (hI:Inv p st) (he:st.er=0) (hk:2<=st.t.k):zaN zjx st p :=
 zaN.of_put he rfl (Fwd.use hI he hk) (St.step_op _)
theorem St.leave_op (st:St):st.leave.op=st.op-1:=rfl
theorem zhu {d:Nat} {ru smp:Fn} (hU:zv d ru) (hS:zv (d+1) smp):zv (d+1) (zdn ru smp):=by
 intro st p hI ho
 by_cases hc:st.er=0/\(st.is 4 [45]||st.is 5 [110,111,116])=true
 · have hk:2<=st.t.k:=by
    rcases Bool.or_eq_true_iff.1 hc.2 with h|h
    · have:=Inv.is_k h;omega
    · have:=Inv.is_k h;omega
   have h1:=Fwd.enter hI hc.1 hk
   have h2:=hU st.enter (p+1) h1.inv (by rw [St.enter_op];omega)
   have h3:=Fwd.leave h2.inv
   refine zaN.of_put hc.1 (by unfold zdn;rw [if_pos hc]) ((h1.trans h2.fwd).trans h3) ?_
   rw [St.leave_op,h2.op,St.enter_op];rfl
 · exact (hS st p hI ho).same (by unfold zdn;rw [if_neg hc])
theorem zok {st:St} (h:zdi st=true):2<=st.t.k:=by
 rcases Bool.or_eq_true_iff.1 h with h|h
 · have:=Inv.is_k h;omega
 · have:=Inv.is_k h;omega
theorem ziC:∀(f p:Nat) (x:St×Nat),Inv p x.1->(x.1.er=0->x.2<x.1.L.length) ->
 Fwd p x.1 (zaY f x).1/\(zaY f x).1.op=x.1.op/\((zaY f x).1.er=0->(zaY f x).2<(zaY f x).1.L.length)/\(x.1.er≠0->zaY f x=x):=by
 intro f
 induction f with
 | zero=>intro p x hI hn;exact ⟨Fwd.refl hI,rfl,hn,λ_=>rfl⟩
 | succ f ih =>
   intro p x hI hn
   show Fwd p x.1 (if _ then _ else x).1/\(if _ then _ else x).1.op=x.1.op/\((if _ then _ else x).1.er=0->(if _ then _ else x).2<(if _ then _ else x).1.L.length)/\(x.1.er≠0->(if _ then _ else x)=x)
   by_cases hc:x.1.er=0/\zdi x.1=true
   · rw [if_pos hc]
     have h1:=Fwd.use hI hc.1 (zok hc.2)
     have h2:=Fwd.name h1.inv
     have h3:=Fwd.put h2.inv ⟨x.1.t.s,x.1.t.a,x.1.step.t.a,[x.2],x.1.step.t.s,0⟩
     have ho3:((x.1.step.name.put ⟨x.1.t.s,x.1.t.a,x.1.step.t.a,[x.2],x.1.step.t.s,0⟩).1).op=x.1.op:=(St.name_op _).trans (St.step_op _)
     have h4:=ih p _ h3.inv (λ_=>zgp _ _)
     exact ⟨((h1.trans h2).trans h3).trans h4.1,h4.2.1.trans ho3,h4.2.2.1,λe=>absurd hc.1 e⟩
   · rw [if_neg hc];exact ⟨Fwd.refl hI,rfl,hn,λ_=>rfl⟩
theorem zfY {d:Nat} {atm:Fn} (hP:zv d atm):zv d (zfu atm):=by
 intro st p hI ho
 have h1:=hP st p hI ho
 have h2:=ziC 1300 p (atm st) h1.inv h1.num
 refine ⟨h2.1.inv,h2.2.1.trans h1.op,h2.1.src.trans h1.src,Nat.le_trans h1.ta h2.1.ta,(h1.fwd.trans h2.1).L,λe=>?_,h2.2.2.1⟩
 have e1:=h1.er e
 show zaY 1300 (atm st)=(st,_)
 rw [h2.2.2.2 (by rw [e1];exact e)]
 exact Prod.ext (by rw [e1]) (by show _=(zaY 1300 (atm st)).2;rw [h2.2.2.2 (by rw [e1];exact e)])
theorem zln {d:Nat} {rx:Fn} (hP:zv d rx):∀(f p:Nat) (x:St×List Nat),Inv p x.1->18<=x.1.op+d->x.2.length<=x.1.t.a ->
 Fwd p x.1 (zc1 rx f x).1/\(zc1 rx f x).1.op=x.1.op/\(zc1 rx f x).2.length<=(zc1 rx f x).1.t.a:=by
 intro f
 induction f with
 | zero=>intro p x hI _ hl;exact ⟨Fwd.refl hI,rfl,hl⟩
 | succ f ih =>
   intro p x hI ho hl
   show Fwd p x.1 (if _ then _ else x).1/\(if _ then _ else x).1.op=x.1.op/\(if _ then _ else x).2.length<=(if _ then _ else x).1.t.a
   by_cases hc:x.1.er=0/\x.1.is 4 [44]=true
   · rw [if_pos hc]
     have hk:=Inv.is_k hc.2
     have h0:=Fwd.use hI hc.1 (by omega)
     have hta:x.1.t.a+1<=x.1.step.t.a:=by
      have:=hI.tok (by omega)
      rw [St.step_ok hc.1]
      have hf:=zV x.1.src x.1.t.t hI.ok.tt
      simp only;omega
     have h1:=Fwd.step hI
     have h2:=hP x.1.step p h1.inv (by rw [St.step_op];exact ho)
     have h4:=ih p ((rx x.1.step).1,x.2++[(rx x.1.step).2]) h2.inv (by rw [h2.op,St.step_op];exact ho) (by have:=h2.ta;simp only [List.length_append,List.length_cons,List.length_nil];omega)
     exact ⟨(h1.trans h2.fwd).trans h4.1,h4.2.1.trans (h2.op.trans (St.step_op _)),h4.2.2⟩
   · rw [if_neg hc];exact ⟨Fwd.refl hI,rfl,hl⟩
theorem zid {d:Nat} {rx:Fn} (hP:zv d rx) {st:St} {p:Nat} (hI:Inv p st) (ho:18<=st.op+d) (ha:1<=st.t.a):Fwd p st (zbG rx st).1/\(zbG rx st).1.op=st.op/\(zbG rx st).2.length<=(zbG rx st).1.t.a:=by
 have h1:=hP st p hI ho
 have h2:=zln hP 1300 p ((rx st).1,[(rx st).2]) h1.inv (by rw [h1.op];exact ho) (by have:=h1.ta;simp only [List.length_cons,List.length_nil];omega)
 exact ⟨h1.fwd.trans h2.1,h2.2.1.trans h1.op,h2.2.2⟩
theorem zis {d:Nat} {rx:Fn} (hP:zv d rx) (t:Tk) {st:St} {p:Nat} (hI:Inv p st) (he:st.er=0) (ho:18<=st.op+(d+1)) (ha:1<=st.t.a):zaN (zao rx t) st p:=by
 by_cases hc:st.is 4 [40]=true
 · have hk:=Inv.is_k hc
   have h1:=Fwd.enter hI he (by omega)
   have h2:=zid hP h1.inv (by rw [St.enter_op];omega) (Nat.le_trans ha h1.ta)
   have h3:=Fwd.must h2.1.inv 4 [41]
   have h4:=Fwd.leave h3.inv
   refine zaN.of_put he (by unfold zao;rw [if_pos hc]) (((h1.trans h2.1).trans h3).trans h4) ?_
   rw [St.leave_op,St.must_op,h2.2.1,St.enter_op];rfl
 · have e:zao rx t st=(st.fail 2 st.t.a,0):=by unfold zao;rw [if_neg hc]
   refine zaN.of_fwd he ?_ ?_ ?_
   · rw [e];exact Fwd.fail hI (by omega) (by omega) hI.ok.ta_le
   · rw [e];exact St.fail_op _ _ _
   · rw [e];exact λh=>absurd h (St.fail_er st (by omega))
theorem zj7 {d:Nat} {rx:Fn} (hP:zv d rx) {st:St} {p:Nat} (hI:Inv p st) (he:st.er=0) (hk:2<=st.t.k) (ho:18<=st.op+(d+1)):zaN (zdx rx) st p:=by
 have h1:=Fwd.enter hI he hk
 have o1:st.enter.op=st.op+1:=St.enter_op
 have h2:=hP st.enter (p+1) h1.inv (by rw [o1];omega)
 have h3:=Fwd.must h2.inv 5 [116,104,101,110]
 have o3:((rx st.enter).1.must 5 [116,104,101,110]).op=st.op+1:=by rw [St.must_op,h2.op,o1]
 have h4:=hP _ (p+1) h3.inv (by rw [o3];omega)
 have h5:=Fwd.must h4.inv 5 [101,108,115,101]
 have o5:((rx ((rx st.enter).1.must 5 [116,104,101,110])).1.must 5 [101,108,115,101]).op=st.op+1:=by rw [St.must_op,h4.op,o3]
 have h6:=hP _ (p+1) h5.inv (by rw [o5];omega)
 have h7:=Fwd.leave h6.inv
 refine zaN.of_put he rfl ((((((h1.trans h2.fwd).trans h3).trans h4.fwd).trans h5).trans h6.fwd).trans h7) ?_
 rw [St.leave_op,h6.op,o5];rfl
theorem zf0 {d:Nat} {atm:Fn} (hP:zv d atm):zv d (zch atm):=by
 intro st p hI ho
 by_cases hc:st.er≠0∨st.t.k≠2
 · exact (hP st p hI ho).same (by unfold zch;rw [if_pos hc])
 · exact (zjD hI (by omega) (by omega)).same (by unfold zch;rw [if_neg hc])
theorem zlU {d:Nat} {atm:Fn} (hP:zv d atm) {st:St} {p:Nat} (hI:Inv p st) (he:st.er=0) (hk:2<=st.t.k) (ho:18<=st.op+(d+1)):zaN (zeE atm) st p:=by
 have h1:=Fwd.enter hI he hk
 have h2:=Fwd.name h1.inv
 have o2:st.enter.name.op=st.op+1:=(St.name_op _).trans St.enter_op
 have h3:=zf0 hP st.enter.name (p+1) h2.inv (by rw [o2];omega)
 have h4:=zf0 hP _ (p+1) h3.inv (by rw [h3.op,o2];omega)
 have h5:=Fwd.leave h4.inv
 refine zaN.of_put he rfl ((((h1.trans h2).trans h3.fwd).trans h4.fwd).trans h5) ?_
 rw [St.leave_op,h4.op,h3.op,o2];rfl
theorem zlu {d:Nat} {rx:Fn} (hP:zv d rx) {st:St} {p:Nat} (hI:Inv p st) (he:st.er=0) (hk:2<=st.t.k) (ho:18<=st.op+(d+1)):zaN (zfQ rx) st p:=by
 have h1:=Fwd.enter hI he hk
 have h2:=hP st.enter (p+1) h1.inv (by rw [St.enter_op];omega)
 have h3:=Fwd.must h2.inv 4 [41]
 have h4:=Fwd.leave h3.inv
 have hf:=((h1.trans h2.fwd).trans h3).trans h4
 refine zaN.of_fwd he ⟨⟨hf.inv.ok,?_,hf.inv.op1,hf.inv.op0,hf.inv.bad,hf.inv.tok⟩,hf.src,hf.ta,hf.L,hf.er⟩ ?_ ?_
 · exact Nat.le_trans (Nat.add_le_add_left (Nat.le_succ p) _) hf.inv.pot
 · show ((rx st.enter).1.must 4 [41]).leave.op=_
   rw [St.leave_op,St.must_op,h2.op,St.enter_op];rfl
 · intro hz
   have hz1:((rx st.enter).1.must 4 [41]).er=0:=hz
   have hz2:(rx st.enter).1.er=0:=by
    by_cases h:(rx st.enter).1.er=0
    · exact h
    · exact absurd hz1 (h3.er h)
   have:=h2.num hz2
   show (rx st.enter).2<((rx st.enter).1.must 4 [41]).leave.L.length
   show (rx st.enter).2<((rx st.enter).1.must 4 [41]).L.length
   rw [St.must_L];exact this
theorem zh7 {d:Nat} {rx ra:Fn} (hX:zv d rx) (hA:zv d ra):zv (d+1) (zap rx ra):=by
 intro st p hI ho
 by_cases he:st.er=0
 · have hn:¬st.er≠0:=by omega
   have hfail:zaN (λst=>(st.fail 2 st.t.a,0)) st p:=by
    refine zaN.of_fwd he (Fwd.fail hI (by omega) (by omega) hI.ok.ta_le) (St.fail_op _ _ _) (λh=>absurd h (St.fail_er st (by omega)))
   by_cases h3:st.t.k=3
   · exact (zfk zcq st.t.n hI he (by omega)).same (by unfold zap;rw [if_neg hn,if_pos h3])
   · by_cases h2:st.t.k=2
     · by_cases hp:st.step.is 4 [40]=true
       · have e1:zap rx ra st=zao rx st.t st.step:=by unfold zap;rw [if_neg hn,if_neg h3,if_pos h2,if_pos hp]
         have hs:=Fwd.step hI
         have hta:1<=st.step.t.a:=by
          have:=hI.tok (by omega)
          rw [St.step_ok he]
          have hf:=zV st.src st.t.t hI.ok.tt
          simp only;omega
         have hg:=zis hX st.t hs.inv (by rw [St.step_er];exact he) (by rw [St.step_op];omega) hta
         have hw:=hs.trans hg.fwd
         refine zaN.of_fwd he ?_ ?_ ?_
         · rw [e1];exact hw
         · rw [e1];exact hg.op.trans (St.step_op _)
         · rw [e1];exact hg.num
       · exact (zjD hI he (by omega)).same (by unfold zap;rw [if_neg hn,if_neg h3,if_pos h2,if_neg hp])
     · by_cases c1:st.is 4 [40]=true
       · exact (zlu hX hI he (by have:=Inv.is_k c1;omega) (by omega)).same (by unfold zap;rw [if_neg hn,if_neg h3,if_neg h2,if_pos c1])
       · by_cases c2:st.is 5 [116,114,117,101]=true
         · exact (zfk zcb 1 hI he (by have:=Inv.is_k c2;omega)).same (by unfold zap;rw [if_neg hn,if_neg h3,if_neg h2,if_neg c1,if_pos c2])
         · by_cases c3:st.is 5 [102,97,108,115,101]=true
           · exact (zfk zcb 0 hI he (by have:=Inv.is_k c3;omega)).same (by unfold zap;rw [if_neg hn,if_neg h3,if_neg h2,if_neg c1,if_neg c2,if_pos c3])
           · by_cases c4:st.is 5 [105,102]=true
             · exact (zj7 hX hI he (by have:=Inv.is_k c4;omega) (by omega)).same (by unfold zap;rw [if_neg hn,if_neg h3,if_neg h2,if_neg c1,if_neg c2,if_neg c3,if_pos c4])
             · by_cases c5:st.is 5 [109,101,114,103,101]=true
               · exact (zlU hA hI he (by have:=Inv.is_k c5;omega) (by omega)).same (by unfold zap;rw [if_neg hn,if_neg h3,if_neg h2,if_neg c1,if_neg c2,if_neg c3,if_neg c4,if_pos c5])
               · exact hfail.same (by unfold zap;rw [if_neg hn,if_neg h3,if_neg h2,if_neg c1,if_neg c2,if_neg c3,if_neg c4,if_neg c5])
 · have e:zap rx ra st=(st,0):=by unfold zap;rw [if_pos he]
   exact ⟨by rw [e];exact hI,by rw [e],by rw [e],by rw [e];exact Nat.le_refl _,⟨[],by rw [e];simp⟩,λ_=>by rw [e],λh=>by rw [e] at h;exact absurd h he⟩
theorem zmd {d:Nat} {rx eith:Fn} (hX:zv d rx) (hE:zv (d+1) eith):zv (d+1) (zgk rx eith):=by
 intro st p hI ho
 have h1:=hE st p hI ho
 by_cases hc:(eith st).1.er=0/\(eith st).1.is 5 [102,98,121]=true
 · have h2:=Fwd.enter h1.inv hc.1 (by have:=Inv.is_k hc.2;omega)
   have h3:=hX _ (p+1) h2.inv (by rw [St.enter_op,h1.op];omega)
   have h4:=Fwd.leave h3.inv
   have he:st.er=0:=by
    by_cases he:st.er=0
    · exact he
    · exact absurd hc.1 (h1.fwd.er he)
   refine zaN.of_put he (by unfold zgk;simp only;rw [if_pos hc]) (((h1.fwd.trans h2).trans h3.fwd).trans h4) ?_
   rw [St.leave_op,h3.op,St.enter_op,h1.op];rfl
 · exact h1.same (by unfold zgk;simp only;rw [if_neg hc])
theorem zgP:∀d,zv d (lev d).ex/\zv d (lev d).un/\zv d (lev d).at':=by
 intro d
 induction d with
 | zero =>
   have h:∀M:Fn,zv 0 M:=λM st p hI ho=>by have:=hI.op1;omega
   exact ⟨h _,h _,h _⟩
 | succ d ih =>
   have ha:=zh7 ih.1 ih.2.2
   have hu:=zhu ih.2.1 (zfY ha)
   exact ⟨zmd ih.1 (zcF (zcF (zh6 (zcF (zcF hu))))),hu,ha⟩
end
section
open Go.RowKit
theorem zaP (S:Nat->Addr) (pb:Nat) (st:St) (s:ByteArray) (l:List UInt8) (hl:s.toList=l) (w:World) (hk:st.t.k<=5) (hR:PL S w pb st):Calls Tryz.prog 92 #[.pointer (some ⟨pb,0,none⟩),.string s] w λe w'=>e=.returned (.bool (st.atB l))/\w=w':=by
 subst hl;have:=zqT S pb st s w hR;rwa [zqP hk] at this
structure Bad (st:St):Prop where
 bad:st.er≠0->st.t.k=1
 ok:st.Ok
theorem Bad.er {st:St} (h:Bad st) (hk:st.t.k≠1):st.er=0:=by
 by_cases he:st.er=0
 · exact he
 · exact absurd (h.bad he) hk
theorem Bad.step {st:St} (h:Bad st):Bad st.step:=by
 refine ⟨λhe=>?_,h.ok.step⟩
 unfold St.step at he ⊢
 split
 · rename_i h0;rw [if_pos h0] at he;exact absurd h0 he
 · rename_i h0;exact h.bad h0
theorem Bad.fail {st:St} (h:Bad st) {e:Nat} (he:e<=11):Bad (st.fail e st.t.a):=by
 refine ⟨λ_=>?_,h.ok.fail he h.ok.ta_le⟩
 unfold St.fail
 split <;> rfl
theorem Bad.must {st:St} (h:Bad st) (k:Nat) (l:List UInt8):Bad (st.must k l):=by
 unfold St.must
 split
 · exact h.step
 · exact h.fail (by omega)
theorem Bad.name {st:St} (h:Bad st):Bad st.name:=by
 unfold St.name
 split
 · exact h.step
 · exact h.fail (by omega)
theorem Inv.toBad {p:Nat} {st:St} (h:Inv p st):Bad st:=⟨h.bad,h.ok⟩
theorem zoY {st:St} {l:List UInt8} (h:st.atB l=true):4<=st.t.k:=by
 unfold St.atB at h
 simp only [Bool.and_eq_true,Bool.or_eq_true,beq_iff_eq] at h
 omega
theorem zc8 {st:St} (h:Bad st) (hk:st.t.k≠1):({ st with t:=zZ st.src st.t.t }:St)=st.step:=by
 unfold St.step;rw [if_pos (h.er hk)]
def St.skipM (st:St) (l:List UInt8):St:=if st.atB l=true then st.step else st
theorem zbg (S:Nat->Addr) (pb:Nat) (st:St) (s:ByteArray) (l:List UInt8) (hl:s.toList=l) (w:World) (hB:Bad st) (hR:PL S w pb st):Calls Tryz.prog 133 #[.pointer (some ⟨pb,0,none⟩),.string s] w λe w'=>e=.returned (.bool (st.atB l))/\PL S w' pb (st.skipM l)/\Fr (·=pb) w w':=by
 have HA:=za (zaP S pb st s l hl w hB.ok.tk hR)
 have HR:=za hR
 have HB:=za hB
 clear hl hR hB
 cases hb:st.atB l with
 | true =>
   have hE:st.skipM l={ st with t:=zZ st.src st.t.t }:=by unfold St.skipM;rw [if_pos hb,zc8 HB.out (by have:=zoY hb;omega)]
   have HE:=za hE
   have Hk:=za (zoY hb)
   rw [hb] at HA
   clear hb hE
   go_enter Tryz.func133,Tryz.ntmps133
   go_wp2_with (first|(go_at_call 92;refine HA.out.mono ?_;rintro e w' ⟨rfl,rfl⟩)|(go_at_call 157;refine (zb9 S pb st _ HB.out.ok (Nat.le_trans (by decide) Hk.out) HR.out).mono ?_;rintro e w1 ⟨rfl,hL1,hF1⟩;have HL1:=za hL1;have HF1:=za hF1;clear hL1 hF1))
   go_ret
   exact ⟨rfl,by rw [HE.out];exact HL1.out,HF1.out⟩
 | false =>
   have hE:st.skipM l=st:=by unfold St.skipM;rw [if_neg (by rw [hb];simp)]
   have HE:=za hE
   rw [hb] at HA
   clear hb hE
   go_enter Tryz.func133,Tryz.ntmps133
   go_wp2_with (go_at_call 92;refine HA.out.mono ?_;rintro e w' ⟨rfl,rfl⟩)
   go_ret
   exact ⟨rfl,by rw [HE.out];exact HR.out,Fr.refl _ _⟩
def St.expM (st:St) (l:List UInt8):St:=if st.atB l=true then st.step else st.fail 2 st.t.a
theorem zan {st:St} (hT:Tx st.src st.t) {l:List UInt8} (hl:(zdX.any λx=>l==x)=false):st.expM l=st.must 4 l:=by unfold St.expM St.must;rw [zaB hT hl]
theorem ze6 {st:St} (hT:Tx st.src st.t) {l:List UInt8} (hl:(zdX.any λx=>l==x)=true):st.expM l=st.must 5 l:=by unfold St.expM St.must;rw [zar hT hl]
theorem zP (S:Nat->Addr) (pb:Nat) (st:St) (s:ByteArray) (l:List UInt8) (hl:s.toList=l) (w:World) (hB:Bad st) (hR:PL S w pb st):Calls Tryz.prog 130 #[.pointer (some ⟨pb,0,none⟩),.string s] w λe w'=>e=.returned (.int .i64 st.t.a)/\PL S w' pb (st.expM l)/\Fr (·=pb) w w':=by
 have HA:=za (zbg S pb st s l hl w hB hR)
 obtain ⟨h0,h1,h2,h3,h4,h5,h6⟩:=hR.cells
 clear hl hR hB
 cases hb:st.atB l with
 | true =>
   have hE:st.expM l=st.skipM l:=by unfold St.expM St.skipM;rw [if_pos hb,if_pos hb]
   have HE:=za hE
   rw [hb] at HA
   clear hb hE
   go_enter Tryz.func130,Tryz.ntmps130
   go_wp2_with (go_at_call 133;refine HA.out.mono ?_;rintro e w1 ⟨rfl,hL1,hF1⟩;have HL1:=za hL1;have HF1:=za hF1;clear hL1 hF1)
   go_ret
   exact ⟨rfl,by rw [HE.out];exact HL1.out,HF1.out⟩
 | false =>
   have hE:st.expM l=st.fail 2 st.t.a:=by unfold St.expM;rw [if_neg (by rw [hb];simp)]
   have hS:st.skipM l=st:=by unfold St.skipM;rw [if_neg (by rw [hb];simp)]
   have HE:=za hE
   rw [hb,hS] at HA
   clear hb hE hS
   go_enter Tryz.func130,Tryz.ntmps130
   go_wp2_with (first|(go_at_call 94;refine (zc5 S pb st 2 (by decide) _ HL1.out).mono ?_;rintro e w2 ⟨rfl,hL2,hF2⟩;have HL2:=za hL2;have HF2:=za hF2;clear hL2 hF2)|(go_at_call 133;refine HA.out.mono ?_;rintro e w1 ⟨rfl,hL1,hF1⟩;have hsyn:w1.cell? ⟨3,0,none⟩=some (.iface 293 (.pointer (some (S 2)))):=hL1.gl.syn;have HL1:=za hL1;have HF1:=za hF1;clear hL1 hF1))
   go_ret
   exact ⟨rfl,by rw [HE.out];exact HL2.out,HF1.out.trans HF2.out⟩
theorem zfF {fn:Func} {p:Tmp} (h:fn.results=#[.cell p 93]) {tmps:Array Value} {b:Nat} {w:World} (hp:tmps[p]?.getD undef=.pointer (some ⟨b,0,none⟩)) {v0 v1:Value} (hh:w.heap[b]?=some (.cells #[v0,v1] 93 (0,0))):(results fn tmps).run Tryz.prog w=.ok (.agg #[v0,v1]) w:=by
 obtain ⟨c0,c1,_⟩:=zp hh
 simp [results,h,hp,go_sem,c0,c1]
def zcc (st:St):Value:=if st.t.k=2 then .agg #[.string st.t.s,.int .i64 st.t.a] else .agg #[.string ⟨#[]⟩,.int .i64 0]
theorem zaZ (S:Nat->Addr) (pb:Nat) (st:St) (w:World) (hB:Bad st) (hR:PL S w pb st):Calls Tryz.prog 131 #[.pointer (some ⟨pb,0,none⟩)] w λe w'=>e=.returned (zcc st)/\PL S w' pb st.name/\Fr (·=pb) w w':=by
 obtain ⟨h0,h1,h2,h3,h4,h5,h6⟩:=hR.cells
 have hlt:=hR.lt
 have hne:¬w.heap.size=pb:=by omega
 have HR:=za hR
 have HB:=za hB
 clear hR hB
 by_cases hk:st.t.k=2
 · have hk':ck st.t=3:=by simp [ck,hk]
   have hE:st.name={ st with t:=zZ st.src st.t.t }:=by unfold St.name;rw [if_pos hk,zc8 HB.out (by omega)]
   have HE:=za hE
   have HV:Hid (zcc st=.agg #[.string st.t.s,.int .i64 st.t.a]):=by unfold Hid zcc;rw [if_pos hk]
   have HC:Hid (cs st.src st.t=st.t.s):=by unfold Hid cs;simp [hk]
   have Hk:=za hk
   rw [hk'] at h1
   clear hk hE hk'
   go_enter Tryz.func131,Tryz.ntmps131
   go_wp2_with (go_at_call 157;refine (zb9 S pb st _ HB.out.ok (Nat.le_of_eq Hk.out.symm) (HR.out.alloc _)).mono ?_;rintro e w1 ⟨rfl,hL1,hF1⟩;have HL1:=za hL1;have HF1:=za hF1;have hh:w1.heap[w.heap.size]?=some (.cells #[.string ⟨#[]⟩,.int .i64 0] 93 (0,0)):=(hF1.block _ (Nat.lt_of_lt_of_eq (Nat.lt_succ_self _) (by simp)) hne).trans (zc _ _);obtain ⟨d0,d1,df,dz⟩:=zp hh;have Hh:=za hh;clear hL1 hF1 hh;simp only [Tk.cval])
   refine bodyPost_ret (v:=zcc st) (by rw [HV.out,<- HC.out];exact zfF rfl rfl ((Below.heap_alloc _ _ _ (ze (zh _ _ _ _ (zh _ _ _ _ Hh.out)))).trans (zh _ _ _ _ (zh _ _ _ _ Hh.out)))) rfl ⟨rfl,?_,?_⟩
   · rw [HE.out]
     exact ((HL1.out.setOther hlt _ _).setOther hlt _ _).alloc _
   · exact (((((Fr.refl _ w).alloc _).trans HF1.out).setNew (Nat.le_refl _) _ _).setNew (Nat.le_refl _) _ _).alloc _
 · have hk':((ck st.t:Int) != 3)=true:=by
    have:ck st.t≠3:=by unfold ck;(repeat' split) <;> first|decide|(exfalso;omega)
    simp;omega
   have hE:st.name=st.fail 2 st.t.a:=by unfold St.name;rw [if_neg hk]
   have HE:=za hE
   have HV:Hid (zcc st=.agg #[.string ⟨#[]⟩,.int .i64 0]):=by unfold Hid zcc;rw [if_neg hk]
   have hsyn:w.cell? ⟨3,0,none⟩=some (.iface 293 (.pointer (some (S 2)))):=HR.out.gl.syn
   have hG:3<w.heap.size:=Nat.lt_of_lt_of_le (by decide) HR.out.gl.size
   clear hk hE
   go_enter Tryz.func131,Tryz.ntmps131
   go_wp2_with (go_at_call 94;refine (zc5 S pb st 2 (by decide) _ (HR.out.alloc _)).mono ?_;rintro e w1 ⟨rfl,hL1,hF1⟩;have HL1:=za hL1;have HF1:=za hF1;have hh:w1.heap[w.heap.size]?=some (.cells #[.string ⟨#[]⟩,.int .i64 0] 93 (0,0)):=(hF1.block _ (Nat.lt_of_lt_of_eq (Nat.lt_succ_self _) (by simp)) hne).trans (zc _ _);obtain ⟨d0,d1,df,dz⟩:=zp hh;have Hh:=za hh;clear hL1 hF1 hh)
   refine bodyPost_ret (v:=zcc st) (by rw [HV.out];exact zfF rfl rfl (zh _ _ _ _ (zh _ _ _ _ Hh.out))) rfl ⟨rfl,?_,?_⟩
   · rw [HE.out]
     exact (HL1.out.setOther hlt _ _).setOther hlt _ _
   · exact ((((Fr.refl _ w).alloc _).trans HF1.out).setNew (Nat.le_refl _) _ _).setNew (Nat.le_refl _) _ _
theorem zb8 (S:Nat->Addr) (pb:Nat) (st:St) (k:Nat) (w:World) (hR:PL S w pb st):Calls Tryz.prog 173 #[.pointer (some ⟨pb,0,none⟩),.int .i64 k] w λe w'=>e=.returned (.pointer (some ⟨w.heap.size,0,none⟩))/\w.alloc (.cells #[.int .i64 k,.int .i64 st.t.a,.string ⟨#[]⟩,.int .i64 0,.int .i64 0,.slice none 0 0] 216 (0,0))=w':=by
 obtain ⟨h0,h1,h2,h3,h4,h5,h6⟩:=hR.cells
 have hlt:=hR.lt
 clear hR
 go_enter Tryz.func173,Tryz.ntmps173
 go_wp2
 go_ret
 exact ⟨rfl,rfl⟩
theorem zm8 (S:Nat->Addr) (k:Nat) (s:ByteArray) (hk:zcY[k]?=some s) (w:World) (hG:Gl S w):Calls Tryz.prog 188 #[.int .i64 k] w λe w'=>e=.returned (.string s)/\w=w':=by
 have hc:=hG.words k s hk
 have hl:k<24:=by
  rcases Nat.lt_or_ge k 24 with h|h
  · exact h
  · rw [List.getElem?_eq_none (by simpa [zcY] using h)] at hk;cases hk
 have hi:(0:Int)<=(k:Int)/\(k:Int)<24:=by omega
 clear hk hG
 go_enter Tryz.func188,Tryz.ntmps188
 go_wp2
 go_ret
 exact ⟨rfl,rfl⟩
def wd (k:Nat):ByteArray:=(zcY[k]?).getD ⟨#[]⟩
def opM (st:St):List Nat->Option Nat
 | []=>none
 | k::ks=>if st.atB (wd k).toList=true then some k else opM st ks
def opV:Option Nat->Value
 | some k=>.tuple #[.int .i64 k,.bool true]
 | none=>.tuple #[.int .i64 0,.bool false]
theorem zbd (S:Nat->Addr) (pb:Nat) (st:St) (kb:Nat) (n:Nat) (ks:List Nat) (hn:n=ks.length) (hn4:ks.length<=100) (w:World) (hks:∀(i k:Nat),ks[i]?=some k->w.cell? ⟨kb,i,none⟩=some (.int .i64 k)) (h24:∀k∈ks,k<24) (hk:st.t.k<=5) (hR:PL S w pb st):Calls Tryz.prog 184 #[.pointer (some ⟨pb,0,none⟩),.slice (some ⟨kb,0,none⟩) n n] w λe w'=>e=.returned (opV (opM st ks))/\w=w':=by
 subst hn
 have HR:=za hR
 have Hks:=za hks
 have H24:=za h24
 have hk5:=za hk
 clear hR hks h24 hk
 go_enter Tryz.func184,Tryz.ntmps184
 go_wp2
 go_loop [10] (λi=>∃j:Nat,j<=ks.length/\i=.int .i64 j/\Hid (opM st (ks.drop j)=opM st ks)) (λi=>ks.length-(intOf i).toNat)
 case atStart=>exact ⟨0,Nat.zero_le _,rfl,rfl⟩
 case round =>
  obtain ⟨j,hj,rfl,HS⟩:=hrel
  by_cases hlt:j<ks.length
  · obtain ⟨k,hkj⟩:∃k,ks[j]?=some k:=⟨ks[j],zsc hlt⟩
    have hc:w.cell? ⟨kb,j,none⟩=some (.int .i64 k):=Hks.out j k hkj
    have hk24:=H24.out k (List.mem_of_getElem? hkj)
    obtain ⟨s,hs⟩:∃s,zcY[k]?=some s:=⟨zcY[k]'(by simpa [zcY] using hk24),by rw [zsc]⟩
    have hw:wd k=s:=by unfold wd;rw [hs];rfl
    have hd:ks.drop j=k::ks.drop (j+1):=by
     rw [List.getElem?_eq_some_iff] at hkj
     obtain ⟨h1,h2⟩:=hkj
     rw [<- h2];exact List.drop_eq_getElem_cons h1
    have HW:=za (zm8 S k s hs w HR.out.gl)
    have HA:=za (zaP S pb st s _ rfl w hk5.out HR.out)
    have hO:(if st.atB s.toList=true then some k else opM st (ks.drop (j+1)))=opM st ks:=by rw [<- HS.out,hd,<- hw];rfl
    clear HS hd hw hs hkj
    cases hb:st.atB s.toList with
    | true =>
      rw [hb,if_pos rfl] at hO
      rw [hb] at HA
      have HO:=za hO
      clear hb hO
      go_wp2_with (first|(go_at_call 188;refine HW.out.mono ?_;rintro e w' ⟨rfl,rfl⟩)|(go_at_call 92;refine HA.out.mono ?_;rintro e w' ⟨rfl,rfl⟩))
      refine bodyPost_ret (v:=opV (some k)) (by simp [results,Tryz.results184,go_sem,opV]) rfl ⟨by rw [<- HO.out],rfl⟩
    | false =>
      rw [hb,if_neg (by simp)] at hO
      rw [hb] at HA
      have HO:=za hO
      clear hb hO
      go_wp2_with (first|(go_at_call 188;refine HW.out.mono ?_;rintro e w' ⟨rfl,rfl⟩)|(go_at_call 92;refine HA.out.mono ?_;rintro e w' ⟨rfl,rfl⟩))
      go_round
      case rel=>exact ⟨j+1,by omega,by go_num,HO⟩
      case measure=>simp [intOf];omega
  · have hO:opM st ks=none:=by
     rw [<- HS.out,List.drop_of_length_le (by omega)];rfl
    have HO:=za hO
    clear HS hO
    go_wp2
    refine bodyPost_ret (v:=opV none) (by simp [results,Tryz.results184,go_sem,opV]) rfl ⟨by rw [HO.out],rfl⟩
end
section
def rem (st:St):Nat:=if st.er=0 then 1201-st.t.a else 0
def zds (x:List UInt8) (n:Nat):Bool:=if x=[111,114]∨x=[120,111,114] then n==0 else if x=[97,110,100] then n==1 else if x=[43]∨x=[45] then n==2 else if x=[42]∨x=[47]∨x=[37] then n==3 else false
theorem zdQ {t:Tk} {n:Nat} (hk:t.k≠4/\t.k≠5):zco t n=false:=by unfold zco;rw [if_pos hk]
theorem zek {t:Tk} {n:Nat} (hk:t.k=4∨t.k=5):zco t n=zds t.s.toList n:=by unfold zco;rw [if_neg (by omega)];rfl
end
section
open Go.RowKit
theorem zR {w:World} {base base':Nat} {e:TypeId} {size:Nat} {v:Value} {n:Nat} {xs:List Value} (h:w.ownsRow base e size v n xs) (hb:base'<=base):w.ownsRow base' e size v n xs:=by
 obtain ⟨h1,h2⟩:=h
 refine ⟨h1,?_⟩
 rcases h2 with h2|⟨g,cap,cur,hv,hg,r⟩
 · exact Or.inl h2
 · exact Or.inr ⟨g,cap,cur,hv,Nat.le_trans hb hg,r⟩
theorem zi {w w':World} {base:Nat} {e:TypeId} {size:Nat} {v:Value} {n:Nat} {xs:List Value} (h:w.ownsRow base e size v n xs) (hk:∀k,base<=k->k<w.heap.size->v.ownBlock=some k->w'.heap[k]?=w.heap[k]?):w'.ownsRow base e size v n xs:=by
 obtain ⟨h1,h2⟩:=h
 refine ⟨h1,?_⟩
 rcases h2 with h2|⟨g,cap,cur,hv,hg,hh,r⟩
 · exact Or.inl h2
 · refine Or.inr ⟨g,cap,cur,hv,hg,?_,r⟩
   have hlt:g<w.heap.size:=by
    rcases Nat.lt_or_ge g w.heap.size with h|h
    · exact h
    · rw [Array.getElem?_eq_none h] at hh;cases hh
   rw [hk g hg hlt (by rw [hv];rfl),hh]
theorem zN {W:World} {b:Nat} {c:Array Value} {e:TypeId} {f:Nat×Nat} {news:List Value} (h:W.heap[b]?=some (.cells c e f)) (hc:c.toList=news):∀(j:Nat) (u:Value),news[j]?=some u->W.cell? ((⟨b,0,none⟩:Addr).add j)=some u:=by
 intro j u hj
 subst hc
 have e0:(⟨b,0,none⟩:Addr).add j=⟨b,j,none⟩:=by cases j <;> simp [Addr.add]
 rw [e0]
 simp [World.cell?,h]
 simpa using hj
theorem zM {w:World} {base:Nat} {e:TypeId} {size:Nat} {v:Value} {n:Nat} {xs:List Value} (h:w.ownsRow base e size v n xs) (hn:0<n):∃g cap,v=.slice (some ⟨g,0,none⟩) n cap/\base<=g:=by
 rcases h.2 with ⟨_,h⟩|⟨g,cap,_,h,hb,_⟩
 · omega
 · exact ⟨g,cap,h,hb⟩
theorem zD {w:World} {base e size n:Nat} {v:Value} {xs:List Value} (h:w.ownsRow base e size v n xs) (o:Obj):(w.alloc o).ownsRow base e size v n xs:=zi h (λk _ hk _=>Below.heap_alloc w o k hk)
section
variable {P:Program} (w:World)
theorem zha (base:Nat) (t ty e:TypeId) (i:TypeInfo) (z:Value) (size bytes:Nat) (ht:P.underlying t=some (.slice e)) (hi:P.info? e=some i) (hz:i.zero=some z)
 (hsize:i.size=size) (hby:i.bytes=bytes) (hzs:z.cells.size=size) (hsz:0<size)
 (v:Value) (n:Nat) (xs:List Value) (hown:w.ownsRow base e size v n xs)
 (a:Addr) (m c:Nat) (news:List Value) (hl:news.length=m*size) (hnews:∀j u,news[j]?=some u->w.cell? (a.add j)=some u) (h1:∀u∈news,u.oneCell'=true)
 (h63:n+m<=maxLen) (hbytes:(n+m)*bytes<=140737488355328) (hbase:base<=w.heap.size) :
 ∃v' w',(Builtin.append_ #[t,t] ty #[v,.slice (some a) m c]).run P w=.ok v' w'/\w'.ownsRow base e size v' (n+m) (xs++news)/\w.grownBy w' v.ownBlock /\
  ∀k,v'.ownBlock=some k->v.ownBlock=some k∨w.heap.size<=k:=by
 rcases hown.2 with ⟨rfl,rfl⟩|⟨g,cap,cur,rfl,hbg,hg,hnc,hcm,hcs,htake⟩
 · have hx:xs=[]:=List.eq_nil_of_length_eq_zero (by simpa using hown.1)
   subst hx
   obtain ⟨v',w',hr,h2,h3,_⟩:=run_append_own (P:=P) w w.heap.size t ty e i z size bytes ht hi hz hsize hby hzs hsz _ 0 [] (World.ownsRow_nil w _ e size) a m c news hl hnews h1 h63 hbytes (Nat.le_refl _)
   exact ⟨v',w',hr,zR h2 hbase,h3,λk hk=>Or.inr (h2.lt k hk).1⟩
 · by_cases hroom:n+m<=cap
   · obtain ⟨w',hr,h2,h3⟩:=run_append_fits (P:=P) w base t ty e i size ht hi hsize g n cap xs hown a m c news hl hnews h1 hroom
     exact ⟨_,w',hr,h2,h3,λk hk=>Or.inl hk⟩
   · obtain ⟨v',w',hr,h2,h3⟩:=run_append_arg_grows (P:=P) w t ty e i z size bytes ht hi hz hsize hby hzs hsz ⟨g,0,none⟩ n cap xs hown.1 (hown.cells (g:=g) rfl) a m c news hl hnews (by omega) h63 hbytes
     exact ⟨v',w',hr,zR h2 hbase,⟨h3.os,h3.tape,h3.output,h3.size,λk hk _=>h3.block k hk (by simp)⟩,λk hk=>Or.inr (h2.lt k hk).1⟩
theorem zfG {o:Oper} {a:Act} {K:Act->World->Prop} {Q:Exit->Act->World->Prop} (s x:Operand) (t:TypeId)
 (ho:o.op=.call { callee:=.builtin .append,args:=#[s,x],argTypes:=#[t,t] })
 (base:Nat) (e:TypeId) (i:TypeInfo) (z:Value) (size bytes:Nat) (ht:P.underlying t=some (.slice e)) (hi:P.info? e=some i) (hz:i.zero=some z)
 (hsize:i.size=size) (hby:i.bytes=bytes) (hzs:z.cells.size=size) (hsz:0<size)
 (v:Value) (n:Nat) (xs:List Value) (hs:a.eval s=v) (hown:w.ownsRow base e size v n xs)
 (ad:Addr) (m c:Nat) (news:List Value) (hx:a.eval x=.slice (some ad) m c) (hl:news.length=m*size) (hnews:∀j u,news[j]?=some u->w.cell? (ad.add j)=some u) (h1:∀u∈news,u.oneCell'=true)
 (h63:n+m<=maxLen) (hbytes:(n+m)*bytes<=140737488355328) (hbase:base<=w.heap.size)
 (h:∀v' w',w'.ownsRow base e size v' (n+m) (xs++news)->w.grownBy w' v.ownBlock->(∀k,v'.ownBlock=some k->v.ownBlock=some k∨w.heap.size<=k)->K (a.put o.dst v') w'):o.wp P a w K Q:=by
 obtain ⟨v',w',hr,h2,h3,h4⟩:=zha (P:=P) w base t o.type e i z size bytes ht hi hz hsize hby hzs hsz v n xs hown ad m c news hl hnews h1 h63 hbytes hbase
 unfold Oper.wp execOp
 simp only [ho,resolve,invoke,builtin,Sem.run_bind,Sem.run_pure,Result.andThen_ok,List.map_toArray,List.map_cons,List.map_nil,hs,hx,hr]
 exact h v' w' h2 h3 h4
theorem zJ {ops:Array Oper} {o:Oper} {a:Act} {K:Act->World->Prop} {Q:Exit->Act->World->Prop} {E:Prop}
 (hg:o.guard=none) (s x:Operand) (t:TypeId) (ho:o.op=.call { callee:=.builtin .append,args:=#[s,x],argTypes:=#[t,t] })
 (base:Nat) (e:TypeId) (i:TypeInfo) (z:Value) (size bytes:Nat) (ht:P.underlying t=some (.slice e)) (hi:P.info? e=some i) (hz:i.zero=some z)
 (hsize:i.size=size) (hby:i.bytes=bytes) (hzs:z.cells.size=size) (hsz:0<size)
 (v:Value) (n:Nat) (xs:List Value) (hs:a.eval s=v) (hown:w.ownsRow base e size v n xs)
 (ad:Addr) (m c:Nat) (news:List Value) (hx:a.eval x=.slice (some ad) m c) (hl:news.length=m*size) (hnews:∀j u,news[j]?=some u->w.cell? (ad.add j)=some u) (h1:∀u∈news,u.oneCell'=true)
 (h63:n+m<=maxLen) (hbytes:(n+m)*bytes<=140737488355328) (hbase:base<=w.heap.size)
 (h:∀v' w',w'.ownsRow base e size v' (n+m) (xs++news)->w.grownBy w' v.ownBlock->(∀k,v'.ownBlock=some k->v.ownBlock=some k∨w.heap.size<=k)->K (a.put o.dst v') w') :
 if Region.wanted o (yielded ops a.tmps)=true then Oper.wp P o a w K Q else E:=by
 have hw:Region.wanted o (yielded ops a.tmps)=true:=by simp [Region.wanted,hg]
 rw [if_pos hw]
 exact zfG w s x t ho base e i z size bytes ht hi hz hsize hby hzs hsz v n xs hs hown ad m c news hx hl hnews h1 h63 hbytes hbase h
end
end
end Go.Proofs.YtedmpgjebafcjaaGreatDoor
