/- Part 3 of the proof: MdlG MdlH CodS CodT CodU MdlX. -/
import Derived.Test.YtbicmofihhjgbaaGreatDoorK01
set_option maxRecDepth 100000
set_option maxHeartbeats 8000000
namespace Go.Proofs.YtbicmofihhjgbaaGreatDoor
open Go.Proofs.Tryz
section
variable {M part:Fn} {l:List UInt8} {a d e k lv p:Nat} {st:St} {t:Tk}
def zv (d:Nat)(M:Fn):Prop:=∀(st:St) (p:Nat),Inv p st->18<=st.op+d->zaN M st p
theorem Inv.is_ok (h:Inv p st)(hk:k≠1)(hi:st.is k l=true):st.er=0:=by
 by_cases he:st.er=0
 . exact he
 . have:=h.bad he;simp[St.is,this] at hi;omega
theorem Inv.is_k (hi:st.is k l=true):st.t.k=k:=by simp[St.is] at hi;exact hi.1
theorem St.enter_op:st.enter.op=st.op+1:=by
 unfold St.enter;split
 . unfold St.fail;split <;> rfl
 . unfold St.step;split <;> rfl
theorem St.fail_op (st:St)(e a:Nat):(st.fail e a).op=st.op:=by unfold St.fail;split <;> rfl
theorem St.fail_src (st:St)(e a:Nat):(st.fail e a).src=st.src:=by unfold St.fail;split <;> rfl
theorem St.fail_ta (st:St)(e a:Nat):(st.fail e a).t.a=st.t.a:=by unfold St.fail;split <;> rfl
theorem St.fail_er (st:St)(he:e≠0):(st.fail e a).er≠0:=by unfold St.fail;split <;> simp[*]
theorem St.step_op (st:St):st.step.op=st.op:=by unfold St.step;split <;> rfl
theorem St.step_er (st:St):st.step.er=st.er:=by unfold St.step;split <;> rfl
theorem St.step_bad (h:st.er≠0):st.step=st:=by unfold St.step;rw[if_neg h]
theorem St.step_ok (h:st.er=0):st.step={ st with t:=zZ st.src st.t.t }:=by unfold St.step;rw[if_pos h]
structure Fwd (p:Nat) (st st':St):Prop where
 inv:Inv p st'
 src:st'.src=st.src
 ta:st.t.a<=st'.t.a
 L:∃E,st'.L=st.L++E
 er:st.er≠0->st'.er≠0
theorem Fwd.refl (h:Inv p st):Fwd p st st:=⟨h,rfl,Nat.le_refl _,⟨[],by simp⟩,λh=>h⟩
theorem Fwd.trans {q:Nat}{a b c:St}(h:Fwd p a b)(k:Fwd q b c):Fwd q a c:=by obtain⟨E,hE⟩:=h.L;obtain⟨E',hE'⟩:=k.L;exact⟨k.inv,k.src.trans h.src,Nat.le_trans h.ta k.ta,⟨E++E',by rw[hE',hE,List.append_assoc]⟩,λe=>k.er (h.er e)⟩
theorem Fwd.use (h:Inv p st)(he:st.er=0)(hk:2<=st.t.k):Fwd (p+1) st st.step:=by
 have hf:=zV st.src st.t.t h.ok.tt;have h1:=h.pot;have h2:=h.tok hk;rw[if_pos he] at h1;have hok:=h.ok.step;rw[St.step_ok he] at hok ⊢;refine⟨⟨hok,?_,h.op1,h.op0,λh=>absurd he h,hf.2.2.2.2.2⟩,rfl,?_,⟨[],by simp⟩,λh=>h⟩
 . simp only[he,if_pos];omega
 . simp only;omega
theorem Fwd.step (h:Inv p st):Fwd p st st.step:=by
 by_cases he:st.er=0
 . have hf:=zV st.src st.t.t h.ok.tt;have h1:=h.pot;have h2:=h.ok.ta;rw[if_pos he] at h1;have hok:=h.ok.step;rw[St.step_ok he] at hok ⊢;refine⟨⟨hok,?_,h.op1,h.op0,λh=>absurd he h,hf.2.2.2.2.2⟩,rfl,?_,⟨[],by simp⟩,λh=>h⟩
   . simp only[he,if_pos];omega
   . simp only;omega
 . rw[St.step_bad he];exact Fwd.refl h
theorem Fwd.fail (h:Inv p st)(h0:e≠0)(he:e<=11)(ha:a<=1200):Fwd p st (st.fail e a):=by
 have h1:=h.pot;refine⟨⟨h.ok.fail he ha,?_,by rw[St.fail_op];exact h.op1,λh2=>absurd h2 (St.fail_er st h0),?_,?_⟩,St.fail_src _ _ _,by rw[St.fail_ta];exact Nat.le_refl _,⟨[],by rw[St.fail_L];simp⟩,λ_=>St.fail_er st h0⟩
 . rw[St.fail_L,St.fail_ta,if_neg (St.fail_er st h0)];split at h1 <;> omega
 . intro _;unfold St.fail;split <;> rfl
 . intro h2;exfalso;unfold St.fail at h2;split at h2 <;> simp at h2
theorem Fwd.must (h:Inv p st)(k:Nat)(l:List UInt8):Fwd p st (st.must k l):=by
 unfold St.must;split
 . exact Fwd.step h
 . exact Fwd.fail h (by omega) (by omega) h.ok.ta_le
theorem Fwd.name (h:Inv p st):Fwd p st st.name:=by
 unfold St.name;split
 . exact Fwd.step h
 . exact Fwd.fail h (by omega) (by omega) h.ok.ta_le
theorem St.must_op (st:St)(k:Nat)(l:List UInt8):(st.must k l).op=st.op:=by unfold St.must;split;exact st.step_op;exact st.fail_op _ _
theorem St.name_op (st:St):st.name.op=st.op:=by unfold St.name;split;exact st.step_op;exact st.fail_op _ _
theorem Fwd.enter (h:Inv p st)(he:st.er=0)(hk:2<=st.t.k):Fwd (p+1) st st.enter:=by
 have h1:=h.pot;have h2:=h.op0 he;have h3:=h.tok hk;have h4:=h.op1;rw[if_pos he] at h1;have hok:=h.ok.enter (by omega);have hf:=zV st.src st.t.t h.ok.tt;unfold St.enter at hok ⊢;split at hok
 . rename_i hc
   rw[if_pos hc];refine⟨⟨hok,?_,?_,λh=>absurd h (St.fail_er _ (by omega)),λ_=>?_,λh=>?_⟩,St.fail_src _ _ _,by rw[St.fail_ta];exact Nat.le_refl _,⟨[],by rw[St.fail_L];simp⟩,λ_=>St.fail_er _ (by omega)⟩
   . rw[St.fail_L,St.fail_ta,if_neg (St.fail_er _ (by omega))];simp only;omega
   . rw[St.fail_op];simp only;omega
   . unfold St.fail;split <;> rfl
   . exfalso;unfold St.fail at h;split at h <;> simp at h
 . rename_i hc
   rw[if_neg hc];rw[St.step_ok (show ({ st with op:=st.op+1 }:St).er=0 from he)] at hok ⊢;refine⟨⟨hok,?_,?_,λ_=>?_,λh=>absurd he h,hf.2.2.2.2.2⟩,rfl,?_,⟨[],by simp⟩,λh=>h⟩
   . simp only[he,if_pos];omega
   . simp only;omega
   . simp only;omega
   . simp only;omega
theorem Fwd.leave (h:Inv p st):Fwd p st st.leave:=by
 refine⟨⟨h.ok.leave,h.pot,?_,?_,h.bad,h.tok⟩,rfl,Nat.le_refl _,⟨[],by simp[St.leave]⟩,λh=>h⟩
 . have:=h.op1;unfold St.leave;simp only;omega
 . intro he;have:=h.op0 he;unfold St.leave;simp only;omega
theorem Fwd.put (h:Inv (p+1) st)(e:Ex):Fwd p st (st.put e).1:=by refine⟨⟨h.ok.add e,?_,h.op1,h.op0,h.bad,h.tok⟩,rfl,Nat.le_refl _,⟨[e],rfl⟩,λh=>h⟩;have:=h.pot;simp only[St.put,St.add,List.length_append,List.length_cons,List.length_nil];split at this <;> simp_all <;> omega
theorem zaN.fwd (h:zaN M st p):Fwd p st (M st).1:=⟨h.inv,h.src,h.ta,h.L,λe=>by rw[h.er e];exact e⟩
theorem zaN.of_fwd (he:st.er=0)(h:Fwd p st (M st).1)(ho:(M st).1.op=st.op)(hn:(M st).1.er=0->(M st).2<(M st).1.L.length):zaN M st p :=
 ⟨h.inv,ho,h.src,h.ta,h.L,λe=>absurd he e,hn⟩
theorem zgp (st:St)(e:Ex):(st.put e).2<(st.put e).1.L.length:=by simp[St.put,St.add]
theorem zgS {n:Nat}(h:zco t n=true):2<=t.k:=by
 unfold zco at h;split at h
 . cases h
 . omega
theorem zl8 (hP:zv d part):∀(f p:Nat) (x:St×Nat),Inv p x.1->18<=x.1.op+d->(x.1.er=0->x.2<x.1.L.length) ->
 Fwd p x.1 (zdq lv part f x).1/\(zdq lv part f x).1.op=x.1.op/\((zdq lv part f x).1.er=0->(zdq lv part f x).2<(zdq lv part f x).1.L.length)/\(x.1.er≠0->zdq lv part f x=x):=by
 intro f;induction f with
 | zero=>intro p x hI _ hn;exact⟨Fwd.refl hI,rfl,hn,λ_=>rfl⟩
 | succ f ih =>
   intro p x hI ho hn
   show Fwd p x.1 (if _ then _ else x).1/\(if _ then _ else x).1.op=x.1.op/\((if _ then _ else x).1.er=0->(if _ then _ else x).2<(if _ then _ else x).1.L.length)/\(x.1.er≠0->(if _ then _ else x)=x);by_cases hc:x.1.er=0/\zco x.1.t lv=true
   . rw[if_pos hc];have h1:=Fwd.use hI hc.1 (zgS hc.2);have h2:=hP x.1.step (p+1) h1.inv (by rw[St.step_op];exact ho);have h3:=Fwd.put h2.inv ⟨x.1.t.s,x.1.t.a,0,[x.2,(part x.1.step).2],sE,0⟩;have ho3:(((part x.1.step).1.put ⟨x.1.t.s,x.1.t.a,0,[x.2,(part x.1.step).2],sE,0⟩).1).op=x.1.op:=h2.op.trans (St.step_op _);have h4:=ih p _ h3.inv (by rw[ho3];exact ho) (λ_=>zgp _ _);exact⟨((h1.trans h2.fwd).trans h3).trans h4.1,h4.2.1.trans ho3,h4.2.2.1,λe=>absurd hc.1 e⟩
   . rw[if_neg hc];exact⟨Fwd.refl hI,rfl,hn,λ_=>rfl⟩
theorem zcF (hP:zv d part):zv d (zcT lv part):=by
 intro st p hI ho;have h1:=hP st p hI ho;have h2:=zl8 (lv:=lv) hP 1300 p (part st) h1.inv (by rw[h1.op];exact ho) h1.num;refine⟨h2.1.inv,h2.2.1.trans h1.op,h2.1.src.trans h1.src,Nat.le_trans h1.ta h2.1.ta,(h1.fwd.trans h2.1).L,λe=>?_,h2.2.2.1⟩;have e1:=h1.er e
 show zdq lv part 1300 (part st)=(st,_);rw[h2.2.2.2 (by rw[e1];exact e)];exact Prod.ext (by rw[e1]) (by show _=(zdq lv part 1300 (part st)).2;rw[h2.2.2.2 (by rw[e1];exact e)])
theorem znN (h:zcn t=true):2<=t.k:=by simp[zcn] at h;omega
theorem zh6 {sum:Fn}(hP:zv d sum):zv d (zdJ sum):=by
 intro st p hI ho;have h1:=hP st p hI ho;by_cases hc:(sum st).1.er=0/\zcn (sum st).1.t=true
 . have e:zdJ sum st=(sum (sum st).1.step).1.put ⟨(sum st).1.t.s,(sum st).1.t.a,0,[(sum st).2,(sum (sum st).1.step).2],sE,0⟩:=by unfold zdJ;simp only;rw[if_pos hc]
   have h2:=Fwd.use h1.inv hc.1 (znN hc.2);have h3:=hP _ (p+1) h2.inv (by rw[St.step_op,h1.op];exact ho);have h4:=Fwd.put h3.inv ⟨(sum st).1.t.s,(sum st).1.t.a,0,[(sum st).2,(sum (sum st).1.step).2],sE,0⟩;have he:st.er=0:=by
    by_cases he:st.er=0
    . exact he
    . exact absurd hc.1 (h1.fwd.er he)
   refine zaN.of_fwd he ?_ ?_ ?_
   . rw[e];exact ((h1.fwd.trans h2).trans h3.fwd).trans h4
   . rw[e];exact (h3.op.trans (St.step_op _)).trans h1.op
   . rw[e];exact λ_=>zgp _ _
 . have e:zdJ sum st=sum st:=by unfold zdJ;simp only;rw[if_neg hc]
   exact⟨by rw[e];exact h1.inv,by rw[e];exact h1.op,by rw[e];exact h1.src,by rw[e];exact h1.ta,by rw[e];exact h1.L,by rw[e];exact h1.er,by rw[e];exact h1.num⟩
end
section
variable {M atm rx:Fn} {d p:Nat} {st:St}
theorem zaN.same {N:Fn}(h:zaN N st p)(e:M st=N st):zaN M st p :=
 ⟨by rw[e];exact h.inv,by rw[e];exact h.op,by rw[e];exact h.src,by rw[e];exact h.ta,by rw[e];exact h.L,by rw[e];exact h.er,by rw[e];exact h.num⟩
theorem zaN.of_put {s1:St}{e:Ex}(he:st.er=0)(hM:M st=s1.put e)(h:Fwd (p+1) st s1)(ho:s1.op=st.op):zaN M st p:=by
 refine zaN.of_fwd he ?_ ?_ ?_
 . rw[hM];exact h.trans (Fwd.put h.inv e)
 . rw[hM];exact ho
 . rw[hM];exact λ_=>zgp _ _
theorem zfk (op:ByteArray)(n:Nat)(hI:Inv p st)(he:st.er=0)(hk:2<=st.t.k):zaN (zdP op n) st p :=
 zaN.of_put he rfl (Fwd.use hI he hk) (St.step_op _)
theorem zjD (hI:Inv p st)(he:st.er=0)(hk:2<=st.t.k):zaN zjx st p :=
 zaN.of_put he rfl (Fwd.use hI he hk) (St.step_op _)
theorem St.leave_op (st:St):st.leave.op=st.op-1:=rfl
theorem zhu {ru smp:Fn}(hU:zv d ru)(hS:zv (d+1) smp):zv (d+1) (zdn ru smp):=by
 intro st p hI ho;by_cases hc:st.er=0/\(st.is 4 [45]||st.is 5 [110,111,116])=true
 . have hk:2<=st.t.k:=by
    rcases Bool.or_eq_true_iff.1 hc.2 with h|h
    . have:=Inv.is_k h;omega
    . have:=Inv.is_k h;omega
   have h1:=Fwd.enter hI hc.1 hk;have h2:=hU st.enter (p+1) h1.inv (by rw[St.enter_op];omega);have h3:=Fwd.leave h2.inv;refine zaN.of_put hc.1 (by unfold zdn;rw[if_pos hc]) ((h1.trans h2.fwd).trans h3) ?_;rw[St.leave_op,h2.op,St.enter_op];rfl
 . exact (hS st p hI ho).same (by unfold zdn;rw[if_neg hc])
theorem zok (h:zdi st=true):2<=st.t.k:=by
 rcases Bool.or_eq_true_iff.1 h with h|h
 . have:=Inv.is_k h;omega
 . have:=Inv.is_k h;omega
theorem ziC:∀(f p:Nat) (x:St×Nat),Inv p x.1->(x.1.er=0->x.2<x.1.L.length) ->
 Fwd p x.1 (zaY f x).1/\(zaY f x).1.op=x.1.op/\((zaY f x).1.er=0->(zaY f x).2<(zaY f x).1.L.length)/\(x.1.er≠0->zaY f x=x):=by
 intro f;induction f with
 | zero=>intro p x hI hn;exact⟨Fwd.refl hI,rfl,hn,λ_=>rfl⟩
 | succ f ih =>
   intro p x hI hn
   show Fwd p x.1 (if _ then _ else x).1/\(if _ then _ else x).1.op=x.1.op/\((if _ then _ else x).1.er=0->(if _ then _ else x).2<(if _ then _ else x).1.L.length)/\(x.1.er≠0->(if _ then _ else x)=x);by_cases hc:x.1.er=0/\zdi x.1=true
   . rw[if_pos hc];have h1:=Fwd.use hI hc.1 (zok hc.2);have h2:=Fwd.name h1.inv;have h3:=Fwd.put h2.inv ⟨x.1.t.s,x.1.t.a,x.1.step.t.a,[x.2],x.1.step.t.s,0⟩;have ho3:((x.1.step.name.put ⟨x.1.t.s,x.1.t.a,x.1.step.t.a,[x.2],x.1.step.t.s,0⟩).1).op=x.1.op:=(St.name_op _).trans (St.step_op _);have h4:=ih p _ h3.inv (λ_=>zgp _ _);exact⟨((h1.trans h2).trans h3).trans h4.1,h4.2.1.trans ho3,h4.2.2.1,λe=>absurd hc.1 e⟩
   . rw[if_neg hc];exact⟨Fwd.refl hI,rfl,hn,λ_=>rfl⟩
theorem zfY (hP:zv d atm):zv d (zfu atm):=by
 intro st p hI ho;have h1:=hP st p hI ho;have h2:=ziC 1300 p (atm st) h1.inv h1.num;refine⟨h2.1.inv,h2.2.1.trans h1.op,h2.1.src.trans h1.src,Nat.le_trans h1.ta h2.1.ta,(h1.fwd.trans h2.1).L,λe=>?_,h2.2.2.1⟩;have e1:=h1.er e
 show zaY 1300 (atm st)=(st,_);rw[h2.2.2.2 (by rw[e1];exact e)];exact Prod.ext (by rw[e1]) (by show _=(zaY 1300 (atm st)).2;rw[h2.2.2.2 (by rw[e1];exact e)])
theorem zln (hP:zv d rx):∀(f p:Nat) (x:St×List Nat),Inv p x.1->18<=x.1.op+d->x.2.length<=x.1.t.a ->
 Fwd p x.1 (zc1 rx f x).1/\(zc1 rx f x).1.op=x.1.op/\(zc1 rx f x).2.length<=(zc1 rx f x).1.t.a:=by
 intro f;induction f with
 | zero=>intro p x hI _ hl;exact⟨Fwd.refl hI,rfl,hl⟩
 | succ f ih =>
   intro p x hI ho hl
   show Fwd p x.1 (if _ then _ else x).1/\(if _ then _ else x).1.op=x.1.op/\(if _ then _ else x).2.length<=(if _ then _ else x).1.t.a;by_cases hc:x.1.er=0/\x.1.is 4 [44]=true
   . rw[if_pos hc];have hk:=Inv.is_k hc.2;have h0:=Fwd.use hI hc.1 (by omega);have hta:x.1.t.a+1<=x.1.step.t.a:=(by have:=hI.tok (by omega);rw[St.step_ok hc.1];have hf:=zV x.1.src x.1.t.t hI.ok.tt;simp only;omega);have h1:=Fwd.step hI;have h2:=hP x.1.step p h1.inv (by rw[St.step_op];exact ho);have h4:=ih p ((rx x.1.step).1,x.2++[(rx x.1.step).2]) h2.inv (by rw[h2.op,St.step_op];exact ho) (by have:=h2.ta;simp only[List.length_append,List.length_cons,List.length_nil];omega);exact⟨(h1.trans h2.fwd).trans h4.1,h4.2.1.trans (h2.op.trans (St.step_op _)),h4.2.2⟩
   . rw[if_neg hc];exact⟨Fwd.refl hI,rfl,hl⟩
theorem zid (hP:zv d rx)(hI:Inv p st)(ho:18<=st.op+d)(ha:1<=st.t.a):Fwd p st (zbG rx st).1/\(zbG rx st).1.op=st.op/\(zbG rx st).2.length<=(zbG rx st).1.t.a:=by have h1:=hP st p hI ho;have h2:=zln hP 1300 p ((rx st).1,[(rx st).2]) h1.inv (by rw[h1.op];exact ho) (by have:=h1.ta;simp only[List.length_cons,List.length_nil];omega);exact⟨h1.fwd.trans h2.1,h2.2.1.trans h1.op,h2.2.2⟩
theorem zis (hP:zv d rx)(t:Tk)(hI:Inv p st)(he:st.er=0)(ho:18<=st.op+(d+1))(ha:1<=st.t.a):zaN (zao rx t) st p:=by
 by_cases hc:st.is 4 [40]=true
 . have hk:=Inv.is_k hc;have h1:=Fwd.enter hI he (by omega);have h2:=zid hP h1.inv (by rw[St.enter_op];omega) (Nat.le_trans ha h1.ta);have h3:=Fwd.must h2.1.inv 4 [41];have h4:=Fwd.leave h3.inv;refine zaN.of_put he (by unfold zao;rw[if_pos hc]) (((h1.trans h2.1).trans h3).trans h4) ?_;rw[St.leave_op,St.must_op,h2.2.1,St.enter_op];rfl
 . have e:zao rx t st=(st.fail 2 st.t.a,0):=by unfold zao;rw[if_neg hc]
   refine zaN.of_fwd he ?_ ?_ ?_
   . rw[e];exact Fwd.fail hI (by omega) (by omega) hI.ok.ta_le
   . rw[e];exact St.fail_op _ _ _
   . rw[e];exact λh=>absurd h (St.fail_er st (by omega))
theorem zj7 (hP:zv d rx)(hI:Inv p st)(he:st.er=0)(hk:2<=st.t.k)(ho:18<=st.op+(d+1)):zaN (zdx rx) st p:=by
 have h1:=Fwd.enter hI he hk;have o1:st.enter.op=st.op+1:=St.enter_op;have h2:=hP st.enter (p+1) h1.inv (by rw[o1];omega);have h3:=Fwd.must h2.inv 5 [116,104,101,110];have o3:((rx st.enter).1.must 5 [116,104,101,110]).op=st.op+1:=by rw[St.must_op,h2.op,o1]
 have h4:=hP _ (p+1) h3.inv (by rw[o3];omega);have h5:=Fwd.must h4.inv 5 [101,108,115,101];have o5:((rx ((rx st.enter).1.must 5 [116,104,101,110])).1.must 5 [101,108,115,101]).op=st.op+1:=by rw[St.must_op,h4.op,o3]
 have h6:=hP _ (p+1) h5.inv (by rw[o5];omega);have h7:=Fwd.leave h6.inv;refine zaN.of_put he rfl ((((((h1.trans h2.fwd).trans h3).trans h4.fwd).trans h5).trans h6.fwd).trans h7) ?_;rw[St.leave_op,h6.op,o5];rfl
theorem zf0 (hP:zv d atm):zv d (zch atm):=by
 intro st p hI ho;by_cases hc:st.er≠0∨st.t.k≠2
 . exact (hP st p hI ho).same (by unfold zch;rw[if_pos hc])
 . exact (zjD hI (by omega) (by omega)).same (by unfold zch;rw[if_neg hc])
theorem zlU (hP:zv d atm)(hI:Inv p st)(he:st.er=0)(hk:2<=st.t.k)(ho:18<=st.op+(d+1)):zaN (zeE atm) st p:=by have h1:=Fwd.enter hI he hk;have h2:=Fwd.name h1.inv;have o2:st.enter.name.op=st.op+1:=(St.name_op _).trans St.enter_op;have h3:=zf0 hP st.enter.name (p+1) h2.inv (by rw[o2];omega);have h4:=zf0 hP _ (p+1) h3.inv (by rw[h3.op,o2];omega);have h5:=Fwd.leave h4.inv;refine zaN.of_put he rfl ((((h1.trans h2).trans h3.fwd).trans h4.fwd).trans h5) ?_;rw[St.leave_op,h4.op,h3.op,o2];rfl
theorem zlu (hP:zv d rx)(hI:Inv p st)(he:st.er=0)(hk:2<=st.t.k)(ho:18<=st.op+(d+1)):zaN (zfQ rx) st p:=by
 have h1:=Fwd.enter hI he hk;have h2:=hP st.enter (p+1) h1.inv (by rw[St.enter_op];omega);have h3:=Fwd.must h2.inv 4 [41];have h4:=Fwd.leave h3.inv;have hf:=((h1.trans h2.fwd).trans h3).trans h4;refine zaN.of_fwd he ⟨⟨hf.inv.ok,?_,hf.inv.op1,hf.inv.op0,hf.inv.bad,hf.inv.tok⟩,hf.src,hf.ta,hf.L,hf.er⟩ ?_ ?_
 . exact Nat.le_trans (Nat.add_le_add_left (Nat.le_succ p) _) hf.inv.pot
 . show ((rx st.enter).1.must 4 [41]).leave.op=_;rw[St.leave_op,St.must_op,h2.op,St.enter_op];rfl
 . intro hz;have hz1:((rx st.enter).1.must 4 [41]).er=0:=hz;have hz2:(rx st.enter).1.er=0:=by
    by_cases h:(rx st.enter).1.er=0
    . exact h
    . exact absurd hz1 (h3.er h)
   have:=h2.num hz2
   show (rx st.enter).2<((rx st.enter).1.must 4 [41]).leave.L.length
   show (rx st.enter).2<((rx st.enter).1.must 4 [41]).L.length;rw[St.must_L];exact this
theorem zh7 {ra:Fn}(hX:zv d rx)(hA:zv d ra):zv (d+1) (zap rx ra):=by
 intro st p hI ho;by_cases he:st.er=0
 . have hn:¬st.er≠0:=by omega
   have hfail:zaN (λst=>(st.fail 2 st.t.a,0)) st p:=(by refine zaN.of_fwd he (Fwd.fail hI (by omega) (by omega) hI.ok.ta_le) (St.fail_op _ _ _) (λh=>absurd h (St.fail_er st (by omega))));by_cases h3:st.t.k=3
   . exact (zfk zcq st.t.n hI he (by omega)).same (by unfold zap;rw[if_neg hn,if_pos h3])
   . by_cases h2:st.t.k=2
     . by_cases hp:st.step.is 4 [40]=true
       . have e1:zap rx ra st=zao rx st.t st.step:=(by unfold zap;rw[if_neg hn,if_neg h3,if_pos h2,if_pos hp]);have hs:=Fwd.step hI;have hta:1<=st.step.t.a:=(by have:=hI.tok (by omega);rw[St.step_ok he];have hf:=zV st.src st.t.t hI.ok.tt;simp only;omega);have hg:=zis hX st.t hs.inv (by rw[St.step_er];exact he) (by rw[St.step_op];omega) hta;have hw:=hs.trans hg.fwd;refine zaN.of_fwd he ?_ ?_ ?_
         . rw[e1];exact hw
         . rw[e1];exact hg.op.trans (St.step_op _)
         . rw[e1];exact hg.num
       . exact (zjD hI he (by omega)).same (by unfold zap;rw[if_neg hn,if_neg h3,if_pos h2,if_neg hp])
     . by_cases c1:st.is 4 [40]=true
       . exact (zlu hX hI he (by have:=Inv.is_k c1;omega) (by omega)).same (by unfold zap;rw[if_neg hn,if_neg h3,if_neg h2,if_pos c1])
       . by_cases c2:st.is 5 [116,114,117,101]=true
         . exact (zfk zcb 1 hI he (by have:=Inv.is_k c2;omega)).same (by unfold zap;rw[if_neg hn,if_neg h3,if_neg h2,if_neg c1,if_pos c2])
         . by_cases c3:st.is 5 [102,97,108,115,101]=true
           . exact (zfk zcb 0 hI he (by have:=Inv.is_k c3;omega)).same (by unfold zap;rw[if_neg hn,if_neg h3,if_neg h2,if_neg c1,if_neg c2,if_pos c3])
           . by_cases c4:st.is 5 [105,102]=true
             . exact (zj7 hX hI he (by have:=Inv.is_k c4;omega) (by omega)).same (by unfold zap;rw[if_neg hn,if_neg h3,if_neg h2,if_neg c1,if_neg c2,if_neg c3,if_pos c4])
             . by_cases c5:st.is 5 [109,101,114,103,101]=true
               . exact (zlU hA hI he (by have:=Inv.is_k c5;omega) (by omega)).same (by unfold zap;rw[if_neg hn,if_neg h3,if_neg h2,if_neg c1,if_neg c2,if_neg c3,if_neg c4,if_pos c5])
               . exact hfail.same (by unfold zap;rw[if_neg hn,if_neg h3,if_neg h2,if_neg c1,if_neg c2,if_neg c3,if_neg c4,if_neg c5])
 . have e:zap rx ra st=(st,0):=by unfold zap;rw[if_pos he]
   exact⟨by rw[e];exact hI,by rw[e],by rw[e],by rw[e];exact Nat.le_refl _,⟨[],by rw[e];simp⟩,λ_=>by rw[e],λh=>by rw[e] at h;exact absurd h he⟩
theorem zmd {eith:Fn}(hX:zv d rx)(hE:zv (d+1) eith):zv (d+1) (zgk rx eith):=by
 intro st p hI ho;have h1:=hE st p hI ho;by_cases hc:(eith st).1.er=0/\(eith st).1.is 5 [102,98,121]=true
 . have h2:=Fwd.enter h1.inv hc.1 (by have:=Inv.is_k hc.2;omega);have h3:=hX _ (p+1) h2.inv (by rw[St.enter_op,h1.op];omega);have h4:=Fwd.leave h3.inv;have he:st.er=0:=by
    by_cases he:st.er=0
    . exact he
    . exact absurd hc.1 (h1.fwd.er he)
   refine zaN.of_put he (by unfold zgk;simp only;rw[if_pos hc]) (((h1.fwd.trans h2).trans h3.fwd).trans h4) ?_;rw[St.leave_op,h3.op,St.enter_op,h1.op];rfl
 . exact h1.same (by unfold zgk;simp only;rw[if_neg hc])
theorem zgP:∀d,zv d (lev d).ex/\zv d (lev d).un/\zv d (lev d).at':=by
 intro d;induction d with
 | zero =>
   have h:∀M:Fn,zv 0 M:=λM st p hI ho=>by have:=hI.op1;omega
   exact⟨h _,h _,h _⟩
 | succ d ih => have ha:=zh7 ih.1 ih.2.2;have hu:=zhu ih.2.1 (zfY ha);exact⟨zmd ih.1 (zcF (zcF (zh6 (zcF (zcF hu))))),hu,ha⟩
end
section
open Go.RowKit
variable {st:St}
theorem zaP (S:Nat->Addr)(pb:Nat)(st:St)(s:ByteArray)(l:List UInt8)(hl:s.toList=l)(w:World)(hk:st.t.k<=5)(hR:PL S w pb st):xK 85 #[xP pb,.string s] w λe w'=>e=.returned (.bool (st.atB l))/\w=w':=by subst hl;have:=zqT S pb st s w hR;rwa [zqP hk] at this
structure Bad (st:St):Prop where
 bad:st.er≠0->st.t.k=1
 ok:st.Ok
theorem Bad.er (h:Bad st)(hk:st.t.k≠1):st.er=0:=by
 by_cases he:st.er=0
 . exact he
 . exact absurd (h.bad he) hk
theorem Bad.step (h:Bad st):Bad st.step:=by
 refine⟨λhe=>?_,h.ok.step⟩;unfold St.step at he ⊢;split
 . rename_i h0;rw[if_pos h0] at he;exact absurd h0 he
 . rename_i h0;exact h.bad h0
theorem Bad.fail (h:Bad st){e:Nat}(he:e<=11):Bad (st.fail e st.t.a):=by refine⟨λ_=>?_,h.ok.fail he h.ok.ta_le⟩;unfold St.fail;split <;> rfl
theorem Bad.must (h:Bad st)(k:Nat)(l:List UInt8):Bad (st.must k l):=by
 unfold St.must;split
 . exact h.step
 . exact h.fail (by omega)
theorem Bad.name (h:Bad st):Bad st.name:=by
 unfold St.name;split
 . exact h.step
 . exact h.fail (by omega)
theorem Inv.toBad {p:Nat}(h:Inv p st):Bad st:=⟨h.bad,h.ok⟩
theorem zoY {l:List UInt8}(h:st.atB l=true):4<=st.t.k:=by unfold St.atB at h;simp only[Bool.and_eq_true,Bool.or_eq_true,beq_iff_eq] at h;omega
theorem zc8 (h:Bad st)(hk:st.t.k≠1):({ st with t:=zZ st.src st.t.t }:St)=st.step:=by unfold St.step;rw[if_pos (h.er hk)]
def St.skipM (st:St)(l:List UInt8):St:=if st.atB l=true then st.step else st
theorem zbg (S:Nat->Addr)(pb:Nat)(st:St)(s:ByteArray)(l:List UInt8)(hl:s.toList=l)(w:World)(HB:Bad st)(HR:PL S w pb st):xK 153 #[xP pb,.string s] w λe w'=>e=.returned (.bool (st.atB l))/\PL S w' pb (st.skipM l)/\Fr (·=pb) w w':=by
 have HA:=za (zaP S pb st s l hl w HB.ok.tk HR);clear hl;cases hb:st.atB l with
 | true => have HE:st.skipM l={ st with t:=zZ st.src st.t.t }:=(by unfold St.skipM;rw[if_pos hb,zc8 HB (by have:=zoY hb;omega)]);have Hk:=za (zoY hb);rw[hb] at HA;clear hb;go_enter func153,ntmps153;go_wp2_with (first|(go_at_call 85;refine HA.o.mono ?_;rintro e w' ⟨rfl,rfl⟩)|(go_at_call 186;refine (zb9 S pb st _ HB.ok (Nat.le_trans (by decide) Hk.o) HR).mono ?_;rintro e w1 ⟨rfl,HL1,HF1⟩));go_ret;exact⟨rfl,by rw[HE];exact HL1,HF1⟩
 | false => have HE:st.skipM l=st:=(by unfold St.skipM;rw[if_neg (by rw[hb];simp)]);rw[hb] at HA;clear hb;go_enter func153,ntmps153;go_wp2_with (go_at_call 85;refine HA.o.mono ?_;rintro e w' ⟨rfl,rfl⟩);go_ret;exact⟨rfl,by rw[HE];exact HR,Fr.refl _ _⟩
end
section
open Go.RowKit
variable {l:List UInt8} {st:St}
def St.expM (st:St)(l:List UInt8):St:=if st.atB l=true then st.step else st.fail 2 st.t.a
theorem zan (hT:Tx st.src st.t)(hl:(zdX.any λx=>l==x)=false):st.expM l=st.must 4 l:=by unfold St.expM St.must;rw[zaB hT hl]
theorem ze6 (hT:Tx st.src st.t)(hl:(zdX.any λx=>l==x)=true):st.expM l=st.must 5 l:=by unfold St.expM St.must;rw[zar hT hl]
theorem Bad.skip (h:Bad st)(l:List UInt8):Bad (st.skipM l):=by
 unfold St.skipM;split
 . exact h.step
 . exact h
theorem zP (S:Nat->Addr)(pb:Nat)(st:St)(s:ByteArray)(l:List UInt8)(hl:s.toList=l)(w:World)(hB:Bad st)(hR:PL S w pb st):xK 150 #[xP pb,.string s] w λe w'=>e=.returned (xI st.t.a)/\PL S w' pb (st.expM l)/\Fr (·=pb) w w':=by
 have HA:=za (zbg S pb st s l hl w hB hR);obtain⟨h0,h1,h2,h3,h4,h5,h6⟩:=hR.cells;clear hl hR hB;cases hb:st.atB l with
 | true => have HE:st.expM l=st.skipM l:=(by unfold St.expM St.skipM;rw[if_pos hb,if_pos hb]);rw[hb] at HA;clear hb;go_enter func150,ntmps150;go_wp2_with (go_at_call 153;refine HA.o.mono ?_;rintro e w1 ⟨rfl,HL1,HF1⟩);go_ret;exact⟨rfl,by rw[HE];exact HL1,HF1⟩
 | false => have HE:st.expM l=st.fail 2 st.t.a:=(by unfold St.expM;rw[if_neg (by rw[hb];simp)]);have hS:st.skipM l=st:=(by unfold St.skipM;rw[if_neg (by rw[hb];simp)]);rw[hb,hS] at HA;clear hb hS;go_enter func150,ntmps150;go_wp2_with (first|(go_at_call 87;refine (zc5 S pb st 2 (by decide) _ HL1).mono ?_;rintro e w2 ⟨rfl,HL2,HF2⟩)|(go_at_call 153;refine HA.o.mono ?_;rintro e w1 ⟨rfl,HL1,HF1⟩;have hsyn:xC w1 8 0 (.iface 324 (.pointer (some (S 2)))):=HL1.gl.syn));go_ret;exact⟨rfl,by rw[HE];exact HL2,HF1.trans HF2⟩
theorem zfF {fn:Func}{p:Tmp}(h:fn.results=#[.cell p 117]){tmps:Array Value}{b:Nat}{w:World}(hp:tmps[p]?.getD undef=xP b){v0 v1:Value}(hh:xH w b #[v0,v1] 117):(results fn tmps).run prog w=.ok (.agg #[v0,v1]) w:=by obtain⟨c0,c1,_⟩:=zp hh;simp[results,h,hp,go_sem,c0,c1]
def zcc (st:St):Value:=if st.t.k=2 then .agg #[.string st.t.s,xI st.t.a] else .agg #[.string ⟨#[]⟩,xI 0]
theorem zaZ (S:Nat->Addr)(pb:Nat)(st:St)(w:World)(HB:Bad st)(HR:PL S w pb st):xK 151 #[xP pb] w λe w'=>e=.returned (zcc st)/\PL S w' pb st.name/\Fr (·=pb) w w':=by
 obtain⟨h0,h1,h2,h3,h4,h5,h6⟩:=HR.cells;have hlt:=HR.lt;have hne:¬w.heap.size=pb:=by omega
 by_cases Hk:st.t.k=2
 . have hk':ck st.t=3:=by simp[ck,Hk]
   have HE:st.name={ st with t:=zZ st.src st.t.t }:=(by unfold St.name;rw[if_pos Hk,zc8 HB (by omega)]);have HV:Hid (zcc st=.agg #[.string st.t.s,xI st.t.a]):=(by unfold Hid zcc;rw[if_pos Hk]);have HC:Hid (cs st.src st.t=st.t.s):=(by unfold Hid cs;simp[Hk]);rw[hk'] at h1;clear hk';go_enter func151,ntmps151;go_wp2_with (go_at_call 186;refine (zb9 S pb st _ HB.ok (Nat.le_of_eq Hk.symm) (HR.alloc _)).mono ?_;rintro e w1 ⟨rfl,HL1,HF1⟩;have Hh:xH w1 w.heap.size #[.string ⟨#[]⟩,xI 0] 117:=(HF1.block _ (Nat.lt_of_lt_of_eq (Nat.lt_succ_self _) (by simp)) hne).trans (zc _ _);obtain⟨d0,d1,df,dz⟩:=zp Hh;simp only[Tk.cval]);refine bodyPost_ret (v:=zcc st) (by rw[HV.o,<- HC.o];exact zfF rfl rfl ((Below.heap_alloc _ _ _ (ze (zh _ _ _ _ (zh _ _ _ _ Hh)))).trans (zh _ _ _ _ (zh _ _ _ _ Hh)))) rfl ⟨rfl,?_,?_⟩
   . rw[HE];exact ((HL1.setOther hlt _ _).setOther hlt _ _).alloc _
   . exact (((((Fr.refl _ w).alloc _).trans HF1).setNew (Nat.le_refl _) _ _).setNew (Nat.le_refl _) _ _).alloc _
 . have hk':((ck st.t:Int) != 3)=true:=by
    have:ck st.t≠3:=by unfold ck;(repeat' split) <;> first|decide|(exfalso;omega)
    simp;omega
   have HE:st.name=st.fail 2 st.t.a:=(by unfold St.name;rw[if_neg Hk]);have HV:Hid (zcc st=.agg #[.string ⟨#[]⟩,xI 0]):=(by unfold Hid zcc;rw[if_neg Hk]);have hsyn:xC w 8 0 (.iface 324 (.pointer (some (S 2)))):=HR.gl.syn;have hG:8<w.heap.size:=Nat.lt_of_lt_of_le (by decide) HR.gl.size;go_enter func151,ntmps151;go_wp2_with (go_at_call 87;refine (zc5 S pb st 2 (by decide) _ (HR.alloc _)).mono ?_;rintro e w1 ⟨rfl,HL1,HF1⟩;have Hh:xH w1 w.heap.size #[.string ⟨#[]⟩,xI 0] 117:=(HF1.block _ (Nat.lt_of_lt_of_eq (Nat.lt_succ_self _) (by simp)) hne).trans (zc _ _);obtain⟨d0,d1,df,dz⟩:=zp Hh);refine bodyPost_ret (v:=zcc st) (by rw[HV.o];exact zfF rfl rfl (zh _ _ _ _ (zh _ _ _ _ Hh))) rfl ⟨rfl,?_,?_⟩
   . rw[HE];exact (HL1.setOther hlt _ _).setOther hlt _ _
   . exact ((((Fr.refl _ w).alloc _).trans HF1).setNew (Nat.le_refl _) _ _).setNew (Nat.le_refl _) _ _
theorem zb8 (S:Nat->Addr)(pb:Nat)(st:St)(k:Nat)(w:World)(hR:PL S w pb st):xK 208 #[xP pb,xI k] w λe w'=>e=.returned (xP w.heap.size)/\w.alloc (.cells #[xI k,xI st.t.a,.string ⟨#[]⟩,xI 0,xI 0,.slice none 0 0] 226 (0,0))=w':=by obtain⟨h0,h1,h2,h3,h4,h5,h6⟩:=hR.cells;have hlt:=hR.lt;clear hR;go_enter func208,ntmps208;go_wp2;go_ret;exact⟨rfl,rfl⟩
end
section
open Go.RowKit
theorem zm8 (S:Nat->Addr)(k:Nat)(s:ByteArray)(hk:zcY[k]?=some s)(w:World)(hG:Gl S w):xK 192 #[xI k] w λe w'=>e=.returned (.string s)/\w=w':=by
 have hc:=hG.words k s hk;have hl:k<24:=by
  rcases Nat.lt_or_ge k 24 with h|h
  . exact h
  . rw[List.getElem?_eq_none (by simpa [zcY] using h)] at hk;cases hk
 have hi:(0:Int)<=(k:Int)/\(k:Int)<24:=by omega
 go_enter func192,ntmps192;go_wp2;go_ret;exact⟨rfl,rfl⟩
def wd (k:Nat):ByteArray:=(zcY[k]?).getD ⟨#[]⟩
def opM (st:St):List Nat->Option Nat
 | []=>none
 | k::ks=>if st.atB (wd k).toList=true then some k else opM st ks
def opV:Option Nat->Value
 | some k=>.tuple #[xI k,.bool true]
 | none=>.tuple #[xI 0,.bool false]
theorem zbd (S:Nat->Addr)(pb:Nat)(st:St)(kb:Nat)(n:Nat)(ks:List Nat)(hn:n=ks.length)(hn4:ks.length<=100)(w:World)(hks:∀(i k:Nat),ks[i]?=some k->xC w kb i (xI k))(h24:∀k∈ks,k<24)(hk:st.t.k<=5)(hR:PL S w pb st):xK 226 #[xP pb,xS kb n n] w λe w'=>e=.returned (opV (opM st ks))/\w=w':=by
 subst hn;have HR:=za hR;have Hks:=za hks;have H24:=za h24;have hk5:=za hk;clear hR hks h24 hk;go_enter func226,ntmps226;go_wp2;go_loop [10] (λi=>∃j:Nat,j<=ks.length/\i=xI j/\Hid (opM st (ks.drop j)=opM st ks)) (λi=>ks.length-(intOf i).toNat)
 case atStart=>exact⟨0,Nat.zero_le _,rfl,rfl⟩
 case round =>
  obtain⟨j,hj,rfl,HS⟩:=hrel;by_cases hlt:j<ks.length
  . obtain⟨k,hkj⟩:∃k,ks[j]?=some k:=⟨ks[j],zsc hlt⟩;have hc:xC w kb j (xI k):=Hks.o j k hkj;have hk24:=H24.o k (List.mem_of_getElem? hkj);obtain⟨s,hs⟩:∃s,zcY[k]?=some s:=⟨zcY[k]'(by simpa [zcY] using hk24),by rw[zsc]⟩;have hw:wd k=s:=by unfold wd;rw[hs];rfl
    have hd:ks.drop j=k::ks.drop (j+1):=(by rw[List.getElem?_eq_some_iff] at hkj;obtain⟨h1,h2⟩:=hkj;rw[<- h2];exact List.drop_eq_getElem_cons h1);have HW:=za (zm8 S k s hs w HR.o.gl);have HA:=za (zaP S pb st s _ rfl w hk5.out HR.o);have hO:(if st.atB s.toList=true then some k else opM st (ks.drop (j+1)))=opM st ks:=(by rw[<- HS.o,hd,<- hw];rfl);clear HS hd hw hs hkj;cases hb:st.atB s.toList with
    | true => rw[hb,if_pos rfl] at hO;rw[hb] at HA;have HO:=za hO;clear hb hO;go_wp2_with (first|(go_at_call 192;refine HW.o.mono ?_;rintro e w' ⟨rfl,rfl⟩)|(go_at_call 85;refine HA.o.mono ?_;rintro e w' ⟨rfl,rfl⟩));refine bodyPost_ret (v:=opV (some k)) (by simp[results,results226,go_sem,opV]) rfl ⟨by rw[<- HO.o],rfl⟩
    | false =>
      rw[hb,if_neg (by simp)] at hO;rw[hb] at HA;have HO:=za hO;clear hb hO;go_wp2_with (first|(go_at_call 192;refine HW.o.mono ?_;rintro e w' ⟨rfl,rfl⟩)|(go_at_call 85;refine HA.o.mono ?_;rintro e w' ⟨rfl,rfl⟩));go_round
      case rel=>exact⟨j+1,by omega,by go_num,HO⟩
      case measure=>simp[intOf];omega
  . have hO:opM st ks=none:=by rw[<- HS.o,List.drop_of_length_le (by omega)];rfl
    have HO:=za hO;clear HS hO;go_wp2;refine bodyPost_ret (v:=opV none) (by simp[results,results226,go_sem,opV]) rfl ⟨by rw[HO.o],rfl⟩
end
section
variable {n:Nat} {t:Tk}
theorem Inv.len {p:Nat}{st:St}(h:Inv p st):st.L.length<=100000:=by have h1:=h.pot;have h2:=h.ok.ta_le;split at h1 <;> omega
def rem (st:St):Nat:=if st.er=0 then 1201-st.t.a else 0
def zds (x:List UInt8)(n:Nat):Bool:=if x=[111,114]∨x=[120,111,114] then n==0 else if x=[97,110,100] then n==1 else if x=[43]∨x=[45] then n==2 else if x=[42]∨x=[47]∨x=[37] then n==3 else false
theorem zdQ (hk:t.k≠4/\t.k≠5):zco t n=false:=by unfold zco;rw[if_pos hk]
theorem zek (hk:t.k=4∨t.k=5):zco t n=zds t.s.toList n:=by unfold zco;rw[if_neg (by omega)];rfl
end
end Go.Proofs.YtbicmofihhjgbaaGreatDoor
