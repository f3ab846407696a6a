/- Part 11 of the proof. -/
import Derived.Deep.RegionHeld3
import Derived.Test.YtbicmofihhjgbaaGreatDoorK00
set_option maxRecDepth 100000
set_option maxHeartbeats 8000000
namespace Go.Proofs.YtbicmofihhjgbaaGreatDoor
open Go.Proofs.Tryz
section
variable {a:Act} {e:Array Bool} {d:Array Oper} {Q:Exit->Act->World->Prop} {j:Nat} {f:Oper} {P:Program} {g:Region.Mode} {v:Xv} {w:Xw} {S:World->Prop}
theorem O1 {i:Nat}(m:d[i]?=some f)
 (b:(Region.noSelect d&&(Region.free g d e i&&(Region.ready g d e).contains i))=true)
 (k:∀c a w,Q (.panic c) (a.put f.dst v) w->Q (.panic c) a w) (n:YieldsIf P d S f v a) (l:S w)
 (h:wpAnyH P g d Q S j (e.setIfInBounds i true) (a.put f.dst v) w):wpAnyH P g d Q S (j+1) e a w:=by
 simp only[Bool.and_eq_true] at b;exact wpAnyH_take m b.1 b.2.1 b.2.2 k n l h
theorem aR (i:Nat)(m:d[i]?=some f)(n:YieldsIf P d S f v a)
 (h:wpAnyH P g d Q S j (e.setIfInBounds i true) (a.put f.dst v) w)
 (l:(Region.noSelect d&&(Region.free g d e i&&(Region.ready g d e).contains i))=true:=by kernel_rfl)
 (b:∀c a w,Q (.panic c) (a.put f.dst v) w->Q (.panic c) a w:=by exact λ_ _ _ h=>h) (k:S w:=by assumption):wpAnyH P g d Q S (j+1) e a w:=O1 m l b n k h
theorem aD:(∀{α:Type} (a:α) (l:List α) (h:0<(a::l).length),(a::l)[0]'h=a)/\(∀{α:Type} (a:α) (l:List α) (i:Nat) (h:i+1<(a::l).length),(a::l)[i+1]'h=l[i]'(Nat.lt_of_succ_lt_succ h))/\(∀{α:Type} {l:List α} {i:Nat} (h:i<l.toArray.size),l.toArray[i]'h=l[i]'(by simpa using h))/\(∀{α:Type} (l:List α) (i:Nat) (a:α),l.toArray.setIfInBounds i a=(l.set i a).toArray)/\(∀{α:Type} {l:List α} {a b:α},(a::l).set 0 b=b::l)/\∀{α:Type} {l:List α} {a b:α} {n:Nat},(a::l).set (n+1) b=a::l.set n b :=
 ⟨λ_ _ _=>rfl,λ_ _ _ _=>rfl,λ_=>rfl,λl i a=>K7 l i a,rfl,rfl⟩
end
end Go.Proofs.YtbicmofihhjgbaaGreatDoor
