/- Prints holds: for every input the law returns true, and what was handed in reads behind the call as it read before; the package-level variables hold at the beginning what the program's own text lays into them (the card ties that). -/
import Derived.SevenTiedAt
import Derived.Test.YtmfkofhgdjechaaGreatDoorCards
import Derived.Test.YtmfkofhgdjechaaGreatDoorTie
import Derived.Test.YtmfkofhgdjechaaGreatDoorK47
set_option maxRecDepth 100000
set_option maxHeartbeats 8000000
namespace Go.Proofs.YtmfkofhgdjechaaGreatDoor
open Go.Proofs.Tryz
open Go.ChangeShapes Go.WideShapes Go.ChangeAt Go.RowKit
section
theorem zae {a b:Bool}(h1:a=true)(h2:b=true):(a&&b)=true:=by rw[h1,h2];rfl
theorem zCs:joinedFacts prog 4 Tryz.f4 Rows.printsSpec Rows.printsRow=true:=by unfold joinedFacts;exact (zae (zae (zae (zae (zae (zae (zae (zae (zae (zae (zae (zae (zae (zae (zae (zae (zae (zae (zae (zae (zae (zae (zae (zae (zae (zae (zae (zae (zae (zae (zae jp0 Tryz.laidOut) Tryz.mapsR) jp3) jp4) jp5) jp6) jp7) jp8) jp9) zHb) zG4) zGW) zGX) zHd) zHj) zG5) zHl) zHk) zHe) zG1) zG3) zG7) zHf) Tryz.heard) Tryz.enter) zHi) zG6) zGY) zG8) zHc) zHm)
theorem zCS:Tryz.f4.isInstance prog Rows.printsRow.origin Rows.printsRow.targs:=of_decide_eq_true (by kernel_rfl)
theorem zCW:Tryz.f4.isWrapper prog Rows.printsRow.wrapper Rows.printsRow.mainSum:=by unfold Func.isWrapper;first|(rw[if_pos (by decide +kernel)];kernel_rfl)|(rw[if_neg (by decide +kernel)];exact⟨rfl,rfl⟩)
theorem zAw:prog.funcNamed "cadence/cadencelaw.Prints"=some 4:=by kernel_rfl
theorem zDI:Rows.PrintsSaid :=
 OpenClaim.holds_of_wide (p:=Tryz.pinned) (s:=Rows.printsSpec) (c:=Rows.printsRow) 4 Tryz.f4 rfl rfl rfl rfl rfl rfl rfl ⟨rfl,rfl,rfl,rfl,rfl⟩ rfl rfl rfl rfl rfl zAw func4 zCs zCS zCW
  (λos started H enc _=>zB4 os started H enc)
theorem zEp:Rows.printsRow.wfByText (OpenSpec.ofChange Rows.printsSpec)=true:=by kernel_rfl
theorem Tryz.main:prog.mainIs=some (true,"3baf10e29c05bfc998b679f4b4d3351ac191fc5a52c64653dab5a8c2e0ea024f".toList):=by kernel_rfl
theorem Tryz.looked:true=prog.looks []:=by kernel_rfl
theorem Tryz.noStand:prog.wantsStandIn 22=false:=by kernel_rfl
theorem zCO:false=Rows.printsRow.goesBy prog:=by kernel_rfl
theorem prints_holds:Rows.PrintsCardSaid :=
 Claim7.holds_tied_plain_at .later [] [.data,.data,.data,.data,.handle,.sentinel,.sentinel,.sentinel,.sentinel,.sentinel,.sentinel,.sentinel,.sentinel,.sentinel,.sentinel,.sentinel,.sentinel,.sentinel,.data,.data] true (true,"3baf10e29c05bfc998b679f4b4d3351ac191fc5a52c64653dab5a8c2e0ea024f") true
  zDI (λ_ h=>by cases h) zEp (λ_ h=>by cases h) prints_row_tie rfl ⟨rfl,rfl⟩ Tryz.main rfl
  (λf fn hf hfn=>by
    obtain rfl:f=4:=Option.some.inj (zAw.symm.trans hf) |>.symm;obtain rfl:fn=Tryz.f4:=(Option.some.inj (func4.symm.trans hfn)).symm;exact⟨Tryz.looked,λj t ht=>by
     rw[params4] at ht;rcases j with _|j
     . obtain rfl:22=t:=by simpa using ht
       exact Tryz.noStand
     . simp at ht⟩)
  zCO
end
end Go.Proofs.YtmfkofhgdjechaaGreatDoor
