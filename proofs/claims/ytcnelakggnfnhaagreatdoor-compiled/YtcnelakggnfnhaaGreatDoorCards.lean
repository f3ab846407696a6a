/-
  DERIVED. GIVEN WITH THE SEED: THE CARDS: each row of YtcnelakggnfnhaaGreatDoorRows.lean that lists a variable, with what it lists TIED to the program's text (the seventh form; the later family's looks); each row that meets fmt, with fmt's text TOLD by the authors' own Lean function (tested against real Go, not proved from fmt's source: count such statements apart). THE CARD IS WHAT COUNTS. Prove the row's statement (the work); the ties are given (YtcnelakggnfnhaaGreatDoorTie.lean); close each card by the builder's one call (the guide's Derived/Test/ToyasCard.lean, 'card_holds'). Laid BY PROGRAM, IN A SANDBOX (cutbox-door.mjs). By AI agents, Wed Nov 11 2026. No macro, syntax, notation, axiom, sorry.
-/
import Derived.Test.YtcnelakggnfnhaaGreatDoorRows
import GoSem.ClaimSeven
namespace Go.Proofs.YtcnelakggnfnhaaGreatDoor
namespace Rows

/-- THE TIED CARD OF 'cadencekeep.Compiled'. -/
def compiledCard : Claim7 := { stood := { row := compiledRow, standIns := [], harness := (true, "2bf6389a8d69441dbbaef9eb1aecaf49f3a314df5757aee97fd78f18758dd955"), looks := true }, kinds := [], alts := [], laidByText := true, laidKinds := [.data, .data, .data, .data, .handle, .sentinel, .sentinel, .sentinel, .sentinel, .sentinel, .sentinel, .sentinel, .sentinel, .sentinel, .sentinel, .sentinel, .sentinel, .sentinel, .data, .data], laidTests := true, laidLooks := .later }
def CompiledCardSaid : Prop := Claim7.holds Tryz.pinned (.plain (OpenSpec.ofChange compiledSpec)) compiledCard

/-- THE SECOND FORM's CARD OF 'cadencekeep.Compiled'. -/
def compiledUptoCard : Claim7 := { stood := { row := compiledUptoRow, standIns := [], harness := (true, "2bf6389a8d69441dbbaef9eb1aecaf49f3a314df5757aee97fd78f18758dd955"), looks := true }, kinds := [], alts := [], laidByText := true, laidKinds := [.data, .data, .data, .data, .handle, .sentinel, .sentinel, .sentinel, .sentinel, .sentinel, .sentinel, .sentinel, .sentinel, .sentinel, .sentinel, .sentinel, .sentinel, .sentinel, .data, .data], laidTests := true, laidLooks := .later }
def CompiledUptoCardSaid : Prop := Claim7.holds Tryz.pinned (.plain (OpenSpec.upto compiledSpec)) compiledUptoCard
end Rows
end Go.Proofs.YtcnelakggnfnhaaGreatDoor
