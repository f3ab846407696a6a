/-
  DERIVED. GIVEN WITH THE SEED: THE CARDS: each row of YtbicmofihhjgbaaGreatDoorRows.lean that lists a variable, with what it lists TIED to the program's text (the seventh form; the later family's looks); each row that meets fmt, with fmt's text TOLD by the authors' own Lean function (tested against real Go, not proved from fmt's source: count such statements apart). THE CARD IS WHAT COUNTS. Prove the row's statement (the work); the ties are given (YtbicmofihhjgbaaGreatDoorTie.lean); close each card by the builder's one call (the guide's Derived/Test/ToyasCard.lean, 'card_holds'). Laid BY PROGRAM, IN A SANDBOX (cutbox-door.mjs). By AI agents, Wed Nov 11 2026. No macro, syntax, notation, axiom, sorry.
-/
import Derived.Test.YtbicmofihhjgbaaGreatDoorRows
import GoSem.ClaimSeven
namespace Go.Proofs.YtbicmofihhjgbaaGreatDoor
namespace Rows

/-- THE TIED CARD OF 'cadencekeep.Canonical'. -/
def canonicalCard : Claim7 := { stood := { row := canonicalRow, standIns := [], harness := (true, "64034a7d68e1b7ee5ccbb41cd982dfdc980dfba6fa4908a744de58c32e1e0d0d"), looks := true }, kinds := [], alts := [], laidByText := true, laidKinds := [.data, .data, .data, .data, .handle, .sentinel, .sentinel, .sentinel, .sentinel, .sentinel, .sentinel, .sentinel, .sentinel, .sentinel, .sentinel, .sentinel, .sentinel], laidTests := true, laidLooks := .later }
def CanonicalCardSaid : Prop := Claim7.holds Tryz.pinned (.plain (OpenSpec.ofChange canonicalSpec)) canonicalCard

/-- THE TIED CARD OF 'cadencekeep.Compiled'. -/
def compiledCard : Claim7 := { stood := { row := compiledRow, standIns := [], harness := (true, "64034a7d68e1b7ee5ccbb41cd982dfdc980dfba6fa4908a744de58c32e1e0d0d"), looks := true }, kinds := [], alts := [], laidByText := true, laidKinds := [.data, .data, .data, .data, .handle, .sentinel, .sentinel, .sentinel, .sentinel, .sentinel, .sentinel, .sentinel, .sentinel, .sentinel, .sentinel, .sentinel, .sentinel, .sentinel, .data, .data], laidTests := true, laidLooks := .later }
def CompiledCardSaid : Prop := Claim7.holds Tryz.pinned (.plain (OpenSpec.ofChange compiledSpec)) compiledCard

/-- THE TIED CARD OF 'cadencekeep.Sums'. -/
def sumsCard : Claim7 := { stood := { row := sumsRow, standIns := [], harness := (true, "64034a7d68e1b7ee5ccbb41cd982dfdc980dfba6fa4908a744de58c32e1e0d0d"), looks := true }, kinds := [], alts := [], laidByText := true, laidKinds := [.data, .data, .data, .data, .handle, .sentinel, .sentinel, .sentinel, .sentinel, .sentinel, .sentinel, .sentinel, .sentinel, .sentinel, .sentinel, .sentinel, .sentinel, .sentinel, .data, .data], laidTests := true, laidLooks := .later }
def SumsCardSaid : Prop := Claim7.holds Tryz.pinned (.plain (OpenSpec.ofChange sumsSpec)) sumsCard

/-- THE TIED CARD OF 'cadencekeep.Future'. -/
def futureCard : Claim7 := { stood := { row := futureRow, standIns := [], harness := (true, "64034a7d68e1b7ee5ccbb41cd982dfdc980dfba6fa4908a744de58c32e1e0d0d"), looks := true }, kinds := [], alts := [], laidByText := true, laidKinds := [.data, .data, .data, .data, .handle, .sentinel, .sentinel, .sentinel, .sentinel, .sentinel, .sentinel, .sentinel, .sentinel, .sentinel, .sentinel, .sentinel, .sentinel, .sentinel, .data, .data], laidTests := true, laidLooks := .later }
def FutureCardSaid : Prop := Claim7.holds Tryz.pinned (.plain (OpenSpec.ofChange futureSpec)) futureCard

/-- THE TIED CARD OF 'cadencekeep.Twins'. -/
def twinsCard : Claim7 := { stood := { row := twinsRow, standIns := [], harness := (true, "64034a7d68e1b7ee5ccbb41cd982dfdc980dfba6fa4908a744de58c32e1e0d0d"), looks := true }, kinds := [], alts := [], laidByText := true, laidKinds := [.data, .data, .data, .data, .handle, .sentinel, .sentinel, .sentinel, .sentinel, .sentinel, .sentinel, .sentinel, .sentinel, .sentinel, .sentinel, .sentinel, .sentinel, .sentinel, .data, .data], laidTests := true, laidLooks := .later }
def TwinsCardSaid : Prop := Claim7.holds Tryz.pinned (.plain (OpenSpec.ofChange twinsSpec)) twinsCard

/-- THE TIED CARD OF 'cadencekeep.Any'. -/
def anyCard : Claim7 := { stood := { row := anyRow, standIns := [], harness := (true, "64034a7d68e1b7ee5ccbb41cd982dfdc980dfba6fa4908a744de58c32e1e0d0d"), looks := true }, kinds := [], alts := [], laidByText := true, laidKinds := [.data, .data, .data, .data, .handle, .sentinel, .sentinel, .sentinel, .sentinel, .sentinel, .sentinel, .sentinel, .sentinel, .sentinel, .sentinel, .sentinel, .sentinel, .sentinel, .data, .data], laidTests := true, laidLooks := .later }
def AnyCardSaid : Prop := Claim7.holds Tryz.pinned (.plain (OpenSpec.ofChange anySpec)) anyCard

/-- THE SECOND FORM's CARD OF 'cadencekeep.Canonical'. -/
def canonicalUptoCard : Claim7 := { stood := { row := canonicalUptoRow, standIns := [], harness := (true, "64034a7d68e1b7ee5ccbb41cd982dfdc980dfba6fa4908a744de58c32e1e0d0d"), looks := true }, kinds := [], alts := [], laidByText := true, laidKinds := [.data, .data, .data, .data, .handle, .sentinel, .sentinel, .sentinel, .sentinel, .sentinel, .sentinel, .sentinel, .sentinel, .sentinel, .sentinel, .sentinel, .sentinel], laidTests := true, laidLooks := .later }
def CanonicalUptoCardSaid : Prop := Claim7.holds Tryz.pinned (.plain (OpenSpec.upto canonicalSpec)) canonicalUptoCard

/-- THE SECOND FORM's CARD OF 'cadencekeep.Compiled'. -/
def compiledUptoCard : Claim7 := { stood := { row := compiledUptoRow, standIns := [], harness := (true, "64034a7d68e1b7ee5ccbb41cd982dfdc980dfba6fa4908a744de58c32e1e0d0d"), looks := true }, kinds := [], alts := [], laidByText := true, laidKinds := [.data, .data, .data, .data, .handle, .sentinel, .sentinel, .sentinel, .sentinel, .sentinel, .sentinel, .sentinel, .sentinel, .sentinel, .sentinel, .sentinel, .sentinel, .sentinel, .data, .data], laidTests := true, laidLooks := .later }
def CompiledUptoCardSaid : Prop := Claim7.holds Tryz.pinned (.plain (OpenSpec.upto compiledSpec)) compiledUptoCard

/-- THE SECOND FORM's CARD OF 'cadencekeep.Sums'. -/
def sumsUptoCard : Claim7 := { stood := { row := sumsUptoRow, standIns := [], harness := (true, "64034a7d68e1b7ee5ccbb41cd982dfdc980dfba6fa4908a744de58c32e1e0d0d"), looks := true }, kinds := [], alts := [], laidByText := true, laidKinds := [.data, .data, .data, .data, .handle, .sentinel, .sentinel, .sentinel, .sentinel, .sentinel, .sentinel, .sentinel, .sentinel, .sentinel, .sentinel, .sentinel, .sentinel, .sentinel, .data, .data], laidTests := true, laidLooks := .later }
def SumsUptoCardSaid : Prop := Claim7.holds Tryz.pinned (.plain (OpenSpec.upto sumsSpec)) sumsUptoCard

/-- THE SECOND FORM's CARD OF 'cadencekeep.Future'. -/
def futureUptoCard : Claim7 := { stood := { row := futureUptoRow, standIns := [], harness := (true, "64034a7d68e1b7ee5ccbb41cd982dfdc980dfba6fa4908a744de58c32e1e0d0d"), looks := true }, kinds := [], alts := [], laidByText := true, laidKinds := [.data, .data, .data, .data, .handle, .sentinel, .sentinel, .sentinel, .sentinel, .sentinel, .sentinel, .sentinel, .sentinel, .sentinel, .sentinel, .sentinel, .sentinel, .sentinel, .data, .data], laidTests := true, laidLooks := .later }
def FutureUptoCardSaid : Prop := Claim7.holds Tryz.pinned (.plain (OpenSpec.upto futureSpec)) futureUptoCard

/-- THE SECOND FORM's CARD OF 'cadencekeep.Twins'. -/
def twinsUptoCard : Claim7 := { stood := { row := twinsUptoRow, standIns := [], harness := (true, "64034a7d68e1b7ee5ccbb41cd982dfdc980dfba6fa4908a744de58c32e1e0d0d"), looks := true }, kinds := [], alts := [], laidByText := true, laidKinds := [.data, .data, .data, .data, .handle, .sentinel, .sentinel, .sentinel, .sentinel, .sentinel, .sentinel, .sentinel, .sentinel, .sentinel, .sentinel, .sentinel, .sentinel, .sentinel, .data, .data], laidTests := true, laidLooks := .later }
def TwinsUptoCardSaid : Prop := Claim7.holds Tryz.pinned (.plain (OpenSpec.upto twinsSpec)) twinsUptoCard

/-- THE SECOND FORM's CARD OF 'cadencekeep.Any'. -/
def anyUptoCard : Claim7 := { stood := { row := anyUptoRow, standIns := [], harness := (true, "64034a7d68e1b7ee5ccbb41cd982dfdc980dfba6fa4908a744de58c32e1e0d0d"), looks := true }, kinds := [], alts := [], laidByText := true, laidKinds := [.data, .data, .data, .data, .handle, .sentinel, .sentinel, .sentinel, .sentinel, .sentinel, .sentinel, .sentinel, .sentinel, .sentinel, .sentinel, .sentinel, .sentinel, .sentinel, .data, .data], laidTests := true, laidLooks := .later }
def AnyUptoCardSaid : Prop := Claim7.holds Tryz.pinned (.plain (OpenSpec.upto anySpec)) anyUptoCard
end Rows
end Go.Proofs.YtbicmofihhjgbaaGreatDoor
