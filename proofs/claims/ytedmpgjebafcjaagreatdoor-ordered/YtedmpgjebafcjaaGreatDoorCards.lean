/-
  DERIVED. GIVEN WITH THE SEED: THE CARDS: each row of YtedmpgjebafcjaaGreatDoorRows.lean that lists a variable, with what it lists TIED to the program's text (the seventh form; the later family's looks); each row that meets fmt, with fmt's text TOLD by the authors' own Lean function (tested against real Go, not proved from fmt's source: count such statements apart). THE CARD IS WHAT COUNTS. Prove the row's statement (the work); the ties are given (YtedmpgjebafcjaaGreatDoorTie.lean); close each card by the builder's one call (the guide's Derived/Test/ToyasCard.lean, 'card_holds'). Laid BY PROGRAM, IN A SANDBOX (cutbox-door.mjs). By AI agents, Wed Nov 11 2026. No macro, syntax, notation, axiom, sorry.
-/
import Derived.Test.YtedmpgjebafcjaaGreatDoorRows
import GoSem.ClaimSeven
namespace Go.Proofs.YtedmpgjebafcjaaGreatDoor
namespace Rows

/-- THE TIED CARD OF 'cadencekeep.Sampled'. -/
def sampledCard : Claim7 := { stood := { row := sampledRow, standIns := [], harness := (true, "85ebeb2ff86fcff32053cbf37fc533cace43c5bf82507a6d735a71fa134da4dc"), looks := true }, kinds := [], alts := [], laidByText := true, laidKinds := [.data, .data, .data, .data, .handle, .sentinel, .sentinel, .sentinel, .sentinel, .sentinel, .sentinel, .sentinel, .sentinel, .sentinel, .sentinel, .sentinel, .sentinel, .sentinel, .data, .data], laidTests := true, laidLooks := .later }
def SampledCardSaid : Prop := Claim7.holds Tryz.pinned (.plain (OpenSpec.ofChange sampledSpec)) sampledCard

/-- THE TIED CARD OF 'cadencekeep.Nested'. -/
def nestedCard : Claim7 := { stood := { row := nestedRow, standIns := [], harness := (true, "85ebeb2ff86fcff32053cbf37fc533cace43c5bf82507a6d735a71fa134da4dc"), looks := true }, kinds := [], alts := [], laidByText := true, laidKinds := [.data, .data, .data, .data, .handle, .sentinel, .sentinel, .sentinel, .sentinel, .sentinel, .sentinel, .sentinel, .sentinel, .sentinel, .sentinel, .sentinel, .sentinel, .sentinel, .data, .data], laidTests := true, laidLooks := .later }
def NestedCardSaid : Prop := Claim7.holds Tryz.pinned (.plain (OpenSpec.ofChange nestedSpec)) nestedCard

/-- THE TIED CARD OF 'cadencekeep.Ordered'. -/
def orderedCard : Claim7 := { stood := { row := orderedRow, standIns := [], harness := (true, "85ebeb2ff86fcff32053cbf37fc533cace43c5bf82507a6d735a71fa134da4dc"), looks := true }, kinds := [], alts := [], laidByText := true, laidKinds := [.data, .data, .data, .data, .handle, .sentinel, .sentinel, .sentinel, .sentinel, .sentinel, .sentinel, .sentinel, .sentinel, .sentinel, .sentinel, .sentinel, .sentinel, .sentinel, .data, .data], laidTests := true, laidLooks := .later }
def OrderedCardSaid : Prop := Claim7.holds Tryz.pinned (.plain (OpenSpec.ofChange orderedSpec)) orderedCard

/-- THE SECOND FORM's CARD OF 'cadencekeep.Sampled'. -/
def sampledUptoCard : Claim7 := { stood := { row := sampledUptoRow, standIns := [], harness := (true, "85ebeb2ff86fcff32053cbf37fc533cace43c5bf82507a6d735a71fa134da4dc"), looks := true }, kinds := [], alts := [], laidByText := true, laidKinds := [.data, .data, .data, .data, .handle, .sentinel, .sentinel, .sentinel, .sentinel, .sentinel, .sentinel, .sentinel, .sentinel, .sentinel, .sentinel, .sentinel, .sentinel, .sentinel, .data, .data], laidTests := true, laidLooks := .later }
def SampledUptoCardSaid : Prop := Claim7.holds Tryz.pinned (.plain (OpenSpec.upto sampledSpec)) sampledUptoCard

/-- THE SECOND FORM's CARD OF 'cadencekeep.Nested'. -/
def nestedUptoCard : Claim7 := { stood := { row := nestedUptoRow, standIns := [], harness := (true, "85ebeb2ff86fcff32053cbf37fc533cace43c5bf82507a6d735a71fa134da4dc"), looks := true }, kinds := [], alts := [], laidByText := true, laidKinds := [.data, .data, .data, .data, .handle, .sentinel, .sentinel, .sentinel, .sentinel, .sentinel, .sentinel, .sentinel, .sentinel, .sentinel, .sentinel, .sentinel, .sentinel, .sentinel, .data, .data], laidTests := true, laidLooks := .later }
def NestedUptoCardSaid : Prop := Claim7.holds Tryz.pinned (.plain (OpenSpec.upto nestedSpec)) nestedUptoCard

/-- THE SECOND FORM's CARD OF 'cadencekeep.Ordered'. -/
def orderedUptoCard : Claim7 := { stood := { row := orderedUptoRow, standIns := [], harness := (true, "85ebeb2ff86fcff32053cbf37fc533cace43c5bf82507a6d735a71fa134da4dc"), looks := true }, kinds := [], alts := [], laidByText := true, laidKinds := [.data, .data, .data, .data, .handle, .sentinel, .sentinel, .sentinel, .sentinel, .sentinel, .sentinel, .sentinel, .sentinel, .sentinel, .sentinel, .sentinel, .sentinel, .sentinel, .data, .data], laidTests := true, laidLooks := .later }
def OrderedUptoCardSaid : Prop := Claim7.holds Tryz.pinned (.plain (OpenSpec.upto orderedSpec)) orderedUptoCard
end Rows
end Go.Proofs.YtedmpgjebafcjaaGreatDoor
