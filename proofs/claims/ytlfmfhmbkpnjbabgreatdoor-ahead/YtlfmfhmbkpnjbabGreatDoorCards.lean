/-
  DERIVED. GIVEN WITH THE SEED: THE CARDS: each row of YtlfmfhmbkpnjbabGreatDoorRows.lean that lists a variable, with what it lists TIED to the program's text (the seventh form; the later family's looks); each row that meets fmt, with fmt's text TOLD by the authors' own Lean function (tested against real Go, not proved from fmt's source: count such statements apart). THE CARD IS WHAT COUNTS. Prove the row's statement (the work); the ties are given (YtlfmfhmbkpnjbabGreatDoorTie.lean); close each card by the builder's one call (the guide's Derived/Test/ToyasCard.lean, 'card_holds'). Laid BY PROGRAM, IN A SANDBOX (cutbox-door.mjs). By AI agents, Wed Nov 11 2026. No macro, syntax, notation, axiom, sorry.
-/
import Derived.Test.YtlfmfhmbkpnjbabGreatDoorRows
import GoSem.ClaimSeven
namespace Go.Proofs.YtlfmfhmbkpnjbabGreatDoor
namespace Rows

/-- THE TIED CARD OF 'encorekeep.Ahead'. -/
def aheadCard : Claim7 := { stood := { row := aheadRow, standIns := [], harness := (true, "8184480036f8a5ffcc5cc0f940a63da6e39c8e4f76cb3c672e6d6dfd4273e638"), looks := true }, kinds := [], alts := [], laidByText := true, laidKinds := [.data, .data, .data, .sentinel, .sentinel], laidTests := true, laidLooks := .later }
def AheadCardSaid : Prop := Claim7.holds Tryz.pinned (.plain (OpenSpec.ofChange aheadSpec)) aheadCard

/-- THE SECOND FORM's CARD OF 'encorekeep.Ahead'. -/
def aheadUptoCard : Claim7 := { stood := { row := aheadUptoRow, standIns := [], harness := (true, "8184480036f8a5ffcc5cc0f940a63da6e39c8e4f76cb3c672e6d6dfd4273e638"), looks := true }, kinds := [], alts := [], laidByText := true, laidKinds := [.data, .data, .data, .sentinel, .sentinel], laidTests := true, laidLooks := .later }
def AheadUptoCardSaid : Prop := Claim7.holds Tryz.pinned (.plain (OpenSpec.upto aheadSpec)) aheadUptoCard
end Rows
end Go.Proofs.YtlfmfhmbkpnjbabGreatDoor
