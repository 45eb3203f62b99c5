/-
  DERIVED. GIVEN WITH THE SEED: THE CARDS: each row of YtgclehnhjjkdbaaGreatDoorRows.lean that lists a variable, with what it lists TIED to the program's text (the seventh form; the later family's looks); each row that meets fmt, with fmt's text TOLD by the authors' own Lean function (tested against real Go, not proved from fmt's source: count such statements apart). THE CARD IS WHAT COUNTS. Prove the row's statement (the work); the ties are given (YtgclehnhjjkdbaaGreatDoorTie.lean); close each card by the builder's one call (the guide's Derived/Test/ToyasCard.lean, 'card_holds'). Laid BY PROGRAM, IN A SANDBOX (cutbox-door.mjs). By AI agents, Wed Nov 11 2026. No macro, syntax, notation, axiom, sorry.
-/
import Derived.Test.YtgclehnhjjkdbaaGreatDoorRows
import GoSem.ClaimSeven
namespace Go.Proofs.YtgclehnhjjkdbaaGreatDoor
namespace Rows

/-- THE TIED CARD OF 'encorelaw.Records'. -/
def recordsCard : Claim7 := { stood := { row := recordsRow, standIns := [], harness := (true, "fd3b6316841be51cb58aa9a0be3bdc5fbf7878d8f78a32d799053e6c5091bf61"), looks := true }, kinds := [], alts := [], laidByText := true, laidKinds := [.data, .data, .data], laidTests := true, laidLooks := .later }
def RecordsCardSaid : Prop := Claim7.holds Tryz.pinned (.plain (OpenSpec.ofChange recordsSpec)) recordsCard

/-- THE SECOND FORM's CARD OF 'encorelaw.Records'. -/
def recordsUptoCard : Claim7 := { stood := { row := recordsUptoRow, standIns := [], harness := (true, "fd3b6316841be51cb58aa9a0be3bdc5fbf7878d8f78a32d799053e6c5091bf61"), looks := true }, kinds := [], alts := [], laidByText := true, laidKinds := [.data, .data, .data], laidTests := true, laidLooks := .later }
def RecordsUptoCardSaid : Prop := Claim7.holds Tryz.pinned (.plain (OpenSpec.upto recordsSpec)) recordsUptoCard
end Rows
end Go.Proofs.YtgclehnhjjkdbaaGreatDoor
