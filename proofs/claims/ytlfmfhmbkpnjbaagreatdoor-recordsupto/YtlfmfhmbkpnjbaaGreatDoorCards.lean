/-
  DERIVED. GIVEN WITH THE SEED: THE CARDS: each row of YtlfmfhmbkpnjbaaGreatDoorRows.lean that lists a variable, with what it lists TIED to the program's text (the seventh form; the later family's looks); each row that meets fmt, with fmt's text TOLD by the authors' own Lean function (tested against real Go, not proved from fmt's source: count such statements apart). THE CARD IS WHAT COUNTS. Prove the row's statement (the work); the ties are given (YtlfmfhmbkpnjbaaGreatDoorTie.lean); close each card by the builder's one call (the guide's Derived/Test/ToyasCard.lean, 'card_holds'). Laid BY PROGRAM, IN A SANDBOX (cutbox-door.mjs). By AI agents, Wed Nov 11 2026. No macro, syntax, notation, axiom, sorry.
-/
import Derived.Test.YtlfmfhmbkpnjbaaGreatDoorRows
import GoSem.ClaimSeven
namespace Go.Proofs.YtlfmfhmbkpnjbaaGreatDoor
namespace Rows

/-- THE TIED CARD OF 'encorelaw.Records'. -/
def recordsCard : Claim7 := { stood := { row := recordsRow, standIns := [], harness := (true, "de327b41a66542c32e6ac8a13bc9f5b17f69e4109b6199f7c0cc9202a2eeede6"), looks := true }, kinds := [], alts := [], laidByText := true, laidKinds := [.data, .data, .data, .sentinel, .sentinel], laidTests := true, laidLooks := .later }
def RecordsCardSaid : Prop := Claim7.holds Tryz.pinned (.plain (OpenSpec.ofChange recordsSpec)) recordsCard

/-- THE TIED CARD OF 'encorelaw.All'. -/
def allCard : Claim7 := { stood := { row := allRow, standIns := [], harness := (true, "de327b41a66542c32e6ac8a13bc9f5b17f69e4109b6199f7c0cc9202a2eeede6"), looks := true }, kinds := [], alts := [], laidByText := true, laidKinds := [.data, .data, .data, .sentinel, .sentinel], laidTests := true, laidLooks := .later }
def AllCardSaid : Prop := Claim7.holds Tryz.pinned (.plain (OpenSpec.ofChange allSpec)) allCard

/-- THE TIED CARD OF 'encorekeep.Replayed'. -/
def replayedCard : Claim7 := { stood := { row := replayedRow, standIns := [], harness := (true, "de327b41a66542c32e6ac8a13bc9f5b17f69e4109b6199f7c0cc9202a2eeede6"), looks := true }, kinds := [], alts := [], laidByText := true, laidKinds := [.data, .data, .data, .sentinel, .sentinel], laidTests := true, laidLooks := .later }
def ReplayedCardSaid : Prop := Claim7.holds Tryz.pinned (.plain (OpenSpec.ofChange replayedSpec)) replayedCard

/-- THE TIED CARD OF 'encorekeep.Walked'. -/
def walkedCard : Claim7 := { stood := { row := walkedRow, standIns := [], harness := (true, "de327b41a66542c32e6ac8a13bc9f5b17f69e4109b6199f7c0cc9202a2eeede6"), looks := true }, kinds := [], alts := [], laidByText := true, laidKinds := [.data, .data, .data, .sentinel, .sentinel], laidTests := true, laidLooks := .later }
def WalkedCardSaid : Prop := Claim7.holds Tryz.pinned (.plain (OpenSpec.ofChange walkedSpec)) walkedCard

/-- THE SECOND FORM's CARD OF 'encorelaw.Records'. -/
def recordsUptoCard : Claim7 := { stood := { row := recordsUptoRow, standIns := [], harness := (true, "de327b41a66542c32e6ac8a13bc9f5b17f69e4109b6199f7c0cc9202a2eeede6"), looks := true }, kinds := [], alts := [], laidByText := true, laidKinds := [.data, .data, .data, .sentinel, .sentinel], laidTests := true, laidLooks := .later }
def RecordsUptoCardSaid : Prop := Claim7.holds Tryz.pinned (.plain (OpenSpec.upto recordsSpec)) recordsUptoCard

/-- THE SECOND FORM's CARD OF 'encorelaw.All'. -/
def allUptoCard : Claim7 := { stood := { row := allUptoRow, standIns := [], harness := (true, "de327b41a66542c32e6ac8a13bc9f5b17f69e4109b6199f7c0cc9202a2eeede6"), looks := true }, kinds := [], alts := [], laidByText := true, laidKinds := [.data, .data, .data, .sentinel, .sentinel], laidTests := true, laidLooks := .later }
def AllUptoCardSaid : Prop := Claim7.holds Tryz.pinned (.plain (OpenSpec.upto allSpec)) allUptoCard

/-- THE SECOND FORM's CARD OF 'encorekeep.Replayed'. -/
def replayedUptoCard : Claim7 := { stood := { row := replayedUptoRow, standIns := [], harness := (true, "de327b41a66542c32e6ac8a13bc9f5b17f69e4109b6199f7c0cc9202a2eeede6"), looks := true }, kinds := [], alts := [], laidByText := true, laidKinds := [.data, .data, .data, .sentinel, .sentinel], laidTests := true, laidLooks := .later }
def ReplayedUptoCardSaid : Prop := Claim7.holds Tryz.pinned (.plain (OpenSpec.upto replayedSpec)) replayedUptoCard

/-- THE SECOND FORM's CARD OF 'encorekeep.Walked'. -/
def walkedUptoCard : Claim7 := { stood := { row := walkedUptoRow, standIns := [], harness := (true, "de327b41a66542c32e6ac8a13bc9f5b17f69e4109b6199f7c0cc9202a2eeede6"), looks := true }, kinds := [], alts := [], laidByText := true, laidKinds := [.data, .data, .data, .sentinel, .sentinel], laidTests := true, laidLooks := .later }
def WalkedUptoCardSaid : Prop := Claim7.holds Tryz.pinned (.plain (OpenSpec.upto walkedSpec)) walkedUptoCard
end Rows
end Go.Proofs.YtlfmfhmbkpnjbaaGreatDoor
