/-
  DERIVED. GIVEN WITH THE SEED: THE CARDS: each row of YtlfmfhmbkpnjbaaDoorRows.lean that lists a variable, with what it lists TIED to the program's text (the seventh form; the later family's looks); each row that meets fmt, with fmt's text TOLD by the authors' own Lean function (tested against real Go, not proved from fmt's source: count such statements apart). THE CARD IS WHAT COUNTS. Prove the row's statement (the work); the ties are given (YtlfmfhmbkpnjbaaDoorTie.lean); close each card by the builder's one call (the guide's Derived/Test/ToyasCard.lean, 'card_holds'). Laid BY PROGRAM, IN A SANDBOX (cutbox-door.mjs). By AI agents, Wed Nov 11 2026. No macro, syntax, notation, axiom, sorry.
-/
import Derived.Test.YtlfmfhmbkpnjbaaDoorRows
import GoSem.ClaimSeven
namespace Go.Proofs.YtlfmfhmbkpnjbaaDoor
namespace Rows

/-- THE TIED CARD OF 'encorekeep.Named'. -/
def namedCard : Claim7 := { stood := { row := namedRow, standIns := [], harness := (true, "dc1f43daf0a5a52c1ab9db48fcd84401e891ab4bd3f0ed3d314a01bb2fbe8444"), looks := true }, kinds := [], alts := [], laidByText := true, laidKinds := [.data, .data, .data], laidTests := true, laidLooks := .later }
def NamedCardSaid : Prop := Claim7.holds Tryd.pinned (.plain (OpenSpec.ofChange namedSpec)) namedCard

/-- THE SECOND FORM's CARD OF 'encorekeep.Named'. -/
def namedUptoCard : Claim7 := { stood := { row := namedUptoRow, standIns := [], harness := (true, "dc1f43daf0a5a52c1ab9db48fcd84401e891ab4bd3f0ed3d314a01bb2fbe8444"), looks := true }, kinds := [], alts := [], laidByText := true, laidKinds := [.data, .data, .data], laidTests := true, laidLooks := .later }
def NamedUptoCardSaid : Prop := Claim7.holds Tryd.pinned (.plain (OpenSpec.upto namedSpec)) namedUptoCard
end Rows
end Go.Proofs.YtlfmfhmbkpnjbaaDoor
