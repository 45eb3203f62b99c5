/-
  No cell of these rows narrows 'for every input' (looked for: loops, veiled, ifaces, maps, wideKeys, modest, calm, conditions, laid).
  DERIVED. THE GIVEN ROWS OF THIS SEAT. 7 by the template 'for every input the law returns true; each argument reads behind the call as it read before'; 0 by the template 'total and deterministic' (their statements: YtlfmfhmbkpnjbaaTotals.lean).
  GIVEN WITH THE SEED: the statements are not yours to turn. If you find one false, say at which input.
  Laid BY PROGRAM, IN A SANDBOX (cutbox-rows.mjs): the forced cells as the released guide's own fill.sh prints them over the translation a55ebbe83cd3d2f4… (all of the seat's roots in one cut). By AI agents, Wed Nov 11 2026. No macro, syntax, notation, axiom, sorry.
-/
import Derived.Test.YtlfmfhmbkpnjbaaChecked
import GoSem.Claim
import GoSem.ClaimJoined
import GoSem.ClaimMapViews
import Derived.JoinedTies
import Derived.KernelRfl
namespace Go.Proofs.Ytlfmfhmbkpnjbaa
/- THE CELL 'sum', in the pinned program and in every row, IS THE sha256 OF THE DUMP (.gsa) THAT YtlfmfhmbkpnjbaaProg.lean LOADS. Nothing in Lean hashes anything: it is a label: what it is worth is what the hold of that sum in a sandbox is worth. -/
noncomputable def Try.pinned : Pinned := { name := "ytlfmfhmbkpnjbaa", sum := "a55ebbe83cd3d2f4bfaa6b371142d1b8627ccfbad00b180591facd00fde6332d", checked := Try.checked }
namespace Rows
def none {H : Type} : Left H := { results := [], args := [] }

/-- 'encorelaw.Caches': WHATEVER THE INPUT: true; the input reads as it did. -/
def cachesSpec : ChangeSpec := { name := "caches", fn := fun _ => fun
  | [d] => { results := [.lit (.bool true)], args := [d] }
  | _ => none }
def cachesRow : OpenClaim := { program := "ytlfmfhmbkpnjbaa", sum := "a55ebbe83cd3d2f4bfaa6b371142d1b8627ccfbad00b180591facd00fde6332d", func := "encore/encorelaw.Caches", spec := "caches", apart := false }
def CachesSaid : Prop := cachesRow.holds Try.pinned (OpenSpec.ofChange cachesSpec)

/-- ITS FALSE NEIGHBOUR: 'it returns false'. Refute it at one input. -/
def cachesWrong : ChangeSpec := { name := "caches", fn := fun _ => fun
  | [d] => { results := [.lit (.bool false)], args := [d] }
  | _ => none }
def CachesWrongFalsely : Prop := cachesRow.holds Try.pinned (OpenSpec.ofChange cachesWrong)

/-- 'encorelaw.Steps': WHATEVER THE INPUT: true; the input reads as it did. -/
def stepsSpec : ChangeSpec := { name := "steps", fn := fun _ => fun
  | [d1, d2] => { results := [.lit (.bool true)], args := [d1, d2] }
  | _ => none }
def stepsRow : OpenClaim := { program := "ytlfmfhmbkpnjbaa", sum := "a55ebbe83cd3d2f4bfaa6b371142d1b8627ccfbad00b180591facd00fde6332d", func := "encore/encorelaw.Steps", spec := "steps", inPlace := ["slices.overlaps[encore/api.Entity]"], unfollowed := true, recurses := true, apart := false }
def StepsSaid : Prop := stepsRow.holds Try.pinned (OpenSpec.ofChange stepsSpec)

/-- ITS FALSE NEIGHBOUR: 'it returns false'. Refute it at one input. -/
def stepsWrong : ChangeSpec := { name := "steps", fn := fun _ => fun
  | [d1, d2] => { results := [.lit (.bool false)], args := [d1, d2] }
  | _ => none }
def StepsWrongFalsely : Prop := stepsRow.holds Try.pinned (OpenSpec.ofChange stepsWrong)

/-- 'encorelaw.Sees': WHATEVER THE INPUT: true; the input reads as it did. -/
def seesSpec : ChangeSpec := { name := "sees", fn := fun _ => fun
  | [d1, d2, d3] => { results := [.lit (.bool true)], args := [d1, d2, d3] }
  | _ => none }
def seesRow : OpenClaim := { program := "ytlfmfhmbkpnjbaa", sum := "a55ebbe83cd3d2f4bfaa6b371142d1b8627ccfbad00b180591facd00fde6332d", func := "encore/encorelaw.Sees", spec := "sees", unfollowed := true, recurses := true, apart := false }
def SeesSaid : Prop := seesRow.holds Try.pinned (OpenSpec.ofChange seesSpec)

/-- ITS FALSE NEIGHBOUR: 'it returns false'. Refute it at one input. -/
def seesWrong : ChangeSpec := { name := "sees", fn := fun _ => fun
  | [d1, d2, d3] => { results := [.lit (.bool false)], args := [d1, d2, d3] }
  | _ => none }
def SeesWrongFalsely : Prop := seesRow.holds Try.pinned (OpenSpec.ofChange seesWrong)

/-- 'encorekeep.Freshest': WHATEVER THE INPUT: true; the input reads as it did. -/
def freshestSpec : ChangeSpec := { name := "freshest", fn := fun _ => fun
  | [d1, d2] => { results := [.lit (.bool true)], args := [d1, d2] }
  | _ => none }
def freshestRow : OpenClaim := { program := "ytlfmfhmbkpnjbaa", sum := "a55ebbe83cd3d2f4bfaa6b371142d1b8627ccfbad00b180591facd00fde6332d", func := "encore/encorekeep.Freshest", spec := "freshest", apart := false }
def FreshestSaid : Prop := freshestRow.holds Try.pinned (OpenSpec.ofChange freshestSpec)

/-- ITS FALSE NEIGHBOUR: 'it returns false'. Refute it at one input. -/
def freshestWrong : ChangeSpec := { name := "freshest", fn := fun _ => fun
  | [d1, d2] => { results := [.lit (.bool false)], args := [d1, d2] }
  | _ => none }
def FreshestWrongFalsely : Prop := freshestRow.holds Try.pinned (OpenSpec.ofChange freshestWrong)

/-- 'encorekeep.Sound': WHATEVER THE INPUT: true; the input reads as it did. -/
def soundSpec : ChangeSpec := { name := "sound", fn := fun _ => fun
  | [d] => { results := [.lit (.bool true)], args := [d] }
  | _ => none }
def soundRow : OpenClaim := { program := "ytlfmfhmbkpnjbaa", sum := "a55ebbe83cd3d2f4bfaa6b371142d1b8627ccfbad00b180591facd00fde6332d", func := "encore/encorekeep.Sound", spec := "sound", inPlace := ["slices.overlaps[encore/api.Entity]"], unfollowed := true, recurses := true, apart := false }
def SoundSaid : Prop := soundRow.holds Try.pinned (OpenSpec.ofChange soundSpec)

/-- ITS FALSE NEIGHBOUR: 'it returns false'. Refute it at one input. -/
def soundWrong : ChangeSpec := { name := "sound", fn := fun _ => fun
  | [d] => { results := [.lit (.bool false)], args := [d] }
  | _ => none }
def SoundWrongFalsely : Prop := soundRow.holds Try.pinned (OpenSpec.ofChange soundWrong)

/-- 'encorekeep.Slower': WHATEVER THE INPUT: true; the input reads as it did. -/
def slowerSpec : ChangeSpec := { name := "slower", fn := fun _ => fun
  | [d] => { results := [.lit (.bool true)], args := [d] }
  | _ => none }
def slowerRow : OpenClaim := { program := "ytlfmfhmbkpnjbaa", sum := "a55ebbe83cd3d2f4bfaa6b371142d1b8627ccfbad00b180591facd00fde6332d", func := "encore/encorekeep.Slower", spec := "slower", inPlace := ["slices.overlaps[encore/api.Entity]"], unfollowed := true, recurses := true, apart := false }
def SlowerSaid : Prop := slowerRow.holds Try.pinned (OpenSpec.ofChange slowerSpec)

/-- ITS FALSE NEIGHBOUR: 'it returns false'. Refute it at one input. -/
def slowerWrong : ChangeSpec := { name := "slower", fn := fun _ => fun
  | [d] => { results := [.lit (.bool false)], args := [d] }
  | _ => none }
def SlowerWrongFalsely : Prop := slowerRow.holds Try.pinned (OpenSpec.ofChange slowerWrong)

/-- 'encorekeep.Mutual': WHATEVER THE INPUT: true; the input reads as it did. -/
def mutualSpec : ChangeSpec := { name := "mutual", fn := fun _ => fun
  | [d1, d2, d3] => { results := [.lit (.bool true)], args := [d1, d2, d3] }
  | _ => none }
def mutualRow : OpenClaim := { program := "ytlfmfhmbkpnjbaa", sum := "a55ebbe83cd3d2f4bfaa6b371142d1b8627ccfbad00b180591facd00fde6332d", func := "encore/encorekeep.Mutual", spec := "mutual", inPlace := ["slices.overlaps[encore/api.Entity]"], unfollowed := true, recurses := true, apart := false }
def MutualSaid : Prop := mutualRow.holds Try.pinned (OpenSpec.ofChange mutualSpec)

/-- ITS FALSE NEIGHBOUR: 'it returns false'. Refute it at one input. -/
def mutualWrong : ChangeSpec := { name := "mutual", fn := fun _ => fun
  | [d1, d2, d3] => { results := [.lit (.bool false)], args := [d1, d2, d3] }
  | _ => none }
def MutualWrongFalsely : Prop := mutualRow.holds Try.pinned (OpenSpec.ofChange mutualWrong)

/- THE SECOND FORM. 'bulk': how many values and letters a reading holds, each counted each time it is reached (what is shared counts as often as it is met; a slice's spare places count too). A statement '..UptoSaid' is the law's where the arguments, and the package variables that the reading takes, are together of bulk at most 1048576: NARROWER than '..Said'. Prove '..Said' where nothing that the law and all that it calls make is longer than what came in: it says more and counts as full. Else prove '..UptoSaid'. A law counts once. -/
mutual
def uptoBulk {H : Type} : DataW H → Nat
  | .lit (.string bytes) => bytes.length + 1
  | .lit _ => 1
  | .nil => 1
  | .ptr d => uptoBulk d + 1
  | .slice elems spare => uptoBulkAll elems + uptoBulkAll spare + 1
  | .agg parts => uptoBulkAll parts + 1
  | .iface _ d => uptoBulk d + 1
  | .map entries => uptoBulkEntries entries + 1
  | .held _ => 1
def uptoBulkAll {H : Type} : List (DataW H) → Nat
  | [] => 0
  | d :: r => uptoBulk d + uptoBulkAll r
def uptoBulkEntries {H : Type} : List (Lit × DataW H) → Nat
  | [] => 0
  | x :: r => uptoBulkEntry x + uptoBulkEntries r
def uptoBulkEntry {H : Type} : Lit × DataW H → Nat
  | (.string bytes, d) => bytes.length + uptoBulk d + 1
  | (_, d) => uptoBulk d + 1
 end
def uptoSmall : (H : Type) → List (DataW H) → Bool := fun _ ds => decide (uptoBulkAll ds ≤ 1048576)
def OpenSpec.upto (s : _root_.Go.ChangeSpec) : _root_.Go.OpenSpec := { _root_.Go.OpenSpec.ofChange s with cond := some uptoSmall }

/-- 'encorelaw.Caches', WHERE WHAT IT READS IS OF BULK AT MOST 1048576: true; the input reads as it did. -/
def cachesUptoRow : OpenClaim := { program := "ytlfmfhmbkpnjbaa", sum := "a55ebbe83cd3d2f4bfaa6b371142d1b8627ccfbad00b180591facd00fde6332d", func := "encore/encorelaw.Caches", spec := "caches", apart := false, narrowed := true }
def CachesUptoSaid : Prop := cachesUptoRow.holds Try.pinned (OpenSpec.upto cachesSpec)

/-- 'encorelaw.Steps', WHERE WHAT IT READS IS OF BULK AT MOST 1048576: true; the input reads as it did. -/
def stepsUptoRow : OpenClaim := { program := "ytlfmfhmbkpnjbaa", sum := "a55ebbe83cd3d2f4bfaa6b371142d1b8627ccfbad00b180591facd00fde6332d", func := "encore/encorelaw.Steps", spec := "steps", inPlace := ["slices.overlaps[encore/api.Entity]"], unfollowed := true, recurses := true, apart := false, narrowed := true }
def StepsUptoSaid : Prop := stepsUptoRow.holds Try.pinned (OpenSpec.upto stepsSpec)

/-- 'encorelaw.Sees', WHERE WHAT IT READS IS OF BULK AT MOST 1048576: true; the input reads as it did. -/
def seesUptoRow : OpenClaim := { program := "ytlfmfhmbkpnjbaa", sum := "a55ebbe83cd3d2f4bfaa6b371142d1b8627ccfbad00b180591facd00fde6332d", func := "encore/encorelaw.Sees", spec := "sees", unfollowed := true, recurses := true, apart := false, narrowed := true }
def SeesUptoSaid : Prop := seesUptoRow.holds Try.pinned (OpenSpec.upto seesSpec)

/-- 'encorekeep.Freshest', WHERE WHAT IT READS IS OF BULK AT MOST 1048576: true; the input reads as it did. -/
def freshestUptoRow : OpenClaim := { program := "ytlfmfhmbkpnjbaa", sum := "a55ebbe83cd3d2f4bfaa6b371142d1b8627ccfbad00b180591facd00fde6332d", func := "encore/encorekeep.Freshest", spec := "freshest", apart := false, narrowed := true }
def FreshestUptoSaid : Prop := freshestUptoRow.holds Try.pinned (OpenSpec.upto freshestSpec)

/-- 'encorekeep.Sound', WHERE WHAT IT READS IS OF BULK AT MOST 1048576: true; the input reads as it did. -/
def soundUptoRow : OpenClaim := { program := "ytlfmfhmbkpnjbaa", sum := "a55ebbe83cd3d2f4bfaa6b371142d1b8627ccfbad00b180591facd00fde6332d", func := "encore/encorekeep.Sound", spec := "sound", inPlace := ["slices.overlaps[encore/api.Entity]"], unfollowed := true, recurses := true, apart := false, narrowed := true }
def SoundUptoSaid : Prop := soundUptoRow.holds Try.pinned (OpenSpec.upto soundSpec)

/-- 'encorekeep.Slower', WHERE WHAT IT READS IS OF BULK AT MOST 1048576: true; the input reads as it did. -/
def slowerUptoRow : OpenClaim := { program := "ytlfmfhmbkpnjbaa", sum := "a55ebbe83cd3d2f4bfaa6b371142d1b8627ccfbad00b180591facd00fde6332d", func := "encore/encorekeep.Slower", spec := "slower", inPlace := ["slices.overlaps[encore/api.Entity]"], unfollowed := true, recurses := true, apart := false, narrowed := true }
def SlowerUptoSaid : Prop := slowerUptoRow.holds Try.pinned (OpenSpec.upto slowerSpec)

/-- 'encorekeep.Mutual', WHERE WHAT IT READS IS OF BULK AT MOST 1048576: true; the input reads as it did. -/
def mutualUptoRow : OpenClaim := { program := "ytlfmfhmbkpnjbaa", sum := "a55ebbe83cd3d2f4bfaa6b371142d1b8627ccfbad00b180591facd00fde6332d", func := "encore/encorekeep.Mutual", spec := "mutual", inPlace := ["slices.overlaps[encore/api.Entity]"], unfollowed := true, recurses := true, apart := false, narrowed := true }
def MutualUptoSaid : Prop := mutualUptoRow.holds Try.pinned (OpenSpec.upto mutualSpec)

end Rows
end Go.Proofs.Ytlfmfhmbkpnjbaa
