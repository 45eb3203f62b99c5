import Derived.Test.YtlfmfhmbkpnjbaaPlayed
import Derived.Deep.Slices
import Derived.ProofKit
import Derived.OpenShut
import Derived.ShutString
import Derived.ChangeOld
import Derived.Below
namespace Go.Proofs.Ytlfmfhmbkpnjbaa.ticks
open Go.ChangeShapes Go.WideShapes Go.ChangeAt Go.RowKit Go.Deep
set_option linter.unusedVariables false

theorem own : ownKnob Try.prog.godebug = none := by kernel_rfl
theorem laidOut : laidOutB Try.prog = true := by kernel_rfl
theorem cellsL : Try.prog.cellsOf 53 = 1 := by kernel_rfl

theorem inner {H : Type} {enc : TypeId × Value → H} {W : World} {spare : Nat → Bool} {held : Bool} {n : Nat} {cs : List Value} {x : DataW H × List MemPlace} (h : DataW.trod enc Try.prog W 0 spare held n 53 cs = some x) :
    ∃ p l c, cs = [.slice p l c] ∧ ((l : Nat) : Int) ≤ 9223372036854775807 ∧ RI W p l := by
  rcases open_ints Try.underlying53 Try.underlying3 (by kernel_rfl) h with ⟨hcs, _⟩ | ⟨x, l, c, zs, hcs, _, hl, hm, hz, _, hcell, hwz⟩
  · exact ⟨none, 0, 0, hcs, by decide, fun e => absurd e (by decide)⟩
  · refine ⟨some x, l, c, hcs, by unfold maxLen at hm; omega, fun hpos => ?_⟩
    have hz' : l ≤ zs.length := by rw [hz]; split <;> omega
    obtain ⟨b, off, spot⟩ := x
    have h0 := hcell 0 (by omega)
    have e : (⟨b, off, spot⟩ : Addr).add 0 = ⟨b, off, spot⟩ := by simp [Addr.add]
    rw [e] at h0
    obtain rfl := World.cell?_spot h0
    refine ⟨b, off, rfl, World.block_lt_of_cell? (w := W) (a := ⟨b, off, none⟩) h0, fun j hj => ?_⟩
    have hj' := hcell j (by omega)
    rw [addr_add2] at hj'
    refine ⟨_, ?_, hj'⟩
    have := range_i64 hwz j
    exact this

theorem open_ticks {H : Type} {enc : TypeId × Value → H} {W : World} {a0 : Option Addr} {len0 cap0 : Nat} {d0 : DataW H} {p0 : List MemPlace} (h0 : DataW.Trod enc Try.prog W 0 (fun _ => true) true 25 (.slice a0 len0 cap0) d0 p0) :
    ((len0 : Nat) : Int) ≤ 9223372036854775807 ∧ RT W a0 len0 := by
  obtain ⟨fuel, hf⟩ := h0
  rcases open_slice Try.underlying25 hf with ⟨hcs, _⟩ | ⟨a, len, cap, m, n, D, Pl, hcs, _, hl, hcm, hmm, hx, hel⟩
  · simp [Value.cells] at hcs
    obtain ⟨rfl, rfl, rfl⟩ := hcs
    exact ⟨by decide, fun e => absurd e (by decide)⟩
  · simp [Value.cells] at hcs
    obtain ⟨rfl, rfl, rfl⟩ := hcs
    rw [cellsL] at hel
    have hlm : len0 ≤ m := by rw [hmm]; split <;> omega
    refine ⟨by unfold maxLen at hcm; omega, fun hpos => ?_⟩
    have cell : ∀ j, j < len0 → ∃ p l c, W.cell? (a.add j) = some (.slice p l c) ∧ ((l : Nat) : Int) ≤ 9223372036854775807 ∧ RI W p l := by
      intro j hj
      obtain ⟨cs', h1, h2⟩ := hel j (by omega)
      obtain ⟨p, l, c, rfl, q1, q2⟩ := inner h2
      have h3 := (World.cells?_some h1).2.2 0 (by omega)
      rw [Nat.mul_one] at h3
      have e : (a.add j).add 0 = a.add j := by simp [Addr.add]
      rw [e] at h3
      exact ⟨p, l, c, h3, q1, q2⟩
    obtain ⟨b, off, spot⟩ := a
    obtain ⟨p, l, c, h3, _⟩ := cell 0 hpos
    have e : (⟨b, off, spot⟩ : Addr).add 0 = ⟨b, off, spot⟩ := by simp [Addr.add]
    rw [e] at h3
    obtain rfl := World.cell?_spot h3
    refine ⟨b, off, rfl, World.block_lt_of_cell? (w := W) (a := ⟨b, off, none⟩) h3, fun j hj => ?_⟩
    obtain ⟨p, l, c, h4, h5, h6⟩ := cell j hj
    rw [addr_add2] at h4
    exact ⟨p, l, c, h4, h5, h6⟩
end Go.Proofs.Ytlfmfhmbkpnjbaa.ticks
