import Derived.Test.YtlfmfhmbkpnjbaaGreatDoorPz38
namespace Go.Proofs.YtlfmfhmbkpnjbaaGreatDoor
open Go.RowKit

theorem file_mono (ev : Int) (css : List (List Cmd)) (j d : Nat) : (fileAt ev css j).length ≤ (fileAt ev css (j + d)).length := by
  induction d with
  | zero => exact Nat.le_refl _
  | succ d ih =>
    have : (fileAt ev css (j + d)).length ≤ (fileAt ev css (j + (d + 1))).length := by
      show _ ≤ (fileAt ev css (j + d) ++ _).length
      rw [List.length_append]
      omega
    omega
/-- How many ticks lie wholly in the first n bytes. -/
theorem most_ex (f : Nat → Nat) (K n : Nat) (h0 : f 0 ≤ n) : ∃ M, M ≤ K ∧ f M ≤ n ∧ ∀ j, M < j → j ≤ K → n < f j := by
  induction K with
  | zero => exact ⟨0, Nat.le_refl _, h0, fun j h1 h2 => by omega⟩
  | succ k ih =>
    by_cases h : f (k + 1) ≤ n
    · exact ⟨k + 1, Nat.le_refl _, h, fun j h1 h2 => by omega⟩
    · obtain ⟨M, h1, h2, h3⟩ := ih
      refine ⟨M, by omega, h2, fun j h4 h5 => ?_⟩
      by_cases e : j = k + 1
      · subst e; omega
      · exact h3 j h4 (by omega)
theorem stands_cell {w : World} {B gs sc k : Nat} {ev : Int} {css : List (List Cmd)} (h : w.ownsRow B 3 1 (.slice (some ⟨gs, 0, none⟩) (k + 1) sc) (k + 1) (standsV ev css k)) (j : Nat) (hj : j ≤ k) :
    gs < w.heap.size ∧ w.cell? ⟨gs, j, none⟩ = some (.int .i64 ((fileAt ev css j).length : Int)) := by
  have e : (standsV ev css k)[j]? = some (.int .i64 ((fileAt ev css j).length : Int)) := by
    unfold standsV
    rw [List.getElem?_map, List.getElem?_range (by omega)]
    rfl
  exact ⟨(h.lt gs rfl).2, row_cell (owns_base h) j _ e⟩
theorem cut_opens (every : Int) (zss : List (List Int)) (n M : Nat) (hM : M ≤ min 60 zss.length) (h1 : (fileAt (1 + (pickN_keep every 20 : Int)) (zss.map cmdsOf) M).length ≤ n) (h2 : ∀ j, M < j → j ≤ min 60 zss.length → n < (fileAt (1 + (pickN_keep every 20 : Int)) (zss.map cmdsOf) j).length) :
    matchL ((fileAt (1 + (pickN_keep every 20 : Int)) (zss.map cmdsOf) (min 60 zss.length)).take n) = some (recM (1 + pickN_keep every 20) (zss.map cmdsOf) M) := by
  have h20 := pickN_lt_keep every 20 (by decide)
  obtain ⟨t, ht, hc⟩ := file_cut (1 + (pickN_keep every 20 : Int)) (zss.map cmdsOf) (min 60 zss.length) M n hM h1 (by
    by_cases e : M = min 60 zss.length
    · exact Or.inl e
    · exact Or.inr (h2 (M + 1) (by omega) (by omega)))
  rw [ht]
  have := matchL_file (1 + pickN_keep every 20) (zss.map cmdsOf) M t ⟨by omega, by omega⟩ (by omega) (css_ok zss) hc
  simpa using this
end Go.Proofs.YtlfmfhmbkpnjbaaGreatDoor
