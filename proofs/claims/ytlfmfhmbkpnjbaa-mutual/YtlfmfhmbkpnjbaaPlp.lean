import Derived.Test.YtlfmfhmbkpnjbaaRefw
namespace Go.Proofs.Ytlfmfhmbkpnjbaa
open Go.RowKit

theorem find_at {L : List Mob} (hr : Rises L) (i : Nat) (hi : i < L.length) : findI L L[i].id = i ∧ findB L L[i].id = true := by
  have h1 : findI L L[i].id = i := findI_is L _ i (by omega) (fun j hj hji => hr j i hj hi hji) (fun _ => by omega)
  exact ⟨h1, findB_true i h1 hi rfl⟩

theorem plI_is (L : List Mob) (id : Int) (a : Nat) (ha : a ≤ L.length) (h1 : ∀ j (h : j < L.length), j < a → L[j].id ≠ id) (h2 : ∀ h : a < L.length, L[a].id = id) : plI L id = a := by
  induction L generalizing a with
  | nil => simp at ha; simp [plI, ha]
  | cons m r ih =>
    cases a with
    | zero => have := h2 (by simp); simp at this; simp [plI, this]
    | succ b =>
      have h0 := h1 0 (by simp) (by omega)
      simp only [List.getElem_cons_zero] at h0
      simp only [plI, h0, if_false]
      rw [ih b (by simpa using ha) (fun j hj hjb => by have := h1 (j + 1) (by simpa using hj) (by omega); simpa using this) (fun h => by have := h2 (by simpa using h); simpa using this)]

theorem pl_none {L : List Mob} {id : Int} (hr : Rises L) (hf : findB L id = false) : plR L id = -1 := by
  have h : plI L id = L.length := plI_is L id L.length (Nat.le_refl _) (fun j hj _ e => by
    have := (find_at hr j hj).2
    rw [e, hf] at this
    cases this) (fun h => absurd h (Nat.lt_irrefl _))
  unfold plR
  rw [h, if_neg (Nat.lt_irrefl _)]

theorem pl_some {L : List Mob} {id : Int} (hr : Rises L) (hf : findB L id = true) : ∃ h : findI L id < L.length, L[findI L id].id = id ∧ plR L id = (findI L id : Int) := by
  simp only [findB, decide_eq_true_eq] at hf
  obtain ⟨h, e⟩ := hf
  refine ⟨h, e, ?_⟩
  have h2 : plI L id = findI L id := plI_is L id _ (by omega) (fun j hj hji e2 => by have := hr j _ hj h hji; omega) (fun _ => e)
  unfold plR
  rw [h2, if_pos h]

end Go.Proofs.Ytlfmfhmbkpnjbaa
