import Derived.Test.YtlfmfhmbkpnjbaaCmdp
import Derived.Test.YtlfmfhmbkpnjbaaNum
namespace Go.Proofs.Ytlfmfhmbkpnjbaa
open Go.RowKit

/-- The ways are numbers. -/
def FinL (L : List Mob) : Prop := ∀ m ∈ L, isNum m.vx ∧ isNum m.vy

theorem num_zero : isNum 0 := ⟨false, 0, -149, by decide⟩

theorem finL_set {L : List Mob} {i : Nat} {m : Mob} (h : FinL L) (hm : isNum m.vx ∧ isNum m.vy) : FinL (L.set i m) := by
  intro x hx
  rcases List.mem_or_eq_of_mem_set hx with hx | rfl
  · exact h x hx
  · exact hm

theorem doM_fin {L : List Mob} (c : Cmd) (h : FinL L) : FinL (doM L c) := by
  unfold doM
  split
  · split
    · intro x hx
      rcases List.mem_append.1 hx with hx | hx
      · exact h x (List.mem_of_mem_take hx)
      · rcases List.mem_cons.1 hx with rfl | hx
        · exact ⟨num_zero, num_zero⟩
        · exact h x (List.mem_of_mem_drop hx)
    · exact h
  · split
    · split
      · rename_i q
        have hl := findB_lt q.2
        rw [setAt_eq _ _ _ hl]
        have hm := h L[findI L c.id] (List.getElem_mem hl)
        have hp := q.1
        simp only [pushB, Bool.and_eq_true] at hp
        exact finL_set h ⟨add_fin hm.1 hp.1, add_fin hm.2 hp.2⟩
      · exact h
    · split
      · split
        · rename_i q
          have hl := findB_lt q.2
          rw [setAt_eq _ _ _ hl]
          exact finL_set h (h L[findI L c.id] (List.getElem_mem hl))
        · exact h
      · split
        · split
          · intro x hx
            rcases List.mem_append.1 hx with hx | hx
            · exact h x (List.mem_of_mem_take hx)
            · exact h x (List.mem_of_mem_drop hx)
          · exact h
        · exact h

theorem fold_fin (cs : List Cmd) (L : List Mob) (h : FinL L) : FinL (cs.foldl doM L) := by
  induction cs generalizing L with
  | nil => exact h
  | cons c r ih => exact ih (doM L c) (doM_fin c h)

theorem moveM_id (m : Mob) : (moveM m).id = m.id := rfl
theorem moveM_team (m : Mob) : (moveM m).team = m.team := rfl
theorem moveM_health (m : Mob) : (moveM m).health = m.health := rfl

theorem worldB_fin {t : Int} {L : List Mob} (h : worldB t L = true) : FinL L := by
  simp only [worldB, decide_eq_true_eq] at h
  intro m hm
  obtain ⟨j, hj, rfl⟩ := List.getElem_of_mem hm
  have := (h.2.2 j hj hj).1
  simp only [mobB, Bool.and_eq_true, decide_eq_true_eq] at this
  exact ⟨fin_num this.1.1.1.2, fin_num this.1.1.2⟩

theorem okTo_of {L : List Mob} (h1 : ∀ m ∈ L, mobB m = true) (h2 : (L.map Mob.id).Pairwise (· < ·)) : OkTo L L.length := by
  intro j hj _
  refine ⟨h1 _ (List.getElem_mem hj), fun k hk e => ?_⟩
  exact rises_of h2 k j hk hj (by omega)

/-- A world stays a world. -/
theorem worldB_next {t : Int} {L : List Mob} (cs : List Cmd) (h : worldB t L = true) (ht : t ≠ 500) : worldB (t + 1) (stepL cs L) = true := by
  obtain ⟨h0, h1, hF⟩ := worldB_fine h
  have hN := worldB_fin h
  have hF' := keep_fine (fold_fine cs L hF)
  have hN' : FinL (keepL (cs.foldl doM L)) := fun m hm => fold_fin cs L hN m (List.mem_filter.1 hm).1
  refine worldB_true _ _ ⟨by omega, by omega⟩ (okTo_of ?_ ?_)
  · intro m hm
    obtain ⟨a, ha, rfl⟩ := List.mem_map.1 hm
    have hm := hF'.mob a ha
    have hn := hN' a ha
    have hlive := (List.mem_filter.1 ha).2
    simp only [liveB, Bool.not_eq_true', decide_eq_false_iff_not] at hlive
    have mx := moved_fits hm.px hn.1
    have my := moved_fits hm.py hn.2
    simp only [mobB, Bool.and_eq_true, decide_eq_true_eq]
    refine ⟨⟨⟨⟨⟨⟨hm.id, hm.team⟩, ?_⟩, num_fin mx.2⟩, num_fin my.2⟩, ?_⟩, hm.high⟩
    · simp only [placeB, Bool.and_eq_true]; exact ⟨mx.1, my.1⟩
    · show 1 ≤ a.health; omega
  · have : (stepL cs L).map Mob.id = (keepL (cs.foldl doM L)).map Mob.id := by
      unfold stepL
      rw [List.map_map]
      rfl
    rw [this]; exact hF'.rises

theorem worldB_zero : worldB 0 [] = true := worldB_true 0 [] (by decide) (fun j hj _ => absurd hj (Nat.not_lt_zero j))
end Go.Proofs.Ytlfmfhmbkpnjbaa
