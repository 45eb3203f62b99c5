import Derived.Test.YtlfmfhmbkpnjbaaDoit
namespace Go.Proofs.Ytlfmfhmbkpnjbaa
open Go.RowKit

def setAt (L : List Mob) (i : Nat) (f : Mob → Mob) : List Mob := match L[i]? with | some m => L.set i (f m) | none => L
theorem setAt_eq (L : List Mob) (i : Nat) (f : Mob → Mob) (h : i < L.length) : setAt L i f = L.set i (f L[i]) := by simp [setAt, h]

/-- What a command does. -/
noncomputable def doM (L : List Mob) (c : Cmd) : List Mob :=
  if c.kind = 1 then (if spawnB c.id c.team c.x c.y = true ∧ findB L c.id = false then L.take (findI L c.id) ++ newM c.id c.team c.x c.y :: L.drop (findI L c.id) else L)
  else if c.kind = 2 then (if pushB c.x c.y = true ∧ findB L c.id = true then setAt L (findI L c.id) (fun m => { m with vx := fadd m.vx c.x, vy := fadd m.vy c.y }) else L)
  else if c.kind = 3 then (if hitB c.n = true ∧ findB L c.id = true then setAt L (findI L c.id) (fun m => { m with health := m.health - c.n }) else L)
  else if c.kind = 4 then (if findB L c.id = true then L.take (findI L c.id) ++ L.drop (findI L c.id + 1) else L)
  else L

noncomputable def stepL (cs : List Cmd) (L : List Mob) : List Mob := (keepL (cs.foldl doM L)).map moveM

/-- An entity between the commands. -/
structure FineM (k : Nat) (m : Mob) : Prop where
  id : idB m.id = true
  team : teamB m.team = true
  place : placeB m.x m.y = true
  vx : okV m.vx
  vy : okV m.vy
  low : -(100 * (k : Int)) ≤ m.health
  high : m.health ≤ 100

structure Fine (k : Nat) (L : List Mob) : Prop where
  rises : (L.map Mob.id).Pairwise (· < ·)
  mob : ∀ m ∈ L, FineM k m

theorem rises_of {L : List Mob} (h : (L.map Mob.id).Pairwise (· < ·)) : Rises L := by
  intro i j hi hj hij
  have := (List.pairwise_iff_getElem.1 h) i j (by simpa using hi) (by simpa using hj) hij
  simpa using this
theorem of_rises {L : List Mob} (h : Rises L) : (L.map Mob.id).Pairwise (· < ·) := by
  rw [List.pairwise_iff_getElem]
  intro i j hi hj hij
  have := h i j (by simpa using hi) (by simpa using hj) hij
  simpa using this

theorem FineM.px {k : Nat} {m : Mob} (h : FineM k m) : isNum m.x := by have := h.place; simp only [placeB, Bool.and_eq_true] at this; exact place_num this.1
theorem FineM.py {k : Nat} {m : Mob} (h : FineM k m) : isNum m.y := by have := h.place; simp only [placeB, Bool.and_eq_true] at this; exact place_num this.2
theorem FineM.more {k : Nat} {m : Mob} (h : FineM k m) : FineM (k + 1) m := ⟨h.id, h.team, h.place, h.vx, h.vy, by have := h.low; omega, h.high⟩
theorem Fine.more {k : Nat} {L : List Mob} (h : Fine k L) : Fine (k + 1) L := ⟨h.rises, fun m hm => (h.mob m hm).more⟩

theorem short_ids (l : List Int) (a b : Int) (h : l.Pairwise (· < ·)) (h1 : ∀ x ∈ l, a ≤ x ∧ x ≤ b) : (l.length : Int) ≤ max 0 (b - a + 1) := by
  induction l generalizing a with
  | nil => simp; omega
  | cons x r ih =>
    rw [List.pairwise_cons] at h
    have hx := h1 x (by simp)
    have := ih (x + 1) h.2 (fun y hy => ⟨by have := h.1 y hy; omega, (h1 y (by simp [hy])).2⟩)
    simp only [List.length_cons]
    omega

theorem idB_in {i : Int} (h : idB i = true) : 0 ≤ i ∧ i ≤ 31 := by simpa [idB] using h

theorem Fine.short {k : Nat} {L : List Mob} (h : Fine k L) : L.length ≤ 32 := by
  have := short_ids (L.map Mob.id) 0 31 h.rises (fun x hx => by
    obtain ⟨m, hm, rfl⟩ := List.mem_map.1 hx
    exact idB_in (h.mob m hm).id)
  simp only [List.length_map] at this
  omega

theorem findI_le (L : List Mob) (id : Int) : findI L id ≤ L.length := by
  induction L with
  | nil => simp [findI]
  | cons m r ih => simp only [findI, List.length_cons]; split <;> omega
theorem findI_lt (L : List Mob) (id : Int) : ∀ m ∈ L.take (findI L id), m.id < id := by
  induction L with
  | nil => simp [findI]
  | cons m r ih =>
    simp only [findI]
    split
    · rename_i q
      intro x hx
      simp only [List.take_succ_cons, List.mem_cons] at hx
      rcases hx with rfl | hx
      · exact q
      · exact ih x hx
    · simp
theorem findI_ge (L : List Mob) (id : Int) (h : findI L id < L.length) : id ≤ L[findI L id].id := by
  induction L with
  | nil => simp at h
  | cons m r ih =>
    simp only [findI] at h ⊢
    split
    · rename_i q
      simp only [q, if_true] at h
      simp only [List.getElem_cons_succ]
      exact ih (by simpa using h)
    · rename_i q
      simp only [List.getElem_cons_zero]; omega

theorem findB_lt {L : List Mob} {id : Int} (h : findB L id = true) : findI L id < L.length := by
  simp only [findB, decide_eq_true_eq] at h; exact h.1

theorem drop_gt {L : List Mob} {id : Int} (hr : (L.map Mob.id).Pairwise (· < ·)) (hf : findB L id = false) : ∀ m ∈ L.drop (findI L id), id < m.id := by
  intro m hm
  obtain ⟨j, hj, rfl⟩ := List.getElem_of_mem hm
  rw [List.length_drop] at hj
  have hlt : findI L id < L.length := by omega
  have h1 := findI_ge L id hlt
  have h2 : L[findI L id].id ≠ id := by
    intro e
    simp only [findB, decide_eq_false_iff_not] at hf
    exact hf ⟨hlt, e⟩
  rw [List.getElem_drop]
  by_cases e : j = 0
  · subst e; simp only [Nat.add_zero]; omega
  · have := rises_of hr (findI L id) (findI L id + j) hlt (by omega) (by omega)
    omega

theorem insert_fine {k : Nat} {L : List Mob} {m : Mob} (h : Fine k L) (hm : FineM k m) (hf : findB L m.id = false) : Fine k (L.take (findI L m.id) ++ m :: L.drop (findI L m.id)) := by
  refine ⟨?_, ?_⟩
  · rw [List.map_append, List.map_cons, List.pairwise_append, List.pairwise_cons]
    refine ⟨?_, ⟨?_, ?_⟩, ?_⟩
    · exact h.rises.sublist ((List.take_sublist _ _).map _)
    · intro x hx
      obtain ⟨y, hy, rfl⟩ := List.mem_map.1 hx
      exact drop_gt h.rises hf y hy
    · exact h.rises.sublist ((List.drop_sublist _ _).map _)
    · intro x hx y hy
      obtain ⟨a, ha, rfl⟩ := List.mem_map.1 hx
      have h1 := findI_lt L m.id a ha
      rcases List.mem_cons.1 hy with rfl | hy
      · exact h1
      · obtain ⟨b, hb, rfl⟩ := List.mem_map.1 hy
        have h2 := drop_gt h.rises hf b hb
        omega
  · intro x hx
    rcases List.mem_append.1 hx with hx | hx
    · exact h.mob x (List.mem_of_mem_take hx)
    · rcases List.mem_cons.1 hx with rfl | hx
      · exact hm
      · exact h.mob x (List.mem_of_mem_drop hx)

theorem newM_fine (k : Nat) (i t : Int) (x y : Nat) (h : spawnB i t x y = true) : FineM k (newM i t x y) := by
  simp only [spawnB, Bool.and_eq_true] at h
  exact ⟨h.1.1, h.1.2, h.2, by show okV 0; unfold okV; decide, by show okV 0; unfold okV; decide, by simp [newM]; omega, by simp [newM]⟩

theorem set_map_id (L : List Mob) (i : Nat) (m : Mob) (hi : i < L.length) (hm : m.id = L[i].id) : (L.set i m).map Mob.id = L.map Mob.id := by
  rw [List.map_set, hm]
  apply List.ext_getElem (by simp)
  intro j h1 h2
  rw [List.getElem_set]
  split
  · rename_i e; subst e; simp
  · rfl

theorem set_fine {k : Nat} {L : List Mob} {i : Nat} {m : Mob} (h : Fine k L) (hi : i < L.length) (hid : m.id = L[i].id) (hm : FineM k m) : Fine k (L.set i m) := by
  refine ⟨by rw [set_map_id L i m hi hid]; exact h.rises, fun x hx => ?_⟩
  rcases List.mem_or_eq_of_mem_set hx with hx | rfl
  · exact h.mob x hx
  · exact hm

theorem doM_fine {k : Nat} {L : List Mob} (c : Cmd) (h : Fine k L) : Fine (k + 1) (doM L c) := by
  unfold doM
  split
  · split
    · rename_i q
      have hn := newM_fine (k + 1) c.id c.team c.x c.y q.1
      exact insert_fine (m := newM c.id c.team c.x c.y) h.more hn q.2
    · exact h.more
  · split
    · split
      · rename_i q
        have hl := findB_lt q.2
        rw [setAt_eq _ _ _ hl]
        have hm := (h.mob L[findI L c.id] (List.getElem_mem hl)).more
        have hp := q.1
        simp only [pushB, Bool.and_eq_true] at hp
        exact set_fine h.more hl rfl ⟨hm.id, hm.team, hm.place, (fadd_ok' (push_num hp.1) hm.vx).2, (fadd_ok' (push_num hp.2) hm.vy).2, hm.low, hm.high⟩
      · exact h.more
    · split
      · split
        · rename_i q
          have hl := findB_lt q.2
          rw [setAt_eq _ _ _ hl]
          have hm := h.mob L[findI L c.id] (List.getElem_mem hl)
          have hn := q.1
          simp only [hitB, Bool.and_eq_true, decide_eq_true_eq] at hn
          refine set_fine h.more hl rfl ⟨hm.id, hm.team, hm.place, hm.vx, hm.vy, ?_, ?_⟩
          · have := hm.low; show _ ≤ L[findI L c.id].health - c.n; omega
          · have := hm.high; show L[findI L c.id].health - c.n ≤ 100; omega
        · exact h.more
      · split
        · split
          · refine ⟨h.rises.sublist ?_, fun m hm => (h.mob m ?_).more⟩
            · rw [List.map_append]
              have : (L.map Mob.id) = (L.take (findI L c.id)).map Mob.id ++ (L.drop (findI L c.id)).map Mob.id := by rw [← List.map_append, List.take_append_drop]
              rw [this]
              exact (List.Sublist.refl _).append ((List.drop_sublist_drop_left L (by omega)).map _)
            · rcases List.mem_append.1 hm with hm | hm
              · exact List.mem_of_mem_take hm
              · exact List.mem_of_mem_drop hm
          · exact h.more
        · exact h.more
end Go.Proofs.Ytlfmfhmbkpnjbaa
