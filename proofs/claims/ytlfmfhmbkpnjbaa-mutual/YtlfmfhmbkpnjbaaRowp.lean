import Derived.Test.YtlfmfhmbkpnjbaaStepok
namespace Go.Proofs.Ytlfmfhmbkpnjbaa
open Go.RowKit

/-- A row of entities with room. -/
structure RowAt (w : World) (g : Nat) (L : List Mob) (cap : Nat) (cur : List Value) : Prop where
  blk : w.heap[g]? = some (.cells cur.toArray 57 (0, 0))
  len : cur.length = cap * 7
  row : cur.take (L.length * 7) = rowM L
  short : L.length ≤ cap

theorem RowAt.keep {w w' : World} {S : Nat → Prop} {g : Nat} {L : List Mob} {cap : Nat} {cur : List Value} (h : RowAt w g L cap cur) (hk : Kept S w w') (hS : ¬ S g) : RowAt w' g L cap cur :=
  ⟨by rw [hk.block g (heap_lt h.blk) hS]; exact h.blk, h.len, h.row, h.short⟩
theorem RowAt.calm {w w' : World} {g : Nat} {L : List Mob} {cap : Nat} {cur : List Value} (h : RowAt w g L cap cur) (hk : Kept (fun _ => False) w w') : RowAt w' g L cap cur := h.keep hk (fun e => e)
theorem RowAt.reads {w : World} {g : Nat} {L : List Mob} {cap : Nat} {cur : List Value} (h : RowAt w g L cap cur) : Reads w (some ⟨g, 0, none⟩) L := fun _ => ⟨g, 0, rfl, heap_lt h.blk, fun j u hu => by
  rw [Nat.zero_add, cell_block h.blk]
  have hj := (List.getElem?_eq_some_iff.1 hu).1
  have e : cur = rowM L ++ cur.drop (L.length * 7) := by rw [← h.row, List.take_append_drop]
  rw [e]
  simp [List.getElem?_append_left hj, hu]⟩
theorem RowAt.more {w w' : World} {g : Nat} {L : List Mob} {cap : Nat} {cur : List Value} {m : Mob} (h : RowAt w g L cap cur) (hl : L.length < cap) (hw : w'.heap[g]? = some (.cells (splice cur (L.length * 7) (rowM [m])).toArray 57 (0, 0))) : RowAt w' g (L ++ [m]) cap (splice cur (L.length * 7) (rowM [m])) := by
  have h7 : (rowM [m]).length = 7 := rfl
  refine ⟨hw, by rw [length_splice _ _ _ (by rw [h.len, h7]; omega), h.len], ?_, by simp; omega⟩
  unfold splice
  rw [h.row, rowM_append, ← List.append_assoc, show (L ++ [m]).length * 7 = (rowM L ++ rowM [m]).length from by rw [← rowM_append, rowM_length], List.take_left]

end Go.Proofs.Ytlfmfhmbkpnjbaa
