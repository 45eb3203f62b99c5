import Derived.Test.YtlfmfhmbkpnjbaaStepc
namespace Go.Proofs.Ytlfmfhmbkpnjbaa
open Go.RowKit

theorem two_sets {w : World} {c : Nat} {a b : Value} {T : TypeId} (h : w.heap[c]? = some (.cells #[a, b] T (0, 0))) (u v : Value) : ((w.setCell ⟨c, 0, none⟩ u).setCell ⟨c, 1, none⟩ v).heap[c]? = some (.cells #[u, v] T (0, 0)) := by
  have h1 : (w.setCell ⟨c, 0, none⟩ u).heap[c]? = some (.cells #[u, b] T (0, 0)) := by
    rw [setCell_eq_setRow w c 0 #[a, b] T (0, 0) u h]
    exact setRow_heap w c _ _ T _ h
  exact two_set h1 v

theorem two_kept {w0 w : World} {c : Nat} (hk : Kept (fun _ => False) w0 w) (hc : w0.heap.size ≤ c) (u v : Value) : Kept (fun _ => False) w0 ((w.setCell ⟨c, 0, none⟩ u).setCell ⟨c, 1, none⟩ v) :=
  hk.join ((Kept.setCell w _ u).join (Kept.setCell _ _ v) (R := fun k => k = c) (fun _ _ e => e) (fun _ _ e => e)) (fun _ _ e => e) (fun j hj e => by omega)

def blkW (t : Int) (v : Value) : Obj := .cells #[.int .i64 t, v] 40 (0, 0)

/-- The two structs that a call of this kind lays first: what came in, what will go out. -/
theorem laid_two (w : World) (t : Int) (v : Value) : Kept (fun _ => False) w ((w.alloc (.cells #[.int .i64 t, v] 40)).alloc (.cells #[.int .i64 0, .slice none 0 0] 40)) ∧
    ((w.alloc (.cells #[.int .i64 t, v] 40)).alloc (.cells #[.int .i64 0, .slice none 0 0] 40)).heap[w.heap.size]? = some (.cells #[.int .i64 t, v] 40 (0, 0)) ∧
    ((w.alloc (.cells #[.int .i64 t, v] 40)).alloc (.cells #[.int .i64 0, .slice none 0 0] 40)).heap[w.heap.size + 1]? = some (.cells #[.int .i64 0, .slice none 0 0] 40 (0, 0)) := by
  have h1 := heap_alloc_new w (.cells #[.int .i64 t, v] 40)
  refine ⟨(Kept.alloc w _).calm2 (Kept.alloc _ _), ?_, ?_⟩
  · rw [Below.heap_alloc _ _ _ (by simp)]; exact h1
  · have := heap_alloc_new (w.alloc (.cells #[.int .i64 t, v] 40)) (.cells #[.int .i64 0, .slice none 0 0] 40)
    simpa using this

set_option maxHeartbeats 2000000 in
set_option maxRecDepth 100000 in
theorem step_bad (t : Int) (p pc : Option Addr) (cap n capc : Nat) (L : List Mob) (w : World) (hl : (L.length : Int) ≤ 4611686018427387903) (h : Reads w p L) (hb : worldB t L = false) :
    Calls Try.prog 17 #[.agg #[.int .i64 t, .slice p L.length cap], .slice pc n capc] w fun e w' =>
      e = .returned (.tuple #[.agg #[.int .i64 0, .slice none 0 0], .int .i64 2]) ∧ Kept (fun _ => False) w w' := by
  have HR := hide h
  clear h
  have LT := hide (laid_two w t (.slice p L.length cap))
  go_enter Try.func17, Try.ntmps17
  go_wp2_with fail
  refine (isWorld_c t p cap L _ (by omega) (HR.out.calm LT.out.1)).mono ?_
  rw [hb]
  rintro e w1 ⟨rfl, q1⟩
  have K1 := hide (LT.out.1.calm2 q1)
  have B1 : Hid (w1.heap[w.heap.size + 1]? = some (.cells #[.int .i64 0, .slice none 0 0] 40 (0, 0))) := by show _ = _; rw [q1.block _ (heap_lt LT.out.2.2) (fun e => e)]; exact LT.out.2.2
  obtain ⟨c0, c1, f0, f1⟩ := two_cells B1.out
  obtain ⟨d0, d1, -, -⟩ := two_cells (two_sets B1.out (.int .i64 0) (.slice none 0 0))
  clear q1 LT
  go_wp2
  refine bodyPost_ret (v := .tuple #[.agg #[.int .i64 0, .slice none 0 0], .int .i64 2]) (by simp [results, Try.results17, go_sem, d0, d1]) rfl ?_
  exact ⟨rfl, two_kept K1.out (by omega) _ _⟩

set_option maxHeartbeats 2000000 in
set_option maxRecDepth 100000 in
theorem step_last (p pc : Option Addr) (cap n capc : Nat) (L : List Mob) (w : World) (hl : (L.length : Int) ≤ 4611686018427387903) (h : Reads w p L) (hb : worldB 500 L = true) :
    Calls Try.prog 17 #[.agg #[.int .i64 500, .slice p L.length cap], .slice pc n capc] w fun e w' =>
      e = .returned (.tuple #[.agg #[.int .i64 0, .slice none 0 0], .int .i64 2]) ∧ Kept (fun _ => False) w w' := by
  have HR := hide h
  clear h
  have LT := hide (laid_two w 500 (.slice p L.length cap))
  go_enter Try.func17, Try.ntmps17
  go_wp2_with fail
  refine (isWorld_c 500 p cap L _ (by omega) (HR.out.calm LT.out.1)).mono ?_
  rw [hb]
  rintro e w1 ⟨rfl, q1⟩
  have K1 := hide (LT.out.1.calm2 q1)
  have A1 : Hid (w1.heap[w.heap.size]? = some (.cells #[.int .i64 500, .slice p L.length cap] 40 (0, 0))) := by show _ = _; rw [q1.block _ (heap_lt LT.out.2.1) (fun e => e)]; exact LT.out.2.1
  have B1 : Hid (w1.heap[w.heap.size + 1]? = some (.cells #[.int .i64 0, .slice none 0 0] 40 (0, 0))) := by show _ = _; rw [q1.block _ (heap_lt LT.out.2.2) (fun e => e)]; exact LT.out.2.2
  obtain ⟨a0, a1, -, -⟩ := two_cells A1.out
  obtain ⟨c0, c1, f0, f1⟩ := two_cells B1.out
  obtain ⟨d0, d1, -, -⟩ := two_cells (two_sets B1.out (.int .i64 0) (.slice none 0 0))
  clear q1 LT
  go_wp2
  refine bodyPost_ret (v := .tuple #[.agg #[.int .i64 0, .slice none 0 0], .int .i64 2]) (by simp [results, Try.results17, go_sem, d0, d1]) rfl ?_
  exact ⟨rfl, two_kept K1.out (by omega) _ _⟩

set_option maxHeartbeats 2000000 in
set_option maxRecDepth 100000 in
theorem step_many (t : Int) (p pc : Option Addr) (cap n capc : Nat) (L : List Mob) (w : World) (hl : (L.length : Int) ≤ 4611686018427387903) (h : Reads w p L) (hb : worldB t L = true) (ht : t ≠ 500) (hn : 64 < n) :
    Calls Try.prog 17 #[.agg #[.int .i64 t, .slice p L.length cap], .slice pc n capc] w fun e w' =>
      e = .returned (.tuple #[.agg #[.int .i64 0, .slice none 0 0], .int .i64 1]) ∧ Kept (fun _ => False) w w' := by
  have HR := hide h
  have ht' : (t == 500) = false := by simp [ht]
  have hn' : (64 : Int) < (n : Int) := by omega
  clear h ht
  have LT := hide (laid_two w t (.slice p L.length cap))
  go_enter Try.func17, Try.ntmps17
  go_wp2_with fail
  refine (isWorld_c t p cap L _ (by omega) (HR.out.calm LT.out.1)).mono ?_
  rw [hb]
  rintro e w1 ⟨rfl, q1⟩
  have K1 := hide (LT.out.1.calm2 q1)
  have A1 : Hid (w1.heap[w.heap.size]? = some (.cells #[.int .i64 t, .slice p L.length cap] 40 (0, 0))) := by show _ = _; rw [q1.block _ (heap_lt LT.out.2.1) (fun e => e)]; exact LT.out.2.1
  have B1 : Hid (w1.heap[w.heap.size + 1]? = some (.cells #[.int .i64 0, .slice none 0 0] 40 (0, 0))) := by show _ = _; rw [q1.block _ (heap_lt LT.out.2.2) (fun e => e)]; exact LT.out.2.2
  obtain ⟨a0, a1, -, -⟩ := two_cells A1.out
  obtain ⟨c0, c1, f0, f1⟩ := two_cells B1.out
  obtain ⟨d0, d1, -, -⟩ := two_cells (two_sets B1.out (.int .i64 0) (.slice none 0 0))
  clear q1 LT
  go_wp2
  refine bodyPost_ret (v := .tuple #[.agg #[.int .i64 0, .slice none 0 0], .int .i64 1]) (by simp [results, Try.results17, go_sem, d0, d1]) rfl ?_
  exact ⟨rfl, two_kept K1.out (by omega) _ _⟩
end Go.Proofs.Ytlfmfhmbkpnjbaa
