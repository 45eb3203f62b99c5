import Derived.Test.YtlfmfhmbkpnjbabGreatDoorPy8
import Derived.Test.YtlfmfhmbkpnjbabGreatDoorPy14
import Derived.Test.YtlfmfhmbkpnjbabGreatDoorPy1
import Derived.WalkKit
import Derived.Deep.RegionLawGrows
import Derived.Deep.RegionHeld3
namespace Go.Proofs.YtlfmfhmbkpnjbabGreatDoor
open Go.RowKit

/-- How far two are apart, squared; who sees whom. -/
def dist (a e : Mob) : Nat := fadd (fmul (fsub e.x a.x) (fsub e.x a.x)) (fmul (fsub e.y a.y) (fsub e.y a.y))
def seesB (a e : Mob) (far : Nat) : Bool := (a.team == e.team) || fle (dist a e) (fmul far far)

structure Pl (m : Mob) : Prop where
  x : isNum m.x
  y : isNum m.y

theorem dist_ok {a e : Mob} (ha : Pl a) (he : Pl e) : okV (dist a e) ∧ floatBits .add .f32 (fmul (fsub e.x a.x) (fsub e.x a.x)) (fmul (fsub e.y a.y) (fsub e.y a.y)) = some (dist a e) := by
  have hx := sq_any (sub_any he.x ha.x).2.1
  have hy := sq_any (sub_any he.y ha.y).2.1
  unfold dist
  rw [hx.1, hy.1]
  have := add_pos (sqR_le (rung (fsub e.x a.x))) (sqR_le (rung (fsub e.y a.y)))
  exact ⟨this.2, this.1⟩

theorem dist_swap {a e : Mob} (ha : Pl a) (he : Pl e) : dist a e = dist e a := by
  have hx := sq_any (sub_any he.x ha.x).2.1
  have hy := sq_any (sub_any he.y ha.y).2.1
  have hx' := sq_any (sub_any ha.x he.x).2.1
  have hy' := sq_any (sub_any ha.y he.y).2.1
  unfold dist
  rw [hx.1, hy.1, hx'.1, hy'.1, sub_swap he.x ha.x, sub_swap he.y ha.y]

theorem sees_swap {a e : Mob} (ha : Pl a) (he : Pl e) (far : Nat) : seesB a e far = seesB e a far := by
  unfold seesB
  rw [dist_swap ha he, BEq.comm]

set_option maxHeartbeats 1000000 in
set_option maxRecDepth 100000 in
theorem sees_c (a e : Mob) (far : Nat) (w : World) (ha : Pl a) (he : Pl e) (hf : okV far) :
    Calls Tryz.prog 98 #[.agg #[.int .i64 a.id, .int .i64 a.team, .float .f32 a.x, .float .f32 a.y, .float .f32 a.vx, .float .f32 a.vy, .int .i64 a.health], .agg #[.int .i64 e.id, .int .i64 e.team, .float .f32 e.x, .float .f32 e.y, .float .f32 e.vx, .float .f32 e.vy, .int .i64 e.health], .float .f32 far] w fun r w' => r = .returned (.bool (seesB a e far)) ∧ Kept (fun _ => False) w w' := by
  have r1 : ∀ w, (binOp .sub 61 (.float .f32 e.x) (.float .f32 a.x)).run Tryz.prog w = .ok (.float .f32 (fsub e.x a.x)) w := fun w => run_float_arith w .sub _ .f32 _ _ _ (sub_any he.x ha.x).1
  have r2 : ∀ w, (binOp .sub 61 (.float .f32 e.y) (.float .f32 a.y)).run Tryz.prog w = .ok (.float .f32 (fsub e.y a.y)) w := fun w => run_float_arith w .sub _ .f32 _ _ _ (sub_any he.y ha.y).1
  have r3 : ∀ w, (binOp .mul 61 (.float .f32 (fsub e.x a.x)) (.float .f32 (fsub e.x a.x))).run Tryz.prog w = .ok (.float .f32 (fmul (fsub e.x a.x) (fsub e.x a.x))) w := fun w => run_float_arith w .mul _ .f32 _ _ _ (sq_any (sub_any he.x ha.x).2.1).2.1
  have r4 : ∀ w, (binOp .mul 61 (.float .f32 (fsub e.y a.y)) (.float .f32 (fsub e.y a.y))).run Tryz.prog w = .ok (.float .f32 (fmul (fsub e.y a.y) (fsub e.y a.y))) w := fun w => run_float_arith w .mul _ .f32 _ _ _ (sq_any (sub_any he.y ha.y).2.1).2.1
  have r5 : ∀ w, (binOp .add 61 (.float .f32 (fmul (fsub e.x a.x) (fsub e.x a.x))) (.float .f32 (fmul (fsub e.y a.y) (fsub e.y a.y)))).run Tryz.prog w = .ok (.float .f32 (dist a e)) w := fun w => run_float_arith w .add _ .f32 _ _ _ (dist_ok ha he).2
  have r6 : ∀ w, (binOp .mul 61 (.float .f32 far) (.float .f32 far)).run Tryz.prog w = .ok (.float .f32 (fmul far far)) w := fun w => run_float_arith w .mul _ .f32 _ _ _ (sq_any hf).2.1
  have HK := hide ((Kept.alloc w (.cells #[.int .i64 a.id, .int .i64 a.team, .float .f32 a.x, .float .f32 a.y, .float .f32 a.vx, .float .f32 a.vy, .int .i64 a.health] 63)).calm2 (Kept.alloc _ (.cells #[.int .i64 e.id, .int .i64 e.team, .float .f32 e.x, .float .f32 e.y, .float .f32 e.vx, .float .f32 e.vy, .int .i64 e.health] 63)))
  by_cases h1 : a.team = e.team
  · have H : Hid (seesB a e far = true) := by show _ = _; simp [seesB, h1]
    have h1' : (a.team == e.team) = true := by simp [h1]
    clear h1
    go_enter Tryz.func98, Tryz.ntmps98
    go_wp2
    go_ret
    exact ⟨ret1 (by rw [H.out]; rfl), HK.out⟩
  · have h1' : (a.team == e.team) = false := by simp [h1]
    have H : Hid (seesB a e far = fle (dist a e) (fmul far far)) := by show _ = _; simp [seesB, h1]
    clear h1
    go_enter Tryz.func98, Tryz.ntmps98
    go_wp2
    go_quiet (fail)
    go_wp2
    go_ret
    exact ⟨ret1 (by rw [H.out]; rfl), HK.out.calm2 (Kept.drewN _ _)⟩

theorem isNaN64_c (r : Nat) (w : World) (h : (FloatKind.f64.format.order r r != some .eq) = false) : Calls Tryz.prog 97 #[.float .f64 r] w fun e w' => e = .returned (.bool false) ∧ w' = w := by
  go_enter Tryz.func97, Tryz.ntmps97
  go_wp2
  go_ret
  exact ⟨rfl, rfl⟩
end Go.Proofs.YtlfmfhmbkpnjbabGreatDoor

namespace Go.Proofs.YtlfmfhmbkpnjbabGreatDoor
open Go.RowKit

/-- A row of entities with room. -/
structure RowAt (w : World) (g : Nat) (L : List Mob) (cap : Nat) (cur : List Value) : Prop where
  blk : w.heap[g]? = some (.cells cur.toArray 63 (0, 0))
  len : cur.length = cap * 7
  row : cur.take (L.length * 7) = rowM L
  short : L.length ≤ cap

theorem RowAt.keep {w w' : World} {S : Nat → Prop} {g : Nat} {L : List Mob} {cap : Nat} {cur : List Value} (h : RowAt w g L cap cur) (hk : Kept S w w') (hS : ¬ S g) : RowAt w' g L cap cur :=
  ⟨by rw [hk.block g (heap_lt h.blk) hS]; exact h.blk, h.len, h.row, h.short⟩
theorem RowAt.calm {w w' : World} {g : Nat} {L : List Mob} {cap : Nat} {cur : List Value} (h : RowAt w g L cap cur) (hk : Kept (fun _ => False) w w') : RowAt w' g L cap cur := h.keep hk (fun e => e)
theorem RowAt.reads {w : World} {g : Nat} {L : List Mob} {cap : Nat} {cur : List Value} (h : RowAt w g L cap cur) : Reads w (some ⟨g, 0, none⟩) L := fun _ => ⟨g, 0, rfl, heap_lt h.blk, fun j u hu => by
  rw [Nat.zero_add, cell_block h.blk]
  have hj := (List.getElem?_eq_some_iff.1 hu).1
  have e : cur = rowM L ++ cur.drop (L.length * 7) := by rw [← h.row, List.take_append_drop]
  rw [e]
  simp [List.getElem?_append_left hj, hu]⟩
theorem RowAt.more {w w' : World} {g : Nat} {L : List Mob} {cap : Nat} {cur : List Value} {m : Mob} (h : RowAt w g L cap cur) (hl : L.length < cap) (hw : w'.heap[g]? = some (.cells (splice cur (L.length * 7) (rowM [m])).toArray 63 (0, 0))) : RowAt w' g (L ++ [m]) cap (splice cur (L.length * 7) (rowM [m])) := by
  have h7 : (rowM [m]).length = 7 := rfl
  refine ⟨hw, by rw [length_splice _ _ _ (by rw [h.len, h7]; omega), h.len], ?_, by simp; omega⟩
  unfold splice
  rw [h.row, rowM_append, ← List.append_assoc, show (L ++ [m]).length * 7 = (rowM L ++ rowM [m]).length from by rw [← rowM_append, rowM_length], List.take_left]

end Go.Proofs.YtlfmfhmbkpnjbabGreatDoor

namespace Go.Proofs.YtlfmfhmbkpnjbabGreatDoor
open Go.RowKit

set_option maxHeartbeats 2000000 in
set_option maxRecDepth 100000 in
theorem seen_bad (t id : Int) (far : Nat) (p : Option Addr) (cap : Nat) (L : List Mob) (w : World) (hl : (L.length : Int) ≤ 4611686018427387903) (h : Reads w p L) (hb : worldB t L = false) :
    Calls Tryz.prog 74 #[.agg #[.int .i64 t, .slice p L.length cap], .int .i64 id, .float .f32 far] w fun e w' =>
      e = .returned (.tuple #[.agg #[.int .i64 0, .slice none 0 0], .int .i64 2]) ∧ Kept (fun _ => False) w w' := by
  have HR := hide h
  clear h
  have LT := hide (laid_two w t (.slice p L.length cap))
  go_enter Tryz.func74, Tryz.ntmps74
  go_wp2_with fail
  refine (isWorld_c t p cap L _ (by omega) (HR.out.calm LT.out.1)).mono ?_
  rw [hb]
  rintro e w1 ⟨rfl, q1⟩
  have K1 := hide (LT.out.1.calm2 q1)
  have A1 : Hid (w1.heap[w.heap.size]? = some (.cells #[.int .i64 t, .slice p L.length cap] 34 (0, 0))) := by show _ = _; rw [q1.block _ (heap_lt LT.out.2.1) (fun e => e)]; exact LT.out.2.1
  have B1 : Hid (w1.heap[w.heap.size + 1]? = some (.cells #[.int .i64 0, .slice none 0 0] 34 (0, 0))) := by show _ = _; rw [q1.block _ (heap_lt LT.out.2.2) (fun e => e)]; exact LT.out.2.2
  clear q1 LT
  obtain ⟨c0, c1, f0, f1⟩ := two_cells B1.out
  obtain ⟨d0, d1, -, -⟩ := two_cells (two_sets B1.out (.int .i64 0) (.slice none 0 0))
  go_wp2
  refine bodyPost_ret (v := .tuple #[.agg #[.int .i64 0, .slice none 0 0], .int .i64 2]) (by simp [results, Tryz.results74, go_sem, d0, d1]) rfl ?_
  exact ⟨rfl, two_kept K1.out (by omega) _ _⟩

set_option maxHeartbeats 2000000 in
set_option maxRecDepth 100000 in
theorem seen_none (t id : Int) (far : Nat) (p : Option Addr) (cap : Nat) (L : List Mob) (w : World) (hl : (L.length : Int) ≤ 4611686018427387903) (h : Reads w p L) (hb : worldB t L = true) (hf : findB L id = false) :
    Calls Tryz.prog 74 #[.agg #[.int .i64 t, .slice p L.length cap], .int .i64 id, .float .f32 far] w fun e w' =>
      e = .returned (.tuple #[.agg #[.int .i64 0, .slice none 0 0], .int .i64 5]) ∧ Kept (fun _ => False) w w' := by
  have HR := hide h
  clear h
  have HS := hide (rises_of (worldB_fine hb).2.2.rises)
  have LT := hide (laid_two w t (.slice p L.length cap))
  go_enter Tryz.func74, Tryz.ntmps74
  go_wp2_with fail
  refine (isWorld_c t p cap L _ (by omega) (HR.out.calm LT.out.1)).mono ?_
  rw [hb]
  rintro e w1 ⟨rfl, q1⟩
  have K1 := hide (LT.out.1.calm2 q1)
  have A1 : Hid (w1.heap[w.heap.size]? = some (.cells #[.int .i64 t, .slice p L.length cap] 34 (0, 0))) := by show _ = _; rw [q1.block _ (heap_lt LT.out.2.1) (fun e => e)]; exact LT.out.2.1
  have B1 : Hid (w1.heap[w.heap.size + 1]? = some (.cells #[.int .i64 0, .slice none 0 0] 34 (0, 0))) := by show _ = _; rw [q1.block _ (heap_lt LT.out.2.2) (fun e => e)]; exact LT.out.2.2
  clear q1 LT
  obtain ⟨a0, a1, -, -⟩ := two_cells A1.out
  go_wp2_with fail
  refine (find_c p cap id L _ (by omega) HS.out (HR.out.calm K1.out)).mono ?_
  rw [hf]
  rintro e w2 ⟨rfl, q2⟩
  have K1 := hide (K1.out.calm2 q2)
  have A1 : Hid (w2.heap[w.heap.size]? = some (.cells #[.int .i64 t, .slice p L.length cap] 34 (0, 0))) := by show _ = _; rw [q2.block _ (heap_lt A1.out) (fun e => e)]; exact A1.out
  have B1 : Hid (w2.heap[w.heap.size + 1]? = some (.cells #[.int .i64 0, .slice none 0 0] 34 (0, 0))) := by show _ = _; rw [q2.block _ (heap_lt B1.out) (fun e => e)]; exact B1.out
  clear q2 a0 a1
  obtain ⟨c0, c1, f0, f1⟩ := two_cells B1.out
  obtain ⟨d0, d1, -, -⟩ := two_cells (two_sets B1.out (.int .i64 0) (.slice none 0 0))
  go_wp2
  refine bodyPost_ret (v := .tuple #[.agg #[.int .i64 0, .slice none 0 0], .int .i64 5]) (by simp [results, Tryz.results74, go_sem, d0, d1]) rfl ?_
  exact ⟨rfl, two_kept K1.out (by omega) _ _⟩

set_option maxHeartbeats 2000000 in
set_option maxRecDepth 100000 in
theorem seen_neg (t id : Int) (far : Nat) (p : Option Addr) (cap : Nat) (L : List Mob) (w : World) (hl : (L.length : Int) ≤ 4611686018427387903) (h : Reads w p L) (hb : worldB t L = true) (hf : findB L id = true) (hfar : okV far) (hlt : (FloatKind.f32.format.order far 0 == some .lt) = true) :
    Calls Tryz.prog 74 #[.agg #[.int .i64 t, .slice p L.length cap], .int .i64 id, .float .f32 far] w fun e w' =>
      e = .returned (.tuple #[.agg #[.int .i64 0, .slice none 0 0], .int .i64 4]) ∧ Kept (fun _ => False) w w' := by
  have HR := hide h
  clear h
  have HS := hide (rises_of (worldB_fine hb).2.2.rises)
  have LT := hide (laid_two w t (.slice p L.length cap))
  go_enter Tryz.func74, Tryz.ntmps74
  go_wp2_with fail
  refine (isWorld_c t p cap L _ (by omega) (HR.out.calm LT.out.1)).mono ?_
  rw [hb]
  rintro e w1 ⟨rfl, q1⟩
  have K1 := hide (LT.out.1.calm2 q1)
  have A1 : Hid (w1.heap[w.heap.size]? = some (.cells #[.int .i64 t, .slice p L.length cap] 34 (0, 0))) := by show _ = _; rw [q1.block _ (heap_lt LT.out.2.1) (fun e => e)]; exact LT.out.2.1
  have B1 : Hid (w1.heap[w.heap.size + 1]? = some (.cells #[.int .i64 0, .slice none 0 0] 34 (0, 0))) := by show _ = _; rw [q1.block _ (heap_lt LT.out.2.2) (fun e => e)]; exact LT.out.2.2
  clear q1 LT
  obtain ⟨a0, a1, -, -⟩ := two_cells A1.out
  go_wp2_with fail
  refine (find_c p cap id L _ (by omega) HS.out (HR.out.calm K1.out)).mono ?_
  rw [hf]
  rintro e w2 ⟨rfl, q2⟩
  have K1 := hide (K1.out.calm2 q2)
  have A1 : Hid (w2.heap[w.heap.size]? = some (.cells #[.int .i64 t, .slice p L.length cap] 34 (0, 0))) := by show _ = _; rw [q2.block _ (heap_lt A1.out) (fun e => e)]; exact A1.out
  have B1 : Hid (w2.heap[w.heap.size + 1]? = some (.cells #[.int .i64 0, .slice none 0 0] 34 (0, 0))) := by show _ = _; rw [q2.block _ (heap_lt B1.out) (fun e => e)]; exact B1.out
  clear q2 a0 a1
  obtain ⟨a0, a1, -, -⟩ := two_cells A1.out
  obtain ⟨r64, hr64, hrr⟩ := conv_ok hfar
  have hcv : ∀ w, (convert 61 158 (.float .f32 far)).run Tryz.prog w = .ok (.float .f64 r64) w := fun w => run_convert_float_float w _ _ .f32 .f64 far r64 (by rw [Tryz.underlying61]; rfl) Tryz.underlying158 hr64
  clear hr64
  go_wp2_with fail
  refine (isNaN64_c r64 _ hrr).mono ?_
  rintro e w3 ⟨rfl, rfl⟩
  clear hcv hrr a0 a1
  obtain ⟨c0, c1, f0, f1⟩ := two_cells B1.out
  obtain ⟨d0, d1, -, -⟩ := two_cells (two_sets B1.out (.int .i64 0) (.slice none 0 0))
  go_wp2
  refine bodyPost_ret (v := .tuple #[.agg #[.int .i64 0, .slice none 0 0], .int .i64 4]) (by simp [results, Tryz.results74, go_sem, d0, d1]) rfl ?_
  exact ⟨rfl, two_kept K1.out (by omega) _ _⟩

theorem makeN (n : Nat) (hn : n ≤ 32) : ∃ cur0 : List Value, cur0.length = n * 7 ∧ ∀ w : World, (Instr.makeSlice 32 (.int .i64 0) (.int .i64 (n : Int))).run Tryz.prog w = .ok (.slice (some ⟨w.heap.size, 0, none⟩) 0 n) (w.alloc (.cells cur0.toArray 63)) := by
  obtain ⟨i0, hi, hz0, hz1, hz2⟩ := info_parts info_mob
  refine ⟨(madeCells (Value.agg #[.int .i64 0, .int .i64 0, .float .f32 0, .float .f32 0, .float .f32 0, .float .f32 0, .int .i64 0]).cells (n * 7)).toList, ?_, fun w => ?_⟩
  · rw [Array.length_toList, size_madeCells]
  · have := run_make (P := Tryz.prog) w 32 63 i0 _ Tryz.underlying32 hi hz0 .i64 .i64 0 (n : Int) (by decide) (by omega) (by rw [hz2]; omega) (by omega)
    rw [hz1, Int.toNat_natCast] at this
    exact this

theorem mob_pl {m : Mob} (h : mobB m = true) : Pl m := by
  simp only [mobB, Bool.and_eq_true, decide_eq_true_eq, placeB] at h
  exact ⟨place_num h.1.1.1.1.2.1, place_num h.1.1.1.1.2.2⟩

theorem take_filter (L : List Mob) (f : Mob → Bool) (i : Nat) (hi : i < L.length) : (L.take (i + 1)).filter f = (L.take i).filter f ++ (if f L[i] = true then [L[i]] else []) := by
  rw [List.take_succ_eq_append_getElem hi, List.filter_append]
  congr 1
  simp [List.filter_cons]

set_option maxHeartbeats 4000000 in
set_option maxRecDepth 100000 in
theorem seen_ok (t id : Int) (far : Nat) (p : Option Addr) (cap : Nat) (L : List Mob) (w : World) (h : Reads w p L) (hb : worldB t L = true) (q : Nat) (hq : findI L id = q) (hql : q < L.length) (hf : findB L id = true) (hfar : okV far) (hlt : (FloatKind.f32.format.order far 0 == some .lt) = false) :
    Calls Tryz.prog 74 #[.agg #[.int .i64 t, .slice p L.length cap], .int .i64 id, .float .f32 far] w fun e w' =>
      ∃ g cur, w.heap.size ≤ g ∧ e = .returned (.tuple #[.agg #[.int .i64 t, .slice (some ⟨g, 0, none⟩) (L.filter (fun e => seesB L[q] e far)).length L.length], .int .i64 0]) ∧ RowAt w' g (L.filter (fun e => seesB L[q] e far)) L.length cur ∧ Kept (fun _ => False) w w' := by
  obtain ⟨i0, hi, hz0, hz1, hz2⟩ := info_parts info_mob
  have HMB : Hid (∀ m ∈ L, mobB m = true) := by
    have := hb
    simp only [worldB, decide_eq_true_eq] at this
    intro m hm
    obtain ⟨j, hj, rfl⟩ := List.getElem_of_mem hm
    exact (this.2.2 j hj hj).1
  have hsh := (worldB_fine hb).2.2.short
  obtain ⟨cur0, hc0, hmk⟩ := makeN L.length hsh
  have hsf := store_float Tryz.prog
  have HR := hide h
  clear h
  have HS := hide (rises_of (worldB_fine hb).2.2.rises)
  have LT := hide (laid_two w t (.slice p L.length cap))
  go_enter Tryz.func74, Tryz.ntmps74
  go_wp2_with fail
  refine (isWorld_c t p cap L _ (by omega) (HR.out.calm LT.out.1)).mono ?_
  rw [hb]
  rintro e w1 ⟨rfl, q1⟩
  have K1 := hide (LT.out.1.calm2 q1)
  have A1 : Hid (w1.heap[w.heap.size]? = some (.cells #[.int .i64 t, .slice p L.length cap] 34 (0, 0))) := by show _ = _; rw [q1.block _ (heap_lt LT.out.2.1) (fun e => e)]; exact LT.out.2.1
  have B1 : Hid (w1.heap[w.heap.size + 1]? = some (.cells #[.int .i64 0, .slice none 0 0] 34 (0, 0))) := by show _ = _; rw [q1.block _ (heap_lt LT.out.2.2) (fun e => e)]; exact LT.out.2.2
  clear q1 LT
  obtain ⟨a0, a1, -, -⟩ := two_cells A1.out
  go_wp2_with fail
  refine (find_c p cap id L _ (by omega) HS.out (HR.out.calm K1.out)).mono ?_
  rw [hf]
  rintro e w2 ⟨rfl, q2⟩
  have K1 := hide (K1.out.calm2 q2)
  have A1 : Hid (w2.heap[w.heap.size]? = some (.cells #[.int .i64 t, .slice p L.length cap] 34 (0, 0))) := by show _ = _; rw [q2.block _ (heap_lt A1.out) (fun e => e)]; exact A1.out
  have B1 : Hid (w2.heap[w.heap.size + 1]? = some (.cells #[.int .i64 0, .slice none 0 0] 34 (0, 0))) := by show _ = _; rw [q2.block _ (heap_lt B1.out) (fun e => e)]; exact B1.out
  clear q2 a0 a1
  obtain ⟨a0, a1, -, -⟩ := two_cells A1.out
  obtain ⟨r64, hr64, hrr⟩ := conv_ok hfar
  have hcv : ∀ w, (convert 61 158 (.float .f32 far)).run Tryz.prog w = .ok (.float .f64 r64) w := fun w => run_convert_float_float w _ _ .f32 .f64 far r64 (by rw [Tryz.underlying61]; rfl) Tryz.underlying158 hr64
  clear hr64
  go_wp2_with fail
  refine (isNaN64_c r64 _ hrr).mono ?_
  rintro e w3 ⟨rfl, rfl⟩
  clear hcv hrr a0 a1
  have HQ := hide hq
  clear hq hf hb
  have KA := hide (Kept.alloc w3 (.cells cur0.toArray 63))
  have hw3 := K1.out.size
  have A2 := hide (show (w3.alloc (.cells cur0.toArray 63)).heap[w.heap.size]? = some (.cells #[.int .i64 t, .slice p L.length cap] 34 (0, 0)) by rw [KA.out.block _ (heap_lt A1.out) (fun e => e)]; exact A1.out)
  have B2 := hide (show (w3.alloc (.cells cur0.toArray 63)).heap[w.heap.size + 1]? = some (.cells #[.int .i64 0, .slice none 0 0] 34 (0, 0)) by rw [KA.out.block _ (heap_lt B1.out) (fun e => e)]; exact B1.out)
  have R2 : Hid (RowAt (w3.alloc (.cells cur0.toArray 63)) w3.heap.size [] L.length cur0) := ⟨heap_alloc_new w3 _, hc0, by simp [rowM], Nat.zero_le _⟩
  have K2 := hide (K1.out.calm2 KA.out)
  have hwB := heap_lt B1.out
  obtain ⟨a0, a1, -, -⟩ := two_cells A1.out
  have ha2 : (w3.alloc (.cells cur0.toArray 63)).cell? ⟨w.heap.size, 1, none⟩ = some (.slice p L.length cap) := (two_cells A2.out).2.1
  go_wp2
  clear hmk a0 a1 A1 B1 K1 KA ha2
  generalize w3.alloc (.cells cur0.toArray 63) = W at *
  generalize w3.heap.size = g at *
  go_loopw [42, 10] (fun a s wr => ∃ i : Nat, ∃ cu : List Value, i ≤ L.length ∧ a = .int .i64 i ∧ s = .slice (some ⟨g, 0, none⟩) ((L.take i).filter (fun e => seesB L[q] e far)).length L.length ∧ Hid (RowAt wr g ((L.take i).filter (fun e => seesB L[q] e far)) L.length cu) ∧ Hid (Kept (fun k => k = g) W wr)) (fun a _ _ => L.length - (intOf a).toNat)
  case atStart => exact ⟨0, cur0, Nat.zero_le _, rfl, rfl, R2, Kept.refl _ _⟩
  case round =>
    obtain ⟨i, cu, hil, rfl, rfl, HE, HK⟩ := hrel
    clear R2
    have HKW : Hid (Kept (fun _ => False) w wr) := K2.out.join HK.out (fun _ _ e => e) (fun j hj e => by omega)
    have AR : Hid (wr.heap[w.heap.size]? = some (.cells #[.int .i64 t, .slice p L.length cap] 34 (0, 0))) := by show _ = _; rw [HK.out.block _ (heap_lt A2.out) (by omega)]; exact A2.out
    have BR : Hid (wr.heap[w.heap.size + 1]? = some (.cells #[.int .i64 0, .slice none 0 0] 34 (0, 0))) := by show _ = _; rw [HK.out.block _ (heap_lt B2.out) (by omega)]; exact B2.out
    by_cases hlt2 : i < L.length
    · obtain ⟨b, off, hp, hbs, c0, c1, c2, c3, c4, c5, c6⟩ := (HR.out.calm HKW.out).at i hlt2
      obtain ⟨b', off', hp', _, m0, m1, m2, m3, m4, m5, m6⟩ := (HR.out.calm HKW.out).at q hql
      obtain ⟨rfl, rfl⟩ : b = b' ∧ off = off' := by rw [hp] at hp'; simpa using hp'
      subst hp
      have hPm := mob_pl (HMB.out L[q] (List.getElem_mem hql))
      have hPi := mob_pl (HMB.out L[i] (List.getElem_mem hlt2))
      have HF := hide (take_filter L (fun e => seesB L[q] e far) i hlt2)
      have hfl : ((L.take i).filter (fun e => seesB L[q] e far)).length ≤ i := by
        have := List.length_filter_le (fun e => seesB L[q] e far) (L.take i)
        rw [List.length_take] at this; omega
      have CE : Hid (∀ w', Kept (fun _ => False) wr w' → (w'.cell? ⟨w.heap.size, 1, none⟩ = some (.slice (some ⟨b, off, none⟩) L.length cap)) ∧ w'.cell? ⟨b, off + q * 7, none⟩ = some (.int .i64 L[q].id) ∧ w'.cell? ⟨b, off + q * 7 + 1, none⟩ = some (.int .i64 L[q].team) ∧ w'.cell? ⟨b, off + q * 7 + 2, none⟩ = some (.float .f32 L[q].x) ∧ w'.cell? ⟨b, off + q * 7 + 3, none⟩ = some (.float .f32 L[q].y) ∧ w'.cell? ⟨b, off + q * 7 + 4, none⟩ = some (.float .f32 L[q].vx) ∧ w'.cell? ⟨b, off + q * 7 + 5, none⟩ = some (.float .f32 L[q].vy) ∧ w'.cell? ⟨b, off + q * 7 + 6, none⟩ = some (.int .i64 L[q].health)) := fun w' hk => by
        refine ⟨?_, ?_, ?_, ?_, ?_, ?_, ?_, ?_⟩
        · rw [cell_keep hk (heap_lt AR.out) (fun e => e)]; exact (two_cells AR.out).2.1
        all_goals rw [cell_keep hk hbs (fun e => e)]; assumption
      have hqb1 : (0 : Int) ≤ (q : Int) := by omega
      have hqb2 : (q : Int) < (L.length : Int) := by omega
      have hib1 : (0 : Int) ≤ (i : Int) := by omega
      have hib2 : (i : Int) < (L.length : Int) := by omega
      have KN := hide (Kept.alloc wr (.cells #[.int .i64 L[i].id, .int .i64 L[i].team, .float .f32 L[i].x, .float .f32 L[i].y, .float .f32 L[i].vx, .float .f32 L[i].vy, .int .i64 L[i].health] 63))
      have HN := hide (heap_alloc_new wr (.cells #[.int .i64 L[i].id, .int .i64 L[i].team, .float .f32 L[i].x, .float .f32 L[i].y, .float .f32 L[i].vx, .float .f32 L[i].vy, .int .i64 L[i].health] 63))
      clear m0 m1 m2 m3 m4 m5 m6 hp'
      go_wp2
      obtain ⟨n0, n1, n2, n3, n4, n5, n6⟩ := seven_cells HN.out
      obtain ⟨s0, s1, s2, s3, s4, s5, s6, s7⟩ := CE.out _ KN.out
      clear c0 c1 c2 c3 c4 c5 c6
      generalize wr.alloc (.cells #[.int .i64 L[i].id, .int .i64 L[i].team, .float .f32 L[i].x, .float .f32 L[i].y, .float .f32 L[i].vx, .float .f32 L[i].vy, .int .i64 L[i].health] 63) = wa at *
      generalize L[i] = m at *
      go_region_held3 (fun w' => w'.cell? ⟨w.heap.size, 1, none⟩ = some (.slice (some ⟨b, off, none⟩) L.length cap) ∧ w'.cell? ⟨b, off + q * 7, none⟩ = some (.int .i64 L[q].id) ∧ w'.cell? ⟨b, off + q * 7 + 1, none⟩ = some (.int .i64 L[q].team) ∧ w'.cell? ⟨b, off + q * 7 + 2, none⟩ = some (.float .f32 L[q].x) ∧ w'.cell? ⟨b, off + q * 7 + 3, none⟩ = some (.float .f32 L[q].y) ∧ w'.cell? ⟨b, off + q * 7 + 4, none⟩ = some (.float .f32 L[q].vx) ∧ w'.cell? ⟨b, off + q * 7 + 5, none⟩ = some (.float .f32 L[q].vy) ∧ w'.cell? ⟨b, off + q * 7 + 6, none⟩ = some (.int .i64 L[q].health) ∧ w'.cell? ⟨wr.heap.size, 0, none⟩ = some (.int .i64 m.id) ∧ w'.cell? ⟨wr.heap.size, 1, none⟩ = some (.int .i64 m.team) ∧ w'.cell? ⟨wr.heap.size, 2, none⟩ = some (.float .f32 m.x) ∧ w'.cell? ⟨wr.heap.size, 3, none⟩ = some (.float .f32 m.y) ∧ w'.cell? ⟨wr.heap.size, 4, none⟩ = some (.float .f32 m.vx) ∧ w'.cell? ⟨wr.heap.size, 5, none⟩ = some (.float .f32 m.vy) ∧ w'.cell? ⟨wr.heap.size, 6, none⟩ = some (.int .i64 m.health)) (go_keep)
        ((go_at_call 98; refine (sees_c L[q] m far _ hPm hPi hfar).mono ?_; rintro e w4 ⟨rfl, q4⟩; have K4 := hide (KN.out.calm2 ((Kept.drew wa).calm2 q4)); have HN4 := hide (show w4.heap[wr.heap.size]? = some (.cells #[.int .i64 m.id, .int .i64 m.team, .float .f32 m.x, .float .f32 m.y, .float .f32 m.vx, .float .f32 m.vy, .int .i64 m.health] 63 (0, 0)) by rw [((Kept.drew wa).calm2 q4).block _ (heap_lt HN.out) (fun e => e)]; exact HN.out); obtain ⟨u0, u1, u2, u3, u4, u5, u6⟩ := seven_cells HN4.out; obtain ⟨v0, v1, v2, v3, v4, v5, v6, v7⟩ := CE.out w4 K4.out; clear q4))
      clear s0 s1 s2 s3 s4 s5 s6 s7 n0 n1 n2 n3 n4 n5 n6 CE v0 v1 v2 v3 v4 v5 v6 v7
      cases hs : seesB L[q] m far
      · rw [hs] at HF
        have HE4 : Hid (RowAt w4 g ((L.take (i + 1)).filter (fun e => seesB L[q] e far)) L.length cu) := by show RowAt _ _ _ _ _; rw [HF.out]; simpa using HE.out.calm K4.out
        have HK4 : Hid (Kept (fun k => k = g) W w4) := HK.out.join K4.out (fun _ _ e => e) (fun _ _ e => e.elim)
        have HLE : Hid (((L.take (i + 1)).filter (fun e => seesB L[q] e far)).length = ((L.take i).filter (fun e => seesB L[q] e far)).length) := by show _ = _; rw [HF.out]; simp
        go_wp2
        go_roundw
        case rel => exact ⟨i + 1, cu, by omega, by go_num, by rw [HLE.out], HE4, HK4⟩
        case measure => simp [intOf]; omega
      · rw [hs] at HF
        generalize hX : (L.take i).filter (fun e => seesB L[q] e far) = X at *
        have HE4 := hide (HE.out.calm K4.out)
        have HX := hide hX
        clear hX
        go_wp2_with (at_builtin; refine wpList_append_here _ rfl (.tmp 54) (.tmp 56) 32 rfl 63 i0 7 Tryz.underlying32 hi hz1 g X.length L.length cu (HE4.out.calm (Kept.alloc _ _)).blk rfl ⟨w4.heap.size, 0, none⟩ 1 1 rfl (rowM [m]) rfl ?c1 (rowM_one [m]) ?c2 ?c3 ?_)
        case c1 => intro j u hu; first | exact hu | exact new_cells w4 (rowM [m]) 63 _ rfl j u hu
        case c2 => omega
        case c3 => rw [HE4.out.len]; have : (rowM [m]).length = 7 := rfl; omega
        intro w5 HG5 HK5
        have HE5 : Hid (RowAt w5 g ((L.take (i + 1)).filter (fun e => seesB L[q] e far)) L.length (splice cu (X.length * 7) (rowM [m]))) := by rw [HF.out]; exact HE4.out.more (by omega) HG5.out
        have HK6 : Hid (Kept (fun k => k = g) W w5) := (HK.out.join (K4.out.calm2 (Kept.alloc _ _)) (R := fun k => k = g) (fun _ _ e => e) (fun _ _ e => e.elim)).join HK5.out (fun _ _ e => e) (fun _ _ e => e)
        have HLE : Hid (((L.take (i + 1)).filter (fun e => seesB L[q] e far)).length = X.length + 1) := by show _ = _; rw [HF.out]; simp
        go_wp2
        go_roundw
        case rel => exact ⟨i + 1, _, by omega, by go_num, by rw [HLE.out], HE5, HK6⟩
        case measure => simp [intOf]; omega
    · obtain rfl : i = L.length := by omega
      rw [List.take_length] at HE ⊢
      generalize hX : L.filter (fun e => seesB L[q] e far) = X at *
      have HX := hide hX
      clear hX
      obtain ⟨a0, a1, -, -⟩ := two_cells AR.out
      obtain ⟨c0, c1, f0, f1⟩ := two_cells BR.out
      obtain ⟨d0, d1, -, -⟩ := two_cells (two_sets BR.out (.int .i64 t) (.slice (some ⟨g, 0, none⟩) X.length L.length))
      clear HK
      go_wp2
      refine bodyPost_ret (v := .tuple #[.agg #[.int .i64 t, .slice (some ⟨g, 0, none⟩) X.length L.length], .int .i64 0]) (by simp [results, Tryz.results74, go_sem, d0, d1]) rfl ?_
      refine ⟨g, cu, by omega, by rw [HX.out], ?_, two_kept HKW.out (by omega) _ _⟩
      rw [HX.out]
      have kk : Kept (fun k => k = w.heap.size + 1) wr ((wr.setCell ⟨w.heap.size + 1, 0, none⟩ (.int .i64 t)).setCell ⟨w.heap.size + 1, 1, none⟩ (.slice (some ⟨g, 0, none⟩) X.length L.length)) := (Kept.setCell wr _ _).join (Kept.setCell _ _ _) (fun _ _ e => e) (fun _ _ e => e)
      exact HE.out.keep kk (by omega)
end Go.Proofs.YtlfmfhmbkpnjbabGreatDoor

namespace Go.Proofs.YtlfmfhmbkpnjbabGreatDoor
open Go.RowKit

theorem encore_beq (x : List UInt8) (h : x = encoreL) : (x == [101, 110, 99, 111, 114, 101]) = true ∧ ((baL x).toList == [101, 110, 99, 111, 114, 101]) = true := by
  subst h
  exact ⟨by decide, by rw [ByteArray.toList_eq]; decide⟩
theorem encore_bne (x : List UInt8) (h : ¬ x = encoreL) : (x == [101, 110, 99, 111, 114, 101]) = false ∧ ((baL x).toList == [101, 110, 99, 111, 114, 101]) = false := by
  constructor
  · rw [beq_eq_false_iff_ne]; exact h
  · rw [beq_eq_false_iff_ne, ByteArray.toList_eq]; simpa [encoreL] using h

set_option maxHeartbeats 1000000 in
set_option maxRecDepth 100000 in
theorem everyOf_c (l : List UInt8) (w : World) (hl : l.length ≤ 140737488355328) (hM : Mine w.heap.size) (hE : Errs w) :
    Calls Tryz.prog 24 #[.string (baL l)] w fun e w' => ∃ v : Int, e = .returned (.tuple #[.int .i64 v, .bool (everyL l).isSome]) ∧ (∀ ev, everyL l = some ev → v = ev) ∧ Kept (fun _ => False) w w' := by
  have KA := hide (Kept.alloc w (.cells #[.string (baL l), .bool false, .bool false] 108))
  have R0 : Hid (RdAt (w.alloc (.cells #[.string (baL l), .bool false, .bool false] 108)) w.heap.size (Rd.of l)) := heap_alloc_new w _
  have HM := hide hM
  have HE := hide (hE.calm KA.out)
  have HS : Hid (Rd.of l).small := hl
  clear hM hE hl
  go_enter Tryz.func24, Tryz.ntmps24
  go_wp2_with fail
  refine (word_c w.heap.size (Rd.of l) _ HS.out R0.out).mono ?_
  rintro e w1 ⟨rfl, q1, k1⟩
  obtain ⟨x, r1, hw⟩ : ∃ x r1, (Rd.of l).word = (x, r1) := ⟨_, _, rfl⟩
  have hsm := (word_small _ HS.out).2
  rw [hw] at q1 hsm
  have S1 : Hid (RS w1 w1 w.heap.size r1) := RS.start q1 (HE.out.mine HM.out k1) hsm
  have K1 := hide k1
  have HW := hide hw
  rw [show (Rd.of l).word.1 = x from by rw [hw]]
  clear q1 k1 hw hsm
  by_cases hx : x = encoreL
  · obtain ⟨hb, hb'⟩ := encore_beq x hx
    have HX := hide hx
    clear hx
    go_wp2_with fail
    refine (int_s w.heap.size r1 1 64 _ _ HM.out S1.out).mono ?_
    rintro e w2 ⟨v, r2, hv, rfl, s2⟩
    have S2 := hide s2
    have HV := hide hv
    clear s2 hv
    go_wp2_with fail
    refine (done_c w.heap.size r2 _ S2.out.at_).mono ?_
    rintro e w3 ⟨rfl, rfl⟩
    have fin : Hid (Kept (fun _ => False) w w3) := (KA.out.join K1.out (R := fun k => k = w.heap.size) (fun _ _ e => e.elim) (fun _ _ e => e)).join S2.out.kept (fun j hj e => by omega) (fun j hj e => by omega)
    have he : everyL l = if r2.done = true then some v.toNat else none := by
      unfold everyL
      rw [HW.out]
      simp only [HV.out, HX.out, true_and]
    have HVB : Hid (r2.done = true → 1 ≤ v) := by
      intro hd
      have hh := HV.out
      unfold Rd.int at hh
      split at hh
      · split at hh
        · rename_i hq
          simp only [Prod.mk.injEq] at hh
          omega
        · simp only [Prod.mk.injEq] at hh
          rw [← hh.2] at hd
          simp [Rd.done, Rd.bad] at hd
      · simp only [Prod.mk.injEq] at hh
        rw [← hh.2] at hd
        simp [Rd.done, Rd.bad] at hd
    have HEV := hide he
    clear he
    go_wp2
    go_ret2
    refine ⟨v, ?_, ?_, fin.out⟩
    · rw [HEV.out]
      cases r2.done <;> rfl
    · intro ev hev
      rw [HEV.out] at hev
      split at hev
      · rename_i hd
        injection hev with hev
        have := HVB.out hd
        omega
      · cases hev
  · obtain ⟨hb, hb'⟩ := encore_bne x hx
    have HX := hide hx
    clear hx
    go_wp2_with fail
    refine (int_s w.heap.size r1 1 64 _ _ HM.out S1.out).mono ?_
    rintro e w2 ⟨v, r2, hv, rfl, s2⟩
    have S2 := hide s2
    clear s2 hv
    have fin : Hid (Kept (fun _ => False) w w2) := (KA.out.join K1.out (R := fun k => k = w.heap.size) (fun _ _ e => e.elim) (fun _ _ e => e)).join S2.out.kept (fun j hj e => by omega) (fun j hj e => by omega)
    have HEV : Hid (everyL l = none) := by
      show _ = _
      unfold everyL
      rw [HW.out]
      exact if_neg (fun h => HX.out h.1)
    go_wp2
    go_ret2
    refine ⟨v, ?_, ?_, fin.out⟩
    · rw [HEV.out]; rfl
    · intro ev hev
      rw [HEV.out] at hev
      cases hev

set_option maxHeartbeats 1000000 in
set_option maxRecDepth 100000 in
theorem isWorldD_c (t : Int) (p : Option Addr) (cap : Nat) (L : List Mob) (w : World) (hl : L.length ≤ 1000) (h : Reads w p L) :
    Calls Tryz.prog 53 #[.agg #[.int .i64 t, .slice p L.length cap]] w fun e w' => e = .returned (.bool (worldB t L)) ∧ Kept (fun _ => False) w w' := by
  have KA := hide (Kept.alloc w (.cells #[.int .i64 t, .slice p L.length cap] 34))
  have HR := hide (h.calm KA.out)
  have H0 : okV 0 := by unfold okV; decide
  have H1 : (FloatKind.f32.format.order 0 0 == some .lt) = false := by decide
  have HO := hide (And.intro H0 H1)
  clear h H0 H1
  cases hw : worldB t L with
  | false =>
    have HW := hide hw
    clear hw
    go_enter Tryz.func53, Tryz.ntmps53
    go_wp2_with fail
    refine (seen_bad t 0 0 p cap L _ (by omega) HR.out HW.out).mono ?_
    rintro e w1 ⟨rfl, k1⟩
    have K1 := hide k1
    clear k1
    go_wp2
    go_ret
    exact ⟨rfl, KA.out.join (K1.out.join (Kept.alloc _ _) (R := fun _ => False) (fun _ _ e => e) (fun _ _ e => e)) (fun _ _ e => e) (fun _ _ e => e)⟩
  | true =>
    have HW := hide hw
    clear hw
    cases hf : findB L 0 with
    | false =>
      have HF := hide hf
      clear hf
      go_enter Tryz.func53, Tryz.ntmps53
      go_wp2_with fail
      refine (seen_none t 0 0 p cap L _ (by omega) HR.out HW.out HF.out).mono ?_
      rintro e w1 ⟨rfl, k1⟩
      have K1 := hide k1
      clear k1
      go_wp2
      go_ret
      exact ⟨rfl, KA.out.join (K1.out.join (Kept.alloc _ _) (R := fun _ => False) (fun _ _ e => e) (fun _ _ e => e)) (fun _ _ e => e) (fun _ _ e => e)⟩
    | true =>
      have HF := hide hf
      clear hf
      go_enter Tryz.func53, Tryz.ntmps53
      go_wp2_with fail
      refine (seen_ok t 0 0 p cap L _ HR.out HW.out (findI L 0) rfl (findB_lt HF.out) HF.out HO.out.1 HO.out.2).mono ?_
      rintro e w1 ⟨g, cur, hg, rfl, hrow, k1⟩
      have K1 := hide k1
      clear k1 hrow
      go_wp2
      go_ret
      exact ⟨rfl, KA.out.join (K1.out.join (Kept.alloc _ _) (R := fun _ => False) (fun _ _ e => e) (fun _ _ e => e)) (fun _ _ e => e) (fun _ _ e => e)⟩
end Go.Proofs.YtlfmfhmbkpnjbabGreatDoor

namespace Go.Proofs.YtlfmfhmbkpnjbabGreatDoor
open Go.RowKit
theorem step_append_own {P : Program} {ops : Array Oper} {o : Oper} {a : Act} {w : World} {K : Act → World → Prop} {Q : Exit → Act → World → Prop} {E : Prop} (hgd : o.guard = none) (s x : Operand) (t : TypeId)
    (ho : o.op = .call { callee := .builtin .append, args := #[s, x], argTypes := #[t, t] })
    (e : TypeId) (i : TypeInfo) (z : Value) (size bytes : Nat) (ht : P.underlying t = some (.slice e)) (hi : P.info? e = some i) (hz : i.zero = some z)
    (hsize : i.size = size) (hby : i.bytes = bytes) (hzs : z.cells.size = size) (hsz : 0 < size)
    (v : Value) (n : Nat) (xs : List Value) (hs : a.eval s = v) (hown : w.ownsRow 0 e size v n xs)
    (ad : Addr) (m c : Nat) (news : List Value) (hx : a.eval x = .slice (some ad) m c) (hl : news.length = m * size) (hnews : ∀ j u, news[j]? = some u → w.cell? (ad.add j) = some u) (h1 : ∀ u ∈ news, u.oneCell' = true)
    (hm : 0 < m) (h63 : n + m ≤ maxLen) (hbytes : (n + m) * bytes ≤ 140737488355328)
    (h : ∀ g cap' w', Hid (w'.ownsRow 0 e size (.slice (some ⟨g, 0, none⟩) (n + m) cap') (n + m) (xs ++ news)) → Hid (w.grownBy w' v.ownBlock) → Hid (v.ownBlock = some g ∨ w.heap.size ≤ g) → K (a.put o.dst (.slice (some ⟨g, 0, none⟩) (n + m) cap')) w') :
    if Region.wanted o (yielded ops a.tmps) = true then Oper.wp P o a w K Q else E := by
  have fin : ∀ v' w', w'.ownsRow w.heap.size e size v' (n + m) (xs ++ news) → w.grownBy w' none → K (a.put o.dst v') w' := by
    intro v' w' ho' hg'
    rcases ho'.2 with ⟨_, h0⟩ | ⟨g, cap', cur, rfl, hbg, _⟩
    · omega
    · exact h g cap' w' (owns_base ho') (grown_some hg' _) (Or.inr hbg)
  have hown' := hown
  obtain ⟨hlen, h2⟩ := hown
  rcases h2 with ⟨rfl, h0⟩ | ⟨g, cap, cur, rfl, _, hh, hnc, hcm, hcs, htk⟩
  · subst h0
    obtain rfl : xs = [] := List.eq_nil_of_length_eq_zero (by simpa using hlen)
    exact step_append_grows hgd s x t ho e i z size bytes ht hi hz hsize hby hzs hsz none 0 0 [] hs (fun _ => ⟨rfl, rfl⟩) (by simp) (by intro b hb; cases hb) ad m c news hx hl hnews h1 (by omega) h63 hbytes fin
  · by_cases hroom : n + m ≤ cap
    · have hw : Region.wanted o (yielded ops a.tmps) = true := by simp [Region.wanted, hgd]
      rw [if_pos hw]
      obtain ⟨w', hrun, r1, r2⟩ := run_append_fits (P := P) w 0 t o.type e i size ht hi hsize g n cap xs hown' ad m c news hl hnews h1 hroom
      unfold Oper.wp
      simp [execOp, ho, resolve, invoke, builtin, hs, hx, hrun, Result.andThen]
      exact h g cap w' r1 r2 (Or.inl rfl)
    · exact step_append_grows hgd s x t ho e i z size bytes ht hi hz hsize hby hzs hsz (some ⟨g, 0, none⟩) n cap xs hs (by intro hb; cases hb) hlen
        (by intro b hb j u hu; cases hb; exact hown'.cells (g := g) rfl j u hu) ad m c news hx hl hnews h1 (by omega) h63 hbytes fin
/-- A call, as a step of a region that draws its order. -/
theorem step_call1 {P : Program} {ops : Array Oper} {o : Oper} {a : Act} {w : World} {K : Act → World → Prop} {Q : Exit → Act → World → Prop} {E : Prop} (hgd : o.guard = none) (f n : Nat) (t : TypeId)
    (ho : o.op = .call { callee := .value (.func f), args := #[.tmp n], argTypes := #[t] }) (eg : ∀ args w, (callFunc f args).run P w = .ok (.enter f args) w) (v : Value) (hx : a.eval (.tmp n) = v) {R : Ending → World → Prop} (hc : Calls P f #[v] w R)
    (h : ∀ e w', R e w' → ∃ u, e = .returned u ∧ K (a.put o.dst u) w') :
    if Region.wanted o (yielded ops a.tmps) = true then Oper.wp P o a w K Q else E := by
  have hw : Region.wanted o (yielded ops a.tmps) = true := by simp [Region.wanted, hgd]
  have hx' : a.tmps[n]?.getD undef = v := by simpa [Act.eval] using hx
  rw [if_pos hw]
  unfold Oper.wp
  simp [execOp, ho, resolve, invoke, hx', eg, go_sem]
  refine hc.mono ?_
  intro e w' hr
  obtain ⟨u, rfl, hk⟩ := h e w' hr
  exact hk
/-- A call, as a step of a region that draws its order. -/
theorem step_call2 {P : Program} {ops : Array Oper} {o : Oper} {a : Act} {w : World} {K : Act → World → Prop} {Q : Exit → Act → World → Prop} {E : Prop} (hgd : o.guard = none) (f n n' : Nat) (t t' : TypeId)
    (ho : o.op = .call { callee := .value (.func f), args := #[.tmp n, .tmp n'], argTypes := #[t, t'] }) (eg : ∀ args w, (callFunc f args).run P w = .ok (.enter f args) w) (v v' : Value) (hx : a.eval (.tmp n) = v) (hy : a.eval (.tmp n') = v') {R : Ending → World → Prop} (hc : Calls P f #[v, v'] w R)
    (h : ∀ e w', R e w' → ∃ u, e = .returned u ∧ K (a.put o.dst u) w') :
    if Region.wanted o (yielded ops a.tmps) = true then Oper.wp P o a w K Q else E := by
  have hw : Region.wanted o (yielded ops a.tmps) = true := by simp [Region.wanted, hgd]
  have hx' : a.tmps[n]?.getD undef = v := by simpa [Act.eval] using hx
  have hy' : a.tmps[n']?.getD undef = v' := by simpa [Act.eval] using hy
  rw [if_pos hw]
  unfold Oper.wp
  simp [execOp, ho, resolve, invoke, hx', hy', eg, go_sem]
  refine hc.mono ?_
  intro e w' hr
  obtain ⟨u, rfl, hk⟩ := h e w' hr
  exact hk
/-- A call, as a step of a region that draws its order. -/
theorem step_call3 {P : Program} {ops : Array Oper} {o : Oper} {a : Act} {w : World} {K : Act → World → Prop} {Q : Exit → Act → World → Prop} {E : Prop} (hgd : o.guard = none) (f n n' n2 : Nat) (t t' t2 : TypeId)
    (ho : o.op = .call { callee := .value (.func f), args := #[.tmp n, .tmp n', .tmp n2], argTypes := #[t, t', t2] }) (eg : ∀ args w, (callFunc f args).run P w = .ok (.enter f args) w) (v v' v2 : Value) (hx : a.eval (.tmp n) = v) (hy : a.eval (.tmp n') = v') (hz : a.eval (.tmp n2) = v2) {R : Ending → World → Prop} (hc : Calls P f #[v, v', v2] w R)
    (h : ∀ e w', R e w' → ∃ u, e = .returned u ∧ K (a.put o.dst u) w') :
    if Region.wanted o (yielded ops a.tmps) = true then Oper.wp P o a w K Q else E := by
  have hw : Region.wanted o (yielded ops a.tmps) = true := by simp [Region.wanted, hgd]
  have hx' : a.tmps[n]?.getD undef = v := by simpa [Act.eval] using hx
  have hy' : a.tmps[n']?.getD undef = v' := by simpa [Act.eval] using hy
  have hz' : a.tmps[n2]?.getD undef = v2 := by simpa [Act.eval] using hz
  rw [if_pos hw]
  unfold Oper.wp
  simp [execOp, ho, resolve, invoke, hx', hy', hz', eg, go_sem]
  refine hc.mono ?_
  intro e w' hr
  obtain ⟨u, rfl, hk⟩ := h e w' hr
  exact hk
end Go.Proofs.YtlfmfhmbkpnjbabGreatDoor
