import Derived.Test.YtlfmfhmbkpnjbaaSeesc
import Derived.Test.YtlfmfhmbkpnjbaaRowp
namespace Go.Proofs.Ytlfmfhmbkpnjbaa
open Go.RowKit

set_option maxHeartbeats 2000000 in
set_option maxRecDepth 100000 in
theorem seen_bad (t id : Int) (far : Nat) (p : Option Addr) (cap : Nat) (L : List Mob) (w : World) (hl : (L.length : Int) ≤ 4611686018427387903) (h : Reads w p L) (hb : worldB t L = false) :
    Calls Try.prog 23 #[.agg #[.int .i64 t, .slice p L.length cap], .int .i64 id, .float .f32 far] w fun e w' =>
      e = .returned (.tuple #[.agg #[.int .i64 0, .slice none 0 0], .int .i64 2]) ∧ Kept (fun _ => False) w w' := by
  have HR := hide h
  clear h
  have LT := hide (laid_two w t (.slice p L.length cap))
  go_enter Try.func23, Try.ntmps23
  go_wp2_with fail
  refine (isWorld_c t p cap L _ (by omega) (HR.out.calm LT.out.1)).mono ?_
  rw [hb]
  rintro e w1 ⟨rfl, q1⟩
  have K1 := hide (LT.out.1.calm2 q1)
  have A1 : Hid (w1.heap[w.heap.size]? = some (.cells #[.int .i64 t, .slice p L.length cap] 40 (0, 0))) := by show _ = _; rw [q1.block _ (heap_lt LT.out.2.1) (fun e => e)]; exact LT.out.2.1
  have B1 : Hid (w1.heap[w.heap.size + 1]? = some (.cells #[.int .i64 0, .slice none 0 0] 40 (0, 0))) := by show _ = _; rw [q1.block _ (heap_lt LT.out.2.2) (fun e => e)]; exact LT.out.2.2
  clear q1 LT
  obtain ⟨c0, c1, f0, f1⟩ := two_cells B1.out
  obtain ⟨d0, d1, -, -⟩ := two_cells (two_sets B1.out (.int .i64 0) (.slice none 0 0))
  go_wp2
  refine bodyPost_ret (v := .tuple #[.agg #[.int .i64 0, .slice none 0 0], .int .i64 2]) (by simp [results, Try.results23, go_sem, d0, d1]) rfl ?_
  exact ⟨rfl, two_kept K1.out (by omega) _ _⟩

set_option maxHeartbeats 2000000 in
set_option maxRecDepth 100000 in
theorem seen_none (t id : Int) (far : Nat) (p : Option Addr) (cap : Nat) (L : List Mob) (w : World) (hl : (L.length : Int) ≤ 4611686018427387903) (h : Reads w p L) (hb : worldB t L = true) (hf : findB L id = false) :
    Calls Try.prog 23 #[.agg #[.int .i64 t, .slice p L.length cap], .int .i64 id, .float .f32 far] w fun e w' =>
      e = .returned (.tuple #[.agg #[.int .i64 0, .slice none 0 0], .int .i64 5]) ∧ Kept (fun _ => False) w w' := by
  have HR := hide h
  clear h
  have HS := hide (rises_of (worldB_fine hb).2.2.rises)
  have LT := hide (laid_two w t (.slice p L.length cap))
  go_enter Try.func23, Try.ntmps23
  go_wp2_with fail
  refine (isWorld_c t p cap L _ (by omega) (HR.out.calm LT.out.1)).mono ?_
  rw [hb]
  rintro e w1 ⟨rfl, q1⟩
  have K1 := hide (LT.out.1.calm2 q1)
  have A1 : Hid (w1.heap[w.heap.size]? = some (.cells #[.int .i64 t, .slice p L.length cap] 40 (0, 0))) := by show _ = _; rw [q1.block _ (heap_lt LT.out.2.1) (fun e => e)]; exact LT.out.2.1
  have B1 : Hid (w1.heap[w.heap.size + 1]? = some (.cells #[.int .i64 0, .slice none 0 0] 40 (0, 0))) := by show _ = _; rw [q1.block _ (heap_lt LT.out.2.2) (fun e => e)]; exact LT.out.2.2
  clear q1 LT
  obtain ⟨a0, a1, -, -⟩ := two_cells A1.out
  go_wp2_with fail
  refine (find_c p cap id L _ (by omega) HS.out (HR.out.calm K1.out)).mono ?_
  rw [hf]
  rintro e w2 ⟨rfl, q2⟩
  have K1 := hide (K1.out.calm2 q2)
  have A1 : Hid (w2.heap[w.heap.size]? = some (.cells #[.int .i64 t, .slice p L.length cap] 40 (0, 0))) := by show _ = _; rw [q2.block _ (heap_lt A1.out) (fun e => e)]; exact A1.out
  have B1 : Hid (w2.heap[w.heap.size + 1]? = some (.cells #[.int .i64 0, .slice none 0 0] 40 (0, 0))) := by show _ = _; rw [q2.block _ (heap_lt B1.out) (fun e => e)]; exact B1.out
  clear q2 a0 a1
  obtain ⟨c0, c1, f0, f1⟩ := two_cells B1.out
  obtain ⟨d0, d1, -, -⟩ := two_cells (two_sets B1.out (.int .i64 0) (.slice none 0 0))
  go_wp2
  refine bodyPost_ret (v := .tuple #[.agg #[.int .i64 0, .slice none 0 0], .int .i64 5]) (by simp [results, Try.results23, go_sem, d0, d1]) rfl ?_
  exact ⟨rfl, two_kept K1.out (by omega) _ _⟩

set_option maxHeartbeats 2000000 in
set_option maxRecDepth 100000 in
theorem seen_neg (t id : Int) (far : Nat) (p : Option Addr) (cap : Nat) (L : List Mob) (w : World) (hl : (L.length : Int) ≤ 4611686018427387903) (h : Reads w p L) (hb : worldB t L = true) (hf : findB L id = true) (hfar : okV far) (hlt : (FloatKind.f32.format.order far 0 == some .lt) = true) :
    Calls Try.prog 23 #[.agg #[.int .i64 t, .slice p L.length cap], .int .i64 id, .float .f32 far] w fun e w' =>
      e = .returned (.tuple #[.agg #[.int .i64 0, .slice none 0 0], .int .i64 4]) ∧ Kept (fun _ => False) w w' := by
  have HR := hide h
  clear h
  have HS := hide (rises_of (worldB_fine hb).2.2.rises)
  have LT := hide (laid_two w t (.slice p L.length cap))
  go_enter Try.func23, Try.ntmps23
  go_wp2_with fail
  refine (isWorld_c t p cap L _ (by omega) (HR.out.calm LT.out.1)).mono ?_
  rw [hb]
  rintro e w1 ⟨rfl, q1⟩
  have K1 := hide (LT.out.1.calm2 q1)
  have A1 : Hid (w1.heap[w.heap.size]? = some (.cells #[.int .i64 t, .slice p L.length cap] 40 (0, 0))) := by show _ = _; rw [q1.block _ (heap_lt LT.out.2.1) (fun e => e)]; exact LT.out.2.1
  have B1 : Hid (w1.heap[w.heap.size + 1]? = some (.cells #[.int .i64 0, .slice none 0 0] 40 (0, 0))) := by show _ = _; rw [q1.block _ (heap_lt LT.out.2.2) (fun e => e)]; exact LT.out.2.2
  clear q1 LT
  obtain ⟨a0, a1, -, -⟩ := two_cells A1.out
  go_wp2_with fail
  refine (find_c p cap id L _ (by omega) HS.out (HR.out.calm K1.out)).mono ?_
  rw [hf]
  rintro e w2 ⟨rfl, q2⟩
  have K1 := hide (K1.out.calm2 q2)
  have A1 : Hid (w2.heap[w.heap.size]? = some (.cells #[.int .i64 t, .slice p L.length cap] 40 (0, 0))) := by show _ = _; rw [q2.block _ (heap_lt A1.out) (fun e => e)]; exact A1.out
  have B1 : Hid (w2.heap[w.heap.size + 1]? = some (.cells #[.int .i64 0, .slice none 0 0] 40 (0, 0))) := by show _ = _; rw [q2.block _ (heap_lt B1.out) (fun e => e)]; exact B1.out
  clear q2 a0 a1
  obtain ⟨a0, a1, -, -⟩ := two_cells A1.out
  obtain ⟨r64, hr64, hrr⟩ := conv_ok hfar
  have hcv : ∀ w, (convert 54 116 (.float .f32 far)).run Try.prog w = .ok (.float .f64 r64) w := fun w => run_convert_float_float w _ _ .f32 .f64 far r64 (by rw [Try.underlying54]; rfl) Try.underlying116 hr64
  clear hr64
  go_wp2_with fail
  refine (isNaN64_c r64 _ hrr).mono ?_
  rintro e w3 ⟨rfl, rfl⟩
  clear hcv hrr a0 a1
  obtain ⟨c0, c1, f0, f1⟩ := two_cells B1.out
  obtain ⟨d0, d1, -, -⟩ := two_cells (two_sets B1.out (.int .i64 0) (.slice none 0 0))
  go_wp2
  refine bodyPost_ret (v := .tuple #[.agg #[.int .i64 0, .slice none 0 0], .int .i64 4]) (by simp [results, Try.results23, go_sem, d0, d1]) rfl ?_
  exact ⟨rfl, two_kept K1.out (by omega) _ _⟩

theorem makeN (n : Nat) (hn : n ≤ 32) : ∃ cur0 : List Value, cur0.length = n * 7 ∧ ∀ w : World, (Instr.makeSlice 38 (.int .i64 0) (.int .i64 (n : Int))).run Try.prog w = .ok (.slice (some ⟨w.heap.size, 0, none⟩) 0 n) (w.alloc (.cells cur0.toArray 57)) := by
  obtain ⟨i0, hi, hz0, hz1, hz2⟩ := info_parts info_mob
  refine ⟨(madeCells (Value.agg #[.int .i64 0, .int .i64 0, .float .f32 0, .float .f32 0, .float .f32 0, .float .f32 0, .int .i64 0]).cells (n * 7)).toList, ?_, fun w => ?_⟩
  · rw [Array.length_toList, size_madeCells]
  · have := run_make (P := Try.prog) w 38 57 i0 _ Try.underlying38 hi hz0 .i64 .i64 0 (n : Int) (by decide) (by omega) (by rw [hz2]; omega) (by omega)
    rw [hz1, Int.toNat_natCast] at this
    exact this

theorem mob_pl {m : Mob} (h : mobB m = true) : Pl m := by
  simp only [mobB, Bool.and_eq_true, decide_eq_true_eq, placeB] at h
  exact ⟨place_num h.1.1.1.1.2.1, place_num h.1.1.1.1.2.2⟩

theorem take_filter (L : List Mob) (f : Mob → Bool) (i : Nat) (hi : i < L.length) : (L.take (i + 1)).filter f = (L.take i).filter f ++ (if f L[i] = true then [L[i]] else []) := by
  rw [List.take_succ_eq_append_getElem hi, List.filter_append]
  congr 1
  simp [List.filter_cons]

set_option maxHeartbeats 4000000 in
set_option maxRecDepth 100000 in
theorem seen_ok (t id : Int) (far : Nat) (p : Option Addr) (cap : Nat) (L : List Mob) (w : World) (h : Reads w p L) (hb : worldB t L = true) (q : Nat) (hq : findI L id = q) (hql : q < L.length) (hf : findB L id = true) (hfar : okV far) (hlt : (FloatKind.f32.format.order far 0 == some .lt) = false) :
    Calls Try.prog 23 #[.agg #[.int .i64 t, .slice p L.length cap], .int .i64 id, .float .f32 far] w fun e w' =>
      ∃ g cur, w.heap.size ≤ g ∧ e = .returned (.tuple #[.agg #[.int .i64 t, .slice (some ⟨g, 0, none⟩) (L.filter (fun e => seesB L[q] e far)).length L.length], .int .i64 0]) ∧ RowAt w' g (L.filter (fun e => seesB L[q] e far)) L.length cur ∧ Kept (fun _ => False) w w' := by
  obtain ⟨i0, hi, hz0, hz1, hz2⟩ := info_parts info_mob
  have HMB : Hid (∀ m ∈ L, mobB m = true) := by
    have := hb
    simp only [worldB, decide_eq_true_eq] at this
    intro m hm
    obtain ⟨j, hj, rfl⟩ := List.getElem_of_mem hm
    exact (this.2.2 j hj hj).1
  have hsh := (worldB_fine hb).2.2.short
  obtain ⟨cur0, hc0, hmk⟩ := makeN L.length hsh
  have hsf := store_float Try.prog
  have HR := hide h
  clear h
  have HS := hide (rises_of (worldB_fine hb).2.2.rises)
  have LT := hide (laid_two w t (.slice p L.length cap))
  go_enter Try.func23, Try.ntmps23
  go_wp2_with fail
  refine (isWorld_c t p cap L _ (by omega) (HR.out.calm LT.out.1)).mono ?_
  rw [hb]
  rintro e w1 ⟨rfl, q1⟩
  have K1 := hide (LT.out.1.calm2 q1)
  have A1 : Hid (w1.heap[w.heap.size]? = some (.cells #[.int .i64 t, .slice p L.length cap] 40 (0, 0))) := by show _ = _; rw [q1.block _ (heap_lt LT.out.2.1) (fun e => e)]; exact LT.out.2.1
  have B1 : Hid (w1.heap[w.heap.size + 1]? = some (.cells #[.int .i64 0, .slice none 0 0] 40 (0, 0))) := by show _ = _; rw [q1.block _ (heap_lt LT.out.2.2) (fun e => e)]; exact LT.out.2.2
  clear q1 LT
  obtain ⟨a0, a1, -, -⟩ := two_cells A1.out
  go_wp2_with fail
  refine (find_c p cap id L _ (by omega) HS.out (HR.out.calm K1.out)).mono ?_
  rw [hf]
  rintro e w2 ⟨rfl, q2⟩
  have K1 := hide (K1.out.calm2 q2)
  have A1 : Hid (w2.heap[w.heap.size]? = some (.cells #[.int .i64 t, .slice p L.length cap] 40 (0, 0))) := by show _ = _; rw [q2.block _ (heap_lt A1.out) (fun e => e)]; exact A1.out
  have B1 : Hid (w2.heap[w.heap.size + 1]? = some (.cells #[.int .i64 0, .slice none 0 0] 40 (0, 0))) := by show _ = _; rw [q2.block _ (heap_lt B1.out) (fun e => e)]; exact B1.out
  clear q2 a0 a1
  obtain ⟨a0, a1, -, -⟩ := two_cells A1.out
  obtain ⟨r64, hr64, hrr⟩ := conv_ok hfar
  have hcv : ∀ w, (convert 54 116 (.float .f32 far)).run Try.prog w = .ok (.float .f64 r64) w := fun w => run_convert_float_float w _ _ .f32 .f64 far r64 (by rw [Try.underlying54]; rfl) Try.underlying116 hr64
  clear hr64
  go_wp2_with fail
  refine (isNaN64_c r64 _ hrr).mono ?_
  rintro e w3 ⟨rfl, rfl⟩
  clear hcv hrr a0 a1
  have HQ := hide hq
  clear hq hf hb
  have KA := hide (Kept.alloc w3 (.cells cur0.toArray 57))
  have hw3 := K1.out.size
  have A2 := hide (show (w3.alloc (.cells cur0.toArray 57)).heap[w.heap.size]? = some (.cells #[.int .i64 t, .slice p L.length cap] 40 (0, 0)) by rw [KA.out.block _ (heap_lt A1.out) (fun e => e)]; exact A1.out)
  have B2 := hide (show (w3.alloc (.cells cur0.toArray 57)).heap[w.heap.size + 1]? = some (.cells #[.int .i64 0, .slice none 0 0] 40 (0, 0)) by rw [KA.out.block _ (heap_lt B1.out) (fun e => e)]; exact B1.out)
  have R2 : Hid (RowAt (w3.alloc (.cells cur0.toArray 57)) w3.heap.size [] L.length cur0) := ⟨heap_alloc_new w3 _, hc0, by simp [rowM], Nat.zero_le _⟩
  have K2 := hide (K1.out.calm2 KA.out)
  have hwB := heap_lt B1.out
  obtain ⟨a0, a1, -, -⟩ := two_cells A1.out
  have ha2 : (w3.alloc (.cells cur0.toArray 57)).cell? ⟨w.heap.size, 1, none⟩ = some (.slice p L.length cap) := (two_cells A2.out).2.1
  go_wp2
  clear hmk a0 a1 A1 B1 K1 KA ha2
  generalize w3.alloc (.cells cur0.toArray 57) = W at *
  generalize w3.heap.size = g at *
  go_loopw [42, 10] (fun a s wr => ∃ i : Nat, ∃ cu : List Value, i ≤ L.length ∧ a = .int .i64 i ∧ s = .slice (some ⟨g, 0, none⟩) ((L.take i).filter (fun e => seesB L[q] e far)).length L.length ∧ Hid (RowAt wr g ((L.take i).filter (fun e => seesB L[q] e far)) L.length cu) ∧ Hid (Kept (fun k => k = g) W wr)) (fun a _ _ => L.length - (intOf a).toNat)
  case atStart => exact ⟨0, cur0, Nat.zero_le _, rfl, rfl, R2, Kept.refl _ _⟩
  case round =>
    obtain ⟨i, cu, hil, rfl, rfl, HE, HK⟩ := hrel
    clear R2
    have HKW : Hid (Kept (fun _ => False) w wr) := K2.out.join HK.out (fun _ _ e => e) (fun j hj e => by omega)
    have AR : Hid (wr.heap[w.heap.size]? = some (.cells #[.int .i64 t, .slice p L.length cap] 40 (0, 0))) := by show _ = _; rw [HK.out.block _ (heap_lt A2.out) (by omega)]; exact A2.out
    have BR : Hid (wr.heap[w.heap.size + 1]? = some (.cells #[.int .i64 0, .slice none 0 0] 40 (0, 0))) := by show _ = _; rw [HK.out.block _ (heap_lt B2.out) (by omega)]; exact B2.out
    by_cases hlt2 : i < L.length
    · obtain ⟨b, off, hp, hbs, c0, c1, c2, c3, c4, c5, c6⟩ := (HR.out.calm HKW.out).at i hlt2
      obtain ⟨b', off', hp', _, m0, m1, m2, m3, m4, m5, m6⟩ := (HR.out.calm HKW.out).at q hql
      obtain ⟨rfl, rfl⟩ : b = b' ∧ off = off' := by rw [hp] at hp'; simpa using hp'
      subst hp
      have hPm := mob_pl (HMB.out L[q] (List.getElem_mem hql))
      have hPi := mob_pl (HMB.out L[i] (List.getElem_mem hlt2))
      have HF := hide (take_filter L (fun e => seesB L[q] e far) i hlt2)
      have hfl : ((L.take i).filter (fun e => seesB L[q] e far)).length ≤ i := by
        have := List.length_filter_le (fun e => seesB L[q] e far) (L.take i)
        rw [List.length_take] at this; omega
      have CE : Hid (∀ w', Kept (fun _ => False) wr w' → (w'.cell? ⟨w.heap.size, 1, none⟩ = some (.slice (some ⟨b, off, none⟩) L.length cap)) ∧ w'.cell? ⟨b, off + q * 7, none⟩ = some (.int .i64 L[q].id) ∧ w'.cell? ⟨b, off + q * 7 + 1, none⟩ = some (.int .i64 L[q].team) ∧ w'.cell? ⟨b, off + q * 7 + 2, none⟩ = some (.float .f32 L[q].x) ∧ w'.cell? ⟨b, off + q * 7 + 3, none⟩ = some (.float .f32 L[q].y) ∧ w'.cell? ⟨b, off + q * 7 + 4, none⟩ = some (.float .f32 L[q].vx) ∧ w'.cell? ⟨b, off + q * 7 + 5, none⟩ = some (.float .f32 L[q].vy) ∧ w'.cell? ⟨b, off + q * 7 + 6, none⟩ = some (.int .i64 L[q].health)) := fun w' hk => by
        refine ⟨?_, ?_, ?_, ?_, ?_, ?_, ?_, ?_⟩
        · rw [cell_keep hk (heap_lt AR.out) (fun e => e)]; exact (two_cells AR.out).2.1
        all_goals rw [cell_keep hk hbs (fun e => e)]; assumption
      have hqb1 : (0 : Int) ≤ (q : Int) := by omega
      have hqb2 : (q : Int) < (L.length : Int) := by omega
      have hib1 : (0 : Int) ≤ (i : Int) := by omega
      have hib2 : (i : Int) < (L.length : Int) := by omega
      have KN := hide (Kept.alloc wr (.cells #[.int .i64 L[i].id, .int .i64 L[i].team, .float .f32 L[i].x, .float .f32 L[i].y, .float .f32 L[i].vx, .float .f32 L[i].vy, .int .i64 L[i].health] 57))
      have HN := hide (heap_alloc_new wr (.cells #[.int .i64 L[i].id, .int .i64 L[i].team, .float .f32 L[i].x, .float .f32 L[i].y, .float .f32 L[i].vx, .float .f32 L[i].vy, .int .i64 L[i].health] 57))
      clear m0 m1 m2 m3 m4 m5 m6 hp'
      go_wp2
      obtain ⟨n0, n1, n2, n3, n4, n5, n6⟩ := seven_cells HN.out
      obtain ⟨s0, s1, s2, s3, s4, s5, s6, s7⟩ := CE.out _ KN.out
      clear c0 c1 c2 c3 c4 c5 c6
      generalize wr.alloc (.cells #[.int .i64 L[i].id, .int .i64 L[i].team, .float .f32 L[i].x, .float .f32 L[i].y, .float .f32 L[i].vx, .float .f32 L[i].vy, .int .i64 L[i].health] 57) = wa at *
      generalize L[i] = m at *
      go_region_held3 (fun w' => w'.cell? ⟨w.heap.size, 1, none⟩ = some (.slice (some ⟨b, off, none⟩) L.length cap) ∧ w'.cell? ⟨b, off + q * 7, none⟩ = some (.int .i64 L[q].id) ∧ w'.cell? ⟨b, off + q * 7 + 1, none⟩ = some (.int .i64 L[q].team) ∧ w'.cell? ⟨b, off + q * 7 + 2, none⟩ = some (.float .f32 L[q].x) ∧ w'.cell? ⟨b, off + q * 7 + 3, none⟩ = some (.float .f32 L[q].y) ∧ w'.cell? ⟨b, off + q * 7 + 4, none⟩ = some (.float .f32 L[q].vx) ∧ w'.cell? ⟨b, off + q * 7 + 5, none⟩ = some (.float .f32 L[q].vy) ∧ w'.cell? ⟨b, off + q * 7 + 6, none⟩ = some (.int .i64 L[q].health) ∧ w'.cell? ⟨wr.heap.size, 0, none⟩ = some (.int .i64 m.id) ∧ w'.cell? ⟨wr.heap.size, 1, none⟩ = some (.int .i64 m.team) ∧ w'.cell? ⟨wr.heap.size, 2, none⟩ = some (.float .f32 m.x) ∧ w'.cell? ⟨wr.heap.size, 3, none⟩ = some (.float .f32 m.y) ∧ w'.cell? ⟨wr.heap.size, 4, none⟩ = some (.float .f32 m.vx) ∧ w'.cell? ⟨wr.heap.size, 5, none⟩ = some (.float .f32 m.vy) ∧ w'.cell? ⟨wr.heap.size, 6, none⟩ = some (.int .i64 m.health)) (go_keep)
        ((go_at_call 60; refine (sees_c L[q] m far _ hPm hPi hfar).mono ?_; rintro e w4 ⟨rfl, q4⟩; have K4 := hide (KN.out.calm2 ((Kept.drew wa).calm2 q4)); have HN4 := hide (show w4.heap[wr.heap.size]? = some (.cells #[.int .i64 m.id, .int .i64 m.team, .float .f32 m.x, .float .f32 m.y, .float .f32 m.vx, .float .f32 m.vy, .int .i64 m.health] 57 (0, 0)) by rw [((Kept.drew wa).calm2 q4).block _ (heap_lt HN.out) (fun e => e)]; exact HN.out); obtain ⟨u0, u1, u2, u3, u4, u5, u6⟩ := seven_cells HN4.out; obtain ⟨v0, v1, v2, v3, v4, v5, v6, v7⟩ := CE.out w4 K4.out; clear q4))
      clear s0 s1 s2 s3 s4 s5 s6 s7 n0 n1 n2 n3 n4 n5 n6 CE v0 v1 v2 v3 v4 v5 v6 v7
      cases hs : seesB L[q] m far
      · rw [hs] at HF
        have HE4 : Hid (RowAt w4 g ((L.take (i + 1)).filter (fun e => seesB L[q] e far)) L.length cu) := by show RowAt _ _ _ _ _; rw [HF.out]; simpa using HE.out.calm K4.out
        have HK4 : Hid (Kept (fun k => k = g) W w4) := HK.out.join K4.out (fun _ _ e => e) (fun _ _ e => e.elim)
        have HLE : Hid (((L.take (i + 1)).filter (fun e => seesB L[q] e far)).length = ((L.take i).filter (fun e => seesB L[q] e far)).length) := by show _ = _; rw [HF.out]; simp
        go_wp2
        go_roundw
        case rel => exact ⟨i + 1, cu, by omega, by go_num, by rw [HLE.out], HE4, HK4⟩
        case measure => simp [intOf]; omega
      · rw [hs] at HF
        generalize hX : (L.take i).filter (fun e => seesB L[q] e far) = X at *
        have HE4 := hide (HE.out.calm K4.out)
        have HX := hide hX
        clear hX
        go_wp2_with (at_builtin; refine wpList_append_here _ rfl (.tmp 54) (.tmp 56) 38 rfl 57 i0 7 Try.underlying38 hi hz1 g X.length L.length cu (HE4.out.calm (Kept.alloc _ _)).blk rfl ⟨w4.heap.size, 0, none⟩ 1 1 rfl (rowM [m]) rfl ?c1 (rowM_one [m]) ?c2 ?c3 ?_)
        case c1 => intro j u hu; first | exact hu | exact new_cells w4 (rowM [m]) 57 _ rfl j u hu
        case c2 => omega
        case c3 => rw [HE4.out.len]; have : (rowM [m]).length = 7 := rfl; omega
        intro w5 HG5 HK5
        have HE5 : Hid (RowAt w5 g ((L.take (i + 1)).filter (fun e => seesB L[q] e far)) L.length (splice cu (X.length * 7) (rowM [m]))) := by rw [HF.out]; exact HE4.out.more (by omega) HG5.out
        have HK6 : Hid (Kept (fun k => k = g) W w5) := (HK.out.join (K4.out.calm2 (Kept.alloc _ _)) (R := fun k => k = g) (fun _ _ e => e) (fun _ _ e => e.elim)).join HK5.out (fun _ _ e => e) (fun _ _ e => e)
        have HLE : Hid (((L.take (i + 1)).filter (fun e => seesB L[q] e far)).length = X.length + 1) := by show _ = _; rw [HF.out]; simp
        go_wp2
        go_roundw
        case rel => exact ⟨i + 1, _, by omega, by go_num, by rw [HLE.out], HE5, HK6⟩
        case measure => simp [intOf]; omega
    · obtain rfl : i = L.length := by omega
      rw [List.take_length] at HE ⊢
      generalize hX : L.filter (fun e => seesB L[q] e far) = X at *
      have HX := hide hX
      clear hX
      obtain ⟨a0, a1, -, -⟩ := two_cells AR.out
      obtain ⟨c0, c1, f0, f1⟩ := two_cells BR.out
      obtain ⟨d0, d1, -, -⟩ := two_cells (two_sets BR.out (.int .i64 t) (.slice (some ⟨g, 0, none⟩) X.length L.length))
      clear HK
      go_wp2
      refine bodyPost_ret (v := .tuple #[.agg #[.int .i64 t, .slice (some ⟨g, 0, none⟩) X.length L.length], .int .i64 0]) (by simp [results, Try.results23, go_sem, d0, d1]) rfl ?_
      refine ⟨g, cu, by omega, by rw [HX.out], ?_, two_kept HKW.out (by omega) _ _⟩
      rw [HX.out]
      have kk : Kept (fun k => k = w.heap.size + 1) wr ((wr.setCell ⟨w.heap.size + 1, 0, none⟩ (.int .i64 t)).setCell ⟨w.heap.size + 1, 1, none⟩ (.slice (some ⟨g, 0, none⟩) X.length L.length)) := (Kept.setCell wr _ _).join (Kept.setCell _ _ _) (fun _ _ e => e) (fun _ _ e => e)
      exact HE.out.keep kk (by omega)
end Go.Proofs.Ytlfmfhmbkpnjbaa
