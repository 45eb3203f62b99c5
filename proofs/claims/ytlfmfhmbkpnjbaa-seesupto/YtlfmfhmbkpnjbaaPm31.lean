import Derived.Test.YtlfmfhmbkpnjbaaPm30
import Derived.Test.YtlfmfhmbkpnjbaaPm26
import Derived.Test.YtlfmfhmbkpnjbaaPm25
import Derived.Test.YtlfmfhmbkpnjbaaPm27
import Derived.Test.YtlfmfhmbkpnjbaaPm23
namespace Go.Proofs.Ytlfmfhmbkpnjbaa
open Go.RowKit

set_option maxHeartbeats 2000000 in
set_option maxRecDepth 100000 in
theorem rseen_bad (t id : Int) (far : Nat) (p : Option Addr) (cap : Nat) (L : List Mob) (w : World) (hl : (L.length : Int) ≤ 4611686018427387903) (h : Reads w p L) (hb : worldB t L = false) :
    Calls Try.prog 24 #[.agg #[.int .i64 t, .slice p L.length cap], .int .i64 id, .float .f32 far] w fun e w' =>
      e = .returned (.tuple #[.agg #[.int .i64 0, .slice none 0 0], .int .i64 2]) ∧ Kept (fun _ => False) w w' := by
  have HR := hide h
  clear h
  have LT := hide (laid_two w t (.slice p L.length cap))
  go_enter Try.func24, Try.ntmps24
  go_wp2_with fail
  refine (worldOK_c t p cap L _ (by omega) (HR.out.calm LT.out.1)).mono ?_
  rw [hb]
  rintro e w1 ⟨rfl, q1⟩
  have K1 := hide (LT.out.1.calm2 q1)
  have A1 : Hid (w1.heap[w.heap.size]? = some (.cells #[.int .i64 t, .slice p L.length cap] 40 (0, 0))) := by show _ = _; rw [q1.block _ (heap_lt LT.out.2.1) (fun e => e)]; exact LT.out.2.1
  have B1 : Hid (w1.heap[w.heap.size + 1]? = some (.cells #[.int .i64 0, .slice none 0 0] 40 (0, 0))) := by show _ = _; rw [q1.block _ (heap_lt LT.out.2.2) (fun e => e)]; exact LT.out.2.2
  clear q1 LT
  obtain ⟨c0, c1, f0, f1⟩ := two_cells B1.out
  obtain ⟨d0, d1, -, -⟩ := two_cells (two_sets B1.out (.int .i64 0) (.slice none 0 0))
  go_wp2
  refine bodyPost_ret (v := .tuple #[.agg #[.int .i64 0, .slice none 0 0], .int .i64 2]) (by simp [results, Try.results24, go_sem, d0, d1]) rfl ?_
  exact ⟨rfl, two_kept K1.out (by omega) _ _⟩

set_option maxHeartbeats 2000000 in
set_option maxRecDepth 100000 in
theorem rseen_none (t id : Int) (far : Nat) (p : Option Addr) (cap : Nat) (L : List Mob) (w : World) (hl : (L.length : Int) ≤ 4611686018427387903) (h : Reads w p L) (hb : worldB t L = true) (hf : findB L id = false) :
    Calls Try.prog 24 #[.agg #[.int .i64 t, .slice p L.length cap], .int .i64 id, .float .f32 far] w fun e w' =>
      e = .returned (.tuple #[.agg #[.int .i64 0, .slice none 0 0], .int .i64 5]) ∧ Kept (fun _ => False) w w' := by
  have HR := hide h
  clear h
  have HS := hide (rises_of (worldB_fine hb).2.2.rises)
  have LT := hide (laid_two w t (.slice p L.length cap))
  go_enter Try.func24, Try.ntmps24
  go_wp2_with fail
  refine (worldOK_c t p cap L _ (by omega) (HR.out.calm LT.out.1)).mono ?_
  rw [hb]
  rintro e w1 ⟨rfl, q1⟩
  have K1 := hide (LT.out.1.calm2 q1)
  have A1 : Hid (w1.heap[w.heap.size]? = some (.cells #[.int .i64 t, .slice p L.length cap] 40 (0, 0))) := by show _ = _; rw [q1.block _ (heap_lt LT.out.2.1) (fun e => e)]; exact LT.out.2.1
  have B1 : Hid (w1.heap[w.heap.size + 1]? = some (.cells #[.int .i64 0, .slice none 0 0] 40 (0, 0))) := by show _ = _; rw [q1.block _ (heap_lt LT.out.2.2) (fun e => e)]; exact LT.out.2.2
  clear q1 LT
  obtain ⟨a0, a1, -, -⟩ := two_cells A1.out
  go_wp2_with fail
  refine (place_c p cap id L _ (by omega) (HR.out.calm K1.out)).mono ?_
  rw [pl_none HS.out hf]
  rintro e w2 ⟨rfl, rfl⟩
  clear a0 a1
  obtain ⟨c0, c1, f0, f1⟩ := two_cells B1.out
  obtain ⟨d0, d1, -, -⟩ := two_cells (two_sets B1.out (.int .i64 0) (.slice none 0 0))
  go_wp2
  refine bodyPost_ret (v := .tuple #[.agg #[.int .i64 0, .slice none 0 0], .int .i64 5]) (by simp [results, Try.results24, go_sem, d0, d1]) rfl ?_
  exact ⟨rfl, two_kept K1.out (by omega) _ _⟩

set_option maxHeartbeats 2000000 in
set_option maxRecDepth 100000 in
theorem rseen_rng (t id : Int) (far : Nat) (p : Option Addr) (cap : Nat) (L : List Mob) (w : World) (hl : (L.length : Int) ≤ 4611686018427387903) (h : Reads w p L) (hb : worldB t L = true) (hf : findB L id = true) (hlt : (FloatKind.f32.format.order far 0 == some .lt) = true ∨ ((FloatKind.f32.format.order far 0 == some .lt) = false ∧ (FloatKind.f32.format.order far far != some .eq) = true)) :
    Calls Try.prog 24 #[.agg #[.int .i64 t, .slice p L.length cap], .int .i64 id, .float .f32 far] w fun e w' =>
      e = .returned (.tuple #[.agg #[.int .i64 0, .slice none 0 0], .int .i64 4]) ∧ Kept (fun _ => False) w w' := by
  have HR := hide h
  clear h
  have HS := hide (rises_of (worldB_fine hb).2.2.rises)
  have LT := hide (laid_two w t (.slice p L.length cap))
  go_enter Try.func24, Try.ntmps24
  go_wp2_with fail
  refine (worldOK_c t p cap L _ (by omega) (HR.out.calm LT.out.1)).mono ?_
  rw [hb]
  rintro e w1 ⟨rfl, q1⟩
  have K1 := hide (LT.out.1.calm2 q1)
  have A1 : Hid (w1.heap[w.heap.size]? = some (.cells #[.int .i64 t, .slice p L.length cap] 40 (0, 0))) := by show _ = _; rw [q1.block _ (heap_lt LT.out.2.1) (fun e => e)]; exact LT.out.2.1
  have B1 : Hid (w1.heap[w.heap.size + 1]? = some (.cells #[.int .i64 0, .slice none 0 0] 40 (0, 0))) := by show _ = _; rw [q1.block _ (heap_lt LT.out.2.2) (fun e => e)]; exact LT.out.2.2
  clear q1 LT
  obtain ⟨a0, a1, -, -⟩ := two_cells A1.out
  go_wp2_with fail
  refine (place_c p cap id L _ (by omega) (HR.out.calm K1.out)).mono ?_
  obtain ⟨hq, -, hpl⟩ := pl_some HS.out hf
  rw [hpl]
  rintro e w2 ⟨rfl, rfl⟩
  clear a0 a1 hpl
  have hq0 : ¬ ((findI L id : Nat) : Int) < 0 := by omega
  generalize ((findI L id : Nat) : Int) = qi at *
  obtain ⟨c0, c1, f0, f1⟩ := two_cells B1.out
  obtain ⟨d0, d1, -, -⟩ := two_cells (two_sets B1.out (.int .i64 0) (.slice none 0 0))
  rcases hlt with hlt | ⟨hlt, hnn⟩
  all_goals
    go_wp2
    refine bodyPost_ret (v := .tuple #[.agg #[.int .i64 0, .slice none 0 0], .int .i64 4]) (by simp [results, Try.results24, go_sem, d0, d1]) rfl ?_
    exact ⟨rfl, two_kept K1.out (by omega) _ _⟩

theorem ord_self {v : Nat} (h : okV v) : (FloatKind.f32.format.order v v != some .eq) = false := by
  have : FloatKind.f32.format.order v v = some .eq := by
    unfold okV at h
    show (Ieee.single.read v).order (Ieee.single.read v) = _
    cases hr : Ieee.single.read v with
    | number s m i => simp [Ieee.Datum.order]
    | infinity s => simp [Ieee.Datum.order]
    | nan s t => rw [hr] at h; cases h
  rw [this]; rfl

theorem owns_low {w : World} {base base' : Nat} {e : TypeId} {size : Nat} {v : Value} {n : Nat} {xs : List Value} (h : w.ownsRow base e size v n xs) (hb : base' ≤ base) : w.ownsRow base' e size v n xs := by
  obtain ⟨h1, h2⟩ := h
  refine ⟨h1, ?_⟩
  rcases h2 with h2 | ⟨g, cap', cur, hv, hb2, hr⟩
  · exact Or.inl h2
  · exact Or.inr ⟨g, cap', cur, hv, Nat.le_trans hb hb2, hr⟩

theorem laid_me (w : World) (c : Obj) (t : Int) : Kept (fun _ => False) w ((w.alloc c).alloc (.cells #[.int .i64 t, .slice none 0 0] 40)) ∧
    ((w.alloc c).alloc (.cells #[.int .i64 t, .slice none 0 0] 40)).heap[w.heap.size]? = some c ∧
    ((w.alloc c).alloc (.cells #[.int .i64 t, .slice none 0 0] 40)).heap[w.heap.size + 1]? = some (.cells #[.int .i64 t, .slice none 0 0] 40 (0, 0)) ∧ ((w.alloc c).alloc (.cells #[.int .i64 t, .slice none 0 0] 40)).heap.size = w.heap.size + 2 := by
  have h1 := heap_alloc_new w c
  refine ⟨(Kept.alloc w _).calm2 (Kept.alloc _ _), ?_, ?_, by simp⟩
  · rw [(Kept.alloc (w.alloc c) (.cells #[.int .i64 t, .slice none 0 0] 40)).block _ (heap_lt h1) (fun e => e)]; exact h1
  · have := heap_alloc_new (w.alloc c) (.cells #[.int .i64 t, .slice none 0 0] 40)
    simpa using this

set_option maxHeartbeats 4000000 in
set_option maxRecDepth 100000 in
theorem rseen_ok (t id : Int) (far : Nat) (p : Option Addr) (cap : Nat) (L : List Mob) (w : World) (h : Reads w p L) (hb : worldB t L = true) (q : Nat) (hq : findI L id = q) (hql : q < L.length) (hf : findB L id = true) (hfar : okV far) (hlt : (FloatKind.f32.format.order far 0 == some .lt) = false) :
    Calls Try.prog 24 #[.agg #[.int .i64 t, .slice p L.length cap], .int .i64 id, .float .f32 far] w fun e w' =>
      ∃ v, e = .returned (.tuple #[.agg #[.int .i64 t, v], .int .i64 0]) ∧ Hid (w'.ownsRow w.heap.size 57 7 v (L.filter (fun e => seesB L[q] e far)).length (rowM (L.filter (fun e => seesB L[q] e far)))) ∧ Kept (fun _ => False) w w' := by
  obtain ⟨i0, hi, hz0, hz1, hz2⟩ := info_parts info_mob
  have HMB : Hid (∀ m ∈ L, mobB m = true) := by
    have := hb
    simp only [worldB, decide_eq_true_eq] at this
    intro m hm
    obtain ⟨j, hj, rfl⟩ := List.getElem_of_mem hm
    exact (this.2.2 j hj hj).1
  have hsh := (worldB_fine hb).2.2.short
  have hsf := store_float Try.prog
  have hself : (FloatKind.f32.format.order far far != some .eq) = false := ord_self hfar
  have hmul : ∀ w, (binOp .mul 54 (.float .f32 far) (.float .f32 far)).run Try.prog w = .ok (.float .f32 (fmul far far)) w := fun w => run_float_arith w .mul _ .f32 _ _ _ (sq_any hfar).2.1
  have HR := hide h
  clear h
  have HS := hide (rises_of (worldB_fine hb).2.2.rises)
  have LT := hide (laid_two w t (.slice p L.length cap))
  go_enter Try.func24, Try.ntmps24
  go_wp2_with fail
  refine (worldOK_c t p cap L _ (by omega) (HR.out.calm LT.out.1)).mono ?_
  rw [hb]
  rintro e w1 ⟨rfl, q1⟩
  have K1 := hide (LT.out.1.calm2 q1)
  have A1 : Hid (w1.heap[w.heap.size]? = some (.cells #[.int .i64 t, .slice p L.length cap] 40 (0, 0))) := by show _ = _; rw [q1.block _ (heap_lt LT.out.2.1) (fun e => e)]; exact LT.out.2.1
  have B1 : Hid (w1.heap[w.heap.size + 1]? = some (.cells #[.int .i64 0, .slice none 0 0] 40 (0, 0))) := by show _ = _; rw [q1.block _ (heap_lt LT.out.2.2) (fun e => e)]; exact LT.out.2.2
  clear q1 LT
  obtain ⟨a0, a1, -, -⟩ := two_cells A1.out
  go_wp2_with fail
  refine (place_c p cap id L _ (by omega) (HR.out.calm K1.out)).mono ?_
  obtain ⟨hq', -, hpl⟩ := pl_some HS.out hf
  rw [hpl, hq]
  rintro e w2 ⟨rfl, rfl⟩
  clear a0 a1 hpl hq'
  have HQ := hide hq
  clear hq hf hb
  have hq0 : ¬ ((q : Nat) : Int) < 0 := by omega
  have hq1 : (0 : Int) ≤ (q : Int) := by omega
  have hq2 : (q : Int) < (L.length : Int) := by omega
  obtain ⟨a0, a1, -, -⟩ := two_cells A1.out
  have hszA := heap_lt A1.out
  have hszB := heap_lt B1.out
  obtain ⟨b, off, rfl, hbs, m0, m1, m2, m3, m4, m5, m6⟩ := (HR.out.calm K1.out).at q hql
  have LM := hide (laid_me w2 (.cells #[.int .i64 L[q].id, .int .i64 L[q].team, .float .f32 L[q].x, .float .f32 L[q].y, .float .f32 L[q].vx, .float .f32 L[q].vy, .int .i64 L[q].health] 57) t)
  go_wp2
  clear a0 a1 m0 m1 m2 m3 m4 m5 m6
  have hWle : w2.heap.size + 2 ≤ ((w2.alloc (.cells #[.int .i64 L[q].id, .int .i64 L[q].team, .float .f32 L[q].x, .float .f32 L[q].y, .float .f32 L[q].vx, .float .f32 L[q].vy, .int .i64 L[q].health] 57)).alloc (.cells #[.int .i64 t, .slice none 0 0] 40)).heap.size := Nat.le_of_eq LM.out.2.2.2.symm
  have ME := hide LM.out.2.1
  have OB := hide LM.out.2.2.1
  have KM := hide LM.out.1
  clear LM
  generalize (w2.alloc (.cells #[.int .i64 L[q].id, .int .i64 L[q].team, .float .f32 L[q].x, .float .f32 L[q].y, .float .f32 L[q].vx, .float .f32 L[q].vy, .int .i64 L[q].health] 57)).alloc (.cells #[.int .i64 t, .slice none 0 0] 40) = W at *
  have A2 : Hid (W.heap[w.heap.size]? = some (.cells #[.int .i64 t, .slice (some ⟨b, off, none⟩) L.length cap] 40 (0, 0))) := by show _ = _; rw [KM.out.block _ hszA (fun e => e)]; exact A1.out
  have B2 : Hid (W.heap[w.heap.size + 1]? = some (.cells #[.int .i64 0, .slice none 0 0] 40 (0, 0))) := by show _ = _; rw [KM.out.block _ hszB (fun e => e)]; exact B1.out
  have K2 := hide (K1.out.calm2 KM.out)
  clear A1 B1 K1 KM hmul hself hlt
  go_loopw [13] (fun a wr => ∃ i : Nat, ∃ v : Value, i ≤ L.length ∧ a = .int .i64 i ∧ Hid (wr.heap[w2.heap.size + 1]? = some (.cells #[.int .i64 t, v] 40 (0, 0))) ∧ Hid (wr.ownsRow W.heap.size 57 7 v ((L.take i).filter (fun e => seesB L[q] e far)).length (rowM ((L.take i).filter (fun e => seesB L[q] e far)))) ∧ Hid (Kept (fun k => k = w2.heap.size + 1) W wr)) (fun a _ => L.length - (intOf a).toNat)
  case atStart => exact ⟨0, .slice none 0 0, Nat.zero_le _, rfl, OB, ⟨rfl, Or.inl ⟨rfl, rfl⟩⟩, Kept.refl _ _⟩
  case round =>
    obtain ⟨i, v, hil, rfl, HO, HE, HK⟩ := hrel
    clear OB
    have HKW : Hid (Kept (fun _ => False) w wr) := K2.out.join HK.out (fun _ _ e => e) (fun j hj e => by omega)
    have AR : Hid (wr.heap[w.heap.size]? = some (.cells #[.int .i64 t, .slice (some ⟨b, off, none⟩) L.length cap] 40 (0, 0))) := by show _ = _; rw [HK.out.block _ (heap_lt A2.out) (by omega)]; exact A2.out
    have BR : Hid (wr.heap[w.heap.size + 1]? = some (.cells #[.int .i64 0, .slice none 0 0] 40 (0, 0))) := by show _ = _; rw [HK.out.block _ (heap_lt B2.out) (by omega)]; exact B2.out
    have MR : Hid (wr.heap[w2.heap.size]? = some (.cells #[.int .i64 L[q].id, .int .i64 L[q].team, .float .f32 L[q].x, .float .f32 L[q].y, .float .f32 L[q].vx, .float .f32 L[q].vy, .int .i64 L[q].health] 57 (0, 0))) := by show _ = _; rw [HK.out.block _ (heap_lt ME.out) (by omega)]; exact ME.out
    have hsR := HK.out.size
    obtain ⟨x0, x1, -, -⟩ := two_cells AR.out
    by_cases hlt2 : i < L.length
    · obtain ⟨b', off', hp', hbs', c0, c1, c2, c3, c4, c5, c6⟩ := (HR.out.calm HKW.out).at i hlt2
      obtain ⟨rfl, rfl⟩ : b = b' ∧ off = off' := by simpa using hp'
      clear hp'
      obtain ⟨n0, n1, n2, n3, n4, n5, n6⟩ := seven_cells MR.out
      have ha := mob_pl (HMB.out L[q] (List.getElem_mem hql))
      have he := mob_pl (HMB.out L[i] (List.getElem_mem hlt2))
      have HF := hide (take_filter L (fun e => seesB L[q] e far) i hlt2)
      have hfl : ((L.take i).filter (fun e => seesB L[q] e far)).length ≤ i := by
        have := List.length_filter_le (fun e => seesB L[q] e far) (L.take i)
        rw [List.length_take] at this; omega
      have hib1 : (0 : Int) ≤ (i : Int) := by omega
      have hib2 : (i : Int) < (L.length : Int) := by omega
      have r1 : ∀ w, (binOp .sub 54 (.float .f32 L[i].x) (.float .f32 L[q].x)).run Try.prog w = .ok (.float .f32 (fsub L[i].x L[q].x)) w := fun w => run_float_arith w .sub _ .f32 _ _ _ (sub_any he.x ha.x).1
      have r2 : ∀ w, (binOp .sub 54 (.float .f32 L[i].y) (.float .f32 L[q].y)).run Try.prog w = .ok (.float .f32 (fsub L[i].y L[q].y)) w := fun w => run_float_arith w .sub _ .f32 _ _ _ (sub_any he.y ha.y).1
      have r3 : ∀ w, (binOp .mul 54 (.float .f32 (fsub L[i].x L[q].x)) (.float .f32 (fsub L[i].x L[q].x))).run Try.prog w = .ok (.float .f32 (fmul (fsub L[i].x L[q].x) (fsub L[i].x L[q].x))) w := fun w => run_float_arith w .mul _ .f32 _ _ _ (sq_any (sub_any he.x ha.x).2.1).2.1
      have r4 : ∀ w, (binOp .mul 54 (.float .f32 (fsub L[i].y L[q].y)) (.float .f32 (fsub L[i].y L[q].y))).run Try.prog w = .ok (.float .f32 (fmul (fsub L[i].y L[q].y) (fsub L[i].y L[q].y))) w := fun w => run_float_arith w .mul _ .f32 _ _ _ (sq_any (sub_any he.y ha.y).2.1).2.1
      have r5 : ∀ w, (binOp .add 54 (.float .f32 (fmul (fsub L[i].x L[q].x) (fsub L[i].x L[q].x))) (.float .f32 (fmul (fsub L[i].y L[q].y) (fsub L[i].y L[q].y)))).run Try.prog w = .ok (.float .f32 (dist L[q] L[i])) w := fun w => run_float_arith w .add _ .f32 _ _ _ (dist_ok ha he).2
      have hmr := heap_lt MR.out
      have har := heap_lt AR.out
      have KN := hide (Kept.alloc wr (.cells #[.int .i64 L[i].id, .int .i64 L[i].team, .float .f32 L[i].x, .float .f32 L[i].y, .float .f32 L[i].vx, .float .f32 L[i].vy, .int .i64 L[i].health] 57))
      have HN := hide (heap_alloc_new wr (.cells #[.int .i64 L[i].id, .int .i64 L[i].team, .float .f32 L[i].x, .float .f32 L[i].y, .float .f32 L[i].vx, .float .f32 L[i].vy, .int .i64 L[i].health] 57))
      obtain ⟨o0, o1, fo0, fo1⟩ := two_cells HO.out
      have hor := heap_lt HO.out
      by_cases hteam : L[i].team = L[q].team
      · have hte : (L[i].team == L[q].team) = true := by simp [hteam]
        have HS2 : Hid (seesB L[q] L[i] far = true) := by show _ = _; simp [seesB, hteam]
        clear hteam
        go_wp2_with (at_builtin; refine wpList_append_at _ rfl (.tmp 89) (.tmp 91) 38 rfl W.heap.size 57 i0 (.agg #[.int .i64 0, .int .i64 0, .float .f32 0, .float .f32 0, .float .f32 0, .float .f32 0, .int .i64 0]) 7 40 Try.underlying38 hi hz0 hz1 hz2 rfl (by decide) _ _ _ rfl ((HE.out.alloc _).alloc _) ⟨wr.heap.size + 1, 0, none⟩ 1 1 (rowM [L[i]]) rfl rfl ?c1 (rowM_one [L[i]]) (by decide) ?c3 ?c4 ?c5 ?_)
        case c1 => exact new_cells (wr.alloc (.cells #[.int .i64 L[i].id, .int .i64 L[i].team, .float .f32 L[i].x, .float .f32 L[i].y, .float .f32 L[i].vx, .float .f32 L[i].vy, .int .i64 L[i].health] 57)) (rowM [L[i]]) 57 (wr.heap.size + 1) (by simp)
        case c3 => unfold maxLen; omega
        case c4 => omega
        case c5 => simp; omega
        intro g cap' w3 hown hgr
        have hg' := hown.lt g rfl
        have HE3 : Hid (w3.ownsRow W.heap.size 57 7 (.slice (some ⟨g, 0, none⟩) (((L.take i).filter (fun e => seesB L[q] e far)).length + 1) cap') ((L.take (i + 1)).filter (fun e => seesB L[q] e far)).length (rowM ((L.take (i + 1)).filter (fun e => seesB L[q] e far)))) := by
          show World.ownsRow _ _ _ _ _ _ _
          rw [HF.out, HS2.out, if_pos rfl, rowM_append, List.length_append]; exact hown
        have KG : Hid (Kept (fun k => some k = v.ownBlock) wr w3) := ((Kept.alloc wr _).calm2 (Kept.alloc _ _)).join (Kept.of_grown hgr) (fun _ _ e => e.elim) (fun _ _ e => e)
        have HO3 : Hid (w3.heap[w2.heap.size + 1]? = some (.cells #[.int .i64 t, v] 40 (0, 0))) := by show _ = _; rw [KG.out.block _ hor (fun e => by have := (HE.out.lt _ e.symm).1; omega)]; exact HO.out
        clear hown hgr o0 o1 fo0 fo1 c0 c1 c2 c3 c4 c5 c6 n0 n1 n2 n3 n4 n5 n6 x0 x1 r1 r2 r3 r4 r5
        obtain ⟨o0, o1, fo0, fo1⟩ := two_cells HO3.out
        go_wp2
        go_roundw
        case rel =>
          refine ⟨i + 1, _, by omega, by go_num, two_set HO3.out _, ?_, ?_⟩
          · exact owns_block HE3.out (fun j hj => (Kept.setCell w3 _ _).block j (owns_lt HE3.out j hj) (fun e => by have e' : j = w2.heap.size + 1 := e; have := (HE3.out.lt j hj).1; omega))
          · exact (HK.out.join KG.out (R := fun k => k = w2.heap.size + 1) (fun _ _ e => e) (fun j hj e => by have := (HE.out.lt j e.symm).1; omega)).join (Kept.setCell w3 _ _) (fun _ _ e => e) (fun _ _ e => e)
        case measure => simp [intOf]; omega
      · have hte : (L[i].team == L[q].team) = false := by simp [hteam]
        have hqe : (L[q].team == L[i].team) = false := by simpa using fun e => hteam e.symm
        clear hteam
        cases hfe : fle (dist L[q] L[i]) (fmul far far)
        · have HS2 : Hid (seesB L[q] L[i] far = false) := by show _ = _; simp [seesB, hqe, hfe]
          have hfe' : (FloatKind.f32.format.order (dist L[q] L[i]) (fmul far far) == some .lt || FloatKind.f32.format.order (dist L[q] L[i]) (fmul far far) == some .eq) = false := hfe
          clear hfe hqe
          go_wp2
          go_roundw
          case rel =>
            refine ⟨i + 1, v, by omega, by go_num, ?_, ?_, ?_⟩
            · show _ = _
              rw [KN.out.block _ hor (fun e => e)]; exact HO.out
            · rw [HF.out, HS2.out]
              simp only [Bool.false_eq_true, if_false, List.append_nil]
              exact owns_block HE.out (fun j hj => KN.out.block j (owns_lt HE.out j hj) (fun e => e))
            · exact HK.out.join KN.out (fun _ _ e => e) (fun _ _ e => e.elim)
          case measure => simp [intOf]; omega
        · have HS2 : Hid (seesB L[q] L[i] far = true) := by show _ = _; simp [seesB, hfe]
          have hfe' : (FloatKind.f32.format.order (dist L[q] L[i]) (fmul far far) == some .lt || FloatKind.f32.format.order (dist L[q] L[i]) (fmul far far) == some .eq) = true := hfe
          clear hfe hqe
          go_wp2_with (at_builtin; refine wpList_append_at _ rfl (.tmp 89) (.tmp 91) 38 rfl W.heap.size 57 i0 (.agg #[.int .i64 0, .int .i64 0, .float .f32 0, .float .f32 0, .float .f32 0, .float .f32 0, .int .i64 0]) 7 40 Try.underlying38 hi hz0 hz1 hz2 rfl (by decide) _ _ _ rfl ((HE.out.alloc _).alloc _) ⟨wr.heap.size + 1, 0, none⟩ 1 1 (rowM [L[i]]) rfl rfl ?c1 (rowM_one [L[i]]) (by decide) ?c3 ?c4 ?c5 ?_)
          case c1 => exact new_cells (wr.alloc (.cells #[.int .i64 L[i].id, .int .i64 L[i].team, .float .f32 L[i].x, .float .f32 L[i].y, .float .f32 L[i].vx, .float .f32 L[i].vy, .int .i64 L[i].health] 57)) (rowM [L[i]]) 57 (wr.heap.size + 1) (by simp)
          case c3 => unfold maxLen; omega
          case c4 => omega
          case c5 => simp; omega
          intro g cap' w3 hown hgr
          have hg' := hown.lt g rfl
          have HE3 : Hid (w3.ownsRow W.heap.size 57 7 (.slice (some ⟨g, 0, none⟩) (((L.take i).filter (fun e => seesB L[q] e far)).length + 1) cap') ((L.take (i + 1)).filter (fun e => seesB L[q] e far)).length (rowM ((L.take (i + 1)).filter (fun e => seesB L[q] e far)))) := by
            show World.ownsRow _ _ _ _ _ _ _
            rw [HF.out, HS2.out, if_pos rfl, rowM_append, List.length_append]; exact hown
          have KG : Hid (Kept (fun k => some k = v.ownBlock) wr w3) := ((Kept.alloc wr _).calm2 (Kept.alloc _ _)).join (Kept.of_grown hgr) (fun _ _ e => e.elim) (fun _ _ e => e)
          have HO3 : Hid (w3.heap[w2.heap.size + 1]? = some (.cells #[.int .i64 t, v] 40 (0, 0))) := by show _ = _; rw [KG.out.block _ hor (fun e => by have := (HE.out.lt _ e.symm).1; omega)]; exact HO.out
          clear hown hgr o0 o1 fo0 fo1 c0 c1 c2 c3 c4 c5 c6 n0 n1 n2 n3 n4 n5 n6 x0 x1 r1 r2 r3 r4 r5
          obtain ⟨o0, o1, fo0, fo1⟩ := two_cells HO3.out
          go_wp2
          go_roundw
          case rel =>
            refine ⟨i + 1, _, by omega, by go_num, two_set HO3.out _, ?_, ?_⟩
            · exact owns_block HE3.out (fun j hj => (Kept.setCell w3 _ _).block j (owns_lt HE3.out j hj) (fun e => by have e' : j = w2.heap.size + 1 := e; have := (HE3.out.lt j hj).1; omega))
            · exact (HK.out.join KG.out (R := fun k => k = w2.heap.size + 1) (fun _ _ e => e) (fun j hj e => by have := (HE.out.lt j e.symm).1; omega)).join (Kept.setCell w3 _ _) (fun _ _ e => e) (fun _ _ e => e)
          case measure => simp [intOf]; omega
    · obtain rfl : i = L.length := by omega
      rw [List.take_length] at HE
      obtain ⟨p', cp, rfl⟩ : ∃ p' cp, v = .slice p' (L.filter (fun e => seesB L[q] e far)).length cp := by
        rcases HE.out.2 with ⟨hv, hn⟩ | ⟨g, cap', cur, hv, _⟩
        · exact ⟨none, 0, by rw [hv, hn]⟩
        · exact ⟨_, _, hv⟩
      generalize hX : L.filter (fun e => seesB L[q] e far) = X at *
      obtain ⟨c0, c1, f0, f1⟩ := two_cells BR.out
      obtain ⟨o0, o1, -, -⟩ := two_cells HO.out
      obtain ⟨d0, d1, -, -⟩ := two_cells (two_sets BR.out (.int .i64 t) (.slice p' X.length cp))
      go_wp2
      refine bodyPost_ret (v := .tuple #[.agg #[.int .i64 t, .slice p' X.length cp], .int .i64 0]) (by simp [results, Try.results24, go_sem, d0, d1]) rfl ?_
      refine ⟨_, rfl, ?_, two_kept HKW.out (by omega) _ _⟩
      have kk : Kept (fun k => k = w.heap.size + 1) wr ((wr.setCell ⟨w.heap.size + 1, 0, none⟩ (.int .i64 t)).setCell ⟨w.heap.size + 1, 1, none⟩ (.slice p' X.length cp)) := (Kept.setCell wr _ _).join (Kept.setCell _ _ _) (fun _ _ e => e) (fun _ _ e => e)
      rw [hX]
      exact owns_low (base' := w.heap.size) (owns_block HE.out (fun j hj => kk.block j (owns_lt HE.out j hj) (fun e => by have := (HE.out.lt j hj).1; omega))) (show w.heap.size ≤ W.heap.size by omega)
end Go.Proofs.Ytlfmfhmbkpnjbaa

namespace Go.Proofs.Ytlfmfhmbkpnjbaa
open Go.RowKit

theorem nan64 (t : Nat) : (Ieee.double.read ((t % 2) * 2 ^ 63 + 0x7ff0000000000000 + 1 + (t / 2) % (2 ^ 52 - 1))).isNaN = true := by
  have h1 : t % 2 < 2 := Nat.mod_lt _ (by decide)
  have h2 : (t / 2) % (2 ^ 52 - 1) < 2 ^ 52 - 1 := Nat.mod_lt _ (by decide)
  generalize t % 2 = a at *
  generalize (t / 2) % (2 ^ 52 - 1) = b at *
  have e63 : (2 : Nat) ^ 63 = 9223372036854775808 := by decide
  have e52 : (2 : Nat) ^ 52 = 4503599627370496 := by decide
  rw [e63]
  rw [e52] at h2
  have hm : (a * 9223372036854775808 + 0x7ff0000000000000 + 1 + b) % 9223372036854775808 = 9218868437227405313 + b := by omega
  unfold Ieee.Format.read
  rw [bin_double, inf_double, sign_double, hm]
  simp only
  rw [if_neg (by omega), if_neg (by omega), if_neg (by omega)]
  rfl

theorem conv_nan {v : Nat} (h : ¬ okV v) (w : World) : ∃ r, (FloatKind.f64.format.order r r != some .eq) = true ∧ (convert 54 116 (.float .f32 v)).run Try.prog w = .ok (.float .f64 r) w.drew := by
  have hd : ∃ s t, FloatKind.f32.decode v = .nan s t := by
    unfold okV at h
    show ∃ s t, Ieee.single.read v = .nan s t
    cases hr : Ieee.single.read v with
    | number s m e => rw [hr] at h; exact absurd rfl h
    | infinity s => rw [hr] at h; exact absurd rfl h
    | nan s t => exact ⟨s, t, rfl⟩
  obtain ⟨s, t, hd⟩ := hd
  refine ⟨(w.tape w.drawn (.nanConv .f64 v) % 2) * 2 ^ 63 + 0x7ff0000000000000 + 1 + (w.tape w.drawn (.nanConv .f64 v) / 2) % (2 ^ 52 - 1), ?_, ?_⟩
  rotate_left
  · have hne : ¬ (FloatKind.f32 = FloatKind.f64) := by decide
    have hu : Try.prog.underlying 54 = some (.float .f32) := Try.underlying54
    simp [convert, run_underlying hu, run_underlying Try.underlying116, Conv.floatToFloat, hne, hd, Question.forced, Question.cut]
  · have hn := nan64 (w.tape w.drawn (.nanConv .f64 v))
    generalize (w.tape w.drawn (.nanConv .f64 v) % 2) * 2 ^ 63 + 0x7ff0000000000000 + 1 + (w.tape w.drawn (.nanConv .f64 v) / 2) % (2 ^ 52 - 1) = d at *
    have : FloatKind.f64.format.order d d = none := by
      show (Ieee.double.read d).order (Ieee.double.read d) = none
      cases hr : Ieee.double.read d with
      | number s m e => rw [hr] at hn; cases hn
      | infinity s => rw [hr] at hn; cases hn
      | nan s t => rfl
    rw [this]; rfl
theorem isNaN64_n (r : Nat) (w : World) (h : (FloatKind.f64.format.order r r != some .eq) = true) : Calls Try.prog 59 #[.float .f64 r] w fun e w' => e = .returned (.bool true) ∧ w' = w := by
  go_enter Try.func59, Try.ntmps59
  go_wp2
  go_ret
  exact ⟨rfl, rfl⟩

set_option maxHeartbeats 2000000 in
set_option maxRecDepth 100000 in
theorem seen_nan (t id : Int) (far : Nat) (p : Option Addr) (cap : Nat) (L : List Mob) (w : World) (hl : (L.length : Int) ≤ 4611686018427387903) (h : Reads w p L) (hb : worldB t L = true) (hf : findB L id = true) (hfar : ¬ okV far) :
    Calls Try.prog 23 #[.agg #[.int .i64 t, .slice p L.length cap], .int .i64 id, .float .f32 far] w fun e w' =>
      e = .returned (.tuple #[.agg #[.int .i64 0, .slice none 0 0], .int .i64 4]) ∧ Kept (fun _ => False) w w' := by
  have HR := hide h
  clear h
  have HS := hide (rises_of (worldB_fine hb).2.2.rises)
  have LT := hide (laid_two w t (.slice p L.length cap))
  go_enter Try.func23, Try.ntmps23
  go_wp2_with fail
  refine (isWorld_c t p cap L _ (by omega) (HR.out.calm LT.out.1)).mono ?_
  rw [hb]
  rintro e w1 ⟨rfl, q1⟩
  have K1 := hide (LT.out.1.calm2 q1)
  have A1 : Hid (w1.heap[w.heap.size]? = some (.cells #[.int .i64 t, .slice p L.length cap] 40 (0, 0))) := by show _ = _; rw [q1.block _ (heap_lt LT.out.2.1) (fun e => e)]; exact LT.out.2.1
  have B1 : Hid (w1.heap[w.heap.size + 1]? = some (.cells #[.int .i64 0, .slice none 0 0] 40 (0, 0))) := by show _ = _; rw [q1.block _ (heap_lt LT.out.2.2) (fun e => e)]; exact LT.out.2.2
  clear q1 LT
  obtain ⟨a0, a1, -, -⟩ := two_cells A1.out
  go_wp2_with fail
  refine (find_c p cap id L _ (by omega) HS.out (HR.out.calm K1.out)).mono ?_
  rw [hf]
  rintro e w2 ⟨rfl, q2⟩
  have K1 := hide (K1.out.calm2 q2)
  have A1 : Hid (w2.heap[w.heap.size]? = some (.cells #[.int .i64 t, .slice p L.length cap] 40 (0, 0))) := by show _ = _; rw [q2.block _ (heap_lt A1.out) (fun e => e)]; exact A1.out
  have B1 : Hid (w2.heap[w.heap.size + 1]? = some (.cells #[.int .i64 0, .slice none 0 0] 40 (0, 0))) := by show _ = _; rw [q2.block _ (heap_lt B1.out) (fun e => e)]; exact B1.out
  clear q2 a0 a1
  obtain ⟨a0, a1, -, -⟩ := two_cells A1.out
  obtain ⟨r64, hrr, hcv⟩ := conv_nan hfar w2
  go_wp2_with fail
  refine (isNaN64_n r64 _ hrr).mono ?_
  rintro e w3 ⟨rfl, rfl⟩
  clear hcv hrr a0 a1
  have K1 := hide (K1.out.calm2 (Kept.drew w2))
  have B1 : Hid (w2.drew.heap[w.heap.size + 1]? = some (.cells #[.int .i64 0, .slice none 0 0] 40 (0, 0))) := B1.out
  generalize w2.drew = w5 at *
  obtain ⟨c0, c1, f0, f1⟩ := two_cells B1.out
  obtain ⟨d0, d1, -, -⟩ := two_cells (two_sets B1.out (.int .i64 0) (.slice none 0 0))
  go_wp2
  refine bodyPost_ret (v := .tuple #[.agg #[.int .i64 0, .slice none 0 0], .int .i64 4]) (by simp [results, Try.results23, go_sem, d0, d1]) rfl ?_
  exact ⟨rfl, two_kept K1.out (by omega) _ _⟩

end Go.Proofs.Ytlfmfhmbkpnjbaa

namespace Go.Proofs.Ytlfmfhmbkpnjbaa
open Go.RowKit

/-- The mark of the list of a number. -/
def markM (k : Int) : Mob := { id := -1000 - k, team := 0, x := 0, y := 0, vx := 0, vy := 0, health := 7 }

set_option maxHeartbeats 400000 in
theorem badEntity_c (k : Int) (w : World) (hk : 0 ≤ k ∧ k ≤ 4611686018427387904) : Calls Try.prog 45 #[.int .i64 k] w fun e w' => e = .returned (.agg #[.int .i64 (-1000 - k), .int .i64 0, .float .f32 0, .float .f32 0, .float .f32 0, .float .f32 0, .int .i64 7]) ∧ Kept (fun _ => False) w w' := by
  have hsf := store_float Try.prog
  have hw : IntKind.i64.wrap (-1000 - k) = -1000 - k := wrap_id _ (by omega)
  go_enter Try.func45, Try.ntmps45
  go_wp2
  refine bodyPost_ret (v := .agg #[.int .i64 (-1000 - k), .int .i64 0, .float .f32 0, .float .f32 0, .float .f32 0, .float .f32 0, .int .i64 7]) (by simp [results, Try.results45, go_sem]) rfl ?_
  exact ⟨rfl, Kept.alloc w _⟩

/-- One number is like itself. -/
theorem like_self (x : Nat) (w : World) : Calls Try.prog 57 #[.float .f32 x, .float .f32 x] w fun e w' => e = .returned (.bool true) ∧ w' = w := by
  by_cases h : okV x
  · have h1 : (FloatKind.f32.format.order x x == some .eq) = true := by apply ford_beq; rw [ford_key h h, Int.compare_eq_eq.2 rfl]
    go_enter Try.func57, Try.ntmps57
    go_wp2
    go_ret
    exact ⟨rfl, rfl⟩
  · have h0 := nan_ord (c := x) h
    have h1 : (FloatKind.f32.format.order x x == some .eq) = false := by rw [h0]; rfl
    have h2 : (FloatKind.f32.format.order x x != some .eq) = true := by rw [h0]; rfl
    clear h0
    go_enter Try.func57, Try.ntmps57
    go_wp2
    go_ret
    exact ⟨rfl, rfl⟩

set_option maxHeartbeats 2000000 in
set_option maxRecDepth 100000 in
/-- Two worlds that are alike by the program's own equality. -/
theorem same_c (t : Int) (p p' : Option Addr) (cap cap' : Nat) (X : List Mob) (w : World) (h : Reads w p X) (h' : Reads w p' X) (hl : X.length ≤ 32) (he : ∀ m ∈ X, eqM m m = true) :
    Calls Try.prog 19 #[.agg #[.int .i64 t, .slice p X.length cap], .agg #[.int .i64 t, .slice p' X.length cap']] w fun e w' => e = .returned (.bool true) ∧ Kept (fun _ => False) w w' := by
  have HR := hide h
  have HR' := hide h'
  have HE := hide he
  clear h h' he
  have n0 : (t != t) = false := by simp
  have n1 : ((X.length : Int) != (X.length : Int)) = false := by simp
  have K0 := hide ((Kept.alloc w (.cells #[.int .i64 t, .slice p X.length cap] 40)).calm2 (Kept.alloc _ (.cells #[.int .i64 t, .slice p' X.length cap'] 40)))
  have A0 := hide (show ((w.alloc (.cells #[.int .i64 t, .slice p X.length cap] 40)).alloc (.cells #[.int .i64 t, .slice p' X.length cap'] 40)).heap[w.heap.size]? = some (.cells #[.int .i64 t, .slice p X.length cap] 40 (0, 0)) by rw [Below.heap_alloc _ _ _ (by simp)]; exact heap_alloc_new w _)
  have B0 : Hid (((w.alloc (.cells #[.int .i64 t, .slice p X.length cap] 40)).alloc (.cells #[.int .i64 t, .slice p' X.length cap'] 40)).heap[w.heap.size + 1]? = some (.cells #[.int .i64 t, .slice p' X.length cap'] 40 (0, 0))) := by
    have q := heap_alloc_new (w.alloc (.cells #[.int .i64 t, .slice p X.length cap] 40)) (.cells #[.int .i64 t, .slice p' X.length cap'] 40)
    rw [show (w.alloc (.cells #[.int .i64 t, .slice p X.length cap] 40)).heap.size = w.heap.size + 1 from by simp] at q
    exact q
  go_enter Try.func19, Try.ntmps19
  go_wp2
  generalize (w.alloc (.cells #[.int .i64 t, .slice p X.length cap] 40)).alloc (.cells #[.int .i64 t, .slice p' X.length cap'] 40) = W at *
  go_loopw [5] (fun a wr => ∃ i : Nat, i ≤ X.length ∧ a = .int .i64 i ∧ Hid (Kept (fun _ => False) W wr)) (fun a _ => X.length - (intOf a).toNat)
  case atStart => exact ⟨0, Nat.zero_le _, rfl, Kept.refl _ _⟩
  case round =>
    obtain ⟨i, hil, rfl, HK⟩ := hrel
    have AR : Hid (wr.heap[w.heap.size]? = some (.cells #[.int .i64 t, .slice p X.length cap] 40 (0, 0))) := by show _ = _; rw [HK.out.block _ (heap_lt A0.out) (fun e => e)]; exact A0.out
    have BR : Hid (wr.heap[w.heap.size + 1]? = some (.cells #[.int .i64 t, .slice p' X.length cap'] 40 (0, 0))) := by show _ = _; rw [HK.out.block _ (heap_lt B0.out) (fun e => e)]; exact B0.out
    obtain ⟨a0, a1, -, -⟩ := two_cells AR.out
    obtain ⟨b0, b1, -, -⟩ := two_cells BR.out
    have KW := hide (K0.out.calm2 HK.out)
    by_cases hlt : i < X.length
    · obtain ⟨b, off, hp, hb, c0, c1, c2, c3, c4, c5, c6⟩ := (HR.out.calm KW.out).at i hlt
      obtain ⟨b', off', hp', hb', d0, d1, d2, d3, d4, d5, d6⟩ := (HR'.out.calm KW.out).at i hlt
      have hne := neq_mob X[i] X[i]
      rw [HE.out X[i] (List.getElem_mem hlt)] at hne
      have hb1 : (0 : Int) ≤ (i : Int) := by omega
      have hb2 : (i : Int) < (X.length : Int) := by omega
      subst hp
      subst hp'
      go_wp2
      go_quiet (fail)
      go_wp2
      go_roundw
      case rel => exact ⟨i + 1, by omega, by go_num, HK.out.calm2 (Kept.drewN _ _)⟩
      case measure => simp [intOf]; omega
    · go_wp2
      go_ret
      exact ⟨rfl, KW.out⟩
theorem wpList_copy_any {P : Program} (w : World) {ops : Array Oper} {rest : List Oper} {o : Oper} {a : Act} {Q : Exit → Act → World → Prop} (hgd : o.guard = none) (d s : Operand) (dT sT : TypeId)
    (ho : o.op = .call { callee := .builtin .copy, args := #[d, s], argTypes := #[dT, sT] }) (elem : TypeId) (size : Nat) (hu : P.underlying dT = some (.slice elem)) (hsz : (P.info? elem).map (·.size) = some size)
    (dp sp : Option Addr) (dLen dCap sLen sCap : Nat) (hd : a.eval d = .slice dp dLen dCap) (hs : a.eval s = .slice sp sLen sCap)
    (g off : Nat) (cur : List Value) (t : TypeId) (hg : w.heap[g]? = some (.cells cur.toArray t (0, 0))) (n : Nat) (hn : Nat.min sLen dLen = n) (cs : List Value) (hcs : cs.length = n * size)
    (hpos : 0 < n → dp = some ⟨g, off, none⟩ ∧ ∃ ad, sp = some ad ∧ ∀ j v, cs[j]? = some v → w.cell? (ad.add j) = some v)
    (hfit : off + cs.length ≤ cur.length) (h1 : ∀ v ∈ cs, v.oneCell' = true)
    (h : ∀ w', Hid (w'.heap[g]? = some (.cells (splice cur off cs).toArray t (0, 0))) → Hid (Kept (fun k => k = g) w w') → wpList P ops Q rest (a.put o.dst (goInt n)) w') :
    wpList P ops Q (o :: rest) a w := by
  refine wpList_plain hgd fun K hK => ?_
  by_cases h0 : n = 0
  · subst h0
    obtain rfl : cs = [] := List.eq_nil_of_length_eq_zero (by simpa using hcs)
    have hrun := run_copy_zero (P := P) w dT sT o.type elem size dp sp dLen dCap sLen sCap hu hsz hn
    unfold Oper.wp
    simp [execOp, ho, resolve, invoke, builtin, hd, hs, hrun, Result.andThen]
    exact hK _ _ (h w (show _ = _ by simpa [splice] using hg) (Kept.refl _ _))
  · obtain ⟨rfl, ad, rfl, hsrc⟩ := hpos (by omega)
    have hrun := run_copy_size (P := P) w dT sT o.type elem size g off dLen dCap ad sLen sCap cur.toArray t n cs hu hsz hg hn hcs hsrc (by simpa using hfit) h1
    unfold Oper.wp
    simp [execOp, ho, resolve, invoke, builtin, hd, hs, hrun, Result.andThen]
    exact hK _ _ (h _ (show _ = _ by simpa [splice] using setRow_heap w g _ _ t _ hg) (Kept.setRow w g _))

end Go.Proofs.Ytlfmfhmbkpnjbaa
