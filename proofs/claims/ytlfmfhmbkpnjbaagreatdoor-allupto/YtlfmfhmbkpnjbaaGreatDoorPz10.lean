import Derived.Test.YtlfmfhmbkpnjbaaGreatDoorPz9
namespace Go.Proofs.YtlfmfhmbkpnjbaaGreatDoor
open Go.RowKit

theorem nan32 (t : Nat) : ¬ okV ((t % 2) * 2 ^ 31 + 0x7f800000 + 1 + (t / 2) % (2 ^ 23 - 1)) := by
  rw [ok_iff]
  unfold rung
  have h1 : t % 2 < 2 := Nat.mod_lt _ (by decide)
  have h2 : (t / 2) % (2 ^ 23 - 1) < 2 ^ 23 - 1 := Nat.mod_lt _ (by decide)
  generalize t % 2 = a at *
  generalize (t / 2) % (2 ^ 23 - 1) = b at *
  have e31 : (2 : Nat) ^ 31 = 2147483648 := by decide
  have e23 : (2 : Nat) ^ 23 = 8388608 := by decide
  rw [e31]
  rw [e23] at h2
  omega

theorem nan_ord {v c : Nat} (h : ¬ okV v) : FloatKind.f32.format.order v c = none := by
  show (Ieee.single.read v).order (Ieee.single.read c) = none
  unfold okV at h
  cases hr : Ieee.single.read v with
  | number s m e => rw [hr] at h; exact absurd rfl h
  | infinity s => rw [hr] at h; exact absurd rfl h
  | nan s t => rfl

/-- An operation that has no answer draws a NaN. -/
theorem run_float_nan (op : BinOp) (hop : op = .sub ∨ op = .add ∨ op = .mul) (x y : Nat) (h : floatBits op .f32 x y = none) (w : World) : ∃ r, ¬ okV r ∧ (binOp op 55 (.float .f32 x) (.float .f32 y)).run Tryz.prog w = .ok (.float .f32 r) w.drew := by
  refine ⟨_, nan32 (w.tape w.drawn (.nanBits .f32 x y)), ?_⟩
  unfold floatBits at h
  rcases hop with rfl | rfl | rfl <;> simp only at h <;> simp [binOp, Op.floatArith, h, Question.forced, Question.cut]

theorem sub_none {v : Nat} (h : ¬ isNum v) : floatBits .sub .f32 v v = none := by
  show Ieee.single.sub v v = none
  unfold Ieee.Format.sub
  cases hr : Ieee.single.read v with
  | number s m e => exact absurd ⟨s, m, e, hr⟩ h
  | infinity s => cases s <;> rfl
  | nan s t => rfl

theorem sub_self {v : Nat} (h : isNum v) : floatBits .sub .f32 v v = some (fsub v v) ∧ (FloatKind.f32.format.order (fsub v v) 0 == some .eq) = true := by
  obtain ⟨h1, h2, h3⟩ := sub_any h h
  refine ⟨h1, ?_⟩
  have hr : rung (fsub v v) = 0 := by
    rw [h3]
    have : sg (neg v) (mant (rung v) * 2 ^ (expo (rung v) - min (expo (rung v)) (expo (rung v))).toNat) + sg (!neg v) (mant (rung v) * 2 ^ (expo (rung v) - min (expo (rung v)) (expo (rung v))).toNat) = 0 := by
      cases neg v <;> simp [sg] <;> omega
    rw [this]
    exact rungOf_zero _
  apply ford_beq
  rw [ford_key h2 num_zero.ok]
  have : key (fsub v v) = 0 := by unfold key sg; rw [hr]; split <;> rfl
  rw [this, show key 0 = 0 from by decide]; rfl

theorem fin_iff (v : Nat) : finB v = true ↔ isNum v := ⟨fin_num, num_fin⟩

set_option maxHeartbeats 400000 in
theorem rfits_c (x b : Nat) (w : World) : Calls Tryz.prog 115 #[.float .f32 x, .float .f32 b] w fun e w' => e = .returned (.bool (fitsB x b)) ∧ w' = w := by
  have hn := run_neg Tryz.prog b w
  cases h1 : fge x (Op.negFloat .f32 b)
  · have H : Hid (fitsB x b = false) := by show fitsB x b = false; simp [fitsB, h1]
    unfold fge ford at h1
    go_enter Tryz.func115, Tryz.ntmps115
    go_wp2
    go_ret
    exact ⟨ret1 (by rw [H.out]; rfl), rfl⟩
  · cases h2 : fle x b
    · have H : Hid (fitsB x b = false) := by show fitsB x b = false; simp [fitsB, h2]
      unfold fge ford at h1
      unfold fle ford at h2
      go_enter Tryz.func115, Tryz.ntmps115
      go_wp2
      go_ret
      exact ⟨ret1 (by rw [H.out]; rfl), rfl⟩
    · have H : Hid (fitsB x b = true) := by show fitsB x b = true; simp [fitsB, h1, h2]
      unfold fge ford at h1
      unfold fle ford at h2
      go_enter Tryz.func115, Tryz.ntmps115
      go_wp2
      go_ret
      exact ⟨ret1 (by rw [H.out]; rfl), rfl⟩

set_option maxHeartbeats 400000 in
theorem rfinite_c (v : Nat) (w : World) : Calls Tryz.prog 133 #[.float .f32 v] w fun e w' => e = .returned (.bool (finB v)) ∧ Kept (fun _ => False) w w' := by
  by_cases h : isNum v
  · obtain ⟨h1, h2⟩ := sub_self h
    have r : (binOp .sub 55 (.float .f32 v) (.float .f32 v)).run Tryz.prog w = .ok (.float .f32 (fsub v v)) w := run_float_arith w .sub _ .f32 _ _ _ h1
    have H := hide (num_fin h)
    go_enter Tryz.func133, Tryz.ntmps133
    go_wp2
    go_ret
    exact ⟨ret1 (by rw [H.out]; rfl), Kept.refl _ _⟩
  · obtain ⟨r, hr, hrun⟩ := run_float_nan .sub (Or.inl rfl) v v (sub_none h) w
    have H : Hid (finB v = false) := by
      show _ = _
      cases hf : finB v
      · rfl
      · exact absurd (fin_num hf) h
    have ho : (FloatKind.f32.format.order r 0 == some .eq) = false := by rw [nan_ord hr]; rfl
    go_enter Tryz.func133, Tryz.ntmps133
    go_wp2
    go_ret
    exact ⟨ret1 (by rw [H.out]; rfl), Kept.drew _⟩

def refB (m : Mob) : Bool := fitsB m.x 1148846080 && fitsB m.y 1148846080
theorem mobB_ref (m : Mob) : mobB m = (refB m && finB m.vx && finB m.vy && decide (0 ≤ m.id) && decide (m.id ≤ 31) && decide (0 ≤ m.team) && decide (m.team ≤ 1) && decide (1 ≤ m.health) && decide (m.health ≤ 100)) := by
  unfold mobB refB placeB idB teamB
  have ht : (decide (m.team = 0) || decide (m.team = 1)) = (decide (0 ≤ m.team) && decide (m.team ≤ 1)) := by
    rw [Bool.eq_iff_iff]
    simp only [Bool.or_eq_true, Bool.and_eq_true, decide_eq_true_eq]
    omega
  rw [ht]
  cases decide (0 ≤ m.id) <;> cases decide (m.id ≤ 31) <;> cases decide (0 ≤ m.team) <;> cases decide (m.team ≤ 1) <;> cases fitsB m.x 1148846080 <;> cases fitsB m.y 1148846080 <;> cases finB m.vx <;> cases finB m.vy <;> rfl

set_option maxHeartbeats 2000000 in
set_option maxRecDepth 100000 in
theorem entityOK_c (m : Mob) (w : World) : Calls Tryz.prog 112 #[.agg #[.int .i64 m.id, .int .i64 m.team, .float .f32 m.x, .float .f32 m.y, .float .f32 m.vx, .float .f32 m.vy, .int .i64 m.health]] w fun e w' => e = .returned (.bool (mobB m)) ∧ Kept (fun _ => False) w w' := by
  have K0 := hide (Kept.alloc w (.cells #[.int .i64 m.id, .int .i64 m.team, .float .f32 m.x, .float .f32 m.y, .float .f32 m.vx, .float .f32 m.vy, .int .i64 m.health] 83))
  have HB := hide (heap_alloc_new w (.cells #[.int .i64 m.id, .int .i64 m.team, .float .f32 m.x, .float .f32 m.y, .float .f32 m.vx, .float .f32 m.vy, .int .i64 m.health] 83))
  cases hx : fitsB m.x 1148846080
  · skip
    have H : Hid (mobB m = false) := by show _ = _; rw [mobB_ref]; simp [refB, hx]
    go_enter Tryz.func112, Tryz.ntmps112
    go_wp2_with fail
    refine (rfits_c _ _ _).mono ?_
    rintro e w' ⟨rfl, rfl⟩
    go_wp2_with fail
    refine (rfinite_c _ _).mono ?_
    rintro e w1 ⟨rfl, q1⟩
    have HB1 := hide (show w1.heap[w.heap.size]? = some (.cells #[.int .i64 m.id, .int .i64 m.team, .float .f32 m.x, .float .f32 m.y, .float .f32 m.vx, .float .f32 m.vy, .int .i64 m.health] 83 (0, 0)) by rw [q1.block _ (heap_lt HB.out) (fun e => e)]; exact HB.out)
    have K1 := hide (K0.out.calm2 q1)
    obtain ⟨c0, c1, c2, c3, c4, c5, c6⟩ := seven_cells HB1.out
    clear q1
    go_wp2_with fail
    refine (rfinite_c _ _).mono ?_
    rintro e w2 ⟨rfl, q2⟩
    have HB2 := hide (show w2.heap[w.heap.size]? = some (.cells #[.int .i64 m.id, .int .i64 m.team, .float .f32 m.x, .float .f32 m.y, .float .f32 m.vx, .float .f32 m.vy, .int .i64 m.health] 83 (0, 0)) by rw [q2.block _ (heap_lt HB1.out) (fun e => e)]; exact HB1.out)
    have K2 := hide (K1.out.calm2 q2)
    clear c0 c1 c2 c3 c4 c5 c6
    obtain ⟨c0, c1, c2, c3, c4, c5, c6⟩ := seven_cells HB2.out
    clear q2
    go_wp2
    go_ret
    exact ⟨ret1 (by rw [H.out]; rfl), K2.out⟩
  cases hy : fitsB m.y 1148846080
  · skip
    have H : Hid (mobB m = false) := by show _ = _; rw [mobB_ref]; simp [refB, hx, hy]
    go_enter Tryz.func112, Tryz.ntmps112
    go_wp2_with fail
    refine (rfits_c _ _ _).mono ?_
    rintro e w' ⟨rfl, rfl⟩
    go_wp2_with fail
    refine (rfits_c _ _ _).mono ?_
    rintro e w' ⟨rfl, rfl⟩
    go_wp2_with fail
    refine (rfinite_c _ _).mono ?_
    rintro e w1 ⟨rfl, q1⟩
    have HB1 := hide (show w1.heap[w.heap.size]? = some (.cells #[.int .i64 m.id, .int .i64 m.team, .float .f32 m.x, .float .f32 m.y, .float .f32 m.vx, .float .f32 m.vy, .int .i64 m.health] 83 (0, 0)) by rw [q1.block _ (heap_lt HB.out) (fun e => e)]; exact HB.out)
    have K1 := hide (K0.out.calm2 q1)
    obtain ⟨c0, c1, c2, c3, c4, c5, c6⟩ := seven_cells HB1.out
    clear q1
    go_wp2_with fail
    refine (rfinite_c _ _).mono ?_
    rintro e w2 ⟨rfl, q2⟩
    have HB2 := hide (show w2.heap[w.heap.size]? = some (.cells #[.int .i64 m.id, .int .i64 m.team, .float .f32 m.x, .float .f32 m.y, .float .f32 m.vx, .float .f32 m.vy, .int .i64 m.health] 83 (0, 0)) by rw [q2.block _ (heap_lt HB1.out) (fun e => e)]; exact HB1.out)
    have K2 := hide (K1.out.calm2 q2)
    clear c0 c1 c2 c3 c4 c5 c6
    obtain ⟨c0, c1, c2, c3, c4, c5, c6⟩ := seven_cells HB2.out
    clear q2
    go_wp2
    go_ret
    exact ⟨ret1 (by rw [H.out]; rfl), K2.out⟩
  cases h0 : finB m.vx
  · skip
    have H : Hid (mobB m = false) := by show _ = _; rw [mobB_ref]; simp [refB, hx, hy, h0]
    go_enter Tryz.func112, Tryz.ntmps112
    go_wp2_with fail
    refine (rfits_c _ _ _).mono ?_
    rintro e w' ⟨rfl, rfl⟩
    go_wp2_with fail
    refine (rfits_c _ _ _).mono ?_
    rintro e w' ⟨rfl, rfl⟩
    go_wp2_with fail
    refine (rfinite_c _ _).mono ?_
    rintro e w1 ⟨rfl, q1⟩
    have HB1 := hide (show w1.heap[w.heap.size]? = some (.cells #[.int .i64 m.id, .int .i64 m.team, .float .f32 m.x, .float .f32 m.y, .float .f32 m.vx, .float .f32 m.vy, .int .i64 m.health] 83 (0, 0)) by rw [q1.block _ (heap_lt HB.out) (fun e => e)]; exact HB.out)
    have K1 := hide (K0.out.calm2 q1)
    obtain ⟨c0, c1, c2, c3, c4, c5, c6⟩ := seven_cells HB1.out
    clear q1
    go_wp2_with fail
    refine (rfinite_c _ _).mono ?_
    rintro e w2 ⟨rfl, q2⟩
    have HB2 := hide (show w2.heap[w.heap.size]? = some (.cells #[.int .i64 m.id, .int .i64 m.team, .float .f32 m.x, .float .f32 m.y, .float .f32 m.vx, .float .f32 m.vy, .int .i64 m.health] 83 (0, 0)) by rw [q2.block _ (heap_lt HB1.out) (fun e => e)]; exact HB1.out)
    have K2 := hide (K1.out.calm2 q2)
    clear c0 c1 c2 c3 c4 c5 c6
    obtain ⟨c0, c1, c2, c3, c4, c5, c6⟩ := seven_cells HB2.out
    clear q2
    go_wp2
    go_ret
    exact ⟨ret1 (by rw [H.out]; rfl), K2.out⟩
  cases h1 : finB m.vy
  · skip
    have H : Hid (mobB m = false) := by show _ = _; rw [mobB_ref]; simp [refB, hx, hy, h0, h1]
    go_enter Tryz.func112, Tryz.ntmps112
    go_wp2_with fail
    refine (rfits_c _ _ _).mono ?_
    rintro e w' ⟨rfl, rfl⟩
    go_wp2_with fail
    refine (rfits_c _ _ _).mono ?_
    rintro e w' ⟨rfl, rfl⟩
    go_wp2_with fail
    refine (rfinite_c _ _).mono ?_
    rintro e w1 ⟨rfl, q1⟩
    have HB1 := hide (show w1.heap[w.heap.size]? = some (.cells #[.int .i64 m.id, .int .i64 m.team, .float .f32 m.x, .float .f32 m.y, .float .f32 m.vx, .float .f32 m.vy, .int .i64 m.health] 83 (0, 0)) by rw [q1.block _ (heap_lt HB.out) (fun e => e)]; exact HB.out)
    have K1 := hide (K0.out.calm2 q1)
    obtain ⟨c0, c1, c2, c3, c4, c5, c6⟩ := seven_cells HB1.out
    clear q1
    go_wp2_with fail
    refine (rfinite_c _ _).mono ?_
    rintro e w2 ⟨rfl, q2⟩
    have HB2 := hide (show w2.heap[w.heap.size]? = some (.cells #[.int .i64 m.id, .int .i64 m.team, .float .f32 m.x, .float .f32 m.y, .float .f32 m.vx, .float .f32 m.vy, .int .i64 m.health] 83 (0, 0)) by rw [q2.block _ (heap_lt HB1.out) (fun e => e)]; exact HB1.out)
    have K2 := hide (K1.out.calm2 q2)
    clear c0 c1 c2 c3 c4 c5 c6
    obtain ⟨c0, c1, c2, c3, c4, c5, c6⟩ := seven_cells HB2.out
    clear q2
    go_wp2
    go_ret
    exact ⟨ret1 (by rw [H.out]; rfl), K2.out⟩
  cases h2 : decide (0 ≤ m.id)
  · skip
    have H : Hid (mobB m = false) := by show _ = _; rw [mobB_ref]; simp [refB, hx, hy, h0, h1, h2]
    have h2 := of_decide_eq_false h2
    go_enter Tryz.func112, Tryz.ntmps112
    go_wp2_with fail
    refine (rfits_c _ _ _).mono ?_
    rintro e w' ⟨rfl, rfl⟩
    go_wp2_with fail
    refine (rfits_c _ _ _).mono ?_
    rintro e w' ⟨rfl, rfl⟩
    go_wp2_with fail
    refine (rfinite_c _ _).mono ?_
    rintro e w1 ⟨rfl, q1⟩
    have HB1 := hide (show w1.heap[w.heap.size]? = some (.cells #[.int .i64 m.id, .int .i64 m.team, .float .f32 m.x, .float .f32 m.y, .float .f32 m.vx, .float .f32 m.vy, .int .i64 m.health] 83 (0, 0)) by rw [q1.block _ (heap_lt HB.out) (fun e => e)]; exact HB.out)
    have K1 := hide (K0.out.calm2 q1)
    obtain ⟨c0, c1, c2, c3, c4, c5, c6⟩ := seven_cells HB1.out
    clear q1
    go_wp2_with fail
    refine (rfinite_c _ _).mono ?_
    rintro e w2 ⟨rfl, q2⟩
    have HB2 := hide (show w2.heap[w.heap.size]? = some (.cells #[.int .i64 m.id, .int .i64 m.team, .float .f32 m.x, .float .f32 m.y, .float .f32 m.vx, .float .f32 m.vy, .int .i64 m.health] 83 (0, 0)) by rw [q2.block _ (heap_lt HB1.out) (fun e => e)]; exact HB1.out)
    have K2 := hide (K1.out.calm2 q2)
    clear c0 c1 c2 c3 c4 c5 c6
    obtain ⟨c0, c1, c2, c3, c4, c5, c6⟩ := seven_cells HB2.out
    clear q2
    go_wp2
    go_ret
    exact ⟨ret1 (by rw [H.out]; rfl), K2.out⟩
  cases h3 : decide (m.id ≤ 31)
  · skip
    have H : Hid (mobB m = false) := by show _ = _; rw [mobB_ref]; simp [refB, hx, hy, h0, h1, h2, h3]
    have h2 := of_decide_eq_true h2
    have h3 := of_decide_eq_false h3
    go_enter Tryz.func112, Tryz.ntmps112
    go_wp2_with fail
    refine (rfits_c _ _ _).mono ?_
    rintro e w' ⟨rfl, rfl⟩
    go_wp2_with fail
    refine (rfits_c _ _ _).mono ?_
    rintro e w' ⟨rfl, rfl⟩
    go_wp2_with fail
    refine (rfinite_c _ _).mono ?_
    rintro e w1 ⟨rfl, q1⟩
    have HB1 := hide (show w1.heap[w.heap.size]? = some (.cells #[.int .i64 m.id, .int .i64 m.team, .float .f32 m.x, .float .f32 m.y, .float .f32 m.vx, .float .f32 m.vy, .int .i64 m.health] 83 (0, 0)) by rw [q1.block _ (heap_lt HB.out) (fun e => e)]; exact HB.out)
    have K1 := hide (K0.out.calm2 q1)
    obtain ⟨c0, c1, c2, c3, c4, c5, c6⟩ := seven_cells HB1.out
    clear q1
    go_wp2_with fail
    refine (rfinite_c _ _).mono ?_
    rintro e w2 ⟨rfl, q2⟩
    have HB2 := hide (show w2.heap[w.heap.size]? = some (.cells #[.int .i64 m.id, .int .i64 m.team, .float .f32 m.x, .float .f32 m.y, .float .f32 m.vx, .float .f32 m.vy, .int .i64 m.health] 83 (0, 0)) by rw [q2.block _ (heap_lt HB1.out) (fun e => e)]; exact HB1.out)
    have K2 := hide (K1.out.calm2 q2)
    clear c0 c1 c2 c3 c4 c5 c6
    obtain ⟨c0, c1, c2, c3, c4, c5, c6⟩ := seven_cells HB2.out
    clear q2
    go_wp2
    go_ret
    exact ⟨ret1 (by rw [H.out]; rfl), K2.out⟩
  cases h4 : decide (0 ≤ m.team)
  · skip
    have H : Hid (mobB m = false) := by show _ = _; rw [mobB_ref]; simp [refB, hx, hy, h0, h1, h2, h3, h4]
    have h2 := of_decide_eq_true h2
    have h3 := of_decide_eq_true h3
    have h4 := of_decide_eq_false h4
    go_enter Tryz.func112, Tryz.ntmps112
    go_wp2_with fail
    refine (rfits_c _ _ _).mono ?_
    rintro e w' ⟨rfl, rfl⟩
    go_wp2_with fail
    refine (rfits_c _ _ _).mono ?_
    rintro e w' ⟨rfl, rfl⟩
    go_wp2_with fail
    refine (rfinite_c _ _).mono ?_
    rintro e w1 ⟨rfl, q1⟩
    have HB1 := hide (show w1.heap[w.heap.size]? = some (.cells #[.int .i64 m.id, .int .i64 m.team, .float .f32 m.x, .float .f32 m.y, .float .f32 m.vx, .float .f32 m.vy, .int .i64 m.health] 83 (0, 0)) by rw [q1.block _ (heap_lt HB.out) (fun e => e)]; exact HB.out)
    have K1 := hide (K0.out.calm2 q1)
    obtain ⟨c0, c1, c2, c3, c4, c5, c6⟩ := seven_cells HB1.out
    clear q1
    go_wp2_with fail
    refine (rfinite_c _ _).mono ?_
    rintro e w2 ⟨rfl, q2⟩
    have HB2 := hide (show w2.heap[w.heap.size]? = some (.cells #[.int .i64 m.id, .int .i64 m.team, .float .f32 m.x, .float .f32 m.y, .float .f32 m.vx, .float .f32 m.vy, .int .i64 m.health] 83 (0, 0)) by rw [q2.block _ (heap_lt HB1.out) (fun e => e)]; exact HB1.out)
    have K2 := hide (K1.out.calm2 q2)
    clear c0 c1 c2 c3 c4 c5 c6
    obtain ⟨c0, c1, c2, c3, c4, c5, c6⟩ := seven_cells HB2.out
    clear q2
    go_wp2
    go_ret
    exact ⟨ret1 (by rw [H.out]; rfl), K2.out⟩
  cases h5 : decide (m.team ≤ 1)
  · skip
    have H : Hid (mobB m = false) := by show _ = _; rw [mobB_ref]; simp [refB, hx, hy, h0, h1, h2, h3, h4, h5]
    have h2 := of_decide_eq_true h2
    have h3 := of_decide_eq_true h3
    have h4 := of_decide_eq_true h4
    have h5 := of_decide_eq_false h5
    go_enter Tryz.func112, Tryz.ntmps112
    go_wp2_with fail
    refine (rfits_c _ _ _).mono ?_
    rintro e w' ⟨rfl, rfl⟩
    go_wp2_with fail
    refine (rfits_c _ _ _).mono ?_
    rintro e w' ⟨rfl, rfl⟩
    go_wp2_with fail
    refine (rfinite_c _ _).mono ?_
    rintro e w1 ⟨rfl, q1⟩
    have HB1 := hide (show w1.heap[w.heap.size]? = some (.cells #[.int .i64 m.id, .int .i64 m.team, .float .f32 m.x, .float .f32 m.y, .float .f32 m.vx, .float .f32 m.vy, .int .i64 m.health] 83 (0, 0)) by rw [q1.block _ (heap_lt HB.out) (fun e => e)]; exact HB.out)
    have K1 := hide (K0.out.calm2 q1)
    obtain ⟨c0, c1, c2, c3, c4, c5, c6⟩ := seven_cells HB1.out
    clear q1
    go_wp2_with fail
    refine (rfinite_c _ _).mono ?_
    rintro e w2 ⟨rfl, q2⟩
    have HB2 := hide (show w2.heap[w.heap.size]? = some (.cells #[.int .i64 m.id, .int .i64 m.team, .float .f32 m.x, .float .f32 m.y, .float .f32 m.vx, .float .f32 m.vy, .int .i64 m.health] 83 (0, 0)) by rw [q2.block _ (heap_lt HB1.out) (fun e => e)]; exact HB1.out)
    have K2 := hide (K1.out.calm2 q2)
    clear c0 c1 c2 c3 c4 c5 c6
    obtain ⟨c0, c1, c2, c3, c4, c5, c6⟩ := seven_cells HB2.out
    clear q2
    go_wp2
    go_ret
    exact ⟨ret1 (by rw [H.out]; rfl), K2.out⟩
  cases h6 : decide (1 ≤ m.health)
  · skip
    have H : Hid (mobB m = false) := by show _ = _; rw [mobB_ref]; simp [refB, hx, hy, h0, h1, h2, h3, h4, h5, h6]
    have h2 := of_decide_eq_true h2
    have h3 := of_decide_eq_true h3
    have h4 := of_decide_eq_true h4
    have h5 := of_decide_eq_true h5
    have h6 := of_decide_eq_false h6
    go_enter Tryz.func112, Tryz.ntmps112
    go_wp2_with fail
    refine (rfits_c _ _ _).mono ?_
    rintro e w' ⟨rfl, rfl⟩
    go_wp2_with fail
    refine (rfits_c _ _ _).mono ?_
    rintro e w' ⟨rfl, rfl⟩
    go_wp2_with fail
    refine (rfinite_c _ _).mono ?_
    rintro e w1 ⟨rfl, q1⟩
    have HB1 := hide (show w1.heap[w.heap.size]? = some (.cells #[.int .i64 m.id, .int .i64 m.team, .float .f32 m.x, .float .f32 m.y, .float .f32 m.vx, .float .f32 m.vy, .int .i64 m.health] 83 (0, 0)) by rw [q1.block _ (heap_lt HB.out) (fun e => e)]; exact HB.out)
    have K1 := hide (K0.out.calm2 q1)
    obtain ⟨c0, c1, c2, c3, c4, c5, c6⟩ := seven_cells HB1.out
    clear q1
    go_wp2_with fail
    refine (rfinite_c _ _).mono ?_
    rintro e w2 ⟨rfl, q2⟩
    have HB2 := hide (show w2.heap[w.heap.size]? = some (.cells #[.int .i64 m.id, .int .i64 m.team, .float .f32 m.x, .float .f32 m.y, .float .f32 m.vx, .float .f32 m.vy, .int .i64 m.health] 83 (0, 0)) by rw [q2.block _ (heap_lt HB1.out) (fun e => e)]; exact HB1.out)
    have K2 := hide (K1.out.calm2 q2)
    clear c0 c1 c2 c3 c4 c5 c6
    obtain ⟨c0, c1, c2, c3, c4, c5, c6⟩ := seven_cells HB2.out
    clear q2
    go_wp2
    go_ret
    exact ⟨ret1 (by rw [H.out]; rfl), K2.out⟩
  cases h7 : decide (m.health ≤ 100)
  · skip
    have H : Hid (mobB m = false) := by show _ = _; rw [mobB_ref]; simp [refB, hx, hy, h0, h1, h2, h3, h4, h5, h6, h7]
    have h2 := of_decide_eq_true h2
    have h3 := of_decide_eq_true h3
    have h4 := of_decide_eq_true h4
    have h5 := of_decide_eq_true h5
    have h6 := of_decide_eq_true h6
    have h7 := of_decide_eq_false h7
    go_enter Tryz.func112, Tryz.ntmps112
    go_wp2_with fail
    refine (rfits_c _ _ _).mono ?_
    rintro e w' ⟨rfl, rfl⟩
    go_wp2_with fail
    refine (rfits_c _ _ _).mono ?_
    rintro e w' ⟨rfl, rfl⟩
    go_wp2_with fail
    refine (rfinite_c _ _).mono ?_
    rintro e w1 ⟨rfl, q1⟩
    have HB1 := hide (show w1.heap[w.heap.size]? = some (.cells #[.int .i64 m.id, .int .i64 m.team, .float .f32 m.x, .float .f32 m.y, .float .f32 m.vx, .float .f32 m.vy, .int .i64 m.health] 83 (0, 0)) by rw [q1.block _ (heap_lt HB.out) (fun e => e)]; exact HB.out)
    have K1 := hide (K0.out.calm2 q1)
    obtain ⟨c0, c1, c2, c3, c4, c5, c6⟩ := seven_cells HB1.out
    clear q1
    go_wp2_with fail
    refine (rfinite_c _ _).mono ?_
    rintro e w2 ⟨rfl, q2⟩
    have HB2 := hide (show w2.heap[w.heap.size]? = some (.cells #[.int .i64 m.id, .int .i64 m.team, .float .f32 m.x, .float .f32 m.y, .float .f32 m.vx, .float .f32 m.vy, .int .i64 m.health] 83 (0, 0)) by rw [q2.block _ (heap_lt HB1.out) (fun e => e)]; exact HB1.out)
    have K2 := hide (K1.out.calm2 q2)
    clear c0 c1 c2 c3 c4 c5 c6
    obtain ⟨c0, c1, c2, c3, c4, c5, c6⟩ := seven_cells HB2.out
    clear q2
    go_wp2
    go_ret
    exact ⟨ret1 (by rw [H.out]; rfl), K2.out⟩
  have H : Hid (mobB m = true) := by show _ = _; rw [mobB_ref]; simp [refB, hx, hy, h0, h1, h2, h3, h4, h5, h6, h7]
  have h2 := of_decide_eq_true h2
  have h3 := of_decide_eq_true h3
  have h4 := of_decide_eq_true h4
  have h5 := of_decide_eq_true h5
  have h6 := of_decide_eq_true h6
  have h7 := of_decide_eq_true h7
  go_enter Tryz.func112, Tryz.ntmps112
  go_wp2_with fail
  refine (rfits_c _ _ _).mono ?_
  rintro e w' ⟨rfl, rfl⟩
  go_wp2_with fail
  refine (rfits_c _ _ _).mono ?_
  rintro e w' ⟨rfl, rfl⟩
  go_wp2_with fail
  refine (rfinite_c _ _).mono ?_
  rintro e w1 ⟨rfl, q1⟩
  have HB1 := hide (show w1.heap[w.heap.size]? = some (.cells #[.int .i64 m.id, .int .i64 m.team, .float .f32 m.x, .float .f32 m.y, .float .f32 m.vx, .float .f32 m.vy, .int .i64 m.health] 83 (0, 0)) by rw [q1.block _ (heap_lt HB.out) (fun e => e)]; exact HB.out)
  have K1 := hide (K0.out.calm2 q1)
  obtain ⟨c0, c1, c2, c3, c4, c5, c6⟩ := seven_cells HB1.out
  clear q1
  go_wp2_with fail
  refine (rfinite_c _ _).mono ?_
  rintro e w2 ⟨rfl, q2⟩
  have HB2 := hide (show w2.heap[w.heap.size]? = some (.cells #[.int .i64 m.id, .int .i64 m.team, .float .f32 m.x, .float .f32 m.y, .float .f32 m.vx, .float .f32 m.vy, .int .i64 m.health] 83 (0, 0)) by rw [q2.block _ (heap_lt HB1.out) (fun e => e)]; exact HB1.out)
  have K2 := hide (K1.out.calm2 q2)
  clear c0 c1 c2 c3 c4 c5 c6
  obtain ⟨c0, c1, c2, c3, c4, c5, c6⟩ := seven_cells HB2.out
  clear q2
  go_wp2
  go_ret
  exact ⟨ret1 (by rw [H.out]; rfl), K2.out⟩

/-- Where an entity of an ID stands, sought from the head; the list's length: nowhere. -/
def plI : List Mob → Int → Nat
  | [], _ => 0
  | m :: r, id => if m.id = id then 0 else plI r id + 1
def plR (L : List Mob) (id : Int) : Int := if plI L id < L.length then (plI L id : Int) else -1
theorem plI_hit (L : List Mob) (k : Int) (i : Nat) (h : i < L.length) (hi : i ≤ plI L k) (e : L[i].id = k) : plI L k = i := by
  induction L generalizing i with
  | nil => simp at h
  | cons p r ih =>
    cases i with
    | zero => simp at e; simp [plI, e]
    | succ m =>
      simp only [plI] at hi ⊢
      split
      · rename_i q; simp [q] at hi
      · rename_i q; simp only [q, if_false] at hi; simp only [List.getElem_cons_succ] at e; rw [ih m (by simpa using h) (by omega) e]
theorem plI_miss (L : List Mob) (k : Int) (i : Nat) (h : i < L.length) (hi : i ≤ plI L k) (e : L[i].id ≠ k) : i + 1 ≤ plI L k := by
  induction L generalizing i with
  | nil => simp at h
  | cons p r ih =>
    cases i with
    | zero => simp at e; simp [plI, e]
    | succ m =>
      simp only [plI] at hi ⊢
      split
      · rename_i q; simp [q] at hi
      · rename_i q; simp only [q, if_false] at hi; simp only [List.getElem_cons_succ] at e; have := ih m (by simpa using h) (by omega) e; omega

set_option maxHeartbeats 1000000 in
set_option maxRecDepth 100000 in
theorem place_c (p : Option Addr) (cap : Nat) (id : Int) (L : List Mob) (w : World) (hl : (L.length : Int) ≤ 9223372036854775806) (h : Reads w p L) :
    Calls Tryz.prog 113 #[.slice p L.length cap, .int .i64 id] w fun e w' => e = .returned (.int .i64 (plR L id)) ∧ w' = w := by
  have HR := hide h
  clear h
  go_enter Tryz.func113, Tryz.ntmps113
  go_wp2
  go_loop [5] (fun t => ∃ i : Nat, i ≤ L.length ∧ i ≤ plI L id ∧ t = .int .i64 i) (fun t => L.length - (intOf t).toNat)
  case atStart => exact ⟨0, Nat.zero_le _, Nat.zero_le _, rfl⟩
  case round =>
    obtain ⟨i, hil, hix, rfl⟩ := hrel
    by_cases hlt : i < L.length
    · obtain ⟨b, off, rfl, hb, c0, -⟩ := HR.out.at i hlt
      have hb1 : (0 : Int) ≤ (i : Int) := by omega
      have hb2 : (i : Int) < (L.length : Int) := by omega
      by_cases he : L[i].id = id
      · have H : Hid (plR L id = (i : Int)) := by show _ = _; unfold plR; rw [plI_hit L id i hlt hix he, if_pos hlt]
        have hbe : (L[i].id == id) = true := by simp [he]
        clear he
        go_wp2
        go_ret
        exact ⟨ret1 (by rw [H.out]; rfl), rfl⟩
      · have H : Hid (i + 1 ≤ plI L id) := plI_miss L id i hlt hix he
        have hbe : (L[i].id == id) = false := by simp [he]
        clear he
        go_wp2
        go_round
        case rel => exact ⟨i + 1, by omega, H.out, by go_num⟩
        case measure => simp [intOf]; omega
    · have H : Hid (plR L id = -1) := by show _ = _; unfold plR; rw [if_neg (by omega)]
      go_wp2
      go_ret
      exact ⟨ret1 (by rw [H.out]; rfl), rfl⟩
end Go.Proofs.YtlfmfhmbkpnjbaaGreatDoor
