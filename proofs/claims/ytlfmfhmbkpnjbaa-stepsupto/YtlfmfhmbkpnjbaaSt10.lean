import Derived.Test.YtlfmfhmbkpnjbaaSt9
namespace Go.Proofs.Ytlfmfhmbkpnjbaa
open Ieee

theorem ok_cases {v : Nat} (h : okV v) : (rung v < 2139095040 ∧ Ieee.single.read v = .number (neg v) (mant (rung v)) (expo (rung v))) ∨ (rung v = 2139095040 ∧ Ieee.single.read v = .infinity (neg v)) := by
  rcases Nat.lt_or_eq_of_le ((ok_iff v).1 h) with q | q
  · exact Or.inl ⟨q, read_mant v q⟩
  · exact Or.inr ⟨q, read_inf v q⟩

/-- The rung of a square, by the rung. -/
def sqR (r : Nat) : Nat := if r < 2139095040 then rungOf (mant r * mant r) (expo r + expo r) else 2139095040
theorem sqR_le (r : Nat) : sqR r ≤ 2139095040 := by unfold sqR; split; exact rungOf_le _ _; omega

theorem sq_any {v : Nat} (h : okV v) : fmul v v = Ieee.single.word false (sqR (rung v)) ∧ floatBits .mul .f32 v v = some (fmul v v) ∧ okV (fmul v v) := by
  have key : Ieee.single.mul v v = some (Ieee.single.word false (sqR (rung v))) := by
    unfold Format.mul sqR
    rcases ok_cases h with ⟨q, e⟩ | ⟨q, e⟩
    · rw [e, if_pos q]
      show some (Ieee.single.nearest (neg v ^^ neg v) _ _) = _
      rw [Bool.xor_self, nearest_rung]
    · rw [e, if_neg (by omega)]
      show some (Ieee.single.word (neg v ^^ neg v) _) = _
      rw [Bool.xor_self, inf_single]
  have hf : fmul v v = Ieee.single.word false (sqR (rung v)) := by unfold fmul; rw [key]; rfl
  refine ⟨hf, ?_, ?_⟩
  · show Ieee.single.mul v v = _
    rw [key, hf]
  · rw [hf, ok_iff, rung_word _ _ (sqR_le _)]; exact sqR_le _

theorem sqR_mono {u v : Nat} (hu : rung u < 2139095040) (hv : okV v) (h : rung u ≤ rung v) : sqR (rung u) ≤ sqR (rung v) := by
  rcases ok_cases hv with ⟨q, _⟩ | ⟨q, _⟩
  · have hle := val_mono hu q h
    unfold sqR
    rw [if_pos hu, if_pos q]
    apply rung_mono
    have h0 := hle (min (expo (rung u)) (expo (rung v))) (by omega) (by omega)
    refine leV_of (min (expo (rung u)) (expo (rung v)) + min (expo (rung u)) (expo (rung v))) (by omega) (by omega) ?_
    have h1 := Nat.mul_le_mul h0 h0
    rw [show ∀ a b : Nat, a * 2 ^ b * (a * 2 ^ b) = a * a * (2 ^ b * 2 ^ b) from fun a b => by rw [Nat.mul_mul_mul_comm], ← Nat.pow_add, show ∀ a b : Nat, a * 2 ^ b * (a * 2 ^ b) = a * a * (2 ^ b * 2 ^ b) from fun a b => by rw [Nat.mul_mul_mul_comm], ← Nat.pow_add] at h1
    rw [show (expo (rung u) + expo (rung u) - (min (expo (rung u)) (expo (rung v)) + min (expo (rung u)) (expo (rung v)))).toNat = (expo (rung u) - min (expo (rung u)) (expo (rung v))).toNat + (expo (rung u) - min (expo (rung u)) (expo (rung v))).toNat from by omega,
      show (expo (rung v) + expo (rung v) - (min (expo (rung u)) (expo (rung v)) + min (expo (rung u)) (expo (rung v)))).toNat = (expo (rung v) - min (expo (rung u)) (expo (rung v))).toNat + (expo (rung v) - min (expo (rung u)) (expo (rung v))).toNat from by omega]
    exact h1
  · unfold sqR
    rw [if_pos hu, if_neg (by omega)]
    exact rungOf_le _ _

/-- A difference. -/
theorem sub_any {x y : Nat} (hx : isNum x) (hy : isNum y) : floatBits .sub .f32 x y = some (fsub x y) ∧ okV (fsub x y) ∧
    rung (fsub x y) = rungOf (sg (neg x) (mant (rung x) * 2 ^ (expo (rung x) - min (expo (rung x)) (expo (rung y))).toNat) + sg (!neg y) (mant (rung y) * 2 ^ (expo (rung y) - min (expo (rung x)) (expo (rung y))).toNat)).natAbs (min (expo (rung x)) (expo (rung y))) := by
  have h1 := (num_iff x).1 hx
  have h2 := (num_iff y).1 hy
  have key : ∃ s, Ieee.single.sub x y = some (Ieee.single.nearest s (sg (neg x) (mant (rung x) * 2 ^ (expo (rung x) - min (expo (rung x)) (expo (rung y))).toNat) + sg (!neg y) (mant (rung y) * 2 ^ (expo (rung y) - min (expo (rung x)) (expo (rung y))).toNat)).natAbs (min (expo (rung x)) (expo (rung y)))) := by
    unfold Format.sub
    rw [read_mant x h1, read_mant y h2, ← signed_sg, ← signed_sg]
    exact ⟨_, rfl⟩
  obtain ⟨s, hs⟩ := key
  generalize (sg (neg x) (mant (rung x) * 2 ^ (expo (rung x) - min (expo (rung x)) (expo (rung y))).toNat) + sg (!neg y) (mant (rung y) * 2 ^ (expo (rung y) - min (expo (rung x)) (expo (rung y))).toNat)).natAbs = T at *
  generalize min (expo (rung x)) (expo (rung y)) = b at *
  have hf : fsub x y = Ieee.single.nearest s T b := by unfold fsub; rw [hs]; rfl
  refine ⟨?_, by rw [hf]; exact ok_nearest _ _ _, ?_⟩
  · show Ieee.single.sub x y = _
    rw [hs, hf]
  · rw [hf, nearest_rung, rung_word _ _ (rungOf_le _ _)]

theorem sub_swap {x y : Nat} (hx : isNum x) (hy : isNum y) : rung (fsub x y) = rung (fsub y x) := by
  obtain ⟨_, _, r1⟩ := sub_any hx hy
  obtain ⟨_, _, r2⟩ := sub_any hy hx
  rw [r1, r2, show min (expo (rung y)) (expo (rung x)) = min (expo (rung x)) (expo (rung y)) from by omega]
  congr 1
  generalize mant (rung x) * 2 ^ (expo (rung x) - min (expo (rung x)) (expo (rung y))).toNat = A
  generalize mant (rung y) * 2 ^ (expo (rung y) - min (expo (rung x)) (expo (rung y))).toNat = C
  cases neg x <;> cases neg y <;> simp only [sg, Bool.not_true, Bool.not_false, if_true, if_false, Bool.false_eq_true] <;> omega

/-- A sum of two that are not below zero. -/
theorem add_pos {r q : Nat} (hr : r ≤ 2139095040) (hq : q ≤ 2139095040) : floatBits .add .f32 (Ieee.single.word false r) (Ieee.single.word false q) = some (fadd (Ieee.single.word false r) (Ieee.single.word false q)) ∧ okV (fadd (Ieee.single.word false r) (Ieee.single.word false q)) := by
  have o1 : okV (Ieee.single.word false r) := by rw [ok_iff, rung_word _ _ hr]; exact hr
  have o2 : okV (Ieee.single.word false q) := by rw [ok_iff, rung_word _ _ hq]; exact hq
  have key : ∃ d, (Ieee.single.read (Ieee.single.word false r)).sum (Ieee.single.read (Ieee.single.word false q)) = some d ∧ d.isNaN = false := by
    rcases ok_cases o1 with ⟨_, e⟩ | ⟨_, e⟩ <;> rcases ok_cases o2 with ⟨_, f⟩ | ⟨_, f⟩ <;> rw [e, f]
    · exact ⟨_, rfl, rfl⟩
    · exact ⟨_, rfl, rfl⟩
    · exact ⟨_, rfl, rfl⟩
    · rw [neg_word _ _ hr, neg_word _ _ hq]
      exact ⟨.infinity false, rfl, rfl⟩
  obtain ⟨d, h1, h2⟩ := key
  have : Ieee.single.add (Ieee.single.word false r) (Ieee.single.word false q) = some (Ieee.single.write d) := by unfold Format.add; rw [h1]; rfl
  have e : fadd (Ieee.single.word false r) (Ieee.single.word false q) = Ieee.single.write d := by unfold fadd; rw [this]; rfl
  exact ⟨by rw [e]; exact this, by rw [e]; exact ok_write h2⟩

/-! float64(x) of a float32. -/
theorem inf_double : Ieee.double.infRung = 9218868437227405312 := by decide
theorem sign_double : Ieee.double.signWeight = 9223372036854775808 := by decide
theorem bin_double : Ieee.double.binade = 4503599627370496 := by decide
theorem least_double : Ieee.double.leastPlace = -1074 := by decide

theorem mod_double (s : Bool) (r : Nat) (h : r ≤ 9218868437227405312) : Ieee.double.word s r % 9223372036854775808 = r := by
  unfold Format.word
  rw [sign_double]
  split <;> omega

theorem double_word (s : Bool) (r : Nat) (h : r ≤ 9218868437227405312) : (Ieee.double.read (Ieee.double.word s r)).isNaN = false ∧ (r < 9218868437227405312 → (Ieee.double.read (Ieee.double.word s r)).isInfinity = false) := by
  unfold Format.read
  rw [bin_double, inf_double, sign_double, mod_double s r h]
  simp only
  by_cases h1 : r < 4503599627370496
  · rw [if_pos h1]; exact ⟨rfl, fun _ => rfl⟩
  · rw [if_neg h1]
    by_cases h2 : r < 9218868437227405312
    · rw [if_pos h2]; exact ⟨rfl, fun _ => rfl⟩
    · rw [if_neg h2, if_pos (by omega)]; exact ⟨rfl, fun e => absurd e h2⟩

theorem double_near (s : Bool) (m : Nat) (e : Int) (hm : m ≤ 16777215) (he : e ≤ 104) : ∃ r, Ieee.double.nearest s m e = Ieee.double.word s r ∧ r < 9218868437227405312 := by
  unfold Format.nearest
  split
  · exact ⟨0, rfl, by decide⟩
  · rename_i h0
    refine ⟨_, rfl, ?_⟩
    rw [inf_double, bin_double, least_double]
    have hlog : m.log2 < 24 := (Nat.log2_lt h0).2 (Nat.lt_of_le_of_lt hm (by decide))
    have hfb : (Ieee.double.fractionBits : Int) = 52 := rfl
    rw [hfb]
    generalize hl : max (e + (m.log2 : Int) - 52) (-1074) = l
    have hl2 : l ≤ 75 := by omega
    have hl3 : -1074 ≤ l := by omega
    have hk : Toward.even.cut s (m <<< (e - l).toNat) (l - e).toNat ≤ 9007199254740992 := by
      have : Toward.even.cut s (m <<< (e - l).toNat) (l - e).toNat ≤ Toward.even.cut false (2 ^ 53) 0 := by
        apply cut_mono
        rw [Nat.shiftLeft_eq, Nat.pow_zero, Nat.mul_one, ← Nat.pow_add]
        have hlt : m < 2 ^ (m.log2 + 1) := Nat.lt_log2_self
        exact Nat.le_trans (Nat.mul_le_mul_right _ (Nat.le_of_lt hlt)) (by rw [← Nat.pow_add]; exact Nat.pow_le_pow_right (by decide) (by omega))
      rw [cut_zero] at this
      exact this
    omega

theorem conv_ok {v : Nat} (h : okV v) : ∃ r, floatToFloatBits .f32 v .f64 = some r ∧ (FloatKind.f64.format.order r r != some .eq) = false := by
  have ord : ∀ d : Nat, (Ieee.double.read d).isNaN = false → (FloatKind.f64.format.order d d != some .eq) = false := by
    intro d hd
    have : FloatKind.f64.format.order d d = some .eq := by
      show (Ieee.double.read d).order (Ieee.double.read d) = _
      cases hr : Ieee.double.read d with
      | number s m i => simp [Datum.order]
      | infinity s => simp [Datum.order]
      | nan s t => rw [hr] at hd; cases hd
    rw [this]; rfl
  unfold floatToFloatBits
  rw [if_neg (by decide)]
  rcases ok_cases h with ⟨q, e⟩ | ⟨q, e⟩
  · obtain ⟨m, e', hr, _, h1, h2, h3⟩ := read_num v q
    have hd : FloatKind.f32.decode v = .number (neg v) m e' := hr
    rw [hd]
    obtain ⟨r, hn, hlt⟩ := double_near (neg v) m e' h3 h2
    have he : FloatKind.f64.encode (.number (neg v) m e') = Ieee.double.word (neg v) r := hn
    have hw := double_word (neg v) r (by omega)
    simp only [he]
    have hi : (FloatKind.f64.decode (Ieee.double.word (neg v) r)).isInfinity = false := hw.2 hlt
    rw [hi]
    exact ⟨_, rfl, ord _ hw.1⟩
  · have hd : FloatKind.f32.decode v = .infinity (neg v) := e
    rw [hd]
    have he : FloatKind.f64.encode (.infinity (neg v)) = Ieee.double.word (neg v) 9218868437227405312 := by
      show Ieee.double.word (neg v) Ieee.double.infRung = _
      rw [inf_double]
    refine ⟨_, rfl, ?_⟩
    rw [he]
    exact ord _ (double_word (neg v) _ (Nat.le_refl _)).1
end Go.Proofs.Ytlfmfhmbkpnjbaa

namespace Go.Proofs.Ytlfmfhmbkpnjbaa
open Go.RowKit

theorem nan32 (t : Nat) : ¬ okV ((t % 2) * 2 ^ 31 + 0x7f800000 + 1 + (t / 2) % (2 ^ 23 - 1)) := by
  rw [ok_iff]
  unfold rung
  have h1 : t % 2 < 2 := Nat.mod_lt _ (by decide)
  have h2 : (t / 2) % (2 ^ 23 - 1) < 2 ^ 23 - 1 := Nat.mod_lt _ (by decide)
  generalize t % 2 = a at *
  generalize (t / 2) % (2 ^ 23 - 1) = b at *
  have e31 : (2 : Nat) ^ 31 = 2147483648 := by decide
  have e23 : (2 : Nat) ^ 23 = 8388608 := by decide
  rw [e31]
  rw [e23] at h2
  omega

theorem nan_ord {v c : Nat} (h : ¬ okV v) : FloatKind.f32.format.order v c = none := by
  show (Ieee.single.read v).order (Ieee.single.read c) = none
  unfold okV at h
  cases hr : Ieee.single.read v with
  | number s m e => rw [hr] at h; exact absurd rfl h
  | infinity s => rw [hr] at h; exact absurd rfl h
  | nan s t => rfl

/-- An operation that has no answer draws a NaN. -/
theorem run_float_nan (op : BinOp) (hop : op = .sub ∨ op = .add ∨ op = .mul) (x y : Nat) (h : floatBits op .f32 x y = none) (w : World) : ∃ r, ¬ okV r ∧ (binOp op 54 (.float .f32 x) (.float .f32 y)).run Try.prog w = .ok (.float .f32 r) w.drew := by
  refine ⟨_, nan32 (w.tape w.drawn (.nanBits .f32 x y)), ?_⟩
  unfold floatBits at h
  rcases hop with rfl | rfl | rfl <;> simp only at h <;> simp [binOp, Op.floatArith, h, Question.forced, Question.cut]

theorem sub_none {v : Nat} (h : ¬ isNum v) : floatBits .sub .f32 v v = none := by
  show Ieee.single.sub v v = none
  unfold Ieee.Format.sub
  cases hr : Ieee.single.read v with
  | number s m e => exact absurd ⟨s, m, e, hr⟩ h
  | infinity s => cases s <;> rfl
  | nan s t => rfl

theorem sub_self {v : Nat} (h : isNum v) : floatBits .sub .f32 v v = some (fsub v v) ∧ (FloatKind.f32.format.order (fsub v v) 0 == some .eq) = true := by
  obtain ⟨h1, h2, h3⟩ := sub_any h h
  refine ⟨h1, ?_⟩
  have hr : rung (fsub v v) = 0 := by
    rw [h3]
    have : sg (neg v) (mant (rung v) * 2 ^ (expo (rung v) - min (expo (rung v)) (expo (rung v))).toNat) + sg (!neg v) (mant (rung v) * 2 ^ (expo (rung v) - min (expo (rung v)) (expo (rung v))).toNat) = 0 := by
      cases neg v <;> simp [sg] <;> omega
    rw [this]
    exact rungOf_zero _
  apply ford_beq
  rw [ford_key h2 num_zero.ok]
  have : key (fsub v v) = 0 := by unfold key sg; rw [hr]; split <;> rfl
  rw [this, show key 0 = 0 from by decide]; rfl

theorem fin_iff (v : Nat) : finB v = true ↔ isNum v := ⟨fin_num, num_fin⟩

set_option maxHeartbeats 400000 in
theorem rfits_c (x b : Nat) (w : World) : Calls Try.prog 81 #[.float .f32 x, .float .f32 b] w fun e w' => e = .returned (.bool (fitsB x b)) ∧ w' = w := by
  have hn := run_neg Try.prog b w
  cases h1 : fge x (Op.negFloat .f32 b)
  · have H : Hid (fitsB x b = false) := by show fitsB x b = false; simp [fitsB, h1]
    unfold fge ford at h1
    go_enter Try.func81, Try.ntmps81
    go_wp2
    go_ret
    exact ⟨ret1 (by rw [H.out]; rfl), rfl⟩
  · cases h2 : fle x b
    · have H : Hid (fitsB x b = false) := by show fitsB x b = false; simp [fitsB, h2]
      unfold fge ford at h1
      unfold fle ford at h2
      go_enter Try.func81, Try.ntmps81
      go_wp2
      go_ret
      exact ⟨ret1 (by rw [H.out]; rfl), rfl⟩
    · have H : Hid (fitsB x b = true) := by show fitsB x b = true; simp [fitsB, h1, h2]
      unfold fge ford at h1
      unfold fle ford at h2
      go_enter Try.func81, Try.ntmps81
      go_wp2
      go_ret
      exact ⟨ret1 (by rw [H.out]; rfl), rfl⟩

set_option maxHeartbeats 400000 in
theorem rfinite_c (v : Nat) (w : World) : Calls Try.prog 92 #[.float .f32 v] w fun e w' => e = .returned (.bool (finB v)) ∧ Kept (fun _ => False) w w' := by
  by_cases h : isNum v
  · obtain ⟨h1, h2⟩ := sub_self h
    have r : (binOp .sub 54 (.float .f32 v) (.float .f32 v)).run Try.prog w = .ok (.float .f32 (fsub v v)) w := run_float_arith w .sub _ .f32 _ _ _ h1
    have H := hide (num_fin h)
    go_enter Try.func92, Try.ntmps92
    go_wp2
    go_ret
    exact ⟨ret1 (by rw [H.out]; rfl), Kept.refl _ _⟩
  · obtain ⟨r, hr, hrun⟩ := run_float_nan .sub (Or.inl rfl) v v (sub_none h) w
    have H : Hid (finB v = false) := by
      show _ = _
      cases hf : finB v
      · rfl
      · exact absurd (fin_num hf) h
    have ho : (FloatKind.f32.format.order r 0 == some .eq) = false := by rw [nan_ord hr]; rfl
    go_enter Try.func92, Try.ntmps92
    go_wp2
    go_ret
    exact ⟨ret1 (by rw [H.out]; rfl), Kept.drew _⟩

def refB (m : Mob) : Bool := fitsB m.x 1148846080 && fitsB m.y 1148846080
theorem mobB_ref (m : Mob) : mobB m = (refB m && finB m.vx && finB m.vy && decide (0 ≤ m.id) && decide (m.id ≤ 31) && decide (0 ≤ m.team) && decide (m.team ≤ 1) && decide (1 ≤ m.health) && decide (m.health ≤ 100)) := by
  unfold mobB refB placeB idB teamB
  have ht : (decide (m.team = 0) || decide (m.team = 1)) = (decide (0 ≤ m.team) && decide (m.team ≤ 1)) := by
    rw [Bool.eq_iff_iff]
    simp only [Bool.or_eq_true, Bool.and_eq_true, decide_eq_true_eq]
    omega
  rw [ht]
  cases decide (0 ≤ m.id) <;> cases decide (m.id ≤ 31) <;> cases decide (0 ≤ m.team) <;> cases decide (m.team ≤ 1) <;> cases fitsB m.x 1148846080 <;> cases fitsB m.y 1148846080 <;> cases finB m.vx <;> cases finB m.vy <;> rfl

set_option maxHeartbeats 2000000 in
set_option maxRecDepth 100000 in
theorem entityOK_c (m : Mob) (w : World) : Calls Try.prog 79 #[.agg #[.int .i64 m.id, .int .i64 m.team, .float .f32 m.x, .float .f32 m.y, .float .f32 m.vx, .float .f32 m.vy, .int .i64 m.health]] w fun e w' => e = .returned (.bool (mobB m)) ∧ Kept (fun _ => False) w w' := by
  have K0 := hide (Kept.alloc w (.cells #[.int .i64 m.id, .int .i64 m.team, .float .f32 m.x, .float .f32 m.y, .float .f32 m.vx, .float .f32 m.vy, .int .i64 m.health] 57))
  have HB := hide (heap_alloc_new w (.cells #[.int .i64 m.id, .int .i64 m.team, .float .f32 m.x, .float .f32 m.y, .float .f32 m.vx, .float .f32 m.vy, .int .i64 m.health] 57))
  cases hx : fitsB m.x 1148846080
  · skip
    have H : Hid (mobB m = false) := by show _ = _; rw [mobB_ref]; simp [refB, hx]
    go_enter Try.func79, Try.ntmps79
    go_wp2_with fail
    refine (rfits_c _ _ _).mono ?_
    rintro e w' ⟨rfl, rfl⟩
    go_wp2_with fail
    refine (rfinite_c _ _).mono ?_
    rintro e w1 ⟨rfl, q1⟩
    have HB1 := hide (show w1.heap[w.heap.size]? = some (.cells #[.int .i64 m.id, .int .i64 m.team, .float .f32 m.x, .float .f32 m.y, .float .f32 m.vx, .float .f32 m.vy, .int .i64 m.health] 57 (0, 0)) by rw [q1.block _ (heap_lt HB.out) (fun e => e)]; exact HB.out)
    have K1 := hide (K0.out.calm2 q1)
    obtain ⟨c0, c1, c2, c3, c4, c5, c6⟩ := seven_cells HB1.out
    clear q1
    go_wp2_with fail
    refine (rfinite_c _ _).mono ?_
    rintro e w2 ⟨rfl, q2⟩
    have HB2 := hide (show w2.heap[w.heap.size]? = some (.cells #[.int .i64 m.id, .int .i64 m.team, .float .f32 m.x, .float .f32 m.y, .float .f32 m.vx, .float .f32 m.vy, .int .i64 m.health] 57 (0, 0)) by rw [q2.block _ (heap_lt HB1.out) (fun e => e)]; exact HB1.out)
    have K2 := hide (K1.out.calm2 q2)
    clear c0 c1 c2 c3 c4 c5 c6
    obtain ⟨c0, c1, c2, c3, c4, c5, c6⟩ := seven_cells HB2.out
    clear q2
    go_wp2
    go_ret
    exact ⟨ret1 (by rw [H.out]; rfl), K2.out⟩
  cases hy : fitsB m.y 1148846080
  · skip
    have H : Hid (mobB m = false) := by show _ = _; rw [mobB_ref]; simp [refB, hx, hy]
    go_enter Try.func79, Try.ntmps79
    go_wp2_with fail
    refine (rfits_c _ _ _).mono ?_
    rintro e w' ⟨rfl, rfl⟩
    go_wp2_with fail
    refine (rfits_c _ _ _).mono ?_
    rintro e w' ⟨rfl, rfl⟩
    go_wp2_with fail
    refine (rfinite_c _ _).mono ?_
    rintro e w1 ⟨rfl, q1⟩
    have HB1 := hide (show w1.heap[w.heap.size]? = some (.cells #[.int .i64 m.id, .int .i64 m.team, .float .f32 m.x, .float .f32 m.y, .float .f32 m.vx, .float .f32 m.vy, .int .i64 m.health] 57 (0, 0)) by rw [q1.block _ (heap_lt HB.out) (fun e => e)]; exact HB.out)
    have K1 := hide (K0.out.calm2 q1)
    obtain ⟨c0, c1, c2, c3, c4, c5, c6⟩ := seven_cells HB1.out
    clear q1
    go_wp2_with fail
    refine (rfinite_c _ _).mono ?_
    rintro e w2 ⟨rfl, q2⟩
    have HB2 := hide (show w2.heap[w.heap.size]? = some (.cells #[.int .i64 m.id, .int .i64 m.team, .float .f32 m.x, .float .f32 m.y, .float .f32 m.vx, .float .f32 m.vy, .int .i64 m.health] 57 (0, 0)) by rw [q2.block _ (heap_lt HB1.out) (fun e => e)]; exact HB1.out)
    have K2 := hide (K1.out.calm2 q2)
    clear c0 c1 c2 c3 c4 c5 c6
    obtain ⟨c0, c1, c2, c3, c4, c5, c6⟩ := seven_cells HB2.out
    clear q2
    go_wp2
    go_ret
    exact ⟨ret1 (by rw [H.out]; rfl), K2.out⟩
  cases h0 : finB m.vx
  · skip
    have H : Hid (mobB m = false) := by show _ = _; rw [mobB_ref]; simp [refB, hx, hy, h0]
    go_enter Try.func79, Try.ntmps79
    go_wp2_with fail
    refine (rfits_c _ _ _).mono ?_
    rintro e w' ⟨rfl, rfl⟩
    go_wp2_with fail
    refine (rfits_c _ _ _).mono ?_
    rintro e w' ⟨rfl, rfl⟩
    go_wp2_with fail
    refine (rfinite_c _ _).mono ?_
    rintro e w1 ⟨rfl, q1⟩
    have HB1 := hide (show w1.heap[w.heap.size]? = some (.cells #[.int .i64 m.id, .int .i64 m.team, .float .f32 m.x, .float .f32 m.y, .float .f32 m.vx, .float .f32 m.vy, .int .i64 m.health] 57 (0, 0)) by rw [q1.block _ (heap_lt HB.out) (fun e => e)]; exact HB.out)
    have K1 := hide (K0.out.calm2 q1)
    obtain ⟨c0, c1, c2, c3, c4, c5, c6⟩ := seven_cells HB1.out
    clear q1
    go_wp2_with fail
    refine (rfinite_c _ _).mono ?_
    rintro e w2 ⟨rfl, q2⟩
    have HB2 := hide (show w2.heap[w.heap.size]? = some (.cells #[.int .i64 m.id, .int .i64 m.team, .float .f32 m.x, .float .f32 m.y, .float .f32 m.vx, .float .f32 m.vy, .int .i64 m.health] 57 (0, 0)) by rw [q2.block _ (heap_lt HB1.out) (fun e => e)]; exact HB1.out)
    have K2 := hide (K1.out.calm2 q2)
    clear c0 c1 c2 c3 c4 c5 c6
    obtain ⟨c0, c1, c2, c3, c4, c5, c6⟩ := seven_cells HB2.out
    clear q2
    go_wp2
    go_ret
    exact ⟨ret1 (by rw [H.out]; rfl), K2.out⟩
  cases h1 : finB m.vy
  · skip
    have H : Hid (mobB m = false) := by show _ = _; rw [mobB_ref]; simp [refB, hx, hy, h0, h1]
    go_enter Try.func79, Try.ntmps79
    go_wp2_with fail
    refine (rfits_c _ _ _).mono ?_
    rintro e w' ⟨rfl, rfl⟩
    go_wp2_with fail
    refine (rfits_c _ _ _).mono ?_
    rintro e w' ⟨rfl, rfl⟩
    go_wp2_with fail
    refine (rfinite_c _ _).mono ?_
    rintro e w1 ⟨rfl, q1⟩
    have HB1 := hide (show w1.heap[w.heap.size]? = some (.cells #[.int .i64 m.id, .int .i64 m.team, .float .f32 m.x, .float .f32 m.y, .float .f32 m.vx, .float .f32 m.vy, .int .i64 m.health] 57 (0, 0)) by rw [q1.block _ (heap_lt HB.out) (fun e => e)]; exact HB.out)
    have K1 := hide (K0.out.calm2 q1)
    obtain ⟨c0, c1, c2, c3, c4, c5, c6⟩ := seven_cells HB1.out
    clear q1
    go_wp2_with fail
    refine (rfinite_c _ _).mono ?_
    rintro e w2 ⟨rfl, q2⟩
    have HB2 := hide (show w2.heap[w.heap.size]? = some (.cells #[.int .i64 m.id, .int .i64 m.team, .float .f32 m.x, .float .f32 m.y, .float .f32 m.vx, .float .f32 m.vy, .int .i64 m.health] 57 (0, 0)) by rw [q2.block _ (heap_lt HB1.out) (fun e => e)]; exact HB1.out)
    have K2 := hide (K1.out.calm2 q2)
    clear c0 c1 c2 c3 c4 c5 c6
    obtain ⟨c0, c1, c2, c3, c4, c5, c6⟩ := seven_cells HB2.out
    clear q2
    go_wp2
    go_ret
    exact ⟨ret1 (by rw [H.out]; rfl), K2.out⟩
  cases h2 : decide (0 ≤ m.id)
  · skip
    have H : Hid (mobB m = false) := by show _ = _; rw [mobB_ref]; simp [refB, hx, hy, h0, h1, h2]
    have h2 := of_decide_eq_false h2
    go_enter Try.func79, Try.ntmps79
    go_wp2_with fail
    refine (rfits_c _ _ _).mono ?_
    rintro e w' ⟨rfl, rfl⟩
    go_wp2_with fail
    refine (rfits_c _ _ _).mono ?_
    rintro e w' ⟨rfl, rfl⟩
    go_wp2_with fail
    refine (rfinite_c _ _).mono ?_
    rintro e w1 ⟨rfl, q1⟩
    have HB1 := hide (show w1.heap[w.heap.size]? = some (.cells #[.int .i64 m.id, .int .i64 m.team, .float .f32 m.x, .float .f32 m.y, .float .f32 m.vx, .float .f32 m.vy, .int .i64 m.health] 57 (0, 0)) by rw [q1.block _ (heap_lt HB.out) (fun e => e)]; exact HB.out)
    have K1 := hide (K0.out.calm2 q1)
    obtain ⟨c0, c1, c2, c3, c4, c5, c6⟩ := seven_cells HB1.out
    clear q1
    go_wp2_with fail
    refine (rfinite_c _ _).mono ?_
    rintro e w2 ⟨rfl, q2⟩
    have HB2 := hide (show w2.heap[w.heap.size]? = some (.cells #[.int .i64 m.id, .int .i64 m.team, .float .f32 m.x, .float .f32 m.y, .float .f32 m.vx, .float .f32 m.vy, .int .i64 m.health] 57 (0, 0)) by rw [q2.block _ (heap_lt HB1.out) (fun e => e)]; exact HB1.out)
    have K2 := hide (K1.out.calm2 q2)
    clear c0 c1 c2 c3 c4 c5 c6
    obtain ⟨c0, c1, c2, c3, c4, c5, c6⟩ := seven_cells HB2.out
    clear q2
    go_wp2
    go_ret
    exact ⟨ret1 (by rw [H.out]; rfl), K2.out⟩
  cases h3 : decide (m.id ≤ 31)
  · skip
    have H : Hid (mobB m = false) := by show _ = _; rw [mobB_ref]; simp [refB, hx, hy, h0, h1, h2, h3]
    have h2 := of_decide_eq_true h2
    have h3 := of_decide_eq_false h3
    go_enter Try.func79, Try.ntmps79
    go_wp2_with fail
    refine (rfits_c _ _ _).mono ?_
    rintro e w' ⟨rfl, rfl⟩
    go_wp2_with fail
    refine (rfits_c _ _ _).mono ?_
    rintro e w' ⟨rfl, rfl⟩
    go_wp2_with fail
    refine (rfinite_c _ _).mono ?_
    rintro e w1 ⟨rfl, q1⟩
    have HB1 := hide (show w1.heap[w.heap.size]? = some (.cells #[.int .i64 m.id, .int .i64 m.team, .float .f32 m.x, .float .f32 m.y, .float .f32 m.vx, .float .f32 m.vy, .int .i64 m.health] 57 (0, 0)) by rw [q1.block _ (heap_lt HB.out) (fun e => e)]; exact HB.out)
    have K1 := hide (K0.out.calm2 q1)
    obtain ⟨c0, c1, c2, c3, c4, c5, c6⟩ := seven_cells HB1.out
    clear q1
    go_wp2_with fail
    refine (rfinite_c _ _).mono ?_
    rintro e w2 ⟨rfl, q2⟩
    have HB2 := hide (show w2.heap[w.heap.size]? = some (.cells #[.int .i64 m.id, .int .i64 m.team, .float .f32 m.x, .float .f32 m.y, .float .f32 m.vx, .float .f32 m.vy, .int .i64 m.health] 57 (0, 0)) by rw [q2.block _ (heap_lt HB1.out) (fun e => e)]; exact HB1.out)
    have K2 := hide (K1.out.calm2 q2)
    clear c0 c1 c2 c3 c4 c5 c6
    obtain ⟨c0, c1, c2, c3, c4, c5, c6⟩ := seven_cells HB2.out
    clear q2
    go_wp2
    go_ret
    exact ⟨ret1 (by rw [H.out]; rfl), K2.out⟩
  cases h4 : decide (0 ≤ m.team)
  · skip
    have H : Hid (mobB m = false) := by show _ = _; rw [mobB_ref]; simp [refB, hx, hy, h0, h1, h2, h3, h4]
    have h2 := of_decide_eq_true h2
    have h3 := of_decide_eq_true h3
    have h4 := of_decide_eq_false h4
    go_enter Try.func79, Try.ntmps79
    go_wp2_with fail
    refine (rfits_c _ _ _).mono ?_
    rintro e w' ⟨rfl, rfl⟩
    go_wp2_with fail
    refine (rfits_c _ _ _).mono ?_
    rintro e w' ⟨rfl, rfl⟩
    go_wp2_with fail
    refine (rfinite_c _ _).mono ?_
    rintro e w1 ⟨rfl, q1⟩
    have HB1 := hide (show w1.heap[w.heap.size]? = some (.cells #[.int .i64 m.id, .int .i64 m.team, .float .f32 m.x, .float .f32 m.y, .float .f32 m.vx, .float .f32 m.vy, .int .i64 m.health] 57 (0, 0)) by rw [q1.block _ (heap_lt HB.out) (fun e => e)]; exact HB.out)
    have K1 := hide (K0.out.calm2 q1)
    obtain ⟨c0, c1, c2, c3, c4, c5, c6⟩ := seven_cells HB1.out
    clear q1
    go_wp2_with fail
    refine (rfinite_c _ _).mono ?_
    rintro e w2 ⟨rfl, q2⟩
    have HB2 := hide (show w2.heap[w.heap.size]? = some (.cells #[.int .i64 m.id, .int .i64 m.team, .float .f32 m.x, .float .f32 m.y, .float .f32 m.vx, .float .f32 m.vy, .int .i64 m.health] 57 (0, 0)) by rw [q2.block _ (heap_lt HB1.out) (fun e => e)]; exact HB1.out)
    have K2 := hide (K1.out.calm2 q2)
    clear c0 c1 c2 c3 c4 c5 c6
    obtain ⟨c0, c1, c2, c3, c4, c5, c6⟩ := seven_cells HB2.out
    clear q2
    go_wp2
    go_ret
    exact ⟨ret1 (by rw [H.out]; rfl), K2.out⟩
  cases h5 : decide (m.team ≤ 1)
  · skip
    have H : Hid (mobB m = false) := by show _ = _; rw [mobB_ref]; simp [refB, hx, hy, h0, h1, h2, h3, h4, h5]
    have h2 := of_decide_eq_true h2
    have h3 := of_decide_eq_true h3
    have h4 := of_decide_eq_true h4
    have h5 := of_decide_eq_false h5
    go_enter Try.func79, Try.ntmps79
    go_wp2_with fail
    refine (rfits_c _ _ _).mono ?_
    rintro e w' ⟨rfl, rfl⟩
    go_wp2_with fail
    refine (rfits_c _ _ _).mono ?_
    rintro e w' ⟨rfl, rfl⟩
    go_wp2_with fail
    refine (rfinite_c _ _).mono ?_
    rintro e w1 ⟨rfl, q1⟩
    have HB1 := hide (show w1.heap[w.heap.size]? = some (.cells #[.int .i64 m.id, .int .i64 m.team, .float .f32 m.x, .float .f32 m.y, .float .f32 m.vx, .float .f32 m.vy, .int .i64 m.health] 57 (0, 0)) by rw [q1.block _ (heap_lt HB.out) (fun e => e)]; exact HB.out)
    have K1 := hide (K0.out.calm2 q1)
    obtain ⟨c0, c1, c2, c3, c4, c5, c6⟩ := seven_cells HB1.out
    clear q1
    go_wp2_with fail
    refine (rfinite_c _ _).mono ?_
    rintro e w2 ⟨rfl, q2⟩
    have HB2 := hide (show w2.heap[w.heap.size]? = some (.cells #[.int .i64 m.id, .int .i64 m.team, .float .f32 m.x, .float .f32 m.y, .float .f32 m.vx, .float .f32 m.vy, .int .i64 m.health] 57 (0, 0)) by rw [q2.block _ (heap_lt HB1.out) (fun e => e)]; exact HB1.out)
    have K2 := hide (K1.out.calm2 q2)
    clear c0 c1 c2 c3 c4 c5 c6
    obtain ⟨c0, c1, c2, c3, c4, c5, c6⟩ := seven_cells HB2.out
    clear q2
    go_wp2
    go_ret
    exact ⟨ret1 (by rw [H.out]; rfl), K2.out⟩
  cases h6 : decide (1 ≤ m.health)
  · skip
    have H : Hid (mobB m = false) := by show _ = _; rw [mobB_ref]; simp [refB, hx, hy, h0, h1, h2, h3, h4, h5, h6]
    have h2 := of_decide_eq_true h2
    have h3 := of_decide_eq_true h3
    have h4 := of_decide_eq_true h4
    have h5 := of_decide_eq_true h5
    have h6 := of_decide_eq_false h6
    go_enter Try.func79, Try.ntmps79
    go_wp2_with fail
    refine (rfits_c _ _ _).mono ?_
    rintro e w' ⟨rfl, rfl⟩
    go_wp2_with fail
    refine (rfits_c _ _ _).mono ?_
    rintro e w' ⟨rfl, rfl⟩
    go_wp2_with fail
    refine (rfinite_c _ _).mono ?_
    rintro e w1 ⟨rfl, q1⟩
    have HB1 := hide (show w1.heap[w.heap.size]? = some (.cells #[.int .i64 m.id, .int .i64 m.team, .float .f32 m.x, .float .f32 m.y, .float .f32 m.vx, .float .f32 m.vy, .int .i64 m.health] 57 (0, 0)) by rw [q1.block _ (heap_lt HB.out) (fun e => e)]; exact HB.out)
    have K1 := hide (K0.out.calm2 q1)
    obtain ⟨c0, c1, c2, c3, c4, c5, c6⟩ := seven_cells HB1.out
    clear q1
    go_wp2_with fail
    refine (rfinite_c _ _).mono ?_
    rintro e w2 ⟨rfl, q2⟩
    have HB2 := hide (show w2.heap[w.heap.size]? = some (.cells #[.int .i64 m.id, .int .i64 m.team, .float .f32 m.x, .float .f32 m.y, .float .f32 m.vx, .float .f32 m.vy, .int .i64 m.health] 57 (0, 0)) by rw [q2.block _ (heap_lt HB1.out) (fun e => e)]; exact HB1.out)
    have K2 := hide (K1.out.calm2 q2)
    clear c0 c1 c2 c3 c4 c5 c6
    obtain ⟨c0, c1, c2, c3, c4, c5, c6⟩ := seven_cells HB2.out
    clear q2
    go_wp2
    go_ret
    exact ⟨ret1 (by rw [H.out]; rfl), K2.out⟩
  cases h7 : decide (m.health ≤ 100)
  · skip
    have H : Hid (mobB m = false) := by show _ = _; rw [mobB_ref]; simp [refB, hx, hy, h0, h1, h2, h3, h4, h5, h6, h7]
    have h2 := of_decide_eq_true h2
    have h3 := of_decide_eq_true h3
    have h4 := of_decide_eq_true h4
    have h5 := of_decide_eq_true h5
    have h6 := of_decide_eq_true h6
    have h7 := of_decide_eq_false h7
    go_enter Try.func79, Try.ntmps79
    go_wp2_with fail
    refine (rfits_c _ _ _).mono ?_
    rintro e w' ⟨rfl, rfl⟩
    go_wp2_with fail
    refine (rfits_c _ _ _).mono ?_
    rintro e w' ⟨rfl, rfl⟩
    go_wp2_with fail
    refine (rfinite_c _ _).mono ?_
    rintro e w1 ⟨rfl, q1⟩
    have HB1 := hide (show w1.heap[w.heap.size]? = some (.cells #[.int .i64 m.id, .int .i64 m.team, .float .f32 m.x, .float .f32 m.y, .float .f32 m.vx, .float .f32 m.vy, .int .i64 m.health] 57 (0, 0)) by rw [q1.block _ (heap_lt HB.out) (fun e => e)]; exact HB.out)
    have K1 := hide (K0.out.calm2 q1)
    obtain ⟨c0, c1, c2, c3, c4, c5, c6⟩ := seven_cells HB1.out
    clear q1
    go_wp2_with fail
    refine (rfinite_c _ _).mono ?_
    rintro e w2 ⟨rfl, q2⟩
    have HB2 := hide (show w2.heap[w.heap.size]? = some (.cells #[.int .i64 m.id, .int .i64 m.team, .float .f32 m.x, .float .f32 m.y, .float .f32 m.vx, .float .f32 m.vy, .int .i64 m.health] 57 (0, 0)) by rw [q2.block _ (heap_lt HB1.out) (fun e => e)]; exact HB1.out)
    have K2 := hide (K1.out.calm2 q2)
    clear c0 c1 c2 c3 c4 c5 c6
    obtain ⟨c0, c1, c2, c3, c4, c5, c6⟩ := seven_cells HB2.out
    clear q2
    go_wp2
    go_ret
    exact ⟨ret1 (by rw [H.out]; rfl), K2.out⟩
  have H : Hid (mobB m = true) := by show _ = _; rw [mobB_ref]; simp [refB, hx, hy, h0, h1, h2, h3, h4, h5, h6, h7]
  have h2 := of_decide_eq_true h2
  have h3 := of_decide_eq_true h3
  have h4 := of_decide_eq_true h4
  have h5 := of_decide_eq_true h5
  have h6 := of_decide_eq_true h6
  have h7 := of_decide_eq_true h7
  go_enter Try.func79, Try.ntmps79
  go_wp2_with fail
  refine (rfits_c _ _ _).mono ?_
  rintro e w' ⟨rfl, rfl⟩
  go_wp2_with fail
  refine (rfits_c _ _ _).mono ?_
  rintro e w' ⟨rfl, rfl⟩
  go_wp2_with fail
  refine (rfinite_c _ _).mono ?_
  rintro e w1 ⟨rfl, q1⟩
  have HB1 := hide (show w1.heap[w.heap.size]? = some (.cells #[.int .i64 m.id, .int .i64 m.team, .float .f32 m.x, .float .f32 m.y, .float .f32 m.vx, .float .f32 m.vy, .int .i64 m.health] 57 (0, 0)) by rw [q1.block _ (heap_lt HB.out) (fun e => e)]; exact HB.out)
  have K1 := hide (K0.out.calm2 q1)
  obtain ⟨c0, c1, c2, c3, c4, c5, c6⟩ := seven_cells HB1.out
  clear q1
  go_wp2_with fail
  refine (rfinite_c _ _).mono ?_
  rintro e w2 ⟨rfl, q2⟩
  have HB2 := hide (show w2.heap[w.heap.size]? = some (.cells #[.int .i64 m.id, .int .i64 m.team, .float .f32 m.x, .float .f32 m.y, .float .f32 m.vx, .float .f32 m.vy, .int .i64 m.health] 57 (0, 0)) by rw [q2.block _ (heap_lt HB1.out) (fun e => e)]; exact HB1.out)
  have K2 := hide (K1.out.calm2 q2)
  clear c0 c1 c2 c3 c4 c5 c6
  obtain ⟨c0, c1, c2, c3, c4, c5, c6⟩ := seven_cells HB2.out
  clear q2
  go_wp2
  go_ret
  exact ⟨ret1 (by rw [H.out]; rfl), K2.out⟩

/-- Where an entity of an ID stands, sought from the head; the list's length: nowhere. -/
def plI : List Mob → Int → Nat
  | [], _ => 0
  | m :: r, id => if m.id = id then 0 else plI r id + 1
def plR (L : List Mob) (id : Int) : Int := if plI L id < L.length then (plI L id : Int) else -1
theorem plI_hit (L : List Mob) (k : Int) (i : Nat) (h : i < L.length) (hi : i ≤ plI L k) (e : L[i].id = k) : plI L k = i := by
  induction L generalizing i with
  | nil => simp at h
  | cons p r ih =>
    cases i with
    | zero => simp at e; simp [plI, e]
    | succ m =>
      simp only [plI] at hi ⊢
      split
      · rename_i q; simp [q] at hi
      · rename_i q; simp only [q, if_false] at hi; simp only [List.getElem_cons_succ] at e; rw [ih m (by simpa using h) (by omega) e]
theorem plI_miss (L : List Mob) (k : Int) (i : Nat) (h : i < L.length) (hi : i ≤ plI L k) (e : L[i].id ≠ k) : i + 1 ≤ plI L k := by
  induction L generalizing i with
  | nil => simp at h
  | cons p r ih =>
    cases i with
    | zero => simp at e; simp [plI, e]
    | succ m =>
      simp only [plI] at hi ⊢
      split
      · rename_i q; simp [q] at hi
      · rename_i q; simp only [q, if_false] at hi; simp only [List.getElem_cons_succ] at e; have := ih m (by simpa using h) (by omega) e; omega

set_option maxHeartbeats 1000000 in
set_option maxRecDepth 100000 in
theorem place_c (p : Option Addr) (cap : Nat) (id : Int) (L : List Mob) (w : World) (hl : (L.length : Int) ≤ 9223372036854775806) (h : Reads w p L) :
    Calls Try.prog 61 #[.slice p L.length cap, .int .i64 id] w fun e w' => e = .returned (.int .i64 (plR L id)) ∧ w' = w := by
  have HR := hide h
  clear h
  go_enter Try.func61, Try.ntmps61
  go_wp2
  go_loop [5] (fun t => ∃ i : Nat, i ≤ L.length ∧ i ≤ plI L id ∧ t = .int .i64 i) (fun t => L.length - (intOf t).toNat)
  case atStart => exact ⟨0, Nat.zero_le _, Nat.zero_le _, rfl⟩
  case round =>
    obtain ⟨i, hil, hix, rfl⟩ := hrel
    by_cases hlt : i < L.length
    · obtain ⟨b, off, rfl, hb, c0, -⟩ := HR.out.at i hlt
      have hb1 : (0 : Int) ≤ (i : Int) := by omega
      have hb2 : (i : Int) < (L.length : Int) := by omega
      by_cases he : L[i].id = id
      · have H : Hid (plR L id = (i : Int)) := by show _ = _; unfold plR; rw [plI_hit L id i hlt hix he, if_pos hlt]
        have hbe : (L[i].id == id) = true := by simp [he]
        clear he
        go_wp2
        go_ret
        exact ⟨ret1 (by rw [H.out]; rfl), rfl⟩
      · have H : Hid (i + 1 ≤ plI L id) := plI_miss L id i hlt hix he
        have hbe : (L[i].id == id) = false := by simp [he]
        clear he
        go_wp2
        go_round
        case rel => exact ⟨i + 1, by omega, H.out, by go_num⟩
        case measure => simp [intOf]; omega
    · have H : Hid (plR L id = -1) := by show _ = _; unfold plR; rw [if_neg (by omega)]
      go_wp2
      go_ret
      exact ⟨ret1 (by rw [H.out]; rfl), rfl⟩
end Go.Proofs.Ytlfmfhmbkpnjbaa
