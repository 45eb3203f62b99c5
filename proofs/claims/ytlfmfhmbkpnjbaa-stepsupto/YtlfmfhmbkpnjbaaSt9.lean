import Derived.Test.YtlfmfhmbkpnjbaaSt8
import Derived.Test.YtlfmfhmbkpnjbaaSt7
namespace Go.Proofs.Ytlfmfhmbkpnjbaa
open Ieee

/-- The rung of a word. -/
def rung (v : Nat) : Nat := v % 2147483648
def neg (v : Nat) : Bool := v / 2147483648 % 2 == 1

theorem rung_word (s : Bool) (r : Nat) (h : r ≤ 2139095040) : rung (Ieee.single.word s r) = r := by
  unfold rung Format.word
  rw [sign_single]
  split <;> omega
theorem neg_word (s : Bool) (r : Nat) (h : r ≤ 2139095040) : neg (Ieee.single.word s r) = s := by
  unfold neg Format.word
  rw [sign_single]
  cases s
  · simp; omega
  · simp; omega

theorem log_small (r : Nat) (h : r ≠ 0) (h2 : r < 8388608) : r.log2 < 23 := (Nat.log2_lt h).2 (by simpa using h2)
theorem log_norm (r : Nat) (h1 : 8388608 ≤ r) (h2 : r < 16777216) : r.log2 = 23 := by
  have a : r.log2 < 24 := (Nat.log2_lt (by omega)).2 (by simpa using h2)
  have b : 23 ≤ r.log2 := (Nat.le_log2 (by omega)).2 (by simpa using h1)
  omega

/-- What a word stands for, and back. -/
theorem read_num (v : Nat) (h : rung v < 2139095040) : ∃ m e, Ieee.single.read v = .number (neg v) m e ∧ rungOf m e = rung v ∧ -149 ≤ e ∧ e ≤ 104 ∧ m ≤ 16777215 := by
  unfold Format.read
  rw [sign_single, bin_single, inf_single, least_single]
  simp only
  by_cases h1 : v % 2147483648 < 8388608
  · rw [if_pos h1]
    refine ⟨rung v, -149, rfl, ?_, by omega, by omega, by unfold rung; omega⟩
    have h1' : rung v < 8388608 := h1
    generalize rung v = r at *
    unfold rungOf
    by_cases h0 : r = 0
    · rw [if_pos h0, h0]
    · have hl := log_small r h0 h1'
      have e1 : lastOf r (-149) = -149 := by unfold lastOf; omega
      have e2 : keptOf r (-149) = r := by
        unfold keptOf
        rw [e1]
        simp only [Int.sub_self, Int.toNat_zero, Nat.shiftLeft_zero]
        exact cut_zero r
      rw [if_neg h0, e1, e2]
      simp only [Int.add_left_neg, Int.toNat_zero, Nat.zero_mul, Nat.zero_add]
      omega
  · have h' : v % 2147483648 < 2139095040 := h
    rw [if_neg h1, if_pos h']
    have hr : rung v = v % 2147483648 := rfl
    rw [← hr] at h1 ⊢
    generalize rung v = r at *
    refine ⟨8388608 + r % 8388608, -149 + ((r / 8388608 - 1 : Nat) : Int), rfl, ?_, by omega, by omega, by omega⟩
    have hq := Nat.div_add_mod r 8388608
    have hm := Nat.mod_lt r (show 0 < 8388608 by decide)
    have hq1 : 1 ≤ r / 8388608 := (Nat.le_div_iff_mul_le (by decide)).2 (by omega)
    generalize r / 8388608 = q at *
    generalize r % 8388608 = t at *
    have hl := log_norm (8388608 + t) (by omega) (by omega)
    unfold rungOf
    have e1 : lastOf (8388608 + t) (-149 + ((q - 1 : Nat) : Int)) = -149 + ((q - 1 : Nat) : Int) := by unfold lastOf; rw [hl]; omega
    have e2 : keptOf (8388608 + t) (-149 + ((q - 1 : Nat) : Int)) = 8388608 + t := by
      unfold keptOf
      rw [e1]
      simp only [Int.sub_self, Int.toNat_zero, Nat.shiftLeft_zero]
      exact cut_zero _
    rw [if_neg (by omega), e1, e2]
    omega

theorem num_iff (v : Nat) : isNum v ↔ rung v < 2139095040 := by
  constructor
  · rintro ⟨s, m, e, h⟩
    apply Nat.lt_of_not_le
    intro hr
    unfold Format.read at h
    rw [sign_single, bin_single, inf_single] at h
    simp only at h
    have hr' : 2139095040 ≤ v % 2147483648 := hr
    rw [if_neg (by omega), if_neg (by omega)] at h
    split at h <;> cases h
  · intro h
    obtain ⟨m, e, h1, _⟩ := read_num v h
    exact ⟨_, _, _, h1⟩

theorem num_word (s : Bool) (m : Nat) (i : Int) (h : rungOf m i < 2139095040) : isNum (Ieee.single.nearest s m i) := by
  rw [num_iff, nearest_rung, rung_word s _ (rungOf_le m i)]; exact h

/-- A product with a factor that is not above one. -/
theorem mul_small {v c : Nat} (hv : isNum v) {sc : Bool} {mc : Nat} {ec : Int} (hc : Ieee.single.read c = .number sc mc ec) (h1 : LeV mc ec 1 0) : rung (fmul v c) ≤ rung v ∧ isNum (fmul v c) ∧ neg (fmul v c) = (neg v ^^ sc) := by
  have hlt := (num_iff v).1 hv
  obtain ⟨m, e, hr, hrg, _⟩ := read_num v hlt
  have hf : fmul v c = Ieee.single.nearest (neg v ^^ sc) (m * mc) (e + ec) := by
    unfold fmul Format.mul
    rw [hr, hc]; rfl
  have hle : LeV (m * mc) (e + ec) m e := by
    refine leV_of (e + min ec 0) (by omega) (by omega) ?_
    have := h1 (min ec 0) (by omega) (by omega)
    rw [show (e + ec - (e + min ec 0)).toNat = (ec - min ec 0).toNat from by omega, show (e - (e + min ec 0)).toNat = (0 - min ec 0).toNat from by omega, Nat.mul_assoc]
    refine Nat.mul_le_mul_left m ?_
    rwa [Nat.one_mul] at this
  have hm := rung_mono _ _ _ _ hle
  rw [hrg] at hm
  have e1 : rung (fmul v c) = rungOf (m * mc) (e + ec) := by rw [hf, nearest_rung, rung_word _ _ (rungOf_le _ _)]
  refine ⟨by rw [e1]; exact hm, by rw [num_iff, e1]; omega, ?_⟩
  rw [hf, nearest_rung, neg_word _ _ (rungOf_le _ _)]

theorem slow_le : LeV 12582912 (-24) 1 0 := leV_of (-24) (by decide) (by decide) (by decide)
theorem half_le : LeV 8388608 (-24) 1 0 := leV_of (-24) (by decide) (by decide) (by decide)

theorem mul_slow {v : Nat} (hv : isNum v) : rung (fmul v 1061158912) ≤ rung v ∧ isNum (fmul v 1061158912) ∧ neg (fmul v 1061158912) = (neg v ^^ false) :=
  mul_small hv (sc := false) (mc := 12582912) (ec := -24) (by decide) slow_le
theorem mul_half {v : Nat} (hv : isNum v) : rung (fmul v 3204448256) ≤ rung v ∧ isNum (fmul v 3204448256) ∧ neg (fmul v 3204448256) = (neg v ^^ true) :=
  mul_small hv (sc := true) (mc := 8388608) (ec := -24) (by decide) half_le

theorem natAbs_signed (s : Bool) (m k : Nat) : (signed s m k).natAbs = m * 2 ^ k := by
  unfold signed
  rw [Nat.shiftLeft_eq]
  split
  · rw [Int.natAbs_neg, Int.natAbs_natCast]
  · rw [Int.natAbs_natCast]

/-- Numbers are not above the greatest. -/
theorem num_fin {v : Nat} (h : isNum v) : finB v = true := by
  obtain ⟨m, e, hr, _, h1, h2, h3⟩ := read_num v ((num_iff v).1 h)
  have key : 0 < 2 ^ (104 - e).toNat := Nat.two_pow_pos _
  have hm : m ≤ 16777215 * 2 ^ (104 - e).toNat := Nat.le_trans h3 (Nat.le_mul_of_pos_right _ key)
  have o1 : ford v 2139095039 = some (compare (signed (neg v) m (e - min e 104).toNat) (signed false 16777215 (104 - min e 104).toNat)) := by
    show (Ieee.single.read v).order (Ieee.single.read 2139095039) = _
    rw [hr, show Ieee.single.read 2139095039 = .number false 16777215 104 from by decide]; rfl
  have o2 : ford v (Op.negFloat .f32 2139095039) = some (compare (signed (neg v) m (e - min e 104).toNat) (signed true 16777215 (104 - min e 104).toNat)) := by
    show (Ieee.single.read v).order (Ieee.single.read _) = _
    rw [hr, show Ieee.single.read (Op.negFloat .f32 2139095039) = .number true 16777215 104 from by decide]; rfl
  have a1 := natAbs_signed (neg v) m (e - min e 104).toNat
  have a2 : signed false 16777215 (104 - min e 104).toNat = ((16777215 * 2 ^ (104 - e).toNat : Nat) : Int) := by unfold signed; rw [Nat.shiftLeft_eq, show min e 104 = e from by omega]; simp
  have a3 : signed true 16777215 (104 - min e 104).toNat = -((16777215 * 2 ^ (104 - e).toNat : Nat) : Int) := by unfold signed; rw [Nat.shiftLeft_eq, show min e 104 = e from by omega]; simp
  rw [show (e - min e 104).toNat = 0 from by omega, Nat.pow_zero, Nat.mul_one] at a1
  rw [show (e - min e 104).toNat = 0 from by omega, a2] at o1
  rw [show (e - min e 104).toNat = 0 from by omega, a3] at o2
  generalize signed (neg v) m 0 = x at *
  generalize 16777215 * 2 ^ (104 - e).toNat = y at *
  have g1 : fle v 2139095039 = true := by
    unfold fle
    rw [o1]
    have : x ≤ (y : Int) := by omega
    rcases Int.lt_or_eq_of_le this with q | q
    · simp [Int.compare_eq_lt.2 q]
    · simp [q]
  have g2 : fge v (Op.negFloat .f32 2139095039) = true := by
    unfold fge
    rw [o2]
    have : -(y : Int) ≤ x := by omega
    rcases Int.lt_or_eq_of_le this with q | q
    · simp [Int.compare_eq_gt.2 q]
    · simp [← q]
  unfold finB fitsB
  rw [g1, g2]; rfl

theorem leV_of_fits {p : Nat} (h : fitsB p 1120403456 = true) : ∃ s n j, Ieee.single.read p = .number s n j ∧ LeV n j 13107200 (-17) := by
  obtain ⟨n, j, hr, _⟩ := read_num p ((num_iff p).1 (push_num h))
  refine ⟨neg p, n, j, hr, leV_of (min j (-17)) (by omega) (by omega) ?_⟩
  have o1 : ford p 1120403456 = some (compare (signed (neg p) n (j - min j (-17)).toNat) (signed false 13107200 (-17 - min j (-17)).toNat)) := by
    show (Ieee.single.read p).order (Ieee.single.read 1120403456) = _
    rw [hr, show Ieee.single.read 1120403456 = .number false 13107200 (-17) from by decide]; rfl
  have o2 : ford p (Op.negFloat .f32 1120403456) = some (compare (signed (neg p) n (j - min j (-17)).toNat) (signed true 13107200 (-17 - min j (-17)).toNat)) := by
    show (Ieee.single.read p).order (Ieee.single.read _) = _
    rw [hr, show Ieee.single.read (Op.negFloat .f32 1120403456) = .number true 13107200 (-17) from by decide]; rfl
  have a1 := natAbs_signed (neg p) n (j - min j (-17)).toNat
  have a2 : signed false 13107200 (-17 - min j (-17)).toNat = ((13107200 * 2 ^ (-17 - min j (-17)).toNat : Nat) : Int) := by unfold signed; rw [Nat.shiftLeft_eq]; simp
  have a3 : signed true 13107200 (-17 - min j (-17)).toNat = -((13107200 * 2 ^ (-17 - min j (-17)).toNat : Nat) : Int) := by unfold signed; rw [Nat.shiftLeft_eq]; simp
  rw [a2] at o1
  rw [a3] at o2
  simp only [fitsB, fge, fle, o1, o2, Bool.and_eq_true, Bool.or_eq_true, beq_iff_eq, Option.some.injEq] at h
  rw [← a1]
  generalize signed (neg p) n (j - min j (-17)).toNat = x at *
  generalize 13107200 * 2 ^ (-17 - min j (-17)).toNat = y at *
  obtain ⟨h1, h2⟩ := h
  have g1 : -(y : Int) ≤ x := by
    rcases h1 with q | q
    · have := Int.compare_eq_gt.1 q; omega
    · have := Int.compare_eq_eq.1 q; omega
  have g2 : x ≤ (y : Int) := by
    rcases h2 with q | q
    · have := Int.compare_eq_lt.1 q; omega
    · have := Int.compare_eq_eq.1 q; omega
  omega

theorem rung_top : rungOf 268435441 100 = 2139095039 := by kernel_rfl

theorem add_fin {v p : Nat} (hv : isNum v) (hp : fitsB p 1120403456 = true) : isNum (fadd v p) := by
  obtain ⟨m, e, hr, _, h1, h2, h3⟩ := read_num v ((num_iff v).1 hv)
  obtain ⟨s, n, j, hr2, hle⟩ := leV_of_fits hp
  obtain ⟨tot, hs, hab⟩ : ∃ tot : Int, (∃ sg, fadd v p = Ieee.single.nearest sg tot.natAbs (min e j)) ∧ tot.natAbs ≤ m * 2 ^ (e - min e j).toNat + n * 2 ^ (j - min e j).toNat := by
    have hfa : fadd v p = Ieee.single.nearest (if signed (neg v) m (e - min e j).toNat + signed s n (j - min e j).toNat = 0 then neg v && s else decide (signed (neg v) m (e - min e j).toNat + signed s n (j - min e j).toNat < 0)) (signed (neg v) m (e - min e j).toNat + signed s n (j - min e j).toNat).natAbs (min e j) := by
      unfold fadd Format.add
      rw [hr, hr2]; rfl
    refine ⟨signed (neg v) m (e - min e j).toNat + signed s n (j - min e j).toNat, ⟨_, hfa⟩, ?_⟩
    rw [← natAbs_signed (neg v) m, ← natAbs_signed s n]; exact Int.natAbs_add_le _ _
  obtain ⟨sg, hf⟩ := hs
  rw [hf]
  apply num_word
  have hb : LeV tot.natAbs (min e j) 268435441 100 := by
    refine leV_of (min (min e j) (-17)) (by omega) (by omega) ?_
    generalize hc : min (min e j) (-17) = c at *
    have k1 := Nat.mul_le_mul_right (2 ^ (min e j - c).toNat) hab
    rw [Nat.add_mul, Nat.mul_assoc, Nat.mul_assoc, ← Nat.pow_add, ← Nat.pow_add, show (e - min e j).toNat + (min e j - c).toNat = (e - c).toNat from by omega, show (j - min e j).toNat + (min e j - c).toNat = (j - c).toNat from by omega] at k1
    have k2 : m * 2 ^ (e - c).toNat ≤ 268435440 * 2 ^ (100 - c).toNat := by
      refine Nat.le_trans (Nat.mul_le_mul h3 (Nat.pow_le_pow_right (by decide) (show (e - c).toNat ≤ 4 + (100 - c).toNat by omega))) ?_
      rw [Nat.pow_add, ← Nat.mul_assoc]
      exact Nat.le_refl _
    have k3 : n * 2 ^ (j - c).toNat ≤ 1 * 2 ^ (100 - c).toNat := by
      refine Nat.le_trans (hle c (by omega) (by omega)) ?_
      refine Nat.le_trans (Nat.mul_le_mul_right _ (show 13107200 ≤ 2 ^ 24 by decide)) ?_
      rw [← Nat.pow_add, Nat.one_mul]
      exact Nat.pow_le_pow_right (by decide) (by omega)
    have k4 : 268435440 * 2 ^ (100 - c).toNat + 1 * 2 ^ (100 - c).toNat = 268435441 * 2 ^ (100 - c).toNat := by rw [← Nat.add_mul]
    rw [← k4]
    exact Nat.le_trans k1 (Nat.add_le_add k2 k3)
  have := rung_mono _ _ _ _ hb
  rw [rung_top] at this
  omega

/-- The place behind a move fits; the way is a number. -/
theorem moved_fits {x v : Nat} (hx : isNum x) (hv : isNum v) : fitsB (movedF x v).1 1148846080 = true ∧ isNum (movedF x v).2 := by
  have o := (fadd_ok hx hv.ok).2
  unfold movedF
  split
  · exact ⟨show fitsB 3296329728 1148846080 = true by decide, (mul_slow (mul_half hv).2.1).2.1⟩
  · rename_i h1
    split
    · exact ⟨show fitsB 1148846080 1148846080 = true by decide, (mul_slow (mul_half hv).2.1).2.1⟩
    · rename_i h2
      refine ⟨?_, (mul_slow hv).2.1⟩
      have c1 : ∀ c s m e, Ieee.single.read c = .number s m e → ford (fadd x v) c ≠ none := by
        intro c s m e hc hn
        have : (Ieee.single.read (fadd x v)).order (Ieee.single.read c) = none := hn
        rw [hc] at this
        unfold okV at o
        cases hq : Ieee.single.read (fadd x v) with
        | number t n j => rw [hq] at this; cases this
        | infinity t => rw [hq] at this; cases this
        | nan t f => rw [hq] at o; cases o
      have d1 := c1 3296329728 true 16384000 (-14) (by decide)
      have d2 := c1 1148846080 false 16384000 (-14) (by decide)
      have e1 : Op.negFloat .f32 1148846080 = 3296329728 := by decide
      unfold fitsB fge fle
      rw [e1]
      show ((ford (fadd x v) 3296329728 == some .gt || ford (fadd x v) 3296329728 == some .eq) && (ford (fadd x v) 1148846080 == some .lt || ford (fadd x v) 1148846080 == some .eq)) = true
      generalize ford (fadd x v) 3296329728 = a at *
      generalize ford (fadd x v) 1148846080 = b at *
      cases a with
      | none => exact absurd rfl d1
      | some a =>
        cases b with
        | none => exact absurd rfl d2
        | some b => cases a <;> cases b <;> simp_all
end Go.Proofs.Ytlfmfhmbkpnjbaa

namespace Go.Proofs.Ytlfmfhmbkpnjbaa
open Ieee

def mant (r : Nat) : Nat := if r < 8388608 then r else 8388608 + r % 8388608
def expo (r : Nat) : Int := if r < 8388608 then -149 else -149 + ((r / 8388608 - 1 : Nat) : Int)

theorem read_mant (v : Nat) (h : rung v < 2139095040) : Ieee.single.read v = .number (neg v) (mant (rung v)) (expo (rung v)) := by
  unfold Format.read mant expo
  rw [sign_single, bin_single, inf_single, least_single]
  simp only
  have hr : rung v = v % 2147483648 := rfl
  by_cases h1 : v % 2147483648 < 8388608
  · rw [if_pos h1, hr, if_pos h1, if_pos h1]; rfl
  · have h' : v % 2147483648 < 2139095040 := h
    rw [if_neg h1, if_pos h', hr, if_neg h1, if_neg h1]; rfl

theorem rung_mant (v : Nat) (h : rung v < 2139095040) : rungOf (mant (rung v)) (expo (rung v)) = rung v := by
  obtain ⟨m, e, h1, h2, _⟩ := read_num v h
  rw [read_mant v h] at h1
  simp only [Datum.number.injEq] at h1
  rw [h1.2.1, h1.2.2]; exact h2

theorem LeV.refl (m : Nat) (i : Int) : LeV m i m i := fun _ _ _ => Nat.le_refl _

/-- Values and rungs go together. -/
theorem val_mono {u v : Nat} (hu : rung u < 2139095040) (hv : rung v < 2139095040) (h : rung u ≤ rung v) : LeV (mant (rung u)) (expo (rung u)) (mant (rung v)) (expo (rung v)) := by
  rcases LeV.total (mant (rung u)) (expo (rung u)) (mant (rung v)) (expo (rung v)) with q | q
  · exact q
  · have := rung_mono _ _ _ _ q
    rw [rung_mant u hu, rung_mant v hv] at this
    have e : rung u = rung v := Nat.le_antisymm h this
    rw [e]; exact LeV.refl _ _
theorem rung_le_of {u v : Nat} (hu : rung u < 2139095040) (hv : rung v < 2139095040) (h : LeV (mant (rung u)) (expo (rung u)) (mant (rung v)) (expo (rung v))) : rung u ≤ rung v := by
  have := rung_mono _ _ _ _ h
  rwa [rung_mant u hu, rung_mant v hv] at this

def sg (s : Bool) (a : Nat) : Int := if s then -(a : Int) else (a : Int)
/-- Where a number stands among all. -/
def key (v : Nat) : Int := sg (neg v) (rung v)

theorem signed_sg (s : Bool) (m k : Nat) : signed s m k = sg s (m * 2 ^ k) := by unfold signed sg; rw [Nat.shiftLeft_eq]

theorem mant_zero (r : Nat) : mant r = 0 ↔ r = 0 := by
  unfold mant
  split
  · exact Iff.rfl
  · constructor
    · intro h; omega
    · intro h; omega

theorem cmp_congr {x y x' y' : Int} (h1 : x < y ↔ x' < y') (h2 : x = y ↔ x' = y') : compare x y = compare x' y' := by
  rcases Int.lt_trichotomy x y with h | h | h
  · rw [Int.compare_eq_lt.2 h, Int.compare_eq_lt.2 (h1.1 h)]
  · rw [Int.compare_eq_eq.2 h, Int.compare_eq_eq.2 (h2.1 h)]
  · have h' : y' < x' := by
      rcases Int.lt_trichotomy x' y' with q | q | q
      · have := h1.2 q; omega
      · have := h2.2 q; omega
      · exact q
    rw [Int.compare_eq_gt.2 h, Int.compare_eq_gt.2 h']

theorem cmp_sg (s t : Bool) (a c r q : Nat) (h1 : a ≤ c ↔ r ≤ q) (h2 : c ≤ a ↔ q ≤ r) (h3 : a = 0 ↔ r = 0) (h4 : c = 0 ↔ q = 0) : compare (sg s a) (sg t c) = compare (sg s r) (sg t q) := by
  unfold sg
  apply cmp_congr
  · cases s <;> cases t <;> simp only [if_true, if_false, Bool.false_eq_true] <;> omega
  · cases s <;> cases t <;> simp only [if_true, if_false, Bool.false_eq_true] <;> omega

theorem rung_lt_two (v : Nat) : rung v < 2147483648 := Nat.mod_lt _ (by decide)

theorem read_inf (v : Nat) (h : rung v = 2139095040) : Ieee.single.read v = .infinity (neg v) := by
  unfold Format.read
  rw [sign_single, bin_single, inf_single, least_single]
  simp only
  have h' : v % 2147483648 = 2139095040 := h
  rw [if_neg (by omega), if_neg (by omega), if_pos h']; rfl

theorem ok_iff (v : Nat) : okV v ↔ rung v ≤ 2139095040 := by
  constructor
  · intro h
    apply Nat.le_of_not_lt
    intro hr
    unfold okV Format.read at h
    rw [sign_single, bin_single, inf_single, least_single] at h
    simp only at h
    have hr' : 2139095040 < v % 2147483648 := hr
    rw [if_neg (by omega), if_neg (by omega), if_neg (by omega)] at h
    cases h
  · intro h
    rcases Nat.lt_or_eq_of_le h with q | q
    · unfold okV; rw [read_mant v q]; rfl
    · unfold okV; rw [read_inf v q]; rfl

/-- The order of two words that are no NaN. -/
theorem ford_key {u v : Nat} (hu : okV u) (hv : okV v) : ford u v = some (compare (key u) (key v)) := by
  rw [ok_iff] at hu hv
  show (Ieee.single.read u).order (Ieee.single.read v) = _
  rcases Nat.lt_or_eq_of_le hu with qu | qu
  · rcases Nat.lt_or_eq_of_le hv with qv | qv
    · rw [read_mant u qu, read_mant v qv]
      show some (compare (signed _ _ _) (signed _ _ _)) = _
      rw [signed_sg, signed_sg]
      congr 1
      have hp1 := Nat.two_pow_pos (expo (rung u) - min (expo (rung u)) (expo (rung v))).toNat
      have hp2 := Nat.two_pow_pos (expo (rung v) - min (expo (rung u)) (expo (rung v))).toNat
      apply cmp_sg
      · constructor
        · intro h; exact rung_le_of qu qv (leV_of _ (by omega) (by omega) h)
        · intro h; exact val_mono qu qv h _ (by omega) (by omega)
      · constructor
        · intro h; exact rung_le_of qv qu (leV_of _ (by omega) (by omega) h)
        · intro h; exact val_mono qv qu h _ (by omega) (by omega)
      · rw [Nat.mul_eq_zero, mant_zero]
        exact ⟨fun h => h.elim id (fun h => by omega), Or.inl⟩
      · rw [Nat.mul_eq_zero, mant_zero]
        exact ⟨fun h => h.elim id (fun h => by omega), Or.inl⟩
    · rw [read_mant u qu, read_inf v qv]
      show some (if neg v then Ordering.gt else Ordering.lt) = _
      unfold key sg
      rw [qv]
      cases neg v
      · rw [Int.compare_eq_lt.2 (by cases neg u <;> simp <;> omega)]; rfl
      · rw [Int.compare_eq_gt.2 (by cases neg u <;> simp <;> omega)]; rfl
  · rcases Nat.lt_or_eq_of_le hv with qv | qv
    · rw [read_inf u qu, read_mant v qv]
      show some (if neg u then Ordering.lt else Ordering.gt) = _
      unfold key sg
      rw [qu]
      cases neg u
      · rw [Int.compare_eq_gt.2 (by cases neg v <;> simp <;> omega)]; rfl
      · rw [Int.compare_eq_lt.2 (by cases neg v <;> simp <;> omega)]; rfl
    · rw [read_inf u qu, read_inf v qv]
      show some (compare (neg v).toNat (neg u).toNat) = _
      unfold key sg
      rw [qu, qv]
      cases neg u <;> cases neg v <;> rfl

theorem key_word (s : Bool) (r : Nat) (h : r ≤ 2139095040) : key (Ieee.single.word s r) = sg s r := by unfold key; rw [neg_word s r h, rung_word s r h]

/-- A square. -/
theorem sq_key {v : Nat} (hv : isNum v) : fmul v v = Ieee.single.word false (rungOf (mant (rung v) * mant (rung v)) (expo (rung v) + expo (rung v))) ∧ okV (fmul v v) ∧ floatBits .mul .f32 v v = some (fmul v v) := by
  have h := (num_iff v).1 hv
  have hm : Ieee.single.mul v v = some (Ieee.single.nearest (neg v ^^ neg v) (mant (rung v) * mant (rung v)) (expo (rung v) + expo (rung v))) := by
    unfold Format.mul; rw [read_mant v h]; rfl
  have hf : fmul v v = Ieee.single.nearest (neg v ^^ neg v) (mant (rung v) * mant (rung v)) (expo (rung v) + expo (rung v)) := by
    unfold fmul; rw [hm]; rfl
  rw [Bool.xor_self] at hf hm
  refine ⟨by rw [hf, nearest_rung], by rw [hf]; exact ok_nearest _ _ _, ?_⟩
  show Ieee.single.mul v v = _
  rw [hm, hf]

theorem sq_mono {u v : Nat} (hu : isNum u) (hv : isNum v) (h : rung u ≤ rung v) : (FloatKind.f32.format.order (fmul u u) (fmul v v) == some .gt) = false := by
  obtain ⟨e1, o1, _⟩ := sq_key hu
  obtain ⟨e2, o2, _⟩ := sq_key hv
  have hle := val_mono ((num_iff u).1 hu) ((num_iff v).1 hv) h
  have hsq : LeV (mant (rung u) * mant (rung u)) (expo (rung u) + expo (rung u)) (mant (rung v) * mant (rung v)) (expo (rung v) + expo (rung v)) := by
    have h0 := hle (min (expo (rung u)) (expo (rung v))) (by omega) (by omega)
    refine leV_of (min (expo (rung u)) (expo (rung v)) + min (expo (rung u)) (expo (rung v))) (by omega) (by omega) ?_
    have h1 := Nat.mul_le_mul h0 h0
    rw [show ∀ a b : Nat, a * 2 ^ b * (a * 2 ^ b) = a * a * (2 ^ b * 2 ^ b) from fun a b => by rw [Nat.mul_mul_mul_comm], ← Nat.pow_add, show ∀ a b : Nat, a * 2 ^ b * (a * 2 ^ b) = a * a * (2 ^ b * 2 ^ b) from fun a b => by rw [Nat.mul_mul_mul_comm], ← Nat.pow_add] at h1
    rw [show (expo (rung u) + expo (rung u) - (min (expo (rung u)) (expo (rung v)) + min (expo (rung u)) (expo (rung v)))).toNat = (expo (rung u) - min (expo (rung u)) (expo (rung v))).toNat + (expo (rung u) - min (expo (rung u)) (expo (rung v))).toNat from by omega,
      show (expo (rung v) + expo (rung v) - (min (expo (rung u)) (expo (rung v)) + min (expo (rung u)) (expo (rung v)))).toNat = (expo (rung v) - min (expo (rung u)) (expo (rung v))).toNat + (expo (rung v) - min (expo (rung u)) (expo (rung v))).toNat from by omega]
    exact h1
  have hr := rung_mono _ _ _ _ hsq
  apply ford_bne
  rw [ford_key o1 o2, e1, e2, key_word _ _ (rungOf_le _ _), key_word _ _ (rungOf_le _ _)]
  intro e
  have := Int.compare_eq_gt.1 (Option.some.inj e)
  simp only [sg, Bool.false_eq_true, if_false] at this
  omega

/-- A sum. -/
theorem add_key {x v : Nat} (hx : isNum x) (hv : isNum v) : ∃ (b T : Int), b = min (expo (rung x)) (expo (rung v)) ∧ T = sg (neg x) (mant (rung x) * 2 ^ (expo (rung x) - b).toNat) + sg (neg v) (mant (rung v) * 2 ^ (expo (rung v) - b).toNat) ∧
    key (fadd x v) = sg (if T = 0 then neg x && neg v else decide (T < 0)) (rungOf T.natAbs b) := by
  have h1 := (num_iff x).1 hx
  have h2 := (num_iff v).1 hv
  refine ⟨_, _, rfl, rfl, ?_⟩
  have hf : fadd x v = Ieee.single.nearest (if signed (neg x) (mant (rung x)) (expo (rung x) - min (expo (rung x)) (expo (rung v))).toNat + signed (neg v) (mant (rung v)) (expo (rung v) - min (expo (rung x)) (expo (rung v))).toNat = 0 then neg x && neg v else decide (signed (neg x) (mant (rung x)) (expo (rung x) - min (expo (rung x)) (expo (rung v))).toNat + signed (neg v) (mant (rung v)) (expo (rung v) - min (expo (rung x)) (expo (rung v))).toNat < 0)) (signed (neg x) (mant (rung x)) (expo (rung x) - min (expo (rung x)) (expo (rung v))).toNat + signed (neg v) (mant (rung v)) (expo (rung v) - min (expo (rung x)) (expo (rung v))).toNat).natAbs (min (expo (rung x)) (expo (rung v))) := by
    unfold fadd Format.add
    rw [read_mant x h1, read_mant v h2]; rfl
  rw [signed_sg, signed_sg] at hf
  rw [hf, nearest_rung, key_word _ _ (rungOf_le _ _)]

theorem rungOf_zero (b : Int) : rungOf 0 b = 0 := by simp [rungOf]

theorem add_ge {x v : Nat} (hx : isNum x) (hv : isNum v) (h0 : 0 ≤ key v) : key x ≤ key (fadd x v) := by
  have h1 := (num_iff x).1 hx
  obtain ⟨b, T, hb, hT, hk⟩ := add_key hx hv
  rw [hk]
  have hA : ∀ N : Nat, mant (rung x) * 2 ^ (expo (rung x) - b).toNat ≤ N → rung x ≤ rungOf N b := fun N hN => by
    have := rung_mono (mant (rung x)) (expo (rung x)) N b (leV_of b (by omega) (by omega) (by rw [show (b - b).toNat = 0 from by omega, Nat.pow_zero, Nat.mul_one]; exact hN))
    rwa [rung_mant x h1] at this
  have hB : ∀ N : Nat, N ≤ mant (rung x) * 2 ^ (expo (rung x) - b).toNat → rungOf N b ≤ rung x := fun N hN => by
    have := rung_mono N b (mant (rung x)) (expo (rung x)) (leV_of b (by omega) (by omega) (by rw [show (b - b).toNat = 0 from by omega, Nat.pow_zero, Nat.mul_one]; exact hN))
    rwa [rung_mant x h1] at this
  have hC : 0 ≤ sg (neg v) (mant (rung v) * 2 ^ (expo (rung v) - b).toNat) := by
    unfold key sg at h0
    unfold sg
    split at h0
    · rename_i q
      have : rung v = 0 := by omega
      rw [if_pos q, this]; simp [mant]
    · rename_i q
      rw [if_neg q]; omega
  generalize sg (neg v) (mant (rung v) * 2 ^ (expo (rung v) - b).toNat) = C at *
  generalize mant (rung x) * 2 ^ (expo (rung x) - b).toNat = A at *
  unfold key
  generalize neg x = s at *
  generalize neg v = t at *
  cases s
  · simp only [sg, Bool.false_eq_true, if_false, Bool.false_and] at hT ⊢
    have q := hA T.natAbs (by omega)
    have hs : (if T = 0 then false else decide (T < 0)) = false := by split <;> simp; omega
    rw [hs]
    simp only [Bool.false_eq_true, if_false]
    omega
  · simp only [sg, if_true] at hT ⊢
    by_cases h0' : T < 0
    · have q := hB T.natAbs (by omega)
      split <;> omega
    · by_cases hz : T = 0
      · rw [hz]; simp only [Int.natAbs_zero, rungOf_zero]; split <;> omega
      · rw [if_neg hz, decide_eq_false h0']
        simp only [Bool.false_eq_true, if_false]
        omega

theorem add_le {x v : Nat} (hx : isNum x) (hv : isNum v) (h0 : key v ≤ 0) : key (fadd x v) ≤ key x := by
  have h1 := (num_iff x).1 hx
  obtain ⟨b, T, hb, hT, hk⟩ := add_key hx hv
  rw [hk]
  have hA : ∀ N : Nat, mant (rung x) * 2 ^ (expo (rung x) - b).toNat ≤ N → rung x ≤ rungOf N b := fun N hN => by
    have := rung_mono (mant (rung x)) (expo (rung x)) N b (leV_of b (by omega) (by omega) (by rw [show (b - b).toNat = 0 from by omega, Nat.pow_zero, Nat.mul_one]; exact hN))
    rwa [rung_mant x h1] at this
  have hB : ∀ N : Nat, N ≤ mant (rung x) * 2 ^ (expo (rung x) - b).toNat → rungOf N b ≤ rung x := fun N hN => by
    have := rung_mono N b (mant (rung x)) (expo (rung x)) (leV_of b (by omega) (by omega) (by rw [show (b - b).toNat = 0 from by omega, Nat.pow_zero, Nat.mul_one]; exact hN))
    rwa [rung_mant x h1] at this
  have hC : sg (neg v) (mant (rung v) * 2 ^ (expo (rung v) - b).toNat) ≤ 0 := by
    unfold key sg at h0
    unfold sg
    split at h0
    · rename_i q
      rw [if_pos q]; omega
    · rename_i q
      have : rung v = 0 := by omega
      rw [if_neg q, this]; simp [mant]
  generalize sg (neg v) (mant (rung v) * 2 ^ (expo (rung v) - b).toNat) = C at *
  generalize mant (rung x) * 2 ^ (expo (rung x) - b).toNat = A at *
  unfold key
  generalize neg x = s at *
  generalize neg v = t at *
  cases s
  · simp only [sg, Bool.false_eq_true, if_false, Bool.false_and] at hT ⊢
    by_cases h0' : T < 0
    · have hs : (if T = 0 then false else decide (T < 0)) = true := by rw [if_neg (by omega)]; simp [h0']
      rw [hs]
      simp only [if_true]
      omega
    · have q := hB T.natAbs (by omega)
      split <;> omega
  · simp only [sg, if_true] at hT ⊢
    have q := hA T.natAbs (by omega)
    by_cases hz : T = 0
    · have : A = 0 := by omega
      rw [hz] at q
      simp only [Int.natAbs_zero, rungOf_zero] at q
      rw [hz]; simp only [Int.natAbs_zero, rungOf_zero]; split <;> omega
    · rw [if_neg hz, decide_eq_true (by omega)]
      simp only [if_true]
      omega
end Go.Proofs.Ytlfmfhmbkpnjbaa

namespace Go.Proofs.Ytlfmfhmbkpnjbaa
open Go.RowKit

def I64 (z : Int) : Prop := -9223372036854775808 ≤ z ∧ z ≤ 9223372036854775807

/-- A list of raw numbers. -/
def RI (w : World) (p : Option Addr) (n : Nat) : Prop :=
  0 < n → ∃ b off, p = some ⟨b, off, none⟩ ∧ b < w.heap.size ∧ ∀ j, j < n → ∃ z, I64 z ∧ w.cell? ⟨b, off + j, none⟩ = some (.int .i64 z)
theorem RI.keep {w w' : World} {S : Nat → Prop} {p : Option Addr} {n : Nat} (h : RI w p n) (hk : Kept S w w') (hS : ∀ b, b < w.heap.size → ¬ S b) : RI w' p n := by
  intro hn
  obtain ⟨b, off, h1, h2, h3⟩ := h hn
  refine ⟨b, off, h1, Nat.lt_of_lt_of_le h2 hk.size, fun j hj => ?_⟩
  obtain ⟨z, q1, q2⟩ := h3 j hj
  exact ⟨z, q1, by rw [cell_keep hk h2 (hS b h2)]; exact q2⟩
theorem RI.calm {w w' : World} {p : Option Addr} {n : Nat} (h : RI w p n) (hk : Kept (fun _ => False) w w') : RI w' p n := h.keep hk (fun _ _ e => e)

theorem i64_tdiv {z : Int} (h : I64 z) (k : Int) (hk : 0 < k) : I64 (z.tdiv k) := by
  unfold I64 at *
  by_cases h0 : 0 ≤ z
  · rw [Int.tdiv_eq_ediv_of_nonneg h0]
    have h1 := Int.ediv_nonneg h0 (Int.le_of_lt hk)
    have h2 := Int.ediv_le_self k h0
    omega
  · obtain ⟨y, rfl⟩ : ∃ y, z = -y := ⟨-z, by omega⟩
    rw [Int.neg_tdiv, Int.tdiv_eq_ediv_of_nonneg (by omega)]
    have h1 := Int.ediv_nonneg (show 0 ≤ y by omega) (Int.le_of_lt hk)
    have h2 := Int.ediv_le_self k (show 0 ≤ y by omega)
    omega

theorem ten_pos : isPos 1092616192 := ⟨false, 10485760, -20, by decide, by decide⟩
theorem ok_int (n : Int) : okV (floatOfInt .f32 n) := ok_nearest _ _ _

theorem six_cells {w : World} {c : Nat} {a b d e f g : Value} {T : TypeId} (h : w.heap[c]? = some (.cells #[a, b, d, e, f, g] T (0, 0))) : w.cell? ⟨c, 0, none⟩ = some a ∧ w.cell? ⟨c, 1, none⟩ = some b ∧ w.cell? ⟨c, 2, none⟩ = some d ∧ w.cell? ⟨c, 3, none⟩ = some e ∧ w.cell? ⟨c, 4, none⟩ = some f ∧ w.cell? ⟨c, 5, none⟩ = some g := by
  refine ⟨?_, ?_, ?_, ?_, ?_, ?_⟩ <;> rw [cell_block h] <;> rfl

theorem info_cmd : (Try.prog.info? 99).map (fun i => (i.zero, i.size, i.bytes)) = some (some (.agg #[.int .i64 0, .int .i64 0, .int .i64 0, .float .f32 0, .float .f32 0, .int .i64 0]), 6, 40) := by kernel_rfl

theorem owns_readsC {w : World} {base : Nat} {p : Option Addr} {cap : Nat} {cs : List Cmd} (h : w.ownsRow base 99 6 (.slice p cs.length cap) cs.length (rowC cs)) : ReadsC w p cs ∧ (p = none → cap = 0) ∧ (∀ b off, p = some ⟨b, off, none⟩ → base ≤ b ∧ b < w.heap.size) := by
  have h' := h
  rcases h.2 with ⟨e, h0⟩ | ⟨g, cp, cur, e, hb, hh, _⟩
  · simp only [Value.slice.injEq] at e
    obtain ⟨rfl, _, rfl⟩ := e
    exact ⟨fun hne => absurd (List.eq_nil_of_length_eq_zero h0) hne, fun _ => rfl, fun b off e => by cases e⟩
  · simp only [Value.slice.injEq] at e
    obtain ⟨rfl, _, rfl⟩ := e
    refine ⟨fun _ => ⟨g, 0, rfl, heap_lt hh, fun j u hu => ?_⟩, (fun e => by cases e), fun b off e => ?_⟩
    · have := h'.cells (g := g) rfl j u hu
      rw [addr_add2] at this; exact this
    · simp only [Option.some.injEq, Addr.mk.injEq] at e
      obtain ⟨rfl, _⟩ := e
      exact ⟨hb, heap_lt hh⟩

end Go.Proofs.Ytlfmfhmbkpnjbaa

namespace Go.Proofs.Ytlfmfhmbkpnjbaa
open Go.RowKit

/-- The ways are numbers. -/
def FinL (L : List Mob) : Prop := ∀ m ∈ L, isNum m.vx ∧ isNum m.vy

theorem num_zero : isNum 0 := ⟨false, 0, -149, by decide⟩

theorem finL_set {L : List Mob} {i : Nat} {m : Mob} (h : FinL L) (hm : isNum m.vx ∧ isNum m.vy) : FinL (L.set i m) := by
  intro x hx
  rcases List.mem_or_eq_of_mem_set hx with hx | rfl
  · exact h x hx
  · exact hm

theorem doM_fin {L : List Mob} (c : Cmd) (h : FinL L) : FinL (doM L c) := by
  unfold doM
  split
  · split
    · intro x hx
      rcases List.mem_append.1 hx with hx | hx
      · exact h x (List.mem_of_mem_take hx)
      · rcases List.mem_cons.1 hx with rfl | hx
        · exact ⟨num_zero, num_zero⟩
        · exact h x (List.mem_of_mem_drop hx)
    · exact h
  · split
    · split
      · rename_i q
        have hl := findB_lt q.2
        rw [setAt_eq _ _ _ hl]
        have hm := h L[findI L c.id] (List.getElem_mem hl)
        have hp := q.1
        simp only [pushB, Bool.and_eq_true] at hp
        exact finL_set h ⟨add_fin hm.1 hp.1, add_fin hm.2 hp.2⟩
      · exact h
    · split
      · split
        · rename_i q
          have hl := findB_lt q.2
          rw [setAt_eq _ _ _ hl]
          exact finL_set h (h L[findI L c.id] (List.getElem_mem hl))
        · exact h
      · split
        · split
          · intro x hx
            rcases List.mem_append.1 hx with hx | hx
            · exact h x (List.mem_of_mem_take hx)
            · exact h x (List.mem_of_mem_drop hx)
          · exact h
        · exact h

theorem fold_fin (cs : List Cmd) (L : List Mob) (h : FinL L) : FinL (cs.foldl doM L) := by
  induction cs generalizing L with
  | nil => exact h
  | cons c r ih => exact ih (doM L c) (doM_fin c h)

theorem moveM_id (m : Mob) : (moveM m).id = m.id := rfl
theorem moveM_team (m : Mob) : (moveM m).team = m.team := rfl
theorem moveM_health (m : Mob) : (moveM m).health = m.health := rfl

theorem worldB_fin {t : Int} {L : List Mob} (h : worldB t L = true) : FinL L := by
  simp only [worldB, decide_eq_true_eq] at h
  intro m hm
  obtain ⟨j, hj, rfl⟩ := List.getElem_of_mem hm
  have := (h.2.2 j hj hj).1
  simp only [mobB, Bool.and_eq_true, decide_eq_true_eq] at this
  exact ⟨fin_num this.1.1.1.2, fin_num this.1.1.2⟩

theorem okTo_of {L : List Mob} (h1 : ∀ m ∈ L, mobB m = true) (h2 : (L.map Mob.id).Pairwise (· < ·)) : OkTo L L.length := by
  intro j hj _
  refine ⟨h1 _ (List.getElem_mem hj), fun k hk e => ?_⟩
  exact rises_of h2 k j hk hj (by omega)

/-- A world stays a world. -/
theorem worldB_next {t : Int} {L : List Mob} (cs : List Cmd) (h : worldB t L = true) (ht : t ≠ 500) : worldB (t + 1) (stepL cs L) = true := by
  obtain ⟨h0, h1, hF⟩ := worldB_fine h
  have hN := worldB_fin h
  have hF' := keep_fine (fold_fine cs L hF)
  have hN' : FinL (keepL (cs.foldl doM L)) := fun m hm => fold_fin cs L hN m (List.mem_filter.1 hm).1
  refine worldB_true _ _ ⟨by omega, by omega⟩ (okTo_of ?_ ?_)
  · intro m hm
    obtain ⟨a, ha, rfl⟩ := List.mem_map.1 hm
    have hm := hF'.mob a ha
    have hn := hN' a ha
    have hlive := (List.mem_filter.1 ha).2
    simp only [liveB, Bool.not_eq_true', decide_eq_false_iff_not] at hlive
    have mx := moved_fits hm.px hn.1
    have my := moved_fits hm.py hn.2
    simp only [mobB, Bool.and_eq_true, decide_eq_true_eq]
    refine ⟨⟨⟨⟨⟨⟨hm.id, hm.team⟩, ?_⟩, num_fin mx.2⟩, num_fin my.2⟩, ?_⟩, hm.high⟩
    · simp only [placeB, Bool.and_eq_true]; exact ⟨mx.1, my.1⟩
    · show 1 ≤ a.health; omega
  · have : (stepL cs L).map Mob.id = (keepL (cs.foldl doM L)).map Mob.id := by
      unfold stepL
      rw [List.map_map]
      rfl
    rw [this]; exact hF'.rises

theorem worldB_zero : worldB 0 [] = true := worldB_true 0 [] (by decide) (fun j hj _ => absurd hj (Nat.not_lt_zero j))
end Go.Proofs.Ytlfmfhmbkpnjbaa
