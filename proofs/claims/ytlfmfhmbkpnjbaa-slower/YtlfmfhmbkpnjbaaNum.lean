import Derived.Test.YtlfmfhmbkpnjbaaMono
namespace Go.Proofs.Ytlfmfhmbkpnjbaa
open Ieee

/-- The rung of a word. -/
def rung (v : Nat) : Nat := v % 2147483648
def neg (v : Nat) : Bool := v / 2147483648 % 2 == 1

theorem rung_word (s : Bool) (r : Nat) (h : r ≤ 2139095040) : rung (Ieee.single.word s r) = r := by
  unfold rung Format.word
  rw [sign_single]
  split <;> omega
theorem neg_word (s : Bool) (r : Nat) (h : r ≤ 2139095040) : neg (Ieee.single.word s r) = s := by
  unfold neg Format.word
  rw [sign_single]
  cases s
  · simp; omega
  · simp; omega

theorem log_small (r : Nat) (h : r ≠ 0) (h2 : r < 8388608) : r.log2 < 23 := (Nat.log2_lt h).2 (by simpa using h2)
theorem log_norm (r : Nat) (h1 : 8388608 ≤ r) (h2 : r < 16777216) : r.log2 = 23 := by
  have a : r.log2 < 24 := (Nat.log2_lt (by omega)).2 (by simpa using h2)
  have b : 23 ≤ r.log2 := (Nat.le_log2 (by omega)).2 (by simpa using h1)
  omega

/-- What a word stands for, and back. -/
theorem read_num (v : Nat) (h : rung v < 2139095040) : ∃ m e, Ieee.single.read v = .number (neg v) m e ∧ rungOf m e = rung v ∧ -149 ≤ e ∧ e ≤ 104 ∧ m ≤ 16777215 := by
  unfold Format.read
  rw [sign_single, bin_single, inf_single, least_single]
  simp only
  by_cases h1 : v % 2147483648 < 8388608
  · rw [if_pos h1]
    refine ⟨rung v, -149, rfl, ?_, by omega, by omega, by unfold rung; omega⟩
    have h1' : rung v < 8388608 := h1
    generalize rung v = r at *
    unfold rungOf
    by_cases h0 : r = 0
    · rw [if_pos h0, h0]
    · have hl := log_small r h0 h1'
      have e1 : lastOf r (-149) = -149 := by unfold lastOf; omega
      have e2 : keptOf r (-149) = r := by
        unfold keptOf
        rw [e1]
        simp only [Int.sub_self, Int.toNat_zero, Nat.shiftLeft_zero]
        exact cut_zero r
      rw [if_neg h0, e1, e2]
      simp only [Int.add_left_neg, Int.toNat_zero, Nat.zero_mul, Nat.zero_add]
      omega
  · have h' : v % 2147483648 < 2139095040 := h
    rw [if_neg h1, if_pos h']
    have hr : rung v = v % 2147483648 := rfl
    rw [← hr] at h1 ⊢
    generalize rung v = r at *
    refine ⟨8388608 + r % 8388608, -149 + ((r / 8388608 - 1 : Nat) : Int), rfl, ?_, by omega, by omega, by omega⟩
    have hq := Nat.div_add_mod r 8388608
    have hm := Nat.mod_lt r (show 0 < 8388608 by decide)
    have hq1 : 1 ≤ r / 8388608 := (Nat.le_div_iff_mul_le (by decide)).2 (by omega)
    generalize r / 8388608 = q at *
    generalize r % 8388608 = t at *
    have hl := log_norm (8388608 + t) (by omega) (by omega)
    unfold rungOf
    have e1 : lastOf (8388608 + t) (-149 + ((q - 1 : Nat) : Int)) = -149 + ((q - 1 : Nat) : Int) := by unfold lastOf; rw [hl]; omega
    have e2 : keptOf (8388608 + t) (-149 + ((q - 1 : Nat) : Int)) = 8388608 + t := by
      unfold keptOf
      rw [e1]
      simp only [Int.sub_self, Int.toNat_zero, Nat.shiftLeft_zero]
      exact cut_zero _
    rw [if_neg (by omega), e1, e2]
    omega

theorem num_iff (v : Nat) : isNum v ↔ rung v < 2139095040 := by
  constructor
  · rintro ⟨s, m, e, h⟩
    apply Nat.lt_of_not_le
    intro hr
    unfold Format.read at h
    rw [sign_single, bin_single, inf_single] at h
    simp only at h
    have hr' : 2139095040 ≤ v % 2147483648 := hr
    rw [if_neg (by omega), if_neg (by omega)] at h
    split at h <;> cases h
  · intro h
    obtain ⟨m, e, h1, _⟩ := read_num v h
    exact ⟨_, _, _, h1⟩

theorem num_word (s : Bool) (m : Nat) (i : Int) (h : rungOf m i < 2139095040) : isNum (Ieee.single.nearest s m i) := by
  rw [num_iff, nearest_rung, rung_word s _ (rungOf_le m i)]; exact h

/-- A product with a factor that is not above one. -/
theorem mul_small {v c : Nat} (hv : isNum v) {sc : Bool} {mc : Nat} {ec : Int} (hc : Ieee.single.read c = .number sc mc ec) (h1 : LeV mc ec 1 0) : rung (fmul v c) ≤ rung v ∧ isNum (fmul v c) ∧ neg (fmul v c) = (neg v ^^ sc) := by
  have hlt := (num_iff v).1 hv
  obtain ⟨m, e, hr, hrg, _⟩ := read_num v hlt
  have hf : fmul v c = Ieee.single.nearest (neg v ^^ sc) (m * mc) (e + ec) := by
    unfold fmul Format.mul
    rw [hr, hc]; rfl
  have hle : LeV (m * mc) (e + ec) m e := by
    refine leV_of (e + min ec 0) (by omega) (by omega) ?_
    have := h1 (min ec 0) (by omega) (by omega)
    rw [show (e + ec - (e + min ec 0)).toNat = (ec - min ec 0).toNat from by omega, show (e - (e + min ec 0)).toNat = (0 - min ec 0).toNat from by omega, Nat.mul_assoc]
    refine Nat.mul_le_mul_left m ?_
    rwa [Nat.one_mul] at this
  have hm := rung_mono _ _ _ _ hle
  rw [hrg] at hm
  have e1 : rung (fmul v c) = rungOf (m * mc) (e + ec) := by rw [hf, nearest_rung, rung_word _ _ (rungOf_le _ _)]
  refine ⟨by rw [e1]; exact hm, by rw [num_iff, e1]; omega, ?_⟩
  rw [hf, nearest_rung, neg_word _ _ (rungOf_le _ _)]

theorem slow_le : LeV 12582912 (-24) 1 0 := leV_of (-24) (by decide) (by decide) (by decide)
theorem half_le : LeV 8388608 (-24) 1 0 := leV_of (-24) (by decide) (by decide) (by decide)

theorem mul_slow {v : Nat} (hv : isNum v) : rung (fmul v 1061158912) ≤ rung v ∧ isNum (fmul v 1061158912) ∧ neg (fmul v 1061158912) = (neg v ^^ false) :=
  mul_small hv (sc := false) (mc := 12582912) (ec := -24) (by decide) slow_le
theorem mul_half {v : Nat} (hv : isNum v) : rung (fmul v 3204448256) ≤ rung v ∧ isNum (fmul v 3204448256) ∧ neg (fmul v 3204448256) = (neg v ^^ true) :=
  mul_small hv (sc := true) (mc := 8388608) (ec := -24) (by decide) half_le

theorem natAbs_signed (s : Bool) (m k : Nat) : (signed s m k).natAbs = m * 2 ^ k := by
  unfold signed
  rw [Nat.shiftLeft_eq]
  split
  · rw [Int.natAbs_neg, Int.natAbs_natCast]
  · rw [Int.natAbs_natCast]

/-- Numbers are not above the greatest. -/
theorem num_fin {v : Nat} (h : isNum v) : finB v = true := by
  obtain ⟨m, e, hr, _, h1, h2, h3⟩ := read_num v ((num_iff v).1 h)
  have key : 0 < 2 ^ (104 - e).toNat := Nat.two_pow_pos _
  have hm : m ≤ 16777215 * 2 ^ (104 - e).toNat := Nat.le_trans h3 (Nat.le_mul_of_pos_right _ key)
  have o1 : ford v 2139095039 = some (compare (signed (neg v) m (e - min e 104).toNat) (signed false 16777215 (104 - min e 104).toNat)) := by
    show (Ieee.single.read v).order (Ieee.single.read 2139095039) = _
    rw [hr, show Ieee.single.read 2139095039 = .number false 16777215 104 from by decide]; rfl
  have o2 : ford v (Op.negFloat .f32 2139095039) = some (compare (signed (neg v) m (e - min e 104).toNat) (signed true 16777215 (104 - min e 104).toNat)) := by
    show (Ieee.single.read v).order (Ieee.single.read _) = _
    rw [hr, show Ieee.single.read (Op.negFloat .f32 2139095039) = .number true 16777215 104 from by decide]; rfl
  have a1 := natAbs_signed (neg v) m (e - min e 104).toNat
  have a2 : signed false 16777215 (104 - min e 104).toNat = ((16777215 * 2 ^ (104 - e).toNat : Nat) : Int) := by unfold signed; rw [Nat.shiftLeft_eq, show min e 104 = e from by omega]; simp
  have a3 : signed true 16777215 (104 - min e 104).toNat = -((16777215 * 2 ^ (104 - e).toNat : Nat) : Int) := by unfold signed; rw [Nat.shiftLeft_eq, show min e 104 = e from by omega]; simp
  rw [show (e - min e 104).toNat = 0 from by omega, Nat.pow_zero, Nat.mul_one] at a1
  rw [show (e - min e 104).toNat = 0 from by omega, a2] at o1
  rw [show (e - min e 104).toNat = 0 from by omega, a3] at o2
  generalize signed (neg v) m 0 = x at *
  generalize 16777215 * 2 ^ (104 - e).toNat = y at *
  have g1 : fle v 2139095039 = true := by
    unfold fle
    rw [o1]
    have : x ≤ (y : Int) := by omega
    rcases Int.lt_or_eq_of_le this with q | q
    · simp [Int.compare_eq_lt.2 q]
    · simp [q]
  have g2 : fge v (Op.negFloat .f32 2139095039) = true := by
    unfold fge
    rw [o2]
    have : -(y : Int) ≤ x := by omega
    rcases Int.lt_or_eq_of_le this with q | q
    · simp [Int.compare_eq_gt.2 q]
    · simp [← q]
  unfold finB fitsB
  rw [g1, g2]; rfl

theorem leV_of_fits {p : Nat} (h : fitsB p 1120403456 = true) : ∃ s n j, Ieee.single.read p = .number s n j ∧ LeV n j 13107200 (-17) := by
  obtain ⟨n, j, hr, _⟩ := read_num p ((num_iff p).1 (push_num h))
  refine ⟨neg p, n, j, hr, leV_of (min j (-17)) (by omega) (by omega) ?_⟩
  have o1 : ford p 1120403456 = some (compare (signed (neg p) n (j - min j (-17)).toNat) (signed false 13107200 (-17 - min j (-17)).toNat)) := by
    show (Ieee.single.read p).order (Ieee.single.read 1120403456) = _
    rw [hr, show Ieee.single.read 1120403456 = .number false 13107200 (-17) from by decide]; rfl
  have o2 : ford p (Op.negFloat .f32 1120403456) = some (compare (signed (neg p) n (j - min j (-17)).toNat) (signed true 13107200 (-17 - min j (-17)).toNat)) := by
    show (Ieee.single.read p).order (Ieee.single.read _) = _
    rw [hr, show Ieee.single.read (Op.negFloat .f32 1120403456) = .number true 13107200 (-17) from by decide]; rfl
  have a1 := natAbs_signed (neg p) n (j - min j (-17)).toNat
  have a2 : signed false 13107200 (-17 - min j (-17)).toNat = ((13107200 * 2 ^ (-17 - min j (-17)).toNat : Nat) : Int) := by unfold signed; rw [Nat.shiftLeft_eq]; simp
  have a3 : signed true 13107200 (-17 - min j (-17)).toNat = -((13107200 * 2 ^ (-17 - min j (-17)).toNat : Nat) : Int) := by unfold signed; rw [Nat.shiftLeft_eq]; simp
  rw [a2] at o1
  rw [a3] at o2
  simp only [fitsB, fge, fle, o1, o2, Bool.and_eq_true, Bool.or_eq_true, beq_iff_eq, Option.some.injEq] at h
  rw [← a1]
  generalize signed (neg p) n (j - min j (-17)).toNat = x at *
  generalize 13107200 * 2 ^ (-17 - min j (-17)).toNat = y at *
  obtain ⟨h1, h2⟩ := h
  have g1 : -(y : Int) ≤ x := by
    rcases h1 with q | q
    · have := Int.compare_eq_gt.1 q; omega
    · have := Int.compare_eq_eq.1 q; omega
  have g2 : x ≤ (y : Int) := by
    rcases h2 with q | q
    · have := Int.compare_eq_lt.1 q; omega
    · have := Int.compare_eq_eq.1 q; omega
  omega

theorem rung_top : rungOf 268435441 100 = 2139095039 := by kernel_rfl

theorem add_fin {v p : Nat} (hv : isNum v) (hp : fitsB p 1120403456 = true) : isNum (fadd v p) := by
  obtain ⟨m, e, hr, _, h1, h2, h3⟩ := read_num v ((num_iff v).1 hv)
  obtain ⟨s, n, j, hr2, hle⟩ := leV_of_fits hp
  obtain ⟨tot, hs, hab⟩ : ∃ tot : Int, (∃ sg, fadd v p = Ieee.single.nearest sg tot.natAbs (min e j)) ∧ tot.natAbs ≤ m * 2 ^ (e - min e j).toNat + n * 2 ^ (j - min e j).toNat := by
    have hfa : fadd v p = Ieee.single.nearest (if signed (neg v) m (e - min e j).toNat + signed s n (j - min e j).toNat = 0 then neg v && s else decide (signed (neg v) m (e - min e j).toNat + signed s n (j - min e j).toNat < 0)) (signed (neg v) m (e - min e j).toNat + signed s n (j - min e j).toNat).natAbs (min e j) := by
      unfold fadd Format.add
      rw [hr, hr2]; rfl
    refine ⟨signed (neg v) m (e - min e j).toNat + signed s n (j - min e j).toNat, ⟨_, hfa⟩, ?_⟩
    rw [← natAbs_signed (neg v) m, ← natAbs_signed s n]; exact Int.natAbs_add_le _ _
  obtain ⟨sg, hf⟩ := hs
  rw [hf]
  apply num_word
  have hb : LeV tot.natAbs (min e j) 268435441 100 := by
    refine leV_of (min (min e j) (-17)) (by omega) (by omega) ?_
    generalize hc : min (min e j) (-17) = c at *
    have k1 := Nat.mul_le_mul_right (2 ^ (min e j - c).toNat) hab
    rw [Nat.add_mul, Nat.mul_assoc, Nat.mul_assoc, ← Nat.pow_add, ← Nat.pow_add, show (e - min e j).toNat + (min e j - c).toNat = (e - c).toNat from by omega, show (j - min e j).toNat + (min e j - c).toNat = (j - c).toNat from by omega] at k1
    have k2 : m * 2 ^ (e - c).toNat ≤ 268435440 * 2 ^ (100 - c).toNat := by
      refine Nat.le_trans (Nat.mul_le_mul h3 (Nat.pow_le_pow_right (by decide) (show (e - c).toNat ≤ 4 + (100 - c).toNat by omega))) ?_
      rw [Nat.pow_add, ← Nat.mul_assoc]
      exact Nat.le_refl _
    have k3 : n * 2 ^ (j - c).toNat ≤ 1 * 2 ^ (100 - c).toNat := by
      refine Nat.le_trans (hle c (by omega) (by omega)) ?_
      refine Nat.le_trans (Nat.mul_le_mul_right _ (show 13107200 ≤ 2 ^ 24 by decide)) ?_
      rw [← Nat.pow_add, Nat.one_mul]
      exact Nat.pow_le_pow_right (by decide) (by omega)
    have k4 : 268435440 * 2 ^ (100 - c).toNat + 1 * 2 ^ (100 - c).toNat = 268435441 * 2 ^ (100 - c).toNat := by rw [← Nat.add_mul]
    rw [← k4]
    exact Nat.le_trans k1 (Nat.add_le_add k2 k3)
  have := rung_mono _ _ _ _ hb
  rw [rung_top] at this
  omega

/-- The place behind a move fits; the way is a number. -/
theorem moved_fits {x v : Nat} (hx : isNum x) (hv : isNum v) : fitsB (movedF x v).1 1148846080 = true ∧ isNum (movedF x v).2 := by
  have o := (fadd_ok hx hv.ok).2
  unfold movedF
  split
  · exact ⟨show fitsB 3296329728 1148846080 = true by decide, (mul_slow (mul_half hv).2.1).2.1⟩
  · rename_i h1
    split
    · exact ⟨show fitsB 1148846080 1148846080 = true by decide, (mul_slow (mul_half hv).2.1).2.1⟩
    · rename_i h2
      refine ⟨?_, (mul_slow hv).2.1⟩
      have c1 : ∀ c s m e, Ieee.single.read c = .number s m e → ford (fadd x v) c ≠ none := by
        intro c s m e hc hn
        have : (Ieee.single.read (fadd x v)).order (Ieee.single.read c) = none := hn
        rw [hc] at this
        unfold okV at o
        cases hq : Ieee.single.read (fadd x v) with
        | number t n j => rw [hq] at this; cases this
        | infinity t => rw [hq] at this; cases this
        | nan t f => rw [hq] at o; cases o
      have d1 := c1 3296329728 true 16384000 (-14) (by decide)
      have d2 := c1 1148846080 false 16384000 (-14) (by decide)
      have e1 : Op.negFloat .f32 1148846080 = 3296329728 := by decide
      unfold fitsB fge fle
      rw [e1]
      show ((ford (fadd x v) 3296329728 == some .gt || ford (fadd x v) 3296329728 == some .eq) && (ford (fadd x v) 1148846080 == some .lt || ford (fadd x v) 1148846080 == some .eq)) = true
      generalize ford (fadd x v) 3296329728 = a at *
      generalize ford (fadd x v) 1148846080 = b at *
      cases a with
      | none => exact absurd rfl d1
      | some a =>
        cases b with
        | none => exact absurd rfl d2
        | some b => cases a <;> cases b <;> simp_all
end Go.Proofs.Ytlfmfhmbkpnjbaa
