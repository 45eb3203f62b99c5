import Derived.Test.YtlfmfhmbkpnjbaaFlo
namespace Go.Proofs.Ytlfmfhmbkpnjbaa
open Ieee

/-- Rounding to the nearest whole number, ties to even: what it keeps to. -/
theorem cut_spec (neg : Bool) (n d : Nat) : 2 * n ≤ 2 ^ d * (2 * (Toward.even.cut neg n d) + 1) ∧ 2 ^ d * (2 * (Toward.even.cut neg n d)) ≤ 2 * n + 2 ^ d ∧
    (2 * n = 2 ^ d * (2 * (Toward.even.cut neg n d) + 1) → (Toward.even.cut neg n d) % 2 = 0) ∧ (2 ^ d * (2 * (Toward.even.cut neg n d)) = 2 * n + 2 ^ d → (Toward.even.cut neg n d) % 2 = 0) := by
  have hG : 0 < 2 ^ d := Nat.two_pow_pos d
  by_cases hd : d ≤ n.log2 + 2
  · have e1 : (1 <<< min d (n.log2 + 2)) = 2 ^ d := by rw [Nat.min_eq_left hd, Nat.one_shiftLeft]
    have e2 : Toward.even.cut neg n d = n / 2 ^ d + (decide (2 ^ d < 2 * (n % 2 ^ d)) || (2 ^ d == 2 * (n % 2 ^ d) && (n / 2 ^ d) % 2 == 1)).toNat := by
      unfold Toward.cut
      simp only [e1]
    have hn := Nat.div_add_mod n (2 ^ d)
    have hr := Nat.mod_lt n hG
    rw [e2]
    generalize 2 ^ d = G at *
    generalize n / G = low at *
    generalize n % G = rest at *
    subst hn
    by_cases h1 : G < 2 * rest
    · simp only [h1, decide_true, Bool.true_or, Bool.toNat_true]
      have q : G * (2 * (low + 1)) = 2 * (G * low) + 2 * G := by rw [Nat.mul_left_comm, Nat.mul_add, Nat.mul_one, Nat.mul_add]
      have q' : G * (2 * (low + 1) + 1) = 2 * (G * low) + 3 * G := by rw [Nat.mul_add, q]; omega
      rw [q, q']
      refine ⟨by omega, by omega, fun h => by omega, fun h => by omega⟩
    · by_cases h2 : G = 2 * rest
      · by_cases h3 : low % 2 = 1
        · have e : (decide (G < 2 * rest) || (G == 2 * rest && low % 2 == 1)) = true := by simp [h2.symm, h3]
          rw [e]
          simp only [Bool.toNat_true]
          have q : G * (2 * (low + 1)) = 2 * (G * low) + 2 * G := by rw [Nat.mul_left_comm, Nat.mul_add, Nat.mul_one, Nat.mul_add]
          have q' : G * (2 * (low + 1) + 1) = 2 * (G * low) + 3 * G := by rw [Nat.mul_add, q]; omega
          rw [q, q']
          refine ⟨by omega, by omega, fun h => by omega, fun h => by omega⟩
        · have e : (decide (G < 2 * rest) || (G == 2 * rest && low % 2 == 1)) = false := by simp [h1, h3]
          rw [e]
          simp only [Bool.toNat_false, Nat.add_zero]
          have q : G * (2 * low) = 2 * (G * low) := by rw [← Nat.mul_assoc, Nat.mul_comm G 2, Nat.mul_assoc]
          have q' : G * (2 * low + 1) = 2 * (G * low) + G := by rw [Nat.mul_add, q]; omega
          rw [q, q']
          refine ⟨by omega, by omega, fun h => by omega, fun h => by omega⟩
      · have e : (decide (G < 2 * rest) || (G == 2 * rest && low % 2 == 1)) = false := by simp [h1, h2]
        rw [e]
        simp only [Bool.toNat_false, Nat.add_zero]
        have q : G * (2 * low) = 2 * (G * low) := by rw [← Nat.mul_assoc, Nat.mul_comm G 2, Nat.mul_assoc]
        have q' : G * (2 * low + 1) = 2 * (G * low) + G := by rw [Nat.mul_add, q]; omega
        rw [q, q']
        refine ⟨by omega, by omega, fun h => by omega, fun h => by omega⟩
  · have e1 : (1 <<< min d (n.log2 + 2)) = 2 ^ (n.log2 + 2) := by rw [Nat.min_eq_right (by omega), Nat.one_shiftLeft]
    have hlt : n < 2 ^ (n.log2 + 1) := Nat.lt_log2_self
    have hp : 2 ^ (n.log2 + 2) = 2 * 2 ^ (n.log2 + 1) := by rw [Nat.pow_succ, Nat.mul_comm]
    have hle : 2 ^ (n.log2 + 2) ≤ 2 ^ d := Nat.pow_le_pow_right (by decide) (by omega)
    have e2 : Toward.even.cut neg n d = 0 := by
      unfold Toward.cut
      simp only [e1]
      rw [Nat.div_eq_of_lt (by omega), Nat.mod_eq_of_lt (by omega)]
      have h1 : ¬ 2 ^ (n.log2 + 2) < 2 * n := by omega
      simp [h1]
    rw [e2]
    refine ⟨by omega, by omega, fun _ => rfl, fun _ => rfl⟩

theorem cut_mono (s t : Bool) (n d n' d' : Nat) (h : n * 2 ^ d' ≤ n' * 2 ^ d) : Toward.even.cut s n d ≤ Toward.even.cut t n' d' := by
  obtain ⟨_, p2, _, p4⟩ := cut_spec s n d
  obtain ⟨q1, _, q3, _⟩ := cut_spec t n' d'
  generalize Toward.even.cut s n d = k at *
  generalize Toward.even.cut t n' d' = k' at *
  have hA : 0 < 2 ^ d := Nat.two_pow_pos d
  have hB : 0 < 2 ^ d' := Nat.two_pow_pos d'
  generalize 2 ^ d = A at *
  generalize 2 ^ d' = B at *
  apply Nat.le_of_not_lt
  intro hk
  have m1 := Nat.mul_le_mul_left B p2
  have m2 := Nat.mul_le_mul_left A q1
  have x1 : B * (A * (2 * k)) = (A * B) * (2 * k) := by rw [← Nat.mul_assoc, Nat.mul_comm B A]
  have x2 : B * (2 * n + A) = 2 * (n * B) + A * B := by rw [Nat.mul_add, Nat.mul_comm B A, ← Nat.mul_assoc, Nat.mul_comm B 2, Nat.mul_assoc, Nat.mul_comm B n]
  have x3 : A * (2 * n') = 2 * (n' * A) := by rw [← Nat.mul_assoc, Nat.mul_comm A 2, Nat.mul_assoc, Nat.mul_comm A n']
  have x4 : A * (B * (2 * k' + 1)) = (A * B) * (2 * k' + 1) := by rw [Nat.mul_assoc]
  rw [x1, x2] at m1
  rw [x3, x4] at m2
  have hAB : 0 < A * B := Nat.mul_pos hA hB
  have x5 : (A * B) * (2 * k' + 1) + A * B = (A * B) * (2 * (k' + 1)) := by rw [show 2 * (k' + 1) = (2 * k' + 1) + 1 from by omega, Nat.mul_add (A * B) (2 * k' + 1) 1, Nat.mul_one]
  have hle : (A * B) * (2 * k) ≤ (A * B) * (2 * (k' + 1)) := by rw [← x5]; omega
  have hkk : k ≤ k' + 1 := by
    have := Nat.le_of_mul_le_mul_left hle hAB
    omega
  obtain rfl : k = k' + 1 := by omega
  have t1 : A * (2 * (k' + 1)) = 2 * n + A := by
    apply Nat.eq_of_mul_eq_mul_left hB
    rw [x1, x2]; omega
  have t2 : 2 * n' = B * (2 * k' + 1) := by
    apply Nat.eq_of_mul_eq_mul_left hA
    rw [x3, x4]; omega
  have e1 := p4 t1
  have e2 := q3 t2
  omega

/-- m * 2 ^ i is not above n * 2 ^ j. -/
def LeV (m : Nat) (i : Int) (n : Nat) (j : Int) : Prop := ∀ b : Int, b ≤ i → b ≤ j → m * 2 ^ (i - b).toNat ≤ n * 2 ^ (j - b).toNat

theorem leV_of {m : Nat} {i : Int} {n : Nat} {j : Int} (c : Int) (h1 : c ≤ i) (h2 : c ≤ j) (h : m * 2 ^ (i - c).toNat ≤ n * 2 ^ (j - c).toNat) : LeV m i n j := by
  intro b hb1 hb2
  by_cases hbc : b ≤ c
  · rw [show (i - b).toNat = (i - c).toNat + (c - b).toNat from by omega, show (j - b).toNat = (j - c).toNat + (c - b).toNat from by omega, Nat.pow_add, Nat.pow_add, ← Nat.mul_assoc, ← Nat.mul_assoc]
    exact Nat.mul_le_mul_right _ h
  · rw [show (i - c).toNat = (i - b).toNat + (b - c).toNat from by omega, show (j - c).toNat = (j - b).toNat + (b - c).toNat from by omega, Nat.pow_add, Nat.pow_add, ← Nat.mul_assoc, ← Nat.mul_assoc] at h
    exact Nat.le_of_mul_le_mul_right h (Nat.two_pow_pos _)

theorem LeV.total (m : Nat) (i : Int) (n : Nat) (j : Int) : LeV m i n j ∨ LeV n j m i := by
  rcases Nat.le_total (m * 2 ^ (i - min i j).toNat) (n * 2 ^ (j - min i j).toNat) with h | h
  · exact Or.inl (leV_of (min i j) (by omega) (by omega) h)
  · exact Or.inr (leV_of (min i j) (by omega) (by omega) h)

/-- The last place that is kept; the rung. -/
def lastOf (m : Nat) (i : Int) : Int := max (i + m.log2 - 23) (-149)
def keptOf (m : Nat) (i : Int) : Nat := Toward.even.cut false (m <<< (i - lastOf m i).toNat) (lastOf m i - i).toNat
def rungOf (m : Nat) (i : Int) : Nat := if m = 0 then 0 else min ((lastOf m i + 149).toNat * 8388608 + keptOf m i) 2139095040

theorem least_single : Ieee.single.leastPlace = -149 := by decide

theorem nearest_rung (neg : Bool) (m : Nat) (i : Int) : Ieee.single.nearest neg m i = Ieee.single.word neg (rungOf m i) := by
  unfold Format.nearest rungOf
  split
  · rfl
  · rw [inf_single, bin_single, least_single]
    rfl

theorem rungOf_le (m : Nat) (i : Int) : rungOf m i ≤ 2139095040 := by
  unfold rungOf; split <;> omega

theorem cut_shift_le (m : Nat) (i l : Int) (n : Nat) (j l' : Int) (hl : l = l') (h : LeV m i n j) : Toward.even.cut false (m <<< (i - l).toNat) (l - i).toNat ≤ Toward.even.cut false (n <<< (j - l').toNat) (l' - j).toNat := by
  subst hl
  apply cut_mono
  rw [Nat.shiftLeft_eq, Nat.shiftLeft_eq, Nat.mul_assoc, Nat.mul_assoc, ← Nat.pow_add, ← Nat.pow_add]
  have := h (min (min i j) l) (by omega) (by omega)
  have h2 := Nat.mul_le_mul_right (2 ^ (((i - l).toNat + (l - j).toNat) - (i - min (min i j) l).toNat)) this
  by_cases hc : (i - min (min i j) l).toNat ≤ (i - l).toNat + (l - j).toNat
  · rw [Nat.mul_assoc, Nat.mul_assoc, ← Nat.pow_add, ← Nat.pow_add] at h2
    rw [show (i - l).toNat + (l - j).toNat = (i - min (min i j) l).toNat + ((i - l).toNat + (l - j).toNat - (i - min (min i j) l).toNat) from by omega]
    rw [show (j - l).toNat + (l - i).toNat = (j - min (min i j) l).toNat + ((i - l).toNat + (l - j).toNat - (i - min (min i j) l).toNat) from by omega]
    exact h2
  · rw [show (i - min (min i j) l).toNat = ((i - l).toNat + (l - j).toNat) + ((i - min (min i j) l).toNat - ((i - l).toNat + (l - j).toNat)) from by omega,
      show (j - min (min i j) l).toNat = ((j - l).toNat + (l - i).toNat) + ((i - min (min i j) l).toNat - ((i - l).toNat + (l - j).toNat)) from by omega,
      Nat.pow_add, Nat.pow_add _ ((j - l).toNat + (l - i).toNat), ← Nat.mul_assoc, ← Nat.mul_assoc] at this
    exact Nat.le_of_mul_le_mul_right this (Nat.two_pow_pos _)

theorem cut_zero (n : Nat) : Toward.even.cut false n 0 = n := by
  obtain ⟨h1, h2, _, _⟩ := cut_spec false n 0
  simp only [Nat.pow_zero, Nat.one_mul] at h1 h2
  omega

theorem kept_le (m : Nat) (i : Int) : keptOf m i ≤ 16777216 := by
  have hlt : m < 2 ^ (m.log2 + 1) := Nat.lt_log2_self
  unfold keptOf
  have : Toward.even.cut false (m <<< (i - lastOf m i).toNat) (lastOf m i - i).toNat ≤ Toward.even.cut false 16777216 0 := by
    apply cut_mono
    rw [Nat.shiftLeft_eq, Nat.pow_zero, Nat.mul_one]
    have hl : i + m.log2 - 23 ≤ lastOf m i := by unfold lastOf; omega
    generalize lastOf m i = l at *
    have e : (16777216 : Nat) = 2 ^ 24 := by decide
    rw [e, ← Nat.pow_add]
    calc m * 2 ^ (i - l).toNat ≤ 2 ^ (m.log2 + 1) * 2 ^ (i - l).toNat := Nat.mul_le_mul_right _ (Nat.le_of_lt hlt)
      _ = 2 ^ (m.log2 + 1 + (i - l).toNat) := (Nat.pow_add 2 _ _).symm
      _ ≤ 2 ^ (24 + (l - i).toNat) := Nat.pow_le_pow_right (by decide) (by omega)
  rwa [cut_zero] at this

theorem pow_swap (a b c d : Nat) (m : Nat) (hm : 2 ^ a ≤ m) (h : b + c ≤ a + d) : 2 ^ b * 2 ^ c ≤ m * 2 ^ d :=
  Nat.le_trans (by rw [← Nat.pow_add, ← Nat.pow_add]; exact Nat.pow_le_pow_right (by decide) h) (Nat.mul_le_mul_right _ hm)

theorem kept_ge (m : Nat) (i : Int) (hm : m ≠ 0) (hl : lastOf m i ≠ -149) : 2 ^ 23 ≤ keptOf m i := by
  have hge : 2 ^ m.log2 ≤ m := Nat.log2_self_le hm
  have hle : lastOf m i = i + m.log2 - 23 := by unfold lastOf at *; omega
  have : Toward.even.cut false (2 ^ 23) 0 ≤ Toward.even.cut false (m <<< (i - lastOf m i).toNat) (lastOf m i - i).toNat := by
    apply cut_mono
    rw [Nat.shiftLeft_eq, Nat.pow_zero, Nat.mul_one]
    exact pow_swap m.log2 23 _ _ m hge (by omega)
  rw [cut_zero] at this
  exact this

end Go.Proofs.Ytlfmfhmbkpnjbaa
