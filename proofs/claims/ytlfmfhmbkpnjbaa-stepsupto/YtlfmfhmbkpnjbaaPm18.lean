import Derived.Test.YtlfmfhmbkpnjbaaPm15
import Derived.Test.YtlfmfhmbkpnjbaaPm17
namespace Go.Proofs.Ytlfmfhmbkpnjbaa
open Ieee

/-- Rounding to the nearest whole number, ties to even: what it keeps to. -/
theorem cut_spec (neg : Bool) (n d : Nat) : 2 * n ≤ 2 ^ d * (2 * (Toward.even.cut neg n d) + 1) ∧ 2 ^ d * (2 * (Toward.even.cut neg n d)) ≤ 2 * n + 2 ^ d ∧
    (2 * n = 2 ^ d * (2 * (Toward.even.cut neg n d) + 1) → (Toward.even.cut neg n d) % 2 = 0) ∧ (2 ^ d * (2 * (Toward.even.cut neg n d)) = 2 * n + 2 ^ d → (Toward.even.cut neg n d) % 2 = 0) := by
  have hG : 0 < 2 ^ d := Nat.two_pow_pos d
  by_cases hd : d ≤ n.log2 + 2
  · have e1 : (1 <<< min d (n.log2 + 2)) = 2 ^ d := by rw [Nat.min_eq_left hd, Nat.one_shiftLeft]
    have e2 : Toward.even.cut neg n d = n / 2 ^ d + (decide (2 ^ d < 2 * (n % 2 ^ d)) || (2 ^ d == 2 * (n % 2 ^ d) && (n / 2 ^ d) % 2 == 1)).toNat := by
      unfold Toward.cut
      simp only [e1]
    have hn := Nat.div_add_mod n (2 ^ d)
    have hr := Nat.mod_lt n hG
    rw [e2]
    generalize 2 ^ d = G at *
    generalize n / G = low at *
    generalize n % G = rest at *
    subst hn
    by_cases h1 : G < 2 * rest
    · simp only [h1, decide_true, Bool.true_or, Bool.toNat_true]
      have q : G * (2 * (low + 1)) = 2 * (G * low) + 2 * G := by rw [Nat.mul_left_comm, Nat.mul_add, Nat.mul_one, Nat.mul_add]
      have q' : G * (2 * (low + 1) + 1) = 2 * (G * low) + 3 * G := by rw [Nat.mul_add, q]; omega
      rw [q, q']
      refine ⟨by omega, by omega, fun h => by omega, fun h => by omega⟩
    · by_cases h2 : G = 2 * rest
      · by_cases h3 : low % 2 = 1
        · have e : (decide (G < 2 * rest) || (G == 2 * rest && low % 2 == 1)) = true := by simp [h2.symm, h3]
          rw [e]
          simp only [Bool.toNat_true]
          have q : G * (2 * (low + 1)) = 2 * (G * low) + 2 * G := by rw [Nat.mul_left_comm, Nat.mul_add, Nat.mul_one, Nat.mul_add]
          have q' : G * (2 * (low + 1) + 1) = 2 * (G * low) + 3 * G := by rw [Nat.mul_add, q]; omega
          rw [q, q']
          refine ⟨by omega, by omega, fun h => by omega, fun h => by omega⟩
        · have e : (decide (G < 2 * rest) || (G == 2 * rest && low % 2 == 1)) = false := by simp [h1, h3]
          rw [e]
          simp only [Bool.toNat_false, Nat.add_zero]
          have q : G * (2 * low) = 2 * (G * low) := by rw [← Nat.mul_assoc, Nat.mul_comm G 2, Nat.mul_assoc]
          have q' : G * (2 * low + 1) = 2 * (G * low) + G := by rw [Nat.mul_add, q]; omega
          rw [q, q']
          refine ⟨by omega, by omega, fun h => by omega, fun h => by omega⟩
      · have e : (decide (G < 2 * rest) || (G == 2 * rest && low % 2 == 1)) = false := by simp [h1, h2]
        rw [e]
        simp only [Bool.toNat_false, Nat.add_zero]
        have q : G * (2 * low) = 2 * (G * low) := by rw [← Nat.mul_assoc, Nat.mul_comm G 2, Nat.mul_assoc]
        have q' : G * (2 * low + 1) = 2 * (G * low) + G := by rw [Nat.mul_add, q]; omega
        rw [q, q']
        refine ⟨by omega, by omega, fun h => by omega, fun h => by omega⟩
  · have e1 : (1 <<< min d (n.log2 + 2)) = 2 ^ (n.log2 + 2) := by rw [Nat.min_eq_right (by omega), Nat.one_shiftLeft]
    have hlt : n < 2 ^ (n.log2 + 1) := Nat.lt_log2_self
    have hp : 2 ^ (n.log2 + 2) = 2 * 2 ^ (n.log2 + 1) := by rw [Nat.pow_succ, Nat.mul_comm]
    have hle : 2 ^ (n.log2 + 2) ≤ 2 ^ d := Nat.pow_le_pow_right (by decide) (by omega)
    have e2 : Toward.even.cut neg n d = 0 := by
      unfold Toward.cut
      simp only [e1]
      rw [Nat.div_eq_of_lt (by omega), Nat.mod_eq_of_lt (by omega)]
      have h1 : ¬ 2 ^ (n.log2 + 2) < 2 * n := by omega
      simp [h1]
    rw [e2]
    refine ⟨by omega, by omega, fun _ => rfl, fun _ => rfl⟩

theorem cut_mono (s t : Bool) (n d n' d' : Nat) (h : n * 2 ^ d' ≤ n' * 2 ^ d) : Toward.even.cut s n d ≤ Toward.even.cut t n' d' := by
  obtain ⟨_, p2, _, p4⟩ := cut_spec s n d
  obtain ⟨q1, _, q3, _⟩ := cut_spec t n' d'
  generalize Toward.even.cut s n d = k at *
  generalize Toward.even.cut t n' d' = k' at *
  have hA : 0 < 2 ^ d := Nat.two_pow_pos d
  have hB : 0 < 2 ^ d' := Nat.two_pow_pos d'
  generalize 2 ^ d = A at *
  generalize 2 ^ d' = B at *
  apply Nat.le_of_not_lt
  intro hk
  have m1 := Nat.mul_le_mul_left B p2
  have m2 := Nat.mul_le_mul_left A q1
  have x1 : B * (A * (2 * k)) = (A * B) * (2 * k) := by rw [← Nat.mul_assoc, Nat.mul_comm B A]
  have x2 : B * (2 * n + A) = 2 * (n * B) + A * B := by rw [Nat.mul_add, Nat.mul_comm B A, ← Nat.mul_assoc, Nat.mul_comm B 2, Nat.mul_assoc, Nat.mul_comm B n]
  have x3 : A * (2 * n') = 2 * (n' * A) := by rw [← Nat.mul_assoc, Nat.mul_comm A 2, Nat.mul_assoc, Nat.mul_comm A n']
  have x4 : A * (B * (2 * k' + 1)) = (A * B) * (2 * k' + 1) := by rw [Nat.mul_assoc]
  rw [x1, x2] at m1
  rw [x3, x4] at m2
  have hAB : 0 < A * B := Nat.mul_pos hA hB
  have x5 : (A * B) * (2 * k' + 1) + A * B = (A * B) * (2 * (k' + 1)) := by rw [show 2 * (k' + 1) = (2 * k' + 1) + 1 from by omega, Nat.mul_add (A * B) (2 * k' + 1) 1, Nat.mul_one]
  have hle : (A * B) * (2 * k) ≤ (A * B) * (2 * (k' + 1)) := by rw [← x5]; omega
  have hkk : k ≤ k' + 1 := by
    have := Nat.le_of_mul_le_mul_left hle hAB
    omega
  obtain rfl : k = k' + 1 := by omega
  have t1 : A * (2 * (k' + 1)) = 2 * n + A := by
    apply Nat.eq_of_mul_eq_mul_left hB
    rw [x1, x2]; omega
  have t2 : 2 * n' = B * (2 * k' + 1) := by
    apply Nat.eq_of_mul_eq_mul_left hA
    rw [x3, x4]; omega
  have e1 := p4 t1
  have e2 := q3 t2
  omega

/-- m * 2 ^ i is not above n * 2 ^ j. -/
def LeV (m : Nat) (i : Int) (n : Nat) (j : Int) : Prop := ∀ b : Int, b ≤ i → b ≤ j → m * 2 ^ (i - b).toNat ≤ n * 2 ^ (j - b).toNat

theorem leV_of {m : Nat} {i : Int} {n : Nat} {j : Int} (c : Int) (h1 : c ≤ i) (h2 : c ≤ j) (h : m * 2 ^ (i - c).toNat ≤ n * 2 ^ (j - c).toNat) : LeV m i n j := by
  intro b hb1 hb2
  by_cases hbc : b ≤ c
  · rw [show (i - b).toNat = (i - c).toNat + (c - b).toNat from by omega, show (j - b).toNat = (j - c).toNat + (c - b).toNat from by omega, Nat.pow_add, Nat.pow_add, ← Nat.mul_assoc, ← Nat.mul_assoc]
    exact Nat.mul_le_mul_right _ h
  · rw [show (i - c).toNat = (i - b).toNat + (b - c).toNat from by omega, show (j - c).toNat = (j - b).toNat + (b - c).toNat from by omega, Nat.pow_add, Nat.pow_add, ← Nat.mul_assoc, ← Nat.mul_assoc] at h
    exact Nat.le_of_mul_le_mul_right h (Nat.two_pow_pos _)

theorem LeV.total (m : Nat) (i : Int) (n : Nat) (j : Int) : LeV m i n j ∨ LeV n j m i := by
  rcases Nat.le_total (m * 2 ^ (i - min i j).toNat) (n * 2 ^ (j - min i j).toNat) with h | h
  · exact Or.inl (leV_of (min i j) (by omega) (by omega) h)
  · exact Or.inr (leV_of (min i j) (by omega) (by omega) h)

/-- The last place that is kept; the rung. -/
def lastOf (m : Nat) (i : Int) : Int := max (i + m.log2 - 23) (-149)
def keptOf (m : Nat) (i : Int) : Nat := Toward.even.cut false (m <<< (i - lastOf m i).toNat) (lastOf m i - i).toNat
def rungOf (m : Nat) (i : Int) : Nat := if m = 0 then 0 else min ((lastOf m i + 149).toNat * 8388608 + keptOf m i) 2139095040

theorem least_single : Ieee.single.leastPlace = -149 := by decide

theorem nearest_rung (neg : Bool) (m : Nat) (i : Int) : Ieee.single.nearest neg m i = Ieee.single.word neg (rungOf m i) := by
  unfold Format.nearest rungOf
  split
  · rfl
  · rw [inf_single, bin_single, least_single]
    rfl

theorem rungOf_le (m : Nat) (i : Int) : rungOf m i ≤ 2139095040 := by
  unfold rungOf; split <;> omega

theorem cut_shift_le (m : Nat) (i l : Int) (n : Nat) (j l' : Int) (hl : l = l') (h : LeV m i n j) : Toward.even.cut false (m <<< (i - l).toNat) (l - i).toNat ≤ Toward.even.cut false (n <<< (j - l').toNat) (l' - j).toNat := by
  subst hl
  apply cut_mono
  rw [Nat.shiftLeft_eq, Nat.shiftLeft_eq, Nat.mul_assoc, Nat.mul_assoc, ← Nat.pow_add, ← Nat.pow_add]
  have := h (min (min i j) l) (by omega) (by omega)
  have h2 := Nat.mul_le_mul_right (2 ^ (((i - l).toNat + (l - j).toNat) - (i - min (min i j) l).toNat)) this
  by_cases hc : (i - min (min i j) l).toNat ≤ (i - l).toNat + (l - j).toNat
  · rw [Nat.mul_assoc, Nat.mul_assoc, ← Nat.pow_add, ← Nat.pow_add] at h2
    rw [show (i - l).toNat + (l - j).toNat = (i - min (min i j) l).toNat + ((i - l).toNat + (l - j).toNat - (i - min (min i j) l).toNat) from by omega]
    rw [show (j - l).toNat + (l - i).toNat = (j - min (min i j) l).toNat + ((i - l).toNat + (l - j).toNat - (i - min (min i j) l).toNat) from by omega]
    exact h2
  · rw [show (i - min (min i j) l).toNat = ((i - l).toNat + (l - j).toNat) + ((i - min (min i j) l).toNat - ((i - l).toNat + (l - j).toNat)) from by omega,
      show (j - min (min i j) l).toNat = ((j - l).toNat + (l - i).toNat) + ((i - min (min i j) l).toNat - ((i - l).toNat + (l - j).toNat)) from by omega,
      Nat.pow_add, Nat.pow_add _ ((j - l).toNat + (l - i).toNat), ← Nat.mul_assoc, ← Nat.mul_assoc] at this
    exact Nat.le_of_mul_le_mul_right this (Nat.two_pow_pos _)

theorem cut_zero (n : Nat) : Toward.even.cut false n 0 = n := by
  obtain ⟨h1, h2, _, _⟩ := cut_spec false n 0
  simp only [Nat.pow_zero, Nat.one_mul] at h1 h2
  omega

theorem kept_le (m : Nat) (i : Int) : keptOf m i ≤ 16777216 := by
  have hlt : m < 2 ^ (m.log2 + 1) := Nat.lt_log2_self
  unfold keptOf
  have : Toward.even.cut false (m <<< (i - lastOf m i).toNat) (lastOf m i - i).toNat ≤ Toward.even.cut false 16777216 0 := by
    apply cut_mono
    rw [Nat.shiftLeft_eq, Nat.pow_zero, Nat.mul_one]
    have hl : i + m.log2 - 23 ≤ lastOf m i := by unfold lastOf; omega
    generalize lastOf m i = l at *
    have e : (16777216 : Nat) = 2 ^ 24 := by decide
    rw [e, ← Nat.pow_add]
    calc m * 2 ^ (i - l).toNat ≤ 2 ^ (m.log2 + 1) * 2 ^ (i - l).toNat := Nat.mul_le_mul_right _ (Nat.le_of_lt hlt)
      _ = 2 ^ (m.log2 + 1 + (i - l).toNat) := (Nat.pow_add 2 _ _).symm
      _ ≤ 2 ^ (24 + (l - i).toNat) := Nat.pow_le_pow_right (by decide) (by omega)
  rwa [cut_zero] at this

theorem pow_swap (a b c d : Nat) (m : Nat) (hm : 2 ^ a ≤ m) (h : b + c ≤ a + d) : 2 ^ b * 2 ^ c ≤ m * 2 ^ d :=
  Nat.le_trans (by rw [← Nat.pow_add, ← Nat.pow_add]; exact Nat.pow_le_pow_right (by decide) h) (Nat.mul_le_mul_right _ hm)

theorem kept_ge (m : Nat) (i : Int) (hm : m ≠ 0) (hl : lastOf m i ≠ -149) : 2 ^ 23 ≤ keptOf m i := by
  have hge : 2 ^ m.log2 ≤ m := Nat.log2_self_le hm
  have hle : lastOf m i = i + m.log2 - 23 := by unfold lastOf at *; omega
  have : Toward.even.cut false (2 ^ 23) 0 ≤ Toward.even.cut false (m <<< (i - lastOf m i).toNat) (lastOf m i - i).toNat := by
    apply cut_mono
    rw [Nat.shiftLeft_eq, Nat.pow_zero, Nat.mul_one]
    exact pow_swap m.log2 23 _ _ m hge (by omega)
  rw [cut_zero] at this
  exact this

end Go.Proofs.Ytlfmfhmbkpnjbaa

namespace Go.Proofs.Ytlfmfhmbkpnjbaa
open Ieee

theorem leV_pos {m : Nat} {i : Int} {n : Nat} {j : Int} (h : LeV m i n j) (hm : m ≠ 0) : n ≠ 0 := by
  intro e
  have h1 := h (min i j) (by omega) (by omega)
  rw [e, Nat.zero_mul] at h1
  have h2 := Nat.mul_pos (Nat.pos_of_ne_zero hm) (Nat.two_pow_pos (i - min i j).toNat)
  exact Nat.lt_irrefl _ (Nat.lt_of_lt_of_le h2 h1)

theorem leV_log {m : Nat} {i : Int} {n : Nat} {j : Int} (h : LeV m i n j) (hm : m ≠ 0) : i + m.log2 ≤ j + n.log2 := by
  apply Int.le_of_not_gt
  intro hgt
  have h0 := h (min i j) (by omega) (by omega)
  have h2 : n < 2 ^ (n.log2 + 1) := Nat.lt_log2_self
  have h3 : n * 2 ^ (j - min i j).toNat < 2 ^ (n.log2 + 1) * 2 ^ (j - min i j).toNat := Nat.mul_lt_mul_of_pos_right h2 (Nat.two_pow_pos _)
  have h4 := pow_swap m.log2 (n.log2 + 1) (j - min i j).toNat (i - min i j).toNat m (Nat.log2_self_le hm) (by omega)
  exact Nat.lt_irrefl _ (Nat.lt_of_lt_of_le (Nat.lt_of_lt_of_le h3 h4) h0)

theorem last_lo (m : Nat) (i : Int) : -149 ≤ lastOf m i := by unfold lastOf; omega

theorem step_up (a b k k' : Nat) (h : a + 1 ≤ b) (h1 : k ≤ 2 * 8388608) (h2 : 8388608 ≤ k') : a * 8388608 + k ≤ b * 8388608 + k' := by
  omega

theorem rung_key {m : Nat} {i : Int} {n : Nat} {j : Int} (h : LeV m i n j) (hm : m ≠ 0) : (lastOf m i + 149).toNat * 8388608 + keptOf m i ≤ (lastOf n j + 149).toNat * 8388608 + keptOf n j := by
  have hL := leV_log h hm
  have hn := leV_pos h hm
  have hlast : lastOf m i ≤ lastOf n j := by unfold lastOf; omega
  have hlo := last_lo m i
  by_cases e : lastOf m i = lastOf n j
  · have h1 : keptOf m i ≤ keptOf n j := cut_shift_le m i (lastOf m i) n j (lastOf n j) e h
    rw [e]
    exact Nat.add_le_add_left h1 _
  · have h1 := kept_le m i
    have h2 := kept_ge n j hn (by omega)
    exact step_up _ _ _ _ (by omega) h1 h2

/-- To round keeps the order. -/
theorem rung_mono (m : Nat) (i : Int) (n : Nat) (j : Int) (h : LeV m i n j) : rungOf m i ≤ rungOf n j := by
  unfold rungOf
  by_cases hm : m = 0
  · rw [if_pos hm]; exact Nat.zero_le _
  · have hk := rung_key h hm
    rw [if_neg hm, if_neg (leV_pos h hm)]
    exact Nat.le_min.2 ⟨Nat.le_trans (Nat.min_le_left ..) hk, Nat.min_le_right ..⟩
end Go.Proofs.Ytlfmfhmbkpnjbaa

namespace Go.Proofs.Ytlfmfhmbkpnjbaa
open Ieee

/-- The rung of a word. -/
def rung (v : Nat) : Nat := v % 2147483648
def neg (v : Nat) : Bool := v / 2147483648 % 2 == 1

theorem rung_word (s : Bool) (r : Nat) (h : r ≤ 2139095040) : rung (Ieee.single.word s r) = r := by
  unfold rung Format.word
  rw [sign_single]
  split <;> omega
theorem neg_word (s : Bool) (r : Nat) (h : r ≤ 2139095040) : neg (Ieee.single.word s r) = s := by
  unfold neg Format.word
  rw [sign_single]
  cases s
  · simp; omega
  · simp; omega

theorem log_small (r : Nat) (h : r ≠ 0) (h2 : r < 8388608) : r.log2 < 23 := (Nat.log2_lt h).2 (by simpa using h2)
theorem log_norm (r : Nat) (h1 : 8388608 ≤ r) (h2 : r < 16777216) : r.log2 = 23 := by
  have a : r.log2 < 24 := (Nat.log2_lt (by omega)).2 (by simpa using h2)
  have b : 23 ≤ r.log2 := (Nat.le_log2 (by omega)).2 (by simpa using h1)
  omega

/-- What a word stands for, and back. -/
theorem read_num (v : Nat) (h : rung v < 2139095040) : ∃ m e, Ieee.single.read v = .number (neg v) m e ∧ rungOf m e = rung v ∧ -149 ≤ e ∧ e ≤ 104 ∧ m ≤ 16777215 := by
  unfold Format.read
  rw [sign_single, bin_single, inf_single, least_single]
  simp only
  by_cases h1 : v % 2147483648 < 8388608
  · rw [if_pos h1]
    refine ⟨rung v, -149, rfl, ?_, by omega, by omega, by unfold rung; omega⟩
    have h1' : rung v < 8388608 := h1
    generalize rung v = r at *
    unfold rungOf
    by_cases h0 : r = 0
    · rw [if_pos h0, h0]
    · have hl := log_small r h0 h1'
      have e1 : lastOf r (-149) = -149 := by unfold lastOf; omega
      have e2 : keptOf r (-149) = r := by
        unfold keptOf
        rw [e1]
        simp only [Int.sub_self, Int.toNat_zero, Nat.shiftLeft_zero]
        exact cut_zero r
      rw [if_neg h0, e1, e2]
      simp only [Int.add_left_neg, Int.toNat_zero, Nat.zero_mul, Nat.zero_add]
      omega
  · have h' : v % 2147483648 < 2139095040 := h
    rw [if_neg h1, if_pos h']
    have hr : rung v = v % 2147483648 := rfl
    rw [← hr] at h1 ⊢
    generalize rung v = r at *
    refine ⟨8388608 + r % 8388608, -149 + ((r / 8388608 - 1 : Nat) : Int), rfl, ?_, by omega, by omega, by omega⟩
    have hq := Nat.div_add_mod r 8388608
    have hm := Nat.mod_lt r (show 0 < 8388608 by decide)
    have hq1 : 1 ≤ r / 8388608 := (Nat.le_div_iff_mul_le (by decide)).2 (by omega)
    generalize r / 8388608 = q at *
    generalize r % 8388608 = t at *
    have hl := log_norm (8388608 + t) (by omega) (by omega)
    unfold rungOf
    have e1 : lastOf (8388608 + t) (-149 + ((q - 1 : Nat) : Int)) = -149 + ((q - 1 : Nat) : Int) := by unfold lastOf; rw [hl]; omega
    have e2 : keptOf (8388608 + t) (-149 + ((q - 1 : Nat) : Int)) = 8388608 + t := by
      unfold keptOf
      rw [e1]
      simp only [Int.sub_self, Int.toNat_zero, Nat.shiftLeft_zero]
      exact cut_zero _
    rw [if_neg (by omega), e1, e2]
    omega

theorem num_iff (v : Nat) : isNum v ↔ rung v < 2139095040 := by
  constructor
  · rintro ⟨s, m, e, h⟩
    apply Nat.lt_of_not_le
    intro hr
    unfold Format.read at h
    rw [sign_single, bin_single, inf_single] at h
    simp only at h
    have hr' : 2139095040 ≤ v % 2147483648 := hr
    rw [if_neg (by omega), if_neg (by omega)] at h
    split at h <;> cases h
  · intro h
    obtain ⟨m, e, h1, _⟩ := read_num v h
    exact ⟨_, _, _, h1⟩

theorem num_word (s : Bool) (m : Nat) (i : Int) (h : rungOf m i < 2139095040) : isNum (Ieee.single.nearest s m i) := by
  rw [num_iff, nearest_rung, rung_word s _ (rungOf_le m i)]; exact h

/-- A product with a factor that is not above one. -/
theorem mul_small {v c : Nat} (hv : isNum v) {sc : Bool} {mc : Nat} {ec : Int} (hc : Ieee.single.read c = .number sc mc ec) (h1 : LeV mc ec 1 0) : rung (fmul v c) ≤ rung v ∧ isNum (fmul v c) ∧ neg (fmul v c) = (neg v ^^ sc) := by
  have hlt := (num_iff v).1 hv
  obtain ⟨m, e, hr, hrg, _⟩ := read_num v hlt
  have hf : fmul v c = Ieee.single.nearest (neg v ^^ sc) (m * mc) (e + ec) := by
    unfold fmul Format.mul
    rw [hr, hc]; rfl
  have hle : LeV (m * mc) (e + ec) m e := by
    refine leV_of (e + min ec 0) (by omega) (by omega) ?_
    have := h1 (min ec 0) (by omega) (by omega)
    rw [show (e + ec - (e + min ec 0)).toNat = (ec - min ec 0).toNat from by omega, show (e - (e + min ec 0)).toNat = (0 - min ec 0).toNat from by omega, Nat.mul_assoc]
    refine Nat.mul_le_mul_left m ?_
    rwa [Nat.one_mul] at this
  have hm := rung_mono _ _ _ _ hle
  rw [hrg] at hm
  have e1 : rung (fmul v c) = rungOf (m * mc) (e + ec) := by rw [hf, nearest_rung, rung_word _ _ (rungOf_le _ _)]
  refine ⟨by rw [e1]; exact hm, by rw [num_iff, e1]; omega, ?_⟩
  rw [hf, nearest_rung, neg_word _ _ (rungOf_le _ _)]

theorem slow_le : LeV 12582912 (-24) 1 0 := leV_of (-24) (by decide) (by decide) (by decide)
theorem half_le : LeV 8388608 (-24) 1 0 := leV_of (-24) (by decide) (by decide) (by decide)

theorem mul_slow {v : Nat} (hv : isNum v) : rung (fmul v 1061158912) ≤ rung v ∧ isNum (fmul v 1061158912) ∧ neg (fmul v 1061158912) = (neg v ^^ false) :=
  mul_small hv (sc := false) (mc := 12582912) (ec := -24) (by decide) slow_le
theorem mul_half {v : Nat} (hv : isNum v) : rung (fmul v 3204448256) ≤ rung v ∧ isNum (fmul v 3204448256) ∧ neg (fmul v 3204448256) = (neg v ^^ true) :=
  mul_small hv (sc := true) (mc := 8388608) (ec := -24) (by decide) half_le

theorem natAbs_signed (s : Bool) (m k : Nat) : (signed s m k).natAbs = m * 2 ^ k := by
  unfold signed
  rw [Nat.shiftLeft_eq]
  split
  · rw [Int.natAbs_neg, Int.natAbs_natCast]
  · rw [Int.natAbs_natCast]

/-- Numbers are not above the greatest. -/
theorem num_fin {v : Nat} (h : isNum v) : finB v = true := by
  obtain ⟨m, e, hr, _, h1, h2, h3⟩ := read_num v ((num_iff v).1 h)
  have key : 0 < 2 ^ (104 - e).toNat := Nat.two_pow_pos _
  have hm : m ≤ 16777215 * 2 ^ (104 - e).toNat := Nat.le_trans h3 (Nat.le_mul_of_pos_right _ key)
  have o1 : ford v 2139095039 = some (compare (signed (neg v) m (e - min e 104).toNat) (signed false 16777215 (104 - min e 104).toNat)) := by
    show (Ieee.single.read v).order (Ieee.single.read 2139095039) = _
    rw [hr, show Ieee.single.read 2139095039 = .number false 16777215 104 from by decide]; rfl
  have o2 : ford v (Op.negFloat .f32 2139095039) = some (compare (signed (neg v) m (e - min e 104).toNat) (signed true 16777215 (104 - min e 104).toNat)) := by
    show (Ieee.single.read v).order (Ieee.single.read _) = _
    rw [hr, show Ieee.single.read (Op.negFloat .f32 2139095039) = .number true 16777215 104 from by decide]; rfl
  have a1 := natAbs_signed (neg v) m (e - min e 104).toNat
  have a2 : signed false 16777215 (104 - min e 104).toNat = ((16777215 * 2 ^ (104 - e).toNat : Nat) : Int) := by unfold signed; rw [Nat.shiftLeft_eq, show min e 104 = e from by omega]; simp
  have a3 : signed true 16777215 (104 - min e 104).toNat = -((16777215 * 2 ^ (104 - e).toNat : Nat) : Int) := by unfold signed; rw [Nat.shiftLeft_eq, show min e 104 = e from by omega]; simp
  rw [show (e - min e 104).toNat = 0 from by omega, Nat.pow_zero, Nat.mul_one] at a1
  rw [show (e - min e 104).toNat = 0 from by omega, a2] at o1
  rw [show (e - min e 104).toNat = 0 from by omega, a3] at o2
  generalize signed (neg v) m 0 = x at *
  generalize 16777215 * 2 ^ (104 - e).toNat = y at *
  have g1 : fle v 2139095039 = true := by
    unfold fle
    rw [o1]
    have : x ≤ (y : Int) := by omega
    rcases Int.lt_or_eq_of_le this with q | q
    · simp [Int.compare_eq_lt.2 q]
    · simp [q]
  have g2 : fge v (Op.negFloat .f32 2139095039) = true := by
    unfold fge
    rw [o2]
    have : -(y : Int) ≤ x := by omega
    rcases Int.lt_or_eq_of_le this with q | q
    · simp [Int.compare_eq_gt.2 q]
    · simp [← q]
  unfold finB fitsB
  rw [g1, g2]; rfl

theorem leV_of_fits {p : Nat} (h : fitsB p 1120403456 = true) : ∃ s n j, Ieee.single.read p = .number s n j ∧ LeV n j 13107200 (-17) := by
  obtain ⟨n, j, hr, _⟩ := read_num p ((num_iff p).1 (push_num h))
  refine ⟨neg p, n, j, hr, leV_of (min j (-17)) (by omega) (by omega) ?_⟩
  have o1 : ford p 1120403456 = some (compare (signed (neg p) n (j - min j (-17)).toNat) (signed false 13107200 (-17 - min j (-17)).toNat)) := by
    show (Ieee.single.read p).order (Ieee.single.read 1120403456) = _
    rw [hr, show Ieee.single.read 1120403456 = .number false 13107200 (-17) from by decide]; rfl
  have o2 : ford p (Op.negFloat .f32 1120403456) = some (compare (signed (neg p) n (j - min j (-17)).toNat) (signed true 13107200 (-17 - min j (-17)).toNat)) := by
    show (Ieee.single.read p).order (Ieee.single.read _) = _
    rw [hr, show Ieee.single.read (Op.negFloat .f32 1120403456) = .number true 13107200 (-17) from by decide]; rfl
  have a1 := natAbs_signed (neg p) n (j - min j (-17)).toNat
  have a2 : signed false 13107200 (-17 - min j (-17)).toNat = ((13107200 * 2 ^ (-17 - min j (-17)).toNat : Nat) : Int) := by unfold signed; rw [Nat.shiftLeft_eq]; simp
  have a3 : signed true 13107200 (-17 - min j (-17)).toNat = -((13107200 * 2 ^ (-17 - min j (-17)).toNat : Nat) : Int) := by unfold signed; rw [Nat.shiftLeft_eq]; simp
  rw [a2] at o1
  rw [a3] at o2
  simp only [fitsB, fge, fle, o1, o2, Bool.and_eq_true, Bool.or_eq_true, beq_iff_eq, Option.some.injEq] at h
  rw [← a1]
  generalize signed (neg p) n (j - min j (-17)).toNat = x at *
  generalize 13107200 * 2 ^ (-17 - min j (-17)).toNat = y at *
  obtain ⟨h1, h2⟩ := h
  have g1 : -(y : Int) ≤ x := by
    rcases h1 with q | q
    · have := Int.compare_eq_gt.1 q; omega
    · have := Int.compare_eq_eq.1 q; omega
  have g2 : x ≤ (y : Int) := by
    rcases h2 with q | q
    · have := Int.compare_eq_lt.1 q; omega
    · have := Int.compare_eq_eq.1 q; omega
  omega

theorem rung_top : rungOf 268435441 100 = 2139095039 := by kernel_rfl

theorem add_fin {v p : Nat} (hv : isNum v) (hp : fitsB p 1120403456 = true) : isNum (fadd v p) := by
  obtain ⟨m, e, hr, _, h1, h2, h3⟩ := read_num v ((num_iff v).1 hv)
  obtain ⟨s, n, j, hr2, hle⟩ := leV_of_fits hp
  obtain ⟨tot, hs, hab⟩ : ∃ tot : Int, (∃ sg, fadd v p = Ieee.single.nearest sg tot.natAbs (min e j)) ∧ tot.natAbs ≤ m * 2 ^ (e - min e j).toNat + n * 2 ^ (j - min e j).toNat := by
    have hfa : fadd v p = Ieee.single.nearest (if signed (neg v) m (e - min e j).toNat + signed s n (j - min e j).toNat = 0 then neg v && s else decide (signed (neg v) m (e - min e j).toNat + signed s n (j - min e j).toNat < 0)) (signed (neg v) m (e - min e j).toNat + signed s n (j - min e j).toNat).natAbs (min e j) := by
      unfold fadd Format.add
      rw [hr, hr2]; rfl
    refine ⟨signed (neg v) m (e - min e j).toNat + signed s n (j - min e j).toNat, ⟨_, hfa⟩, ?_⟩
    rw [← natAbs_signed (neg v) m, ← natAbs_signed s n]; exact Int.natAbs_add_le _ _
  obtain ⟨sg, hf⟩ := hs
  rw [hf]
  apply num_word
  have hb : LeV tot.natAbs (min e j) 268435441 100 := by
    refine leV_of (min (min e j) (-17)) (by omega) (by omega) ?_
    generalize hc : min (min e j) (-17) = c at *
    have k1 := Nat.mul_le_mul_right (2 ^ (min e j - c).toNat) hab
    rw [Nat.add_mul, Nat.mul_assoc, Nat.mul_assoc, ← Nat.pow_add, ← Nat.pow_add, show (e - min e j).toNat + (min e j - c).toNat = (e - c).toNat from by omega, show (j - min e j).toNat + (min e j - c).toNat = (j - c).toNat from by omega] at k1
    have k2 : m * 2 ^ (e - c).toNat ≤ 268435440 * 2 ^ (100 - c).toNat := by
      refine Nat.le_trans (Nat.mul_le_mul h3 (Nat.pow_le_pow_right (by decide) (show (e - c).toNat ≤ 4 + (100 - c).toNat by omega))) ?_
      rw [Nat.pow_add, ← Nat.mul_assoc]
      exact Nat.le_refl _
    have k3 : n * 2 ^ (j - c).toNat ≤ 1 * 2 ^ (100 - c).toNat := by
      refine Nat.le_trans (hle c (by omega) (by omega)) ?_
      refine Nat.le_trans (Nat.mul_le_mul_right _ (show 13107200 ≤ 2 ^ 24 by decide)) ?_
      rw [← Nat.pow_add, Nat.one_mul]
      exact Nat.pow_le_pow_right (by decide) (by omega)
    have k4 : 268435440 * 2 ^ (100 - c).toNat + 1 * 2 ^ (100 - c).toNat = 268435441 * 2 ^ (100 - c).toNat := by rw [← Nat.add_mul]
    rw [← k4]
    exact Nat.le_trans k1 (Nat.add_le_add k2 k3)
  have := rung_mono _ _ _ _ hb
  rw [rung_top] at this
  omega

/-- The place behind a move fits; the way is a number. -/
theorem moved_fits {x v : Nat} (hx : isNum x) (hv : isNum v) : fitsB (movedF x v).1 1148846080 = true ∧ isNum (movedF x v).2 := by
  have o := (fadd_ok hx hv.ok).2
  unfold movedF
  split
  · exact ⟨show fitsB 3296329728 1148846080 = true by decide, (mul_slow (mul_half hv).2.1).2.1⟩
  · rename_i h1
    split
    · exact ⟨show fitsB 1148846080 1148846080 = true by decide, (mul_slow (mul_half hv).2.1).2.1⟩
    · rename_i h2
      refine ⟨?_, (mul_slow hv).2.1⟩
      have c1 : ∀ c s m e, Ieee.single.read c = .number s m e → ford (fadd x v) c ≠ none := by
        intro c s m e hc hn
        have : (Ieee.single.read (fadd x v)).order (Ieee.single.read c) = none := hn
        rw [hc] at this
        unfold okV at o
        cases hq : Ieee.single.read (fadd x v) with
        | number t n j => rw [hq] at this; cases this
        | infinity t => rw [hq] at this; cases this
        | nan t f => rw [hq] at o; cases o
      have d1 := c1 3296329728 true 16384000 (-14) (by decide)
      have d2 := c1 1148846080 false 16384000 (-14) (by decide)
      have e1 : Op.negFloat .f32 1148846080 = 3296329728 := by decide
      unfold fitsB fge fle
      rw [e1]
      show ((ford (fadd x v) 3296329728 == some .gt || ford (fadd x v) 3296329728 == some .eq) && (ford (fadd x v) 1148846080 == some .lt || ford (fadd x v) 1148846080 == some .eq)) = true
      generalize ford (fadd x v) 3296329728 = a at *
      generalize ford (fadd x v) 1148846080 = b at *
      cases a with
      | none => exact absurd rfl d1
      | some a =>
        cases b with
        | none => exact absurd rfl d2
        | some b => cases a <;> cases b <;> simp_all
end Go.Proofs.Ytlfmfhmbkpnjbaa

namespace Go.Proofs.Ytlfmfhmbkpnjbaa
open Go.RowKit

/-- The ways are numbers. -/
def FinL (L : List Mob) : Prop := ∀ m ∈ L, isNum m.vx ∧ isNum m.vy

theorem num_zero : isNum 0 := ⟨false, 0, -149, by decide⟩

theorem finL_set {L : List Mob} {i : Nat} {m : Mob} (h : FinL L) (hm : isNum m.vx ∧ isNum m.vy) : FinL (L.set i m) := by
  intro x hx
  rcases List.mem_or_eq_of_mem_set hx with hx | rfl
  · exact h x hx
  · exact hm

theorem doM_fin {L : List Mob} (c : Cmd) (h : FinL L) : FinL (doM L c) := by
  unfold doM
  split
  · split
    · intro x hx
      rcases List.mem_append.1 hx with hx | hx
      · exact h x (List.mem_of_mem_take hx)
      · rcases List.mem_cons.1 hx with rfl | hx
        · exact ⟨num_zero, num_zero⟩
        · exact h x (List.mem_of_mem_drop hx)
    · exact h
  · split
    · split
      · rename_i q
        have hl := findB_lt q.2
        rw [setAt_eq _ _ _ hl]
        have hm := h L[findI L c.id] (List.getElem_mem hl)
        have hp := q.1
        simp only [pushB, Bool.and_eq_true] at hp
        exact finL_set h ⟨add_fin hm.1 hp.1, add_fin hm.2 hp.2⟩
      · exact h
    · split
      · split
        · rename_i q
          have hl := findB_lt q.2
          rw [setAt_eq _ _ _ hl]
          exact finL_set h (h L[findI L c.id] (List.getElem_mem hl))
        · exact h
      · split
        · split
          · intro x hx
            rcases List.mem_append.1 hx with hx | hx
            · exact h x (List.mem_of_mem_take hx)
            · exact h x (List.mem_of_mem_drop hx)
          · exact h
        · exact h

theorem fold_fin (cs : List Cmd) (L : List Mob) (h : FinL L) : FinL (cs.foldl doM L) := by
  induction cs generalizing L with
  | nil => exact h
  | cons c r ih => exact ih (doM L c) (doM_fin c h)

theorem moveM_id (m : Mob) : (moveM m).id = m.id := rfl
theorem moveM_team (m : Mob) : (moveM m).team = m.team := rfl
theorem moveM_health (m : Mob) : (moveM m).health = m.health := rfl

theorem worldB_fin {t : Int} {L : List Mob} (h : worldB t L = true) : FinL L := by
  simp only [worldB, decide_eq_true_eq] at h
  intro m hm
  obtain ⟨j, hj, rfl⟩ := List.getElem_of_mem hm
  have := (h.2.2 j hj hj).1
  simp only [mobB, Bool.and_eq_true, decide_eq_true_eq] at this
  exact ⟨fin_num this.1.1.1.2, fin_num this.1.1.2⟩

theorem okTo_of {L : List Mob} (h1 : ∀ m ∈ L, mobB m = true) (h2 : (L.map Mob.id).Pairwise (· < ·)) : OkTo L L.length := by
  intro j hj _
  refine ⟨h1 _ (List.getElem_mem hj), fun k hk e => ?_⟩
  exact rises_of h2 k j hk hj (by omega)

/-- A world stays a world. -/
theorem worldB_next {t : Int} {L : List Mob} (cs : List Cmd) (h : worldB t L = true) (ht : t ≠ 500) : worldB (t + 1) (stepL cs L) = true := by
  obtain ⟨h0, h1, hF⟩ := worldB_fine h
  have hN := worldB_fin h
  have hF' := keep_fine (fold_fine cs L hF)
  have hN' : FinL (keepL (cs.foldl doM L)) := fun m hm => fold_fin cs L hN m (List.mem_filter.1 hm).1
  refine worldB_true _ _ ⟨by omega, by omega⟩ (okTo_of ?_ ?_)
  · intro m hm
    obtain ⟨a, ha, rfl⟩ := List.mem_map.1 hm
    have hm := hF'.mob a ha
    have hn := hN' a ha
    have hlive := (List.mem_filter.1 ha).2
    simp only [liveB, Bool.not_eq_true', decide_eq_false_iff_not] at hlive
    have mx := moved_fits hm.px hn.1
    have my := moved_fits hm.py hn.2
    simp only [mobB, Bool.and_eq_true, decide_eq_true_eq]
    refine ⟨⟨⟨⟨⟨⟨hm.id, hm.team⟩, ?_⟩, num_fin mx.2⟩, num_fin my.2⟩, ?_⟩, hm.high⟩
    · simp only [placeB, Bool.and_eq_true]; exact ⟨mx.1, my.1⟩
    · show 1 ≤ a.health; omega
  · have : (stepL cs L).map Mob.id = (keepL (cs.foldl doM L)).map Mob.id := by
      unfold stepL
      rw [List.map_map]
      rfl
    rw [this]; exact hF'.rises

theorem worldB_zero : worldB 0 [] = true := worldB_true 0 [] (by decide) (fun j hj _ => absurd hj (Nat.not_lt_zero j))
end Go.Proofs.Ytlfmfhmbkpnjbaa

namespace Go.Proofs.Ytlfmfhmbkpnjbaa
open Go.RowKit

/-- The ticks that came in. -/
def RT (w : World) (q : Option Addr) (n : Nat) : Prop :=
  0 < n → ∃ b off, q = some ⟨b, off, none⟩ ∧ b < w.heap.size ∧ ∀ j, j < n → ∃ pj nj cj, w.cell? ⟨b, off + j, none⟩ = some (.slice pj nj cj) ∧ ((nj : Nat) : Int) ≤ 9223372036854775807 ∧ RI w pj nj
theorem RT.calm {w w' : World} {q : Option Addr} {n : Nat} (h : RT w q n) (hk : Kept (fun _ => False) w w') : RT w' q n := by
  intro hn
  obtain ⟨b, off, h1, h2, h3⟩ := h hn
  refine ⟨b, off, h1, Nat.lt_of_lt_of_le h2 hk.size, fun j hj => ?_⟩
  obtain ⟨pj, nj, cj, q1, q2, q3⟩ := h3 j hj
  exact ⟨pj, nj, cj, by rw [cell_keep hk h2 (fun e => e)]; exact q1, q2, q3.calm hk⟩

/-- A world that was played. -/
structure Wd where
  t : Int
  p : Option Addr
  cap : Nat
  L : List Mob
def rowW : List Wd → List Value
  | [] => []
  | d :: r => .int .i64 d.t :: .slice d.p d.L.length d.cap :: rowW r
theorem rowW_length (L : List Wd) : (rowW L).length = L.length * 2 := by
  induction L with
  | nil => rfl
  | cons p r ih => simp only [rowW, List.length_cons, ih]; omega
theorem rowW_append (L M : List Wd) : rowW (L ++ M) = rowW L ++ rowW M := by
  induction L with
  | nil => rfl
  | cons p r ih => simp [rowW, ih]
theorem rowW_get (L : List Wd) (j : Nat) (h : j < L.length) : (rowW L)[j * 2]? = some (.int .i64 L[j].t) ∧ (rowW L)[j * 2 + 1]? = some (.slice L[j].p L[j].L.length L[j].cap) := by
  induction L generalizing j with
  | nil => simp at h
  | cons p r ih =>
    cases j with
    | zero => simp [rowW]
    | succ m =>
      have := ih m (by simpa using h)
      rw [show (m + 1) * 2 = m * 2 + 1 + 1 from by omega]
      simpa [rowW, Nat.add_assoc] using this
theorem rowW_one (L : List Wd) : ∀ u ∈ rowW L, u.oneCell' = true := by
  induction L with
  | nil => simp [rowW]
  | cons p r ih =>
    intro u hu
    simp only [rowW, List.mem_cons] at hu
    rcases hu with rfl | rfl | h
    · rfl
    · rfl
    · exact ih u h

structure Wd.Ok (w : World) (d : Wd) : Prop where
  reads : Reads w d.p d.L
  nil : d.p = none → d.cap = 0
  typ : ∀ b off, d.p = some ⟨b, off, none⟩ → typ w b 57
  good : worldB d.t d.L = true

theorem Wd.Ok.keep {w w' : World} {S : Nat → Prop} {d : Wd} (h : d.Ok w) (hk : Kept S w w') (hS : ∀ j, Go.Proofs.Ytlfmfhmbkpnjbaa.typ w j 57 → ¬ S j) : d.Ok w' :=
  ⟨h.reads.keep hk (fun b off e => hS b (h.typ b off e)), h.nil, fun b off e => typ_keep (h.typ b off e) hk (hS b (h.typ b off e)), h.good⟩

theorem Wd.Ok.short {w : World} {d : Wd} (h : d.Ok w) : d.L.length ≤ 32 := (worldB_fine h.good).2.2.short

theorem info_world : (Try.prog.info? 40).map (fun i => (i.zero, i.size, i.bytes)) = some (some (.agg #[.int .i64 0, .slice none 0 0]), 2, 32) := by kernel_rfl

def c7 : Cmd := ⟨1, 7, 0, 1065353216, 1073741824, 0⟩
theorem step7 : stepL [c7] [] = [moveM (newM 7 0 1065353216 1073741824)] := by
  have h1 : spawnB 7 0 1065353216 1073741824 = true := by decide
  have h2 : findB [] 7 = false := findB_out (by simp [findI])
  simp [stepL, doM, c7, h1, h2, findI, keepL, liveB, newM]

/-- All that was played, and where it lies. -/
structure Run (w wr : World) (WS : List Wd) (p : Option Addr) (cap : Nat) : Prop where
  own : wr.ownsRow w.heap.size 40 2 (.slice p WS.length cap) WS.length (rowW WS)
  ok : ∀ d ∈ WS, d.Ok wr
  tick : ∀ k (h : k < WS.length), WS[k].t = k
  kept : Kept (fun _ => False) w wr

theorem after_set {wr w4 : World} {g4 b8 : Nat} {M : List Mob} {cu : List Value} (k : Kept (fun _ => False) wr w4) (hb : wr.heap.size ≤ b8) (h : w4.heap[b8]? = some (.cells #[.int .i64 0, .slice none 0 0] 40 (0, 0))) (e : EntAt w4 g4 M cu) (u v : Value) :
    Kept (fun _ => False) wr ((w4.setCell ⟨b8, 0, none⟩ u).setCell ⟨b8, 1, none⟩ v) ∧ ((w4.setCell ⟨b8, 0, none⟩ u).setCell ⟨b8, 1, none⟩ v).heap[b8]? = some (.cells #[u, v] 40 (0, 0)) ∧ EntAt ((w4.setCell ⟨b8, 0, none⟩ u).setCell ⟨b8, 1, none⟩ v) g4 M cu := by
  have kk : Kept (fun k => k = b8) w4 ((w4.setCell ⟨b8, 0, none⟩ u).setCell ⟨b8, 1, none⟩ v) := (Kept.setCell w4 _ u).join (Kept.setCell _ _ v) (fun _ _ e => e) (fun _ _ e => e)
  exact ⟨two_kept k hb u v, two_sets h u v, e.keep kk (typ_ne (typ_blk e.blk) (typ_blk h) (by decide))⟩
theorem after_new {wr w4 : World} {g4 : Nat} {M : List Mob} {cu : List Value} (k : Kept (fun _ => False) wr w4) (e : EntAt w4 g4 M cu) (u v : Value) :
    Kept (fun _ => False) wr (w4.alloc (.cells #[u, v] 40)) ∧ (w4.alloc (.cells #[u, v] 40)).heap[w4.heap.size]? = some (.cells #[u, v] 40 (0, 0)) ∧ EntAt (w4.alloc (.cells #[u, v] 40)) g4 M cu :=
  ⟨k.calm2 (Kept.alloc _ _), heap_alloc_new _ _, e.calm (Kept.alloc _ _)⟩

theorem owns_up {w : World} {base : Nat} {e : TypeId} {size g n cap : Nat} {xs : List Value} (h : w.ownsRow 0 e size (.slice (some ⟨g, 0, none⟩) n cap) n xs) (hg : base ≤ g) : w.ownsRow base e size (.slice (some ⟨g, 0, none⟩) n cap) n xs := by
  refine ⟨h.1, ?_⟩
  rcases h.2 with ⟨e, _⟩ | ⟨g', cp, cur, e, _, r⟩
  · cases e
  · simp only [Value.slice.injEq, Option.some.injEq, Addr.mk.injEq] at e
    obtain ⟨⟨rfl, _⟩, _, rfl⟩ := e
    exact Or.inr ⟨g, cap, cur, rfl, hg, r⟩

/-- One more world. -/
theorem Run.more {w wr w5 w7 : World} {WS : List Wd} {g cap g' cap' B6 : Nat} {d : Wd} (R : Run w wr WS (some ⟨g, 0, none⟩) cap) (k5 : Kept (fun _ => False) wr w5) (hd : d.Ok w5) (ht : d.t = WS.length)
    (k7 : Kept (fun j => j = B6 ∨ j = g) w5 w7) (hB : typ w5 B6 40) (hb6 : w.heap.size ≤ B6) (own : w7.ownsRow 0 40 2 (.slice (some ⟨g', 0, none⟩) (WS.length + 1) cap') (WS.length + 1) (rowW WS ++ rowW [d])) (hg' : g' = g ∨ w5.heap.size ≤ g') :
    Run w w7 (WS ++ [d]) (some ⟨g', 0, none⟩) cap' := by
  have tg : typ w5 g 40 := typ_keep (typ_own R.own g rfl) k5 (fun e => e)
  have hgw := (R.own.lt g rfl).1
  have hS : ∀ j, typ w5 j 57 → ¬ (j = B6 ∨ j = g) := by
    rintro j hj (rfl | rfl)
    · exact typ_ne hj hB (by decide) rfl
    · exact typ_ne hj tg (by decide) rfl
  have s5 := k5.size
  have s0 := R.kept.size
  refine ⟨?_, ?_, ?_, ?_⟩
  · rw [List.length_append, rowW_append]
    exact owns_up own (by rcases hg' with rfl | h <;> omega)
  · intro x hx
    rcases List.mem_append.1 hx with hx | hx
    · exact ((R.ok x hx).keep k5 (fun _ _ e => e)).keep k7 hS
    · obtain rfl : x = d := by simpa using hx
      exact hd.keep k7 hS
  · intro k hk
    rw [List.length_append] at hk
    by_cases hlt : k < WS.length
    · rw [List.getElem_append_left hlt]; exact R.tick k hlt
    · rw [List.getElem_append_right (by omega)]
      obtain rfl : k = WS.length := by simp at hk; omega
      simpa using ht
  · refine (R.kept.calm2 k5).join k7 (fun _ _ e => e) (fun j hj e => ?_)
    rcases e with rfl | rfl <;> omega

end Go.Proofs.Ytlfmfhmbkpnjbaa
