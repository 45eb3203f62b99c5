import Derived.Test.YtlfmfhmbkpnjbaaRound
namespace Go.Proofs.Ytlfmfhmbkpnjbaa
open Ieee

theorem leV_pos {m : Nat} {i : Int} {n : Nat} {j : Int} (h : LeV m i n j) (hm : m ≠ 0) : n ≠ 0 := by
  intro e
  have h1 := h (min i j) (by omega) (by omega)
  rw [e, Nat.zero_mul] at h1
  have h2 := Nat.mul_pos (Nat.pos_of_ne_zero hm) (Nat.two_pow_pos (i - min i j).toNat)
  exact Nat.lt_irrefl _ (Nat.lt_of_lt_of_le h2 h1)

theorem leV_log {m : Nat} {i : Int} {n : Nat} {j : Int} (h : LeV m i n j) (hm : m ≠ 0) : i + m.log2 ≤ j + n.log2 := by
  apply Int.le_of_not_gt
  intro hgt
  have h0 := h (min i j) (by omega) (by omega)
  have h2 : n < 2 ^ (n.log2 + 1) := Nat.lt_log2_self
  have h3 : n * 2 ^ (j - min i j).toNat < 2 ^ (n.log2 + 1) * 2 ^ (j - min i j).toNat := Nat.mul_lt_mul_of_pos_right h2 (Nat.two_pow_pos _)
  have h4 := pow_swap m.log2 (n.log2 + 1) (j - min i j).toNat (i - min i j).toNat m (Nat.log2_self_le hm) (by omega)
  exact Nat.lt_irrefl _ (Nat.lt_of_lt_of_le (Nat.lt_of_lt_of_le h3 h4) h0)

theorem last_lo (m : Nat) (i : Int) : -149 ≤ lastOf m i := by unfold lastOf; omega

theorem step_up (a b k k' : Nat) (h : a + 1 ≤ b) (h1 : k ≤ 2 * 8388608) (h2 : 8388608 ≤ k') : a * 8388608 + k ≤ b * 8388608 + k' := by
  omega

theorem rung_key {m : Nat} {i : Int} {n : Nat} {j : Int} (h : LeV m i n j) (hm : m ≠ 0) : (lastOf m i + 149).toNat * 8388608 + keptOf m i ≤ (lastOf n j + 149).toNat * 8388608 + keptOf n j := by
  have hL := leV_log h hm
  have hn := leV_pos h hm
  have hlast : lastOf m i ≤ lastOf n j := by unfold lastOf; omega
  have hlo := last_lo m i
  by_cases e : lastOf m i = lastOf n j
  · have h1 : keptOf m i ≤ keptOf n j := cut_shift_le m i (lastOf m i) n j (lastOf n j) e h
    rw [e]
    exact Nat.add_le_add_left h1 _
  · have h1 := kept_le m i
    have h2 := kept_ge n j hn (by omega)
    exact step_up _ _ _ _ (by omega) h1 h2

/-- To round keeps the order. -/
theorem rung_mono (m : Nat) (i : Int) (n : Nat) (j : Int) (h : LeV m i n j) : rungOf m i ≤ rungOf n j := by
  unfold rungOf
  by_cases hm : m = 0
  · rw [if_pos hm]; exact Nat.zero_le _
  · have hk := rung_key h hm
    rw [if_neg hm, if_neg (leV_pos h hm)]
    exact Nat.le_min.2 ⟨Nat.le_trans (Nat.min_le_left ..) hk, Nat.min_le_right ..⟩
end Go.Proofs.Ytlfmfhmbkpnjbaa
