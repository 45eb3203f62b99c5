import Derived.Test.YtlfmfhmbkpnjbaaKey
namespace Go.Proofs.Ytlfmfhmbkpnjbaa
open Ieee

theorem ok_cases {v : Nat} (h : okV v) : (rung v < 2139095040 ∧ Ieee.single.read v = .number (neg v) (mant (rung v)) (expo (rung v))) ∨ (rung v = 2139095040 ∧ Ieee.single.read v = .infinity (neg v)) := by
  rcases Nat.lt_or_eq_of_le ((ok_iff v).1 h) with q | q
  · exact Or.inl ⟨q, read_mant v q⟩
  · exact Or.inr ⟨q, read_inf v q⟩

/-- The rung of a square, by the rung. -/
def sqR (r : Nat) : Nat := if r < 2139095040 then rungOf (mant r * mant r) (expo r + expo r) else 2139095040
theorem sqR_le (r : Nat) : sqR r ≤ 2139095040 := by unfold sqR; split; exact rungOf_le _ _; omega

theorem sq_any {v : Nat} (h : okV v) : fmul v v = Ieee.single.word false (sqR (rung v)) ∧ floatBits .mul .f32 v v = some (fmul v v) ∧ okV (fmul v v) := by
  have key : Ieee.single.mul v v = some (Ieee.single.word false (sqR (rung v))) := by
    unfold Format.mul sqR
    rcases ok_cases h with ⟨q, e⟩ | ⟨q, e⟩
    · rw [e, if_pos q]
      show some (Ieee.single.nearest (neg v ^^ neg v) _ _) = _
      rw [Bool.xor_self, nearest_rung]
    · rw [e, if_neg (by omega)]
      show some (Ieee.single.word (neg v ^^ neg v) _) = _
      rw [Bool.xor_self, inf_single]
  have hf : fmul v v = Ieee.single.word false (sqR (rung v)) := by unfold fmul; rw [key]; rfl
  refine ⟨hf, ?_, ?_⟩
  · show Ieee.single.mul v v = _
    rw [key, hf]
  · rw [hf, ok_iff, rung_word _ _ (sqR_le _)]; exact sqR_le _

theorem sqR_mono {u v : Nat} (hu : rung u < 2139095040) (hv : okV v) (h : rung u ≤ rung v) : sqR (rung u) ≤ sqR (rung v) := by
  rcases ok_cases hv with ⟨q, _⟩ | ⟨q, _⟩
  · have hle := val_mono hu q h
    unfold sqR
    rw [if_pos hu, if_pos q]
    apply rung_mono
    have h0 := hle (min (expo (rung u)) (expo (rung v))) (by omega) (by omega)
    refine leV_of (min (expo (rung u)) (expo (rung v)) + min (expo (rung u)) (expo (rung v))) (by omega) (by omega) ?_
    have h1 := Nat.mul_le_mul h0 h0
    rw [show ∀ a b : Nat, a * 2 ^ b * (a * 2 ^ b) = a * a * (2 ^ b * 2 ^ b) from fun a b => by rw [Nat.mul_mul_mul_comm], ← Nat.pow_add, show ∀ a b : Nat, a * 2 ^ b * (a * 2 ^ b) = a * a * (2 ^ b * 2 ^ b) from fun a b => by rw [Nat.mul_mul_mul_comm], ← Nat.pow_add] at h1
    rw [show (expo (rung u) + expo (rung u) - (min (expo (rung u)) (expo (rung v)) + min (expo (rung u)) (expo (rung v)))).toNat = (expo (rung u) - min (expo (rung u)) (expo (rung v))).toNat + (expo (rung u) - min (expo (rung u)) (expo (rung v))).toNat from by omega,
      show (expo (rung v) + expo (rung v) - (min (expo (rung u)) (expo (rung v)) + min (expo (rung u)) (expo (rung v)))).toNat = (expo (rung v) - min (expo (rung u)) (expo (rung v))).toNat + (expo (rung v) - min (expo (rung u)) (expo (rung v))).toNat from by omega]
    exact h1
  · unfold sqR
    rw [if_pos hu, if_neg (by omega)]
    exact rungOf_le _ _

/-- A difference. -/
theorem sub_any {x y : Nat} (hx : isNum x) (hy : isNum y) : floatBits .sub .f32 x y = some (fsub x y) ∧ okV (fsub x y) ∧
    rung (fsub x y) = rungOf (sg (neg x) (mant (rung x) * 2 ^ (expo (rung x) - min (expo (rung x)) (expo (rung y))).toNat) + sg (!neg y) (mant (rung y) * 2 ^ (expo (rung y) - min (expo (rung x)) (expo (rung y))).toNat)).natAbs (min (expo (rung x)) (expo (rung y))) := by
  have h1 := (num_iff x).1 hx
  have h2 := (num_iff y).1 hy
  have key : ∃ s, Ieee.single.sub x y = some (Ieee.single.nearest s (sg (neg x) (mant (rung x) * 2 ^ (expo (rung x) - min (expo (rung x)) (expo (rung y))).toNat) + sg (!neg y) (mant (rung y) * 2 ^ (expo (rung y) - min (expo (rung x)) (expo (rung y))).toNat)).natAbs (min (expo (rung x)) (expo (rung y)))) := by
    unfold Format.sub
    rw [read_mant x h1, read_mant y h2, ← signed_sg, ← signed_sg]
    exact ⟨_, rfl⟩
  obtain ⟨s, hs⟩ := key
  generalize (sg (neg x) (mant (rung x) * 2 ^ (expo (rung x) - min (expo (rung x)) (expo (rung y))).toNat) + sg (!neg y) (mant (rung y) * 2 ^ (expo (rung y) - min (expo (rung x)) (expo (rung y))).toNat)).natAbs = T at *
  generalize min (expo (rung x)) (expo (rung y)) = b at *
  have hf : fsub x y = Ieee.single.nearest s T b := by unfold fsub; rw [hs]; rfl
  refine ⟨?_, by rw [hf]; exact ok_nearest _ _ _, ?_⟩
  · show Ieee.single.sub x y = _
    rw [hs, hf]
  · rw [hf, nearest_rung, rung_word _ _ (rungOf_le _ _)]

theorem sub_swap {x y : Nat} (hx : isNum x) (hy : isNum y) : rung (fsub x y) = rung (fsub y x) := by
  obtain ⟨_, _, r1⟩ := sub_any hx hy
  obtain ⟨_, _, r2⟩ := sub_any hy hx
  rw [r1, r2, show min (expo (rung y)) (expo (rung x)) = min (expo (rung x)) (expo (rung y)) from by omega]
  congr 1
  generalize mant (rung x) * 2 ^ (expo (rung x) - min (expo (rung x)) (expo (rung y))).toNat = A
  generalize mant (rung y) * 2 ^ (expo (rung y) - min (expo (rung x)) (expo (rung y))).toNat = C
  cases neg x <;> cases neg y <;> simp only [sg, Bool.not_true, Bool.not_false, if_true, if_false, Bool.false_eq_true] <;> omega

/-- A sum of two that are not below zero. -/
theorem add_pos {r q : Nat} (hr : r ≤ 2139095040) (hq : q ≤ 2139095040) : floatBits .add .f32 (Ieee.single.word false r) (Ieee.single.word false q) = some (fadd (Ieee.single.word false r) (Ieee.single.word false q)) ∧ okV (fadd (Ieee.single.word false r) (Ieee.single.word false q)) := by
  have o1 : okV (Ieee.single.word false r) := by rw [ok_iff, rung_word _ _ hr]; exact hr
  have o2 : okV (Ieee.single.word false q) := by rw [ok_iff, rung_word _ _ hq]; exact hq
  have key : ∃ d, (Ieee.single.read (Ieee.single.word false r)).sum (Ieee.single.read (Ieee.single.word false q)) = some d ∧ d.isNaN = false := by
    rcases ok_cases o1 with ⟨_, e⟩ | ⟨_, e⟩ <;> rcases ok_cases o2 with ⟨_, f⟩ | ⟨_, f⟩ <;> rw [e, f]
    · exact ⟨_, rfl, rfl⟩
    · exact ⟨_, rfl, rfl⟩
    · exact ⟨_, rfl, rfl⟩
    · rw [neg_word _ _ hr, neg_word _ _ hq]
      exact ⟨.infinity false, rfl, rfl⟩
  obtain ⟨d, h1, h2⟩ := key
  have : Ieee.single.add (Ieee.single.word false r) (Ieee.single.word false q) = some (Ieee.single.write d) := by unfold Format.add; rw [h1]; rfl
  have e : fadd (Ieee.single.word false r) (Ieee.single.word false q) = Ieee.single.write d := by unfold fadd; rw [this]; rfl
  exact ⟨by rw [e]; exact this, by rw [e]; exact ok_write h2⟩

/-! float64(x) of a float32. -/
theorem inf_double : Ieee.double.infRung = 9218868437227405312 := by decide
theorem sign_double : Ieee.double.signWeight = 9223372036854775808 := by decide
theorem bin_double : Ieee.double.binade = 4503599627370496 := by decide
theorem least_double : Ieee.double.leastPlace = -1074 := by decide

theorem mod_double (s : Bool) (r : Nat) (h : r ≤ 9218868437227405312) : Ieee.double.word s r % 9223372036854775808 = r := by
  unfold Format.word
  rw [sign_double]
  split <;> omega

theorem double_word (s : Bool) (r : Nat) (h : r ≤ 9218868437227405312) : (Ieee.double.read (Ieee.double.word s r)).isNaN = false ∧ (r < 9218868437227405312 → (Ieee.double.read (Ieee.double.word s r)).isInfinity = false) := by
  unfold Format.read
  rw [bin_double, inf_double, sign_double, mod_double s r h]
  simp only
  by_cases h1 : r < 4503599627370496
  · rw [if_pos h1]; exact ⟨rfl, fun _ => rfl⟩
  · rw [if_neg h1]
    by_cases h2 : r < 9218868437227405312
    · rw [if_pos h2]; exact ⟨rfl, fun _ => rfl⟩
    · rw [if_neg h2, if_pos (by omega)]; exact ⟨rfl, fun e => absurd e h2⟩

theorem double_near (s : Bool) (m : Nat) (e : Int) (hm : m ≤ 16777215) (he : e ≤ 104) : ∃ r, Ieee.double.nearest s m e = Ieee.double.word s r ∧ r < 9218868437227405312 := by
  unfold Format.nearest
  split
  · exact ⟨0, rfl, by decide⟩
  · rename_i h0
    refine ⟨_, rfl, ?_⟩
    rw [inf_double, bin_double, least_double]
    have hlog : m.log2 < 24 := (Nat.log2_lt h0).2 (Nat.lt_of_le_of_lt hm (by decide))
    have hfb : (Ieee.double.fractionBits : Int) = 52 := rfl
    rw [hfb]
    generalize hl : max (e + (m.log2 : Int) - 52) (-1074) = l
    have hl2 : l ≤ 75 := by omega
    have hl3 : -1074 ≤ l := by omega
    have hk : Toward.even.cut s (m <<< (e - l).toNat) (l - e).toNat ≤ 9007199254740992 := by
      have : Toward.even.cut s (m <<< (e - l).toNat) (l - e).toNat ≤ Toward.even.cut false (2 ^ 53) 0 := by
        apply cut_mono
        rw [Nat.shiftLeft_eq, Nat.pow_zero, Nat.mul_one, ← Nat.pow_add]
        have hlt : m < 2 ^ (m.log2 + 1) := Nat.lt_log2_self
        exact Nat.le_trans (Nat.mul_le_mul_right _ (Nat.le_of_lt hlt)) (by rw [← Nat.pow_add]; exact Nat.pow_le_pow_right (by decide) (by omega))
      rw [cut_zero] at this
      exact this
    omega

theorem conv_ok {v : Nat} (h : okV v) : ∃ r, floatToFloatBits .f32 v .f64 = some r ∧ (FloatKind.f64.format.order r r != some .eq) = false := by
  have ord : ∀ d : Nat, (Ieee.double.read d).isNaN = false → (FloatKind.f64.format.order d d != some .eq) = false := by
    intro d hd
    have : FloatKind.f64.format.order d d = some .eq := by
      show (Ieee.double.read d).order (Ieee.double.read d) = _
      cases hr : Ieee.double.read d with
      | number s m i => simp [Datum.order]
      | infinity s => simp [Datum.order]
      | nan s t => rw [hr] at hd; cases hd
    rw [this]; rfl
  unfold floatToFloatBits
  rw [if_neg (by decide)]
  rcases ok_cases h with ⟨q, e⟩ | ⟨q, e⟩
  · obtain ⟨m, e', hr, _, h1, h2, h3⟩ := read_num v q
    have hd : FloatKind.f32.decode v = .number (neg v) m e' := hr
    rw [hd]
    obtain ⟨r, hn, hlt⟩ := double_near (neg v) m e' h3 h2
    have he : FloatKind.f64.encode (.number (neg v) m e') = Ieee.double.word (neg v) r := hn
    have hw := double_word (neg v) r (by omega)
    simp only [he]
    have hi : (FloatKind.f64.decode (Ieee.double.word (neg v) r)).isInfinity = false := hw.2 hlt
    rw [hi]
    exact ⟨_, rfl, ord _ hw.1⟩
  · have hd : FloatKind.f32.decode v = .infinity (neg v) := e
    rw [hd]
    have he : FloatKind.f64.encode (.infinity (neg v)) = Ieee.double.word (neg v) 9218868437227405312 := by
      show Ieee.double.word (neg v) Ieee.double.infRung = _
      rw [inf_double]
    refine ⟨_, rfl, ?_⟩
    rw [he]
    exact ord _ (double_word (neg v) _ (Nat.le_refl _)).1
end Go.Proofs.Ytlfmfhmbkpnjbaa
