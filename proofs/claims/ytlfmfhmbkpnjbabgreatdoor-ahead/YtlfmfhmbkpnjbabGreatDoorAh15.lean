import Derived.Test.YtlfmfhmbkpnjbabGreatDoorAh11
import Derived.Test.YtlfmfhmbkpnjbabGreatDoorAh8
namespace Go.Proofs.YtlfmfhmbkpnjbabGreatDoor
open Ieee

def mant (r : Nat) : Nat := if r < 8388608 then r else 8388608 + r % 8388608
def expo (r : Nat) : Int := if r < 8388608 then -149 else -149 + ((r / 8388608 - 1 : Nat) : Int)

theorem read_mant (v : Nat) (h : rung v < 2139095040) : Ieee.single.read v = .number (neg v) (mant (rung v)) (expo (rung v)) := by
  unfold Format.read mant expo
  rw [sign_single, bin_single, inf_single, least_single]
  simp only
  have hr : rung v = v % 2147483648 := rfl
  by_cases h1 : v % 2147483648 < 8388608
  · rw [if_pos h1, hr, if_pos h1, if_pos h1]; rfl
  · have h' : v % 2147483648 < 2139095040 := h
    rw [if_neg h1, if_pos h', hr, if_neg h1, if_neg h1]; rfl

theorem rung_mant (v : Nat) (h : rung v < 2139095040) : rungOf (mant (rung v)) (expo (rung v)) = rung v := by
  obtain ⟨m, e, h1, h2, _⟩ := read_num v h
  rw [read_mant v h] at h1
  simp only [Datum.number.injEq] at h1
  rw [h1.2.1, h1.2.2]; exact h2

theorem LeV.refl (m : Nat) (i : Int) : LeV m i m i := fun _ _ _ => Nat.le_refl _

/-- Values and rungs go together. -/
theorem val_mono {u v : Nat} (hu : rung u < 2139095040) (hv : rung v < 2139095040) (h : rung u ≤ rung v) : LeV (mant (rung u)) (expo (rung u)) (mant (rung v)) (expo (rung v)) := by
  rcases LeV.total (mant (rung u)) (expo (rung u)) (mant (rung v)) (expo (rung v)) with q | q
  · exact q
  · have := rung_mono _ _ _ _ q
    rw [rung_mant u hu, rung_mant v hv] at this
    have e : rung u = rung v := Nat.le_antisymm h this
    rw [e]; exact LeV.refl _ _
theorem rung_le_of {u v : Nat} (hu : rung u < 2139095040) (hv : rung v < 2139095040) (h : LeV (mant (rung u)) (expo (rung u)) (mant (rung v)) (expo (rung v))) : rung u ≤ rung v := by
  have := rung_mono _ _ _ _ h
  rwa [rung_mant u hu, rung_mant v hv] at this

def sg (s : Bool) (a : Nat) : Int := if s then -(a : Int) else (a : Int)
/-- Where a number stands among all. -/
def key (v : Nat) : Int := sg (neg v) (rung v)

theorem signed_sg (s : Bool) (m k : Nat) : signed s m k = sg s (m * 2 ^ k) := by unfold signed sg; rw [Nat.shiftLeft_eq]

theorem mant_zero (r : Nat) : mant r = 0 ↔ r = 0 := by
  unfold mant
  split
  · exact Iff.rfl
  · constructor
    · intro h; omega
    · intro h; omega

theorem cmp_congr {x y x' y' : Int} (h1 : x < y ↔ x' < y') (h2 : x = y ↔ x' = y') : compare x y = compare x' y' := by
  rcases Int.lt_trichotomy x y with h | h | h
  · rw [Int.compare_eq_lt.2 h, Int.compare_eq_lt.2 (h1.1 h)]
  · rw [Int.compare_eq_eq.2 h, Int.compare_eq_eq.2 (h2.1 h)]
  · have h' : y' < x' := by
      rcases Int.lt_trichotomy x' y' with q | q | q
      · have := h1.2 q; omega
      · have := h2.2 q; omega
      · exact q
    rw [Int.compare_eq_gt.2 h, Int.compare_eq_gt.2 h']

theorem cmp_sg (s t : Bool) (a c r q : Nat) (h1 : a ≤ c ↔ r ≤ q) (h2 : c ≤ a ↔ q ≤ r) (h3 : a = 0 ↔ r = 0) (h4 : c = 0 ↔ q = 0) : compare (sg s a) (sg t c) = compare (sg s r) (sg t q) := by
  unfold sg
  apply cmp_congr
  · cases s <;> cases t <;> simp only [if_true, if_false, Bool.false_eq_true] <;> omega
  · cases s <;> cases t <;> simp only [if_true, if_false, Bool.false_eq_true] <;> omega

theorem rung_lt_two (v : Nat) : rung v < 2147483648 := Nat.mod_lt _ (by decide)

theorem read_inf (v : Nat) (h : rung v = 2139095040) : Ieee.single.read v = .infinity (neg v) := by
  unfold Format.read
  rw [sign_single, bin_single, inf_single, least_single]
  simp only
  have h' : v % 2147483648 = 2139095040 := h
  rw [if_neg (by omega), if_neg (by omega), if_pos h']; rfl

theorem ok_iff (v : Nat) : okV v ↔ rung v ≤ 2139095040 := by
  constructor
  · intro h
    apply Nat.le_of_not_lt
    intro hr
    unfold okV Format.read at h
    rw [sign_single, bin_single, inf_single, least_single] at h
    simp only at h
    have hr' : 2139095040 < v % 2147483648 := hr
    rw [if_neg (by omega), if_neg (by omega), if_neg (by omega)] at h
    cases h
  · intro h
    rcases Nat.lt_or_eq_of_le h with q | q
    · unfold okV; rw [read_mant v q]; rfl
    · unfold okV; rw [read_inf v q]; rfl

/-- The order of two words that are no NaN. -/
theorem ford_key {u v : Nat} (hu : okV u) (hv : okV v) : ford u v = some (compare (key u) (key v)) := by
  rw [ok_iff] at hu hv
  show (Ieee.single.read u).order (Ieee.single.read v) = _
  rcases Nat.lt_or_eq_of_le hu with qu | qu
  · rcases Nat.lt_or_eq_of_le hv with qv | qv
    · rw [read_mant u qu, read_mant v qv]
      show some (compare (signed _ _ _) (signed _ _ _)) = _
      rw [signed_sg, signed_sg]
      congr 1
      have hp1 := Nat.two_pow_pos (expo (rung u) - min (expo (rung u)) (expo (rung v))).toNat
      have hp2 := Nat.two_pow_pos (expo (rung v) - min (expo (rung u)) (expo (rung v))).toNat
      apply cmp_sg
      · constructor
        · intro h; exact rung_le_of qu qv (leV_of _ (by omega) (by omega) h)
        · intro h; exact val_mono qu qv h _ (by omega) (by omega)
      · constructor
        · intro h; exact rung_le_of qv qu (leV_of _ (by omega) (by omega) h)
        · intro h; exact val_mono qv qu h _ (by omega) (by omega)
      · rw [Nat.mul_eq_zero, mant_zero]
        exact ⟨fun h => h.elim id (fun h => by omega), Or.inl⟩
      · rw [Nat.mul_eq_zero, mant_zero]
        exact ⟨fun h => h.elim id (fun h => by omega), Or.inl⟩
    · rw [read_mant u qu, read_inf v qv]
      show some (if neg v then Ordering.gt else Ordering.lt) = _
      unfold key sg
      rw [qv]
      cases neg v
      · rw [Int.compare_eq_lt.2 (by cases neg u <;> simp <;> omega)]; rfl
      · rw [Int.compare_eq_gt.2 (by cases neg u <;> simp <;> omega)]; rfl
  · rcases Nat.lt_or_eq_of_le hv with qv | qv
    · rw [read_inf u qu, read_mant v qv]
      show some (if neg u then Ordering.lt else Ordering.gt) = _
      unfold key sg
      rw [qu]
      cases neg u
      · rw [Int.compare_eq_gt.2 (by cases neg v <;> simp <;> omega)]; rfl
      · rw [Int.compare_eq_lt.2 (by cases neg v <;> simp <;> omega)]; rfl
    · rw [read_inf u qu, read_inf v qv]
      show some (compare (neg v).toNat (neg u).toNat) = _
      unfold key sg
      rw [qu, qv]
      cases neg u <;> cases neg v <;> rfl

theorem key_word (s : Bool) (r : Nat) (h : r ≤ 2139095040) : key (Ieee.single.word s r) = sg s r := by unfold key; rw [neg_word s r h, rung_word s r h]

/-- A square. -/
theorem sq_key {v : Nat} (hv : isNum v) : fmul v v = Ieee.single.word false (rungOf (mant (rung v) * mant (rung v)) (expo (rung v) + expo (rung v))) ∧ okV (fmul v v) ∧ floatBits .mul .f32 v v = some (fmul v v) := by
  have h := (num_iff v).1 hv
  have hm : Ieee.single.mul v v = some (Ieee.single.nearest (neg v ^^ neg v) (mant (rung v) * mant (rung v)) (expo (rung v) + expo (rung v))) := by
    unfold Format.mul; rw [read_mant v h]; rfl
  have hf : fmul v v = Ieee.single.nearest (neg v ^^ neg v) (mant (rung v) * mant (rung v)) (expo (rung v) + expo (rung v)) := by
    unfold fmul; rw [hm]; rfl
  rw [Bool.xor_self] at hf hm
  refine ⟨by rw [hf, nearest_rung], by rw [hf]; exact ok_nearest _ _ _, ?_⟩
  show Ieee.single.mul v v = _
  rw [hm, hf]

theorem sq_mono {u v : Nat} (hu : isNum u) (hv : isNum v) (h : rung u ≤ rung v) : (FloatKind.f32.format.order (fmul u u) (fmul v v) == some .gt) = false := by
  obtain ⟨e1, o1, _⟩ := sq_key hu
  obtain ⟨e2, o2, _⟩ := sq_key hv
  have hle := val_mono ((num_iff u).1 hu) ((num_iff v).1 hv) h
  have hsq : LeV (mant (rung u) * mant (rung u)) (expo (rung u) + expo (rung u)) (mant (rung v) * mant (rung v)) (expo (rung v) + expo (rung v)) := by
    have h0 := hle (min (expo (rung u)) (expo (rung v))) (by omega) (by omega)
    refine leV_of (min (expo (rung u)) (expo (rung v)) + min (expo (rung u)) (expo (rung v))) (by omega) (by omega) ?_
    have h1 := Nat.mul_le_mul h0 h0
    rw [show ∀ a b : Nat, a * 2 ^ b * (a * 2 ^ b) = a * a * (2 ^ b * 2 ^ b) from fun a b => by rw [Nat.mul_mul_mul_comm], ← Nat.pow_add, show ∀ a b : Nat, a * 2 ^ b * (a * 2 ^ b) = a * a * (2 ^ b * 2 ^ b) from fun a b => by rw [Nat.mul_mul_mul_comm], ← Nat.pow_add] at h1
    rw [show (expo (rung u) + expo (rung u) - (min (expo (rung u)) (expo (rung v)) + min (expo (rung u)) (expo (rung v)))).toNat = (expo (rung u) - min (expo (rung u)) (expo (rung v))).toNat + (expo (rung u) - min (expo (rung u)) (expo (rung v))).toNat from by omega,
      show (expo (rung v) + expo (rung v) - (min (expo (rung u)) (expo (rung v)) + min (expo (rung u)) (expo (rung v)))).toNat = (expo (rung v) - min (expo (rung u)) (expo (rung v))).toNat + (expo (rung v) - min (expo (rung u)) (expo (rung v))).toNat from by omega]
    exact h1
  have hr := rung_mono _ _ _ _ hsq
  apply ford_bne
  rw [ford_key o1 o2, e1, e2, key_word _ _ (rungOf_le _ _), key_word _ _ (rungOf_le _ _)]
  intro e
  have := Int.compare_eq_gt.1 (Option.some.inj e)
  simp only [sg, Bool.false_eq_true, if_false] at this
  omega

/-- A sum. -/
theorem add_key {x v : Nat} (hx : isNum x) (hv : isNum v) : ∃ (b T : Int), b = min (expo (rung x)) (expo (rung v)) ∧ T = sg (neg x) (mant (rung x) * 2 ^ (expo (rung x) - b).toNat) + sg (neg v) (mant (rung v) * 2 ^ (expo (rung v) - b).toNat) ∧
    key (fadd x v) = sg (if T = 0 then neg x && neg v else decide (T < 0)) (rungOf T.natAbs b) := by
  have h1 := (num_iff x).1 hx
  have h2 := (num_iff v).1 hv
  refine ⟨_, _, rfl, rfl, ?_⟩
  have hf : fadd x v = Ieee.single.nearest (if signed (neg x) (mant (rung x)) (expo (rung x) - min (expo (rung x)) (expo (rung v))).toNat + signed (neg v) (mant (rung v)) (expo (rung v) - min (expo (rung x)) (expo (rung v))).toNat = 0 then neg x && neg v else decide (signed (neg x) (mant (rung x)) (expo (rung x) - min (expo (rung x)) (expo (rung v))).toNat + signed (neg v) (mant (rung v)) (expo (rung v) - min (expo (rung x)) (expo (rung v))).toNat < 0)) (signed (neg x) (mant (rung x)) (expo (rung x) - min (expo (rung x)) (expo (rung v))).toNat + signed (neg v) (mant (rung v)) (expo (rung v) - min (expo (rung x)) (expo (rung v))).toNat).natAbs (min (expo (rung x)) (expo (rung v))) := by
    unfold fadd Format.add
    rw [read_mant x h1, read_mant v h2]; rfl
  rw [signed_sg, signed_sg] at hf
  rw [hf, nearest_rung, key_word _ _ (rungOf_le _ _)]

theorem rungOf_zero (b : Int) : rungOf 0 b = 0 := by simp [rungOf]

theorem add_ge {x v : Nat} (hx : isNum x) (hv : isNum v) (h0 : 0 ≤ key v) : key x ≤ key (fadd x v) := by
  have h1 := (num_iff x).1 hx
  obtain ⟨b, T, hb, hT, hk⟩ := add_key hx hv
  rw [hk]
  have hA : ∀ N : Nat, mant (rung x) * 2 ^ (expo (rung x) - b).toNat ≤ N → rung x ≤ rungOf N b := fun N hN => by
    have := rung_mono (mant (rung x)) (expo (rung x)) N b (leV_of b (by omega) (by omega) (by rw [show (b - b).toNat = 0 from by omega, Nat.pow_zero, Nat.mul_one]; exact hN))
    rwa [rung_mant x h1] at this
  have hB : ∀ N : Nat, N ≤ mant (rung x) * 2 ^ (expo (rung x) - b).toNat → rungOf N b ≤ rung x := fun N hN => by
    have := rung_mono N b (mant (rung x)) (expo (rung x)) (leV_of b (by omega) (by omega) (by rw [show (b - b).toNat = 0 from by omega, Nat.pow_zero, Nat.mul_one]; exact hN))
    rwa [rung_mant x h1] at this
  have hC : 0 ≤ sg (neg v) (mant (rung v) * 2 ^ (expo (rung v) - b).toNat) := by
    unfold key sg at h0
    unfold sg
    split at h0
    · rename_i q
      have : rung v = 0 := by omega
      rw [if_pos q, this]; simp [mant]
    · rename_i q
      rw [if_neg q]; omega
  generalize sg (neg v) (mant (rung v) * 2 ^ (expo (rung v) - b).toNat) = C at *
  generalize mant (rung x) * 2 ^ (expo (rung x) - b).toNat = A at *
  unfold key
  generalize neg x = s at *
  generalize neg v = t at *
  cases s
  · simp only [sg, Bool.false_eq_true, if_false, Bool.false_and] at hT ⊢
    have q := hA T.natAbs (by omega)
    have hs : (if T = 0 then false else decide (T < 0)) = false := by split <;> simp; omega
    rw [hs]
    simp only [Bool.false_eq_true, if_false]
    omega
  · simp only [sg, if_true] at hT ⊢
    by_cases h0' : T < 0
    · have q := hB T.natAbs (by omega)
      split <;> omega
    · by_cases hz : T = 0
      · rw [hz]; simp only [Int.natAbs_zero, rungOf_zero]; split <;> omega
      · rw [if_neg hz, decide_eq_false h0']
        simp only [Bool.false_eq_true, if_false]
        omega

theorem add_le {x v : Nat} (hx : isNum x) (hv : isNum v) (h0 : key v ≤ 0) : key (fadd x v) ≤ key x := by
  have h1 := (num_iff x).1 hx
  obtain ⟨b, T, hb, hT, hk⟩ := add_key hx hv
  rw [hk]
  have hA : ∀ N : Nat, mant (rung x) * 2 ^ (expo (rung x) - b).toNat ≤ N → rung x ≤ rungOf N b := fun N hN => by
    have := rung_mono (mant (rung x)) (expo (rung x)) N b (leV_of b (by omega) (by omega) (by rw [show (b - b).toNat = 0 from by omega, Nat.pow_zero, Nat.mul_one]; exact hN))
    rwa [rung_mant x h1] at this
  have hB : ∀ N : Nat, N ≤ mant (rung x) * 2 ^ (expo (rung x) - b).toNat → rungOf N b ≤ rung x := fun N hN => by
    have := rung_mono N b (mant (rung x)) (expo (rung x)) (leV_of b (by omega) (by omega) (by rw [show (b - b).toNat = 0 from by omega, Nat.pow_zero, Nat.mul_one]; exact hN))
    rwa [rung_mant x h1] at this
  have hC : sg (neg v) (mant (rung v) * 2 ^ (expo (rung v) - b).toNat) ≤ 0 := by
    unfold key sg at h0
    unfold sg
    split at h0
    · rename_i q
      rw [if_pos q]; omega
    · rename_i q
      have : rung v = 0 := by omega
      rw [if_neg q, this]; simp [mant]
  generalize sg (neg v) (mant (rung v) * 2 ^ (expo (rung v) - b).toNat) = C at *
  generalize mant (rung x) * 2 ^ (expo (rung x) - b).toNat = A at *
  unfold key
  generalize neg x = s at *
  generalize neg v = t at *
  cases s
  · simp only [sg, Bool.false_eq_true, if_false, Bool.false_and] at hT ⊢
    by_cases h0' : T < 0
    · have hs : (if T = 0 then false else decide (T < 0)) = true := by rw [if_neg (by omega)]; simp [h0']
      rw [hs]
      simp only [if_true]
      omega
    · have q := hB T.natAbs (by omega)
      split <;> omega
  · simp only [sg, if_true] at hT ⊢
    have q := hA T.natAbs (by omega)
    by_cases hz : T = 0
    · have : A = 0 := by omega
      rw [hz] at q
      simp only [Int.natAbs_zero, rungOf_zero] at q
      rw [hz]; simp only [Int.natAbs_zero, rungOf_zero]; split <;> omega
    · rw [if_neg hz, decide_eq_true (by omega)]
      simp only [if_true]
      omega
end Go.Proofs.YtlfmfhmbkpnjbabGreatDoor

namespace Go.Proofs.YtlfmfhmbkpnjbabGreatDoor
open Ieee

theorem ok_cases {v : Nat} (h : okV v) : (rung v < 2139095040 ∧ Ieee.single.read v = .number (neg v) (mant (rung v)) (expo (rung v))) ∨ (rung v = 2139095040 ∧ Ieee.single.read v = .infinity (neg v)) := by
  rcases Nat.lt_or_eq_of_le ((ok_iff v).1 h) with q | q
  · exact Or.inl ⟨q, read_mant v q⟩
  · exact Or.inr ⟨q, read_inf v q⟩

/-- The rung of a square, by the rung. -/
def sqR (r : Nat) : Nat := if r < 2139095040 then rungOf (mant r * mant r) (expo r + expo r) else 2139095040
theorem sqR_le (r : Nat) : sqR r ≤ 2139095040 := by unfold sqR; split; exact rungOf_le _ _; omega

theorem sq_any {v : Nat} (h : okV v) : fmul v v = Ieee.single.word false (sqR (rung v)) ∧ floatBits .mul .f32 v v = some (fmul v v) ∧ okV (fmul v v) := by
  have key : Ieee.single.mul v v = some (Ieee.single.word false (sqR (rung v))) := by
    unfold Format.mul sqR
    rcases ok_cases h with ⟨q, e⟩ | ⟨q, e⟩
    · rw [e, if_pos q]
      show some (Ieee.single.nearest (neg v ^^ neg v) _ _) = _
      rw [Bool.xor_self, nearest_rung]
    · rw [e, if_neg (by omega)]
      show some (Ieee.single.word (neg v ^^ neg v) _) = _
      rw [Bool.xor_self, inf_single]
  have hf : fmul v v = Ieee.single.word false (sqR (rung v)) := by unfold fmul; rw [key]; rfl
  refine ⟨hf, ?_, ?_⟩
  · show Ieee.single.mul v v = _
    rw [key, hf]
  · rw [hf, ok_iff, rung_word _ _ (sqR_le _)]; exact sqR_le _

theorem sqR_mono {u v : Nat} (hu : rung u < 2139095040) (hv : okV v) (h : rung u ≤ rung v) : sqR (rung u) ≤ sqR (rung v) := by
  rcases ok_cases hv with ⟨q, _⟩ | ⟨q, _⟩
  · have hle := val_mono hu q h
    unfold sqR
    rw [if_pos hu, if_pos q]
    apply rung_mono
    have h0 := hle (min (expo (rung u)) (expo (rung v))) (by omega) (by omega)
    refine leV_of (min (expo (rung u)) (expo (rung v)) + min (expo (rung u)) (expo (rung v))) (by omega) (by omega) ?_
    have h1 := Nat.mul_le_mul h0 h0
    rw [show ∀ a b : Nat, a * 2 ^ b * (a * 2 ^ b) = a * a * (2 ^ b * 2 ^ b) from fun a b => by rw [Nat.mul_mul_mul_comm], ← Nat.pow_add, show ∀ a b : Nat, a * 2 ^ b * (a * 2 ^ b) = a * a * (2 ^ b * 2 ^ b) from fun a b => by rw [Nat.mul_mul_mul_comm], ← Nat.pow_add] at h1
    rw [show (expo (rung u) + expo (rung u) - (min (expo (rung u)) (expo (rung v)) + min (expo (rung u)) (expo (rung v)))).toNat = (expo (rung u) - min (expo (rung u)) (expo (rung v))).toNat + (expo (rung u) - min (expo (rung u)) (expo (rung v))).toNat from by omega,
      show (expo (rung v) + expo (rung v) - (min (expo (rung u)) (expo (rung v)) + min (expo (rung u)) (expo (rung v)))).toNat = (expo (rung v) - min (expo (rung u)) (expo (rung v))).toNat + (expo (rung v) - min (expo (rung u)) (expo (rung v))).toNat from by omega]
    exact h1
  · unfold sqR
    rw [if_pos hu, if_neg (by omega)]
    exact rungOf_le _ _

/-- A difference. -/
theorem sub_any {x y : Nat} (hx : isNum x) (hy : isNum y) : floatBits .sub .f32 x y = some (fsub x y) ∧ okV (fsub x y) ∧
    rung (fsub x y) = rungOf (sg (neg x) (mant (rung x) * 2 ^ (expo (rung x) - min (expo (rung x)) (expo (rung y))).toNat) + sg (!neg y) (mant (rung y) * 2 ^ (expo (rung y) - min (expo (rung x)) (expo (rung y))).toNat)).natAbs (min (expo (rung x)) (expo (rung y))) := by
  have h1 := (num_iff x).1 hx
  have h2 := (num_iff y).1 hy
  have key : ∃ s, Ieee.single.sub x y = some (Ieee.single.nearest s (sg (neg x) (mant (rung x) * 2 ^ (expo (rung x) - min (expo (rung x)) (expo (rung y))).toNat) + sg (!neg y) (mant (rung y) * 2 ^ (expo (rung y) - min (expo (rung x)) (expo (rung y))).toNat)).natAbs (min (expo (rung x)) (expo (rung y)))) := by
    unfold Format.sub
    rw [read_mant x h1, read_mant y h2, ← signed_sg, ← signed_sg]
    exact ⟨_, rfl⟩
  obtain ⟨s, hs⟩ := key
  generalize (sg (neg x) (mant (rung x) * 2 ^ (expo (rung x) - min (expo (rung x)) (expo (rung y))).toNat) + sg (!neg y) (mant (rung y) * 2 ^ (expo (rung y) - min (expo (rung x)) (expo (rung y))).toNat)).natAbs = T at *
  generalize min (expo (rung x)) (expo (rung y)) = b at *
  have hf : fsub x y = Ieee.single.nearest s T b := by unfold fsub; rw [hs]; rfl
  refine ⟨?_, by rw [hf]; exact ok_nearest _ _ _, ?_⟩
  · show Ieee.single.sub x y = _
    rw [hs, hf]
  · rw [hf, nearest_rung, rung_word _ _ (rungOf_le _ _)]

theorem sub_swap {x y : Nat} (hx : isNum x) (hy : isNum y) : rung (fsub x y) = rung (fsub y x) := by
  obtain ⟨_, _, r1⟩ := sub_any hx hy
  obtain ⟨_, _, r2⟩ := sub_any hy hx
  rw [r1, r2, show min (expo (rung y)) (expo (rung x)) = min (expo (rung x)) (expo (rung y)) from by omega]
  congr 1
  generalize mant (rung x) * 2 ^ (expo (rung x) - min (expo (rung x)) (expo (rung y))).toNat = A
  generalize mant (rung y) * 2 ^ (expo (rung y) - min (expo (rung x)) (expo (rung y))).toNat = C
  cases neg x <;> cases neg y <;> simp only [sg, Bool.not_true, Bool.not_false, if_true, if_false, Bool.false_eq_true] <;> omega

/-- A sum of two that are not below zero. -/
theorem add_pos {r q : Nat} (hr : r ≤ 2139095040) (hq : q ≤ 2139095040) : floatBits .add .f32 (Ieee.single.word false r) (Ieee.single.word false q) = some (fadd (Ieee.single.word false r) (Ieee.single.word false q)) ∧ okV (fadd (Ieee.single.word false r) (Ieee.single.word false q)) := by
  have o1 : okV (Ieee.single.word false r) := by rw [ok_iff, rung_word _ _ hr]; exact hr
  have o2 : okV (Ieee.single.word false q) := by rw [ok_iff, rung_word _ _ hq]; exact hq
  have key : ∃ d, (Ieee.single.read (Ieee.single.word false r)).sum (Ieee.single.read (Ieee.single.word false q)) = some d ∧ d.isNaN = false := by
    rcases ok_cases o1 with ⟨_, e⟩ | ⟨_, e⟩ <;> rcases ok_cases o2 with ⟨_, f⟩ | ⟨_, f⟩ <;> rw [e, f]
    · exact ⟨_, rfl, rfl⟩
    · exact ⟨_, rfl, rfl⟩
    · exact ⟨_, rfl, rfl⟩
    · rw [neg_word _ _ hr, neg_word _ _ hq]
      exact ⟨.infinity false, rfl, rfl⟩
  obtain ⟨d, h1, h2⟩ := key
  have : Ieee.single.add (Ieee.single.word false r) (Ieee.single.word false q) = some (Ieee.single.write d) := by unfold Format.add; rw [h1]; rfl
  have e : fadd (Ieee.single.word false r) (Ieee.single.word false q) = Ieee.single.write d := by unfold fadd; rw [this]; rfl
  exact ⟨by rw [e]; exact this, by rw [e]; exact ok_write h2⟩

/-! float64(x) of a float32. -/
theorem inf_double : Ieee.double.infRung = 9218868437227405312 := by decide
theorem sign_double : Ieee.double.signWeight = 9223372036854775808 := by decide
theorem bin_double : Ieee.double.binade = 4503599627370496 := by decide
theorem least_double : Ieee.double.leastPlace = -1074 := by decide

theorem mod_double (s : Bool) (r : Nat) (h : r ≤ 9218868437227405312) : Ieee.double.word s r % 9223372036854775808 = r := by
  unfold Format.word
  rw [sign_double]
  split <;> omega

theorem double_word (s : Bool) (r : Nat) (h : r ≤ 9218868437227405312) : (Ieee.double.read (Ieee.double.word s r)).isNaN = false ∧ (r < 9218868437227405312 → (Ieee.double.read (Ieee.double.word s r)).isInfinity = false) := by
  unfold Format.read
  rw [bin_double, inf_double, sign_double, mod_double s r h]
  simp only
  by_cases h1 : r < 4503599627370496
  · rw [if_pos h1]; exact ⟨rfl, fun _ => rfl⟩
  · rw [if_neg h1]
    by_cases h2 : r < 9218868437227405312
    · rw [if_pos h2]; exact ⟨rfl, fun _ => rfl⟩
    · rw [if_neg h2, if_pos (by omega)]; exact ⟨rfl, fun e => absurd e h2⟩

theorem double_near (s : Bool) (m : Nat) (e : Int) (hm : m ≤ 16777215) (he : e ≤ 104) : ∃ r, Ieee.double.nearest s m e = Ieee.double.word s r ∧ r < 9218868437227405312 := by
  unfold Format.nearest
  split
  · exact ⟨0, rfl, by decide⟩
  · rename_i h0
    refine ⟨_, rfl, ?_⟩
    rw [inf_double, bin_double, least_double]
    have hlog : m.log2 < 24 := (Nat.log2_lt h0).2 (Nat.lt_of_le_of_lt hm (by decide))
    have hfb : (Ieee.double.fractionBits : Int) = 52 := rfl
    rw [hfb]
    generalize hl : max (e + (m.log2 : Int) - 52) (-1074) = l
    have hl2 : l ≤ 75 := by omega
    have hl3 : -1074 ≤ l := by omega
    have hk : Toward.even.cut s (m <<< (e - l).toNat) (l - e).toNat ≤ 9007199254740992 := by
      have : Toward.even.cut s (m <<< (e - l).toNat) (l - e).toNat ≤ Toward.even.cut false (2 ^ 53) 0 := by
        apply cut_mono
        rw [Nat.shiftLeft_eq, Nat.pow_zero, Nat.mul_one, ← Nat.pow_add]
        have hlt : m < 2 ^ (m.log2 + 1) := Nat.lt_log2_self
        exact Nat.le_trans (Nat.mul_le_mul_right _ (Nat.le_of_lt hlt)) (by rw [← Nat.pow_add]; exact Nat.pow_le_pow_right (by decide) (by omega))
      rw [cut_zero] at this
      exact this
    omega

theorem conv_ok {v : Nat} (h : okV v) : ∃ r, floatToFloatBits .f32 v .f64 = some r ∧ (FloatKind.f64.format.order r r != some .eq) = false := by
  have ord : ∀ d : Nat, (Ieee.double.read d).isNaN = false → (FloatKind.f64.format.order d d != some .eq) = false := by
    intro d hd
    have : FloatKind.f64.format.order d d = some .eq := by
      show (Ieee.double.read d).order (Ieee.double.read d) = _
      cases hr : Ieee.double.read d with
      | number s m i => simp [Datum.order]
      | infinity s => simp [Datum.order]
      | nan s t => rw [hr] at hd; cases hd
    rw [this]; rfl
  unfold floatToFloatBits
  rw [if_neg (by decide)]
  rcases ok_cases h with ⟨q, e⟩ | ⟨q, e⟩
  · obtain ⟨m, e', hr, _, h1, h2, h3⟩ := read_num v q
    have hd : FloatKind.f32.decode v = .number (neg v) m e' := hr
    rw [hd]
    obtain ⟨r, hn, hlt⟩ := double_near (neg v) m e' h3 h2
    have he : FloatKind.f64.encode (.number (neg v) m e') = Ieee.double.word (neg v) r := hn
    have hw := double_word (neg v) r (by omega)
    simp only [he]
    have hi : (FloatKind.f64.decode (Ieee.double.word (neg v) r)).isInfinity = false := hw.2 hlt
    rw [hi]
    exact ⟨_, rfl, ord _ hw.1⟩
  · have hd : FloatKind.f32.decode v = .infinity (neg v) := e
    rw [hd]
    have he : FloatKind.f64.encode (.infinity (neg v)) = Ieee.double.word (neg v) 9218868437227405312 := by
      show Ieee.double.word (neg v) Ieee.double.infRung = _
      rw [inf_double]
    refine ⟨_, rfl, ?_⟩
    rw [he]
    exact ord _ (double_word (neg v) _ (Nat.le_refl _)).1
end Go.Proofs.YtlfmfhmbkpnjbabGreatDoor

namespace Go.Proofs.YtlfmfhmbkpnjbabGreatDoor
open Go.RowKit

/-- How far two are apart, squared; who sees whom. -/
def dist (a e : Mob) : Nat := fadd (fmul (fsub e.x a.x) (fsub e.x a.x)) (fmul (fsub e.y a.y) (fsub e.y a.y))
def seesB (a e : Mob) (far : Nat) : Bool := (a.team == e.team) || fle (dist a e) (fmul far far)

structure Pl (m : Mob) : Prop where
  x : isNum m.x
  y : isNum m.y

theorem dist_ok {a e : Mob} (ha : Pl a) (he : Pl e) : okV (dist a e) ∧ floatBits .add .f32 (fmul (fsub e.x a.x) (fsub e.x a.x)) (fmul (fsub e.y a.y) (fsub e.y a.y)) = some (dist a e) := by
  have hx := sq_any (sub_any he.x ha.x).2.1
  have hy := sq_any (sub_any he.y ha.y).2.1
  unfold dist
  rw [hx.1, hy.1]
  have := add_pos (sqR_le (rung (fsub e.x a.x))) (sqR_le (rung (fsub e.y a.y)))
  exact ⟨this.2, this.1⟩

theorem dist_swap {a e : Mob} (ha : Pl a) (he : Pl e) : dist a e = dist e a := by
  have hx := sq_any (sub_any he.x ha.x).2.1
  have hy := sq_any (sub_any he.y ha.y).2.1
  have hx' := sq_any (sub_any ha.x he.x).2.1
  have hy' := sq_any (sub_any ha.y he.y).2.1
  unfold dist
  rw [hx.1, hy.1, hx'.1, hy'.1, sub_swap he.x ha.x, sub_swap he.y ha.y]

theorem sees_swap {a e : Mob} (ha : Pl a) (he : Pl e) (far : Nat) : seesB a e far = seesB e a far := by
  unfold seesB
  rw [dist_swap ha he, BEq.comm]

set_option maxHeartbeats 1000000 in
set_option maxRecDepth 100000 in
theorem sees_c (a e : Mob) (far : Nat) (w : World) (ha : Pl a) (he : Pl e) (hf : okV far) :
    Calls Tryz.prog 98 #[.agg #[.int .i64 a.id, .int .i64 a.team, .float .f32 a.x, .float .f32 a.y, .float .f32 a.vx, .float .f32 a.vy, .int .i64 a.health], .agg #[.int .i64 e.id, .int .i64 e.team, .float .f32 e.x, .float .f32 e.y, .float .f32 e.vx, .float .f32 e.vy, .int .i64 e.health], .float .f32 far] w fun r w' => r = .returned (.bool (seesB a e far)) ∧ Kept (fun _ => False) w w' := by
  have r1 : ∀ w, (binOp .sub 61 (.float .f32 e.x) (.float .f32 a.x)).run Tryz.prog w = .ok (.float .f32 (fsub e.x a.x)) w := fun w => run_float_arith w .sub _ .f32 _ _ _ (sub_any he.x ha.x).1
  have r2 : ∀ w, (binOp .sub 61 (.float .f32 e.y) (.float .f32 a.y)).run Tryz.prog w = .ok (.float .f32 (fsub e.y a.y)) w := fun w => run_float_arith w .sub _ .f32 _ _ _ (sub_any he.y ha.y).1
  have r3 : ∀ w, (binOp .mul 61 (.float .f32 (fsub e.x a.x)) (.float .f32 (fsub e.x a.x))).run Tryz.prog w = .ok (.float .f32 (fmul (fsub e.x a.x) (fsub e.x a.x))) w := fun w => run_float_arith w .mul _ .f32 _ _ _ (sq_any (sub_any he.x ha.x).2.1).2.1
  have r4 : ∀ w, (binOp .mul 61 (.float .f32 (fsub e.y a.y)) (.float .f32 (fsub e.y a.y))).run Tryz.prog w = .ok (.float .f32 (fmul (fsub e.y a.y) (fsub e.y a.y))) w := fun w => run_float_arith w .mul _ .f32 _ _ _ (sq_any (sub_any he.y ha.y).2.1).2.1
  have r5 : ∀ w, (binOp .add 61 (.float .f32 (fmul (fsub e.x a.x) (fsub e.x a.x))) (.float .f32 (fmul (fsub e.y a.y) (fsub e.y a.y)))).run Tryz.prog w = .ok (.float .f32 (dist a e)) w := fun w => run_float_arith w .add _ .f32 _ _ _ (dist_ok ha he).2
  have r6 : ∀ w, (binOp .mul 61 (.float .f32 far) (.float .f32 far)).run Tryz.prog w = .ok (.float .f32 (fmul far far)) w := fun w => run_float_arith w .mul _ .f32 _ _ _ (sq_any hf).2.1
  have HK := hide ((Kept.alloc w (.cells #[.int .i64 a.id, .int .i64 a.team, .float .f32 a.x, .float .f32 a.y, .float .f32 a.vx, .float .f32 a.vy, .int .i64 a.health] 63)).calm2 (Kept.alloc _ (.cells #[.int .i64 e.id, .int .i64 e.team, .float .f32 e.x, .float .f32 e.y, .float .f32 e.vx, .float .f32 e.vy, .int .i64 e.health] 63)))
  by_cases h1 : a.team = e.team
  · have H : Hid (seesB a e far = true) := by show _ = _; simp [seesB, h1]
    have h1' : (a.team == e.team) = true := by simp [h1]
    clear h1
    go_enter Tryz.func98, Tryz.ntmps98
    go_wp2
    go_ret
    exact ⟨ret1 (by rw [H.out]; rfl), HK.out⟩
  · have h1' : (a.team == e.team) = false := by simp [h1]
    have H : Hid (seesB a e far = fle (dist a e) (fmul far far)) := by show _ = _; simp [seesB, h1]
    clear h1
    go_enter Tryz.func98, Tryz.ntmps98
    go_wp2
    go_quiet (fail)
    go_wp2
    go_ret
    exact ⟨ret1 (by rw [H.out]; rfl), HK.out.calm2 (Kept.drewN _ _)⟩

theorem isNaN64_c (r : Nat) (w : World) (h : (FloatKind.f64.format.order r r != some .eq) = false) : Calls Tryz.prog 97 #[.float .f64 r] w fun e w' => e = .returned (.bool false) ∧ w' = w := by
  go_enter Tryz.func97, Tryz.ntmps97
  go_wp2
  go_ret
  exact ⟨rfl, rfl⟩
end Go.Proofs.YtlfmfhmbkpnjbabGreatDoor

namespace Go.Proofs.YtlfmfhmbkpnjbabGreatDoor
open Go.RowKit

/-- A row of entities with room. -/
structure RowAt (w : World) (g : Nat) (L : List Mob) (cap : Nat) (cur : List Value) : Prop where
  blk : w.heap[g]? = some (.cells cur.toArray 63 (0, 0))
  len : cur.length = cap * 7
  row : cur.take (L.length * 7) = rowM L
  short : L.length ≤ cap

theorem RowAt.keep {w w' : World} {S : Nat → Prop} {g : Nat} {L : List Mob} {cap : Nat} {cur : List Value} (h : RowAt w g L cap cur) (hk : Kept S w w') (hS : ¬ S g) : RowAt w' g L cap cur :=
  ⟨by rw [hk.block g (heap_lt h.blk) hS]; exact h.blk, h.len, h.row, h.short⟩
theorem RowAt.calm {w w' : World} {g : Nat} {L : List Mob} {cap : Nat} {cur : List Value} (h : RowAt w g L cap cur) (hk : Kept (fun _ => False) w w') : RowAt w' g L cap cur := h.keep hk (fun e => e)
theorem RowAt.reads {w : World} {g : Nat} {L : List Mob} {cap : Nat} {cur : List Value} (h : RowAt w g L cap cur) : Reads w (some ⟨g, 0, none⟩) L := fun _ => ⟨g, 0, rfl, heap_lt h.blk, fun j u hu => by
  rw [Nat.zero_add, cell_block h.blk]
  have hj := (List.getElem?_eq_some_iff.1 hu).1
  have e : cur = rowM L ++ cur.drop (L.length * 7) := by rw [← h.row, List.take_append_drop]
  rw [e]
  simp [List.getElem?_append_left hj, hu]⟩
theorem RowAt.more {w w' : World} {g : Nat} {L : List Mob} {cap : Nat} {cur : List Value} {m : Mob} (h : RowAt w g L cap cur) (hl : L.length < cap) (hw : w'.heap[g]? = some (.cells (splice cur (L.length * 7) (rowM [m])).toArray 63 (0, 0))) : RowAt w' g (L ++ [m]) cap (splice cur (L.length * 7) (rowM [m])) := by
  have h7 : (rowM [m]).length = 7 := rfl
  refine ⟨hw, by rw [length_splice _ _ _ (by rw [h.len, h7]; omega), h.len], ?_, by simp; omega⟩
  unfold splice
  rw [h.row, rowM_append, ← List.append_assoc, show (L ++ [m]).length * 7 = (rowM L ++ rowM [m]).length from by rw [← rowM_append, rowM_length], List.take_left]

end Go.Proofs.YtlfmfhmbkpnjbabGreatDoor
