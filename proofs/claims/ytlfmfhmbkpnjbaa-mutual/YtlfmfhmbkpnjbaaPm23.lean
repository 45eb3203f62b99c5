import Derived.Test.YtlfmfhmbkpnjbaaPm18
import Derived.Test.YtlfmfhmbkpnjbaaPm21
namespace Go.Proofs.Ytlfmfhmbkpnjbaa
open Ieee

def mant (r : Nat) : Nat := if r < 8388608 then r else 8388608 + r % 8388608
def expo (r : Nat) : Int := if r < 8388608 then -149 else -149 + ((r / 8388608 - 1 : Nat) : Int)

theorem read_mant (v : Nat) (h : rung v < 2139095040) : Ieee.single.read v = .number (neg v) (mant (rung v)) (expo (rung v)) := by
  unfold Format.read mant expo
  rw [sign_single, bin_single, inf_single, least_single]
  simp only
  have hr : rung v = v % 2147483648 := rfl
  by_cases h1 : v % 2147483648 < 8388608
  · rw [if_pos h1, hr, if_pos h1, if_pos h1]; rfl
  · have h' : v % 2147483648 < 2139095040 := h
    rw [if_neg h1, if_pos h', hr, if_neg h1, if_neg h1]; rfl

theorem rung_mant (v : Nat) (h : rung v < 2139095040) : rungOf (mant (rung v)) (expo (rung v)) = rung v := by
  obtain ⟨m, e, h1, h2, _⟩ := read_num v h
  rw [read_mant v h] at h1
  simp only [Datum.number.injEq] at h1
  rw [h1.2.1, h1.2.2]; exact h2

theorem LeV.refl (m : Nat) (i : Int) : LeV m i m i := fun _ _ _ => Nat.le_refl _

/-- Values and rungs go together. -/
theorem val_mono {u v : Nat} (hu : rung u < 2139095040) (hv : rung v < 2139095040) (h : rung u ≤ rung v) : LeV (mant (rung u)) (expo (rung u)) (mant (rung v)) (expo (rung v)) := by
  rcases LeV.total (mant (rung u)) (expo (rung u)) (mant (rung v)) (expo (rung v)) with q | q
  · exact q
  · have := rung_mono _ _ _ _ q
    rw [rung_mant u hu, rung_mant v hv] at this
    have e : rung u = rung v := Nat.le_antisymm h this
    rw [e]; exact LeV.refl _ _
theorem rung_le_of {u v : Nat} (hu : rung u < 2139095040) (hv : rung v < 2139095040) (h : LeV (mant (rung u)) (expo (rung u)) (mant (rung v)) (expo (rung v))) : rung u ≤ rung v := by
  have := rung_mono _ _ _ _ h
  rwa [rung_mant u hu, rung_mant v hv] at this

def sg (s : Bool) (a : Nat) : Int := if s then -(a : Int) else (a : Int)
/-- Where a number stands among all. -/
def key (v : Nat) : Int := sg (neg v) (rung v)

theorem signed_sg (s : Bool) (m k : Nat) : signed s m k = sg s (m * 2 ^ k) := by unfold signed sg; rw [Nat.shiftLeft_eq]

theorem mant_zero (r : Nat) : mant r = 0 ↔ r = 0 := by
  unfold mant
  split
  · exact Iff.rfl
  · constructor
    · intro h; omega
    · intro h; omega

theorem cmp_congr {x y x' y' : Int} (h1 : x < y ↔ x' < y') (h2 : x = y ↔ x' = y') : compare x y = compare x' y' := by
  rcases Int.lt_trichotomy x y with h | h | h
  · rw [Int.compare_eq_lt.2 h, Int.compare_eq_lt.2 (h1.1 h)]
  · rw [Int.compare_eq_eq.2 h, Int.compare_eq_eq.2 (h2.1 h)]
  · have h' : y' < x' := by
      rcases Int.lt_trichotomy x' y' with q | q | q
      · have := h1.2 q; omega
      · have := h2.2 q; omega
      · exact q
    rw [Int.compare_eq_gt.2 h, Int.compare_eq_gt.2 h']

theorem cmp_sg (s t : Bool) (a c r q : Nat) (h1 : a ≤ c ↔ r ≤ q) (h2 : c ≤ a ↔ q ≤ r) (h3 : a = 0 ↔ r = 0) (h4 : c = 0 ↔ q = 0) : compare (sg s a) (sg t c) = compare (sg s r) (sg t q) := by
  unfold sg
  apply cmp_congr
  · cases s <;> cases t <;> simp only [if_true, if_false, Bool.false_eq_true] <;> omega
  · cases s <;> cases t <;> simp only [if_true, if_false, Bool.false_eq_true] <;> omega

theorem rung_lt_two (v : Nat) : rung v < 2147483648 := Nat.mod_lt _ (by decide)

theorem read_inf (v : Nat) (h : rung v = 2139095040) : Ieee.single.read v = .infinity (neg v) := by
  unfold Format.read
  rw [sign_single, bin_single, inf_single, least_single]
  simp only
  have h' : v % 2147483648 = 2139095040 := h
  rw [if_neg (by omega), if_neg (by omega), if_pos h']; rfl

theorem ok_iff (v : Nat) : okV v ↔ rung v ≤ 2139095040 := by
  constructor
  · intro h
    apply Nat.le_of_not_lt
    intro hr
    unfold okV Format.read at h
    rw [sign_single, bin_single, inf_single, least_single] at h
    simp only at h
    have hr' : 2139095040 < v % 2147483648 := hr
    rw [if_neg (by omega), if_neg (by omega), if_neg (by omega)] at h
    cases h
  · intro h
    rcases Nat.lt_or_eq_of_le h with q | q
    · unfold okV; rw [read_mant v q]; rfl
    · unfold okV; rw [read_inf v q]; rfl

/-- The order of two words that are no NaN. -/
theorem ford_key {u v : Nat} (hu : okV u) (hv : okV v) : ford u v = some (compare (key u) (key v)) := by
  rw [ok_iff] at hu hv
  show (Ieee.single.read u).order (Ieee.single.read v) = _
  rcases Nat.lt_or_eq_of_le hu with qu | qu
  · rcases Nat.lt_or_eq_of_le hv with qv | qv
    · rw [read_mant u qu, read_mant v qv]
      show some (compare (signed _ _ _) (signed _ _ _)) = _
      rw [signed_sg, signed_sg]
      congr 1
      have hp1 := Nat.two_pow_pos (expo (rung u) - min (expo (rung u)) (expo (rung v))).toNat
      have hp2 := Nat.two_pow_pos (expo (rung v) - min (expo (rung u)) (expo (rung v))).toNat
      apply cmp_sg
      · constructor
        · intro h; exact rung_le_of qu qv (leV_of _ (by omega) (by omega) h)
        · intro h; exact val_mono qu qv h _ (by omega) (by omega)
      · constructor
        · intro h; exact rung_le_of qv qu (leV_of _ (by omega) (by omega) h)
        · intro h; exact val_mono qv qu h _ (by omega) (by omega)
      · rw [Nat.mul_eq_zero, mant_zero]
        exact ⟨fun h => h.elim id (fun h => by omega), Or.inl⟩
      · rw [Nat.mul_eq_zero, mant_zero]
        exact ⟨fun h => h.elim id (fun h => by omega), Or.inl⟩
    · rw [read_mant u qu, read_inf v qv]
      show some (if neg v then Ordering.gt else Ordering.lt) = _
      unfold key sg
      rw [qv]
      cases neg v
      · rw [Int.compare_eq_lt.2 (by cases neg u <;> simp <;> omega)]; rfl
      · rw [Int.compare_eq_gt.2 (by cases neg u <;> simp <;> omega)]; rfl
  · rcases Nat.lt_or_eq_of_le hv with qv | qv
    · rw [read_inf u qu, read_mant v qv]
      show some (if neg u then Ordering.lt else Ordering.gt) = _
      unfold key sg
      rw [qu]
      cases neg u
      · rw [Int.compare_eq_gt.2 (by cases neg v <;> simp <;> omega)]; rfl
      · rw [Int.compare_eq_lt.2 (by cases neg v <;> simp <;> omega)]; rfl
    · rw [read_inf u qu, read_inf v qv]
      show some (compare (neg v).toNat (neg u).toNat) = _
      unfold key sg
      rw [qu, qv]
      cases neg u <;> cases neg v <;> rfl

theorem key_word (s : Bool) (r : Nat) (h : r ≤ 2139095040) : key (Ieee.single.word s r) = sg s r := by unfold key; rw [neg_word s r h, rung_word s r h]

/-- A square. -/
theorem sq_key {v : Nat} (hv : isNum v) : fmul v v = Ieee.single.word false (rungOf (mant (rung v) * mant (rung v)) (expo (rung v) + expo (rung v))) ∧ okV (fmul v v) ∧ floatBits .mul .f32 v v = some (fmul v v) := by
  have h := (num_iff v).1 hv
  have hm : Ieee.single.mul v v = some (Ieee.single.nearest (neg v ^^ neg v) (mant (rung v) * mant (rung v)) (expo (rung v) + expo (rung v))) := by
    unfold Format.mul; rw [read_mant v h]; rfl
  have hf : fmul v v = Ieee.single.nearest (neg v ^^ neg v) (mant (rung v) * mant (rung v)) (expo (rung v) + expo (rung v)) := by
    unfold fmul; rw [hm]; rfl
  rw [Bool.xor_self] at hf hm
  refine ⟨by rw [hf, nearest_rung], by rw [hf]; exact ok_nearest _ _ _, ?_⟩
  show Ieee.single.mul v v = _
  rw [hm, hf]

theorem sq_mono {u v : Nat} (hu : isNum u) (hv : isNum v) (h : rung u ≤ rung v) : (FloatKind.f32.format.order (fmul u u) (fmul v v) == some .gt) = false := by
  obtain ⟨e1, o1, _⟩ := sq_key hu
  obtain ⟨e2, o2, _⟩ := sq_key hv
  have hle := val_mono ((num_iff u).1 hu) ((num_iff v).1 hv) h
  have hsq : LeV (mant (rung u) * mant (rung u)) (expo (rung u) + expo (rung u)) (mant (rung v) * mant (rung v)) (expo (rung v) + expo (rung v)) := by
    have h0 := hle (min (expo (rung u)) (expo (rung v))) (by omega) (by omega)
    refine leV_of (min (expo (rung u)) (expo (rung v)) + min (expo (rung u)) (expo (rung v))) (by omega) (by omega) ?_
    have h1 := Nat.mul_le_mul h0 h0
    rw [show ∀ a b : Nat, a * 2 ^ b * (a * 2 ^ b) = a * a * (2 ^ b * 2 ^ b) from fun a b => by rw [Nat.mul_mul_mul_comm], ← Nat.pow_add, show ∀ a b : Nat, a * 2 ^ b * (a * 2 ^ b) = a * a * (2 ^ b * 2 ^ b) from fun a b => by rw [Nat.mul_mul_mul_comm], ← Nat.pow_add] at h1
    rw [show (expo (rung u) + expo (rung u) - (min (expo (rung u)) (expo (rung v)) + min (expo (rung u)) (expo (rung v)))).toNat = (expo (rung u) - min (expo (rung u)) (expo (rung v))).toNat + (expo (rung u) - min (expo (rung u)) (expo (rung v))).toNat from by omega,
      show (expo (rung v) + expo (rung v) - (min (expo (rung u)) (expo (rung v)) + min (expo (rung u)) (expo (rung v)))).toNat = (expo (rung v) - min (expo (rung u)) (expo (rung v))).toNat + (expo (rung v) - min (expo (rung u)) (expo (rung v))).toNat from by omega]
    exact h1
  have hr := rung_mono _ _ _ _ hsq
  apply ford_bne
  rw [ford_key o1 o2, e1, e2, key_word _ _ (rungOf_le _ _), key_word _ _ (rungOf_le _ _)]
  intro e
  have := Int.compare_eq_gt.1 (Option.some.inj e)
  simp only [sg, Bool.false_eq_true, if_false] at this
  omega

/-- A sum. -/
theorem add_key {x v : Nat} (hx : isNum x) (hv : isNum v) : ∃ (b T : Int), b = min (expo (rung x)) (expo (rung v)) ∧ T = sg (neg x) (mant (rung x) * 2 ^ (expo (rung x) - b).toNat) + sg (neg v) (mant (rung v) * 2 ^ (expo (rung v) - b).toNat) ∧
    key (fadd x v) = sg (if T = 0 then neg x && neg v else decide (T < 0)) (rungOf T.natAbs b) := by
  have h1 := (num_iff x).1 hx
  have h2 := (num_iff v).1 hv
  refine ⟨_, _, rfl, rfl, ?_⟩
  have hf : fadd x v = Ieee.single.nearest (if signed (neg x) (mant (rung x)) (expo (rung x) - min (expo (rung x)) (expo (rung v))).toNat + signed (neg v) (mant (rung v)) (expo (rung v) - min (expo (rung x)) (expo (rung v))).toNat = 0 then neg x && neg v else decide (signed (neg x) (mant (rung x)) (expo (rung x) - min (expo (rung x)) (expo (rung v))).toNat + signed (neg v) (mant (rung v)) (expo (rung v) - min (expo (rung x)) (expo (rung v))).toNat < 0)) (signed (neg x) (mant (rung x)) (expo (rung x) - min (expo (rung x)) (expo (rung v))).toNat + signed (neg v) (mant (rung v)) (expo (rung v) - min (expo (rung x)) (expo (rung v))).toNat).natAbs (min (expo (rung x)) (expo (rung v))) := by
    unfold fadd Format.add
    rw [read_mant x h1, read_mant v h2]; rfl
  rw [signed_sg, signed_sg] at hf
  rw [hf, nearest_rung, key_word _ _ (rungOf_le _ _)]

theorem rungOf_zero (b : Int) : rungOf 0 b = 0 := by simp [rungOf]

theorem add_ge {x v : Nat} (hx : isNum x) (hv : isNum v) (h0 : 0 ≤ key v) : key x ≤ key (fadd x v) := by
  have h1 := (num_iff x).1 hx
  obtain ⟨b, T, hb, hT, hk⟩ := add_key hx hv
  rw [hk]
  have hA : ∀ N : Nat, mant (rung x) * 2 ^ (expo (rung x) - b).toNat ≤ N → rung x ≤ rungOf N b := fun N hN => by
    have := rung_mono (mant (rung x)) (expo (rung x)) N b (leV_of b (by omega) (by omega) (by rw [show (b - b).toNat = 0 from by omega, Nat.pow_zero, Nat.mul_one]; exact hN))
    rwa [rung_mant x h1] at this
  have hB : ∀ N : Nat, N ≤ mant (rung x) * 2 ^ (expo (rung x) - b).toNat → rungOf N b ≤ rung x := fun N hN => by
    have := rung_mono N b (mant (rung x)) (expo (rung x)) (leV_of b (by omega) (by omega) (by rw [show (b - b).toNat = 0 from by omega, Nat.pow_zero, Nat.mul_one]; exact hN))
    rwa [rung_mant x h1] at this
  have hC : 0 ≤ sg (neg v) (mant (rung v) * 2 ^ (expo (rung v) - b).toNat) := by
    unfold key sg at h0
    unfold sg
    split at h0
    · rename_i q
      have : rung v = 0 := by omega
      rw [if_pos q, this]; simp [mant]
    · rename_i q
      rw [if_neg q]; omega
  generalize sg (neg v) (mant (rung v) * 2 ^ (expo (rung v) - b).toNat) = C at *
  generalize mant (rung x) * 2 ^ (expo (rung x) - b).toNat = A at *
  unfold key
  generalize neg x = s at *
  generalize neg v = t at *
  cases s
  · simp only [sg, Bool.false_eq_true, if_false, Bool.false_and] at hT ⊢
    have q := hA T.natAbs (by omega)
    have hs : (if T = 0 then false else decide (T < 0)) = false := by split <;> simp; omega
    rw [hs]
    simp only [Bool.false_eq_true, if_false]
    omega
  · simp only [sg, if_true] at hT ⊢
    by_cases h0' : T < 0
    · have q := hB T.natAbs (by omega)
      split <;> omega
    · by_cases hz : T = 0
      · rw [hz]; simp only [Int.natAbs_zero, rungOf_zero]; split <;> omega
      · rw [if_neg hz, decide_eq_false h0']
        simp only [Bool.false_eq_true, if_false]
        omega

theorem add_le {x v : Nat} (hx : isNum x) (hv : isNum v) (h0 : key v ≤ 0) : key (fadd x v) ≤ key x := by
  have h1 := (num_iff x).1 hx
  obtain ⟨b, T, hb, hT, hk⟩ := add_key hx hv
  rw [hk]
  have hA : ∀ N : Nat, mant (rung x) * 2 ^ (expo (rung x) - b).toNat ≤ N → rung x ≤ rungOf N b := fun N hN => by
    have := rung_mono (mant (rung x)) (expo (rung x)) N b (leV_of b (by omega) (by omega) (by rw [show (b - b).toNat = 0 from by omega, Nat.pow_zero, Nat.mul_one]; exact hN))
    rwa [rung_mant x h1] at this
  have hB : ∀ N : Nat, N ≤ mant (rung x) * 2 ^ (expo (rung x) - b).toNat → rungOf N b ≤ rung x := fun N hN => by
    have := rung_mono N b (mant (rung x)) (expo (rung x)) (leV_of b (by omega) (by omega) (by rw [show (b - b).toNat = 0 from by omega, Nat.pow_zero, Nat.mul_one]; exact hN))
    rwa [rung_mant x h1] at this
  have hC : sg (neg v) (mant (rung v) * 2 ^ (expo (rung v) - b).toNat) ≤ 0 := by
    unfold key sg at h0
    unfold sg
    split at h0
    · rename_i q
      rw [if_pos q]; omega
    · rename_i q
      have : rung v = 0 := by omega
      rw [if_neg q, this]; simp [mant]
  generalize sg (neg v) (mant (rung v) * 2 ^ (expo (rung v) - b).toNat) = C at *
  generalize mant (rung x) * 2 ^ (expo (rung x) - b).toNat = A at *
  unfold key
  generalize neg x = s at *
  generalize neg v = t at *
  cases s
  · simp only [sg, Bool.false_eq_true, if_false, Bool.false_and] at hT ⊢
    by_cases h0' : T < 0
    · have hs : (if T = 0 then false else decide (T < 0)) = true := by rw [if_neg (by omega)]; simp [h0']
      rw [hs]
      simp only [if_true]
      omega
    · have q := hB T.natAbs (by omega)
      split <;> omega
  · simp only [sg, if_true] at hT ⊢
    have q := hA T.natAbs (by omega)
    by_cases hz : T = 0
    · have : A = 0 := by omega
      rw [hz] at q
      simp only [Int.natAbs_zero, rungOf_zero] at q
      rw [hz]; simp only [Int.natAbs_zero, rungOf_zero]; split <;> omega
    · rw [if_neg hz, decide_eq_true (by omega)]
      simp only [if_true]
      omega
end Go.Proofs.Ytlfmfhmbkpnjbaa

namespace Go.Proofs.Ytlfmfhmbkpnjbaa
open Go.RowKit

theorem key_zero : key 0 = 0 := by decide
theorem ok_zero : okV 0 := num_zero.ok

theorem fits_key {x : Nat} (h : fitsB x 1148846080 = true) : -1148846080 ≤ key x ∧ key x ≤ 1148846080 := by
  have hn := (place_num h).ok
  have e1 : Op.negFloat .f32 1148846080 = 3296329728 := by decide
  have k1 : key 3296329728 = -1148846080 := by decide
  have k2 : key 1148846080 = 1148846080 := by decide
  have o1 : okV 3296329728 := by unfold okV; decide
  have o2 : okV 1148846080 := by unfold okV; decide
  simp only [fitsB, fge, fle, e1, ford_key hn o1, ford_key hn o2, k1, k2, Bool.and_eq_true, Bool.or_eq_true, beq_iff_eq, Option.some.injEq, Int.compare_eq_gt, Int.compare_eq_eq, Int.compare_eq_lt] at h
  omega

theorem moved_key {x v : Nat} (hx : fitsB x 1148846080 = true) (hv : isNum v) : (0 ≤ key v → key x ≤ key (movedF x v).1) ∧ (key v ≤ 0 → key (movedF x v).1 ≤ key x) := by
  have hn := place_num hx
  have hf := fits_key hx
  have oy := (fadd_ok hn hv.ok).2
  have k1 : key 3296329728 = -1148846080 := by decide
  have k2 : key 1148846080 = 1148846080 := by decide
  have o1 : okV 3296329728 := by unfold okV; decide
  have o2 : okV 1148846080 := by unfold okV; decide
  unfold movedF
  rw [ford_key oy o1, ford_key oy o2, k1, k2]
  simp only [Option.some.injEq, Int.compare_eq_lt, Int.compare_eq_gt]
  constructor
  · intro h0
    have := add_ge hn hv h0
    split
    · simp only [k1]; omega
    · split
      · simp only [k2]; omega
      · exact this
  · intro h0
    have := add_le hn hv h0
    split
    · simp only [k1]; omega
    · split
      · simp only [k2]; omega
      · exact this

theorem moved_slow (x : Nat) {v : Nat} (hv : isNum v) : rung (movedF x v).2 ≤ rung v ∧ isNum (movedF x v).2 := by
  have h1 := mul_slow hv
  have h2 := mul_half hv
  have h3 := mul_slow h2.2.1
  unfold movedF
  split
  · exact ⟨Nat.le_trans h3.1 h2.1, h3.2.1⟩
  · split
    · exact ⟨Nat.le_trans h3.1 h2.1, h3.2.1⟩
    · exact ⟨h1.1, h1.2.1⟩

/-- What a tick without commands does along one axis. -/
structure Axis (x v x' v' : Nat) : Prop where
  sq : (FloatKind.f32.format.order (fmul v' v') (fmul v v) == some .gt) = false
  m1 : ∀ w, (binOp .mul 54 (.float .f32 v') (.float .f32 v')).run Try.prog w = .ok (.float .f32 (fmul v' v')) w
  m2 : ∀ w, (binOp .mul 54 (.float .f32 v) (.float .f32 v)).run Try.prog w = .ok (.float .f32 (fmul v v)) w
  way : ((FloatKind.f32.format.order v 0 == some .eq) = true ∧ (FloatKind.f32.format.order v 0 == some .gt) = false ∧ (FloatKind.f32.format.order v 0 == some .lt) = false ∧ (FloatKind.f32.format.order x' x != some .eq) = false) ∨
    ((FloatKind.f32.format.order v 0 == some .eq) = false ∧ (FloatKind.f32.format.order v 0 == some .gt) = true ∧ (FloatKind.f32.format.order v 0 == some .lt) = false ∧ (FloatKind.f32.format.order x' x == some .lt) = false) ∨
    ((FloatKind.f32.format.order v 0 == some .eq) = false ∧ (FloatKind.f32.format.order v 0 == some .gt) = false ∧ (FloatKind.f32.format.order v 0 == some .lt) = true ∧ (FloatKind.f32.format.order x' x == some .gt) = false)

theorem axis_of {x v : Nat} (hx : fitsB x 1148846080 = true) (hv : isNum v) : Axis x v (movedF x v).1 (movedF x v).2 := by
  obtain ⟨r1, n1⟩ := moved_slow x hv
  obtain ⟨g1, g2⟩ := moved_key hx hv
  have ox := (place_num hx).ok
  have oy := (place_num (moved_fits (place_num hx) hv).1).ok
  have hz := ford_key hv.ok ok_zero
  have hk := ford_key oy ox
  rw [key_zero] at hz
  refine ⟨sq_mono n1 hv r1, fun w => run_float_arith w .mul _ .f32 _ _ _ (sq_key n1).2.2, fun w => run_float_arith w .mul _ .f32 _ _ _ (sq_key hv).2.2, ?_⟩
  have hz' : FloatKind.f32.format.order v 0 = some (compare (key v) 0) := hz
  have hk' : FloatKind.f32.format.order (movedF x v).1 x = some (compare (key (movedF x v).1) (key x)) := hk
  rw [hz', hk']
  rcases Int.lt_trichotomy (key v) 0 with q | q | q
  · right; right
    have := g2 (by omega)
    rw [Int.compare_eq_lt.2 q]
    refine ⟨rfl, rfl, rfl, ?_⟩
    rw [beq_eq_false_iff_ne]
    intro e
    have := Int.compare_eq_gt.1 (Option.some.inj e)
    omega
  · left
    have a1 := g1 (by omega)
    have a2 := g2 (by omega)
    rw [Int.compare_eq_eq.2 q, Int.compare_eq_eq.2 (show key (movedF x v).1 = key x by omega)]
    exact ⟨rfl, rfl, rfl, rfl⟩
  · right; left
    have := g1 (by omega)
    rw [Int.compare_eq_gt.2 q]
    refine ⟨rfl, rfl, rfl, ?_⟩
    rw [beq_eq_false_iff_ne]
    intro e
    have := Int.compare_eq_lt.1 (Option.some.inj e)
    omega

theorem keep_all {t : Int} {L : List Mob} (h : worldB t L = true) : keepL L = L := by
  unfold keepL
  rw [List.filter_eq_self]
  intro m hm
  have := (mob_parts (worldB_mobs h m hm)).2.2.2.2.1
  simp [liveB]; omega

theorem step_none {t : Int} {L : List Mob} (h : worldB t L = true) : stepL [] L = L.map moveM := by
  show (keepL L).map moveM = _
  rw [keep_all h]

theorem mob_axes {m : Mob} (h : mobB m = true) : Axis m.x m.vx (moveM m).x (moveM m).vx ∧ Axis m.y m.vy (moveM m).y (moveM m).vy := by
  simp only [mobB, Bool.and_eq_true, decide_eq_true_eq, placeB] at h
  exact ⟨axis_of h.1.1.1.1.2.1 (fin_num h.1.1.1.2), axis_of h.1.1.1.1.2.2 (fin_num h.1.1.2)⟩
end Go.Proofs.Ytlfmfhmbkpnjbaa
