import Derived.Test.YtlfmfhmbkpnjbaaGreatDoorPz8
import Derived.Test.YtlfmfhmbkpnjbaaGreatDoorPz7
namespace Go.Proofs.YtlfmfhmbkpnjbaaGreatDoor
open Ieee

def mant (r : Nat) : Nat := if r < 8388608 then r else 8388608 + r % 8388608
def expo (r : Nat) : Int := if r < 8388608 then -149 else -149 + ((r / 8388608 - 1 : Nat) : Int)

theorem read_mant (v : Nat) (h : rung v < 2139095040) : Ieee.single.read v = .number (neg v) (mant (rung v)) (expo (rung v)) := by
  unfold Format.read mant expo
  rw [sign_single, bin_single, inf_single, least_single]
  simp only
  have hr : rung v = v % 2147483648 := rfl
  by_cases h1 : v % 2147483648 < 8388608
  · rw [if_pos h1, hr, if_pos h1, if_pos h1]; rfl
  · have h' : v % 2147483648 < 2139095040 := h
    rw [if_neg h1, if_pos h', hr, if_neg h1, if_neg h1]; rfl

theorem rung_mant (v : Nat) (h : rung v < 2139095040) : rungOf (mant (rung v)) (expo (rung v)) = rung v := by
  obtain ⟨m, e, h1, h2, _⟩ := read_num v h
  rw [read_mant v h] at h1
  simp only [Datum.number.injEq] at h1
  rw [h1.2.1, h1.2.2]; exact h2

theorem LeV.refl (m : Nat) (i : Int) : LeV m i m i := fun _ _ _ => Nat.le_refl _

/-- Values and rungs go together. -/
theorem val_mono {u v : Nat} (hu : rung u < 2139095040) (hv : rung v < 2139095040) (h : rung u ≤ rung v) : LeV (mant (rung u)) (expo (rung u)) (mant (rung v)) (expo (rung v)) := by
  rcases LeV.total (mant (rung u)) (expo (rung u)) (mant (rung v)) (expo (rung v)) with q | q
  · exact q
  · have := rung_mono _ _ _ _ q
    rw [rung_mant u hu, rung_mant v hv] at this
    have e : rung u = rung v := Nat.le_antisymm h this
    rw [e]; exact LeV.refl _ _
theorem rung_le_of {u v : Nat} (hu : rung u < 2139095040) (hv : rung v < 2139095040) (h : LeV (mant (rung u)) (expo (rung u)) (mant (rung v)) (expo (rung v))) : rung u ≤ rung v := by
  have := rung_mono _ _ _ _ h
  rwa [rung_mant u hu, rung_mant v hv] at this

def sg (s : Bool) (a : Nat) : Int := if s then -(a : Int) else (a : Int)
/-- Where a number stands among all. -/
def key (v : Nat) : Int := sg (neg v) (rung v)

theorem signed_sg (s : Bool) (m k : Nat) : signed s m k = sg s (m * 2 ^ k) := by unfold signed sg; rw [Nat.shiftLeft_eq]

theorem mant_zero (r : Nat) : mant r = 0 ↔ r = 0 := by
  unfold mant
  split
  · exact Iff.rfl
  · constructor
    · intro h; omega
    · intro h; omega

theorem cmp_congr {x y x' y' : Int} (h1 : x < y ↔ x' < y') (h2 : x = y ↔ x' = y') : compare x y = compare x' y' := by
  rcases Int.lt_trichotomy x y with h | h | h
  · rw [Int.compare_eq_lt.2 h, Int.compare_eq_lt.2 (h1.1 h)]
  · rw [Int.compare_eq_eq.2 h, Int.compare_eq_eq.2 (h2.1 h)]
  · have h' : y' < x' := by
      rcases Int.lt_trichotomy x' y' with q | q | q
      · have := h1.2 q; omega
      · have := h2.2 q; omega
      · exact q
    rw [Int.compare_eq_gt.2 h, Int.compare_eq_gt.2 h']

theorem cmp_sg (s t : Bool) (a c r q : Nat) (h1 : a ≤ c ↔ r ≤ q) (h2 : c ≤ a ↔ q ≤ r) (h3 : a = 0 ↔ r = 0) (h4 : c = 0 ↔ q = 0) : compare (sg s a) (sg t c) = compare (sg s r) (sg t q) := by
  unfold sg
  apply cmp_congr
  · cases s <;> cases t <;> simp only [if_true, if_false, Bool.false_eq_true] <;> omega
  · cases s <;> cases t <;> simp only [if_true, if_false, Bool.false_eq_true] <;> omega

theorem rung_lt_two (v : Nat) : rung v < 2147483648 := Nat.mod_lt _ (by decide)

theorem read_inf (v : Nat) (h : rung v = 2139095040) : Ieee.single.read v = .infinity (neg v) := by
  unfold Format.read
  rw [sign_single, bin_single, inf_single, least_single]
  simp only
  have h' : v % 2147483648 = 2139095040 := h
  rw [if_neg (by omega), if_neg (by omega), if_pos h']; rfl

theorem ok_iff (v : Nat) : okV v ↔ rung v ≤ 2139095040 := by
  constructor
  · intro h
    apply Nat.le_of_not_lt
    intro hr
    unfold okV Format.read at h
    rw [sign_single, bin_single, inf_single, least_single] at h
    simp only at h
    have hr' : 2139095040 < v % 2147483648 := hr
    rw [if_neg (by omega), if_neg (by omega), if_neg (by omega)] at h
    cases h
  · intro h
    rcases Nat.lt_or_eq_of_le h with q | q
    · unfold okV; rw [read_mant v q]; rfl
    · unfold okV; rw [read_inf v q]; rfl

/-- The order of two words that are no NaN. -/
theorem ford_key {u v : Nat} (hu : okV u) (hv : okV v) : ford u v = some (compare (key u) (key v)) := by
  rw [ok_iff] at hu hv
  show (Ieee.single.read u).order (Ieee.single.read v) = _
  rcases Nat.lt_or_eq_of_le hu with qu | qu
  · rcases Nat.lt_or_eq_of_le hv with qv | qv
    · rw [read_mant u qu, read_mant v qv]
      show some (compare (signed _ _ _) (signed _ _ _)) = _
      rw [signed_sg, signed_sg]
      congr 1
      have hp1 := Nat.two_pow_pos (expo (rung u) - min (expo (rung u)) (expo (rung v))).toNat
      have hp2 := Nat.two_pow_pos (expo (rung v) - min (expo (rung u)) (expo (rung v))).toNat
      apply cmp_sg
      · constructor
        · intro h; exact rung_le_of qu qv (leV_of _ (by omega) (by omega) h)
        · intro h; exact val_mono qu qv h _ (by omega) (by omega)
      · constructor
        · intro h; exact rung_le_of qv qu (leV_of _ (by omega) (by omega) h)
        · intro h; exact val_mono qv qu h _ (by omega) (by omega)
      · rw [Nat.mul_eq_zero, mant_zero]
        exact ⟨fun h => h.elim id (fun h => by omega), Or.inl⟩
      · rw [Nat.mul_eq_zero, mant_zero]
        exact ⟨fun h => h.elim id (fun h => by omega), Or.inl⟩
    · rw [read_mant u qu, read_inf v qv]
      show some (if neg v then Ordering.gt else Ordering.lt) = _
      unfold key sg
      rw [qv]
      cases neg v
      · rw [Int.compare_eq_lt.2 (by cases neg u <;> simp <;> omega)]; rfl
      · rw [Int.compare_eq_gt.2 (by cases neg u <;> simp <;> omega)]; rfl
  · rcases Nat.lt_or_eq_of_le hv with qv | qv
    · rw [read_inf u qu, read_mant v qv]
      show some (if neg u then Ordering.lt else Ordering.gt) = _
      unfold key sg
      rw [qu]
      cases neg u
      · rw [Int.compare_eq_gt.2 (by cases neg v <;> simp <;> omega)]; rfl
      · rw [Int.compare_eq_lt.2 (by cases neg v <;> simp <;> omega)]; rfl
    · rw [read_inf u qu, read_inf v qv]
      show some (compare (neg v).toNat (neg u).toNat) = _
      unfold key sg
      rw [qu, qv]
      cases neg u <;> cases neg v <;> rfl

theorem key_word (s : Bool) (r : Nat) (h : r ≤ 2139095040) : key (Ieee.single.word s r) = sg s r := by unfold key; rw [neg_word s r h, rung_word s r h]

/-- A square. -/
theorem sq_key {v : Nat} (hv : isNum v) : fmul v v = Ieee.single.word false (rungOf (mant (rung v) * mant (rung v)) (expo (rung v) + expo (rung v))) ∧ okV (fmul v v) ∧ floatBits .mul .f32 v v = some (fmul v v) := by
  have h := (num_iff v).1 hv
  have hm : Ieee.single.mul v v = some (Ieee.single.nearest (neg v ^^ neg v) (mant (rung v) * mant (rung v)) (expo (rung v) + expo (rung v))) := by
    unfold Format.mul; rw [read_mant v h]; rfl
  have hf : fmul v v = Ieee.single.nearest (neg v ^^ neg v) (mant (rung v) * mant (rung v)) (expo (rung v) + expo (rung v)) := by
    unfold fmul; rw [hm]; rfl
  rw [Bool.xor_self] at hf hm
  refine ⟨by rw [hf, nearest_rung], by rw [hf]; exact ok_nearest _ _ _, ?_⟩
  show Ieee.single.mul v v = _
  rw [hm, hf]

theorem sq_mono {u v : Nat} (hu : isNum u) (hv : isNum v) (h : rung u ≤ rung v) : (FloatKind.f32.format.order (fmul u u) (fmul v v) == some .gt) = false := by
  obtain ⟨e1, o1, _⟩ := sq_key hu
  obtain ⟨e2, o2, _⟩ := sq_key hv
  have hle := val_mono ((num_iff u).1 hu) ((num_iff v).1 hv) h
  have hsq : LeV (mant (rung u) * mant (rung u)) (expo (rung u) + expo (rung u)) (mant (rung v) * mant (rung v)) (expo (rung v) + expo (rung v)) := by
    have h0 := hle (min (expo (rung u)) (expo (rung v))) (by omega) (by omega)
    refine leV_of (min (expo (rung u)) (expo (rung v)) + min (expo (rung u)) (expo (rung v))) (by omega) (by omega) ?_
    have h1 := Nat.mul_le_mul h0 h0
    rw [show ∀ a b : Nat, a * 2 ^ b * (a * 2 ^ b) = a * a * (2 ^ b * 2 ^ b) from fun a b => by rw [Nat.mul_mul_mul_comm], ← Nat.pow_add, show ∀ a b : Nat, a * 2 ^ b * (a * 2 ^ b) = a * a * (2 ^ b * 2 ^ b) from fun a b => by rw [Nat.mul_mul_mul_comm], ← Nat.pow_add] at h1
    rw [show (expo (rung u) + expo (rung u) - (min (expo (rung u)) (expo (rung v)) + min (expo (rung u)) (expo (rung v)))).toNat = (expo (rung u) - min (expo (rung u)) (expo (rung v))).toNat + (expo (rung u) - min (expo (rung u)) (expo (rung v))).toNat from by omega,
      show (expo (rung v) + expo (rung v) - (min (expo (rung u)) (expo (rung v)) + min (expo (rung u)) (expo (rung v)))).toNat = (expo (rung v) - min (expo (rung u)) (expo (rung v))).toNat + (expo (rung v) - min (expo (rung u)) (expo (rung v))).toNat from by omega]
    exact h1
  have hr := rung_mono _ _ _ _ hsq
  apply ford_bne
  rw [ford_key o1 o2, e1, e2, key_word _ _ (rungOf_le _ _), key_word _ _ (rungOf_le _ _)]
  intro e
  have := Int.compare_eq_gt.1 (Option.some.inj e)
  simp only [sg, Bool.false_eq_true, if_false] at this
  omega

/-- A sum. -/
theorem add_key {x v : Nat} (hx : isNum x) (hv : isNum v) : ∃ (b T : Int), b = min (expo (rung x)) (expo (rung v)) ∧ T = sg (neg x) (mant (rung x) * 2 ^ (expo (rung x) - b).toNat) + sg (neg v) (mant (rung v) * 2 ^ (expo (rung v) - b).toNat) ∧
    key (fadd x v) = sg (if T = 0 then neg x && neg v else decide (T < 0)) (rungOf T.natAbs b) := by
  have h1 := (num_iff x).1 hx
  have h2 := (num_iff v).1 hv
  refine ⟨_, _, rfl, rfl, ?_⟩
  have hf : fadd x v = Ieee.single.nearest (if signed (neg x) (mant (rung x)) (expo (rung x) - min (expo (rung x)) (expo (rung v))).toNat + signed (neg v) (mant (rung v)) (expo (rung v) - min (expo (rung x)) (expo (rung v))).toNat = 0 then neg x && neg v else decide (signed (neg x) (mant (rung x)) (expo (rung x) - min (expo (rung x)) (expo (rung v))).toNat + signed (neg v) (mant (rung v)) (expo (rung v) - min (expo (rung x)) (expo (rung v))).toNat < 0)) (signed (neg x) (mant (rung x)) (expo (rung x) - min (expo (rung x)) (expo (rung v))).toNat + signed (neg v) (mant (rung v)) (expo (rung v) - min (expo (rung x)) (expo (rung v))).toNat).natAbs (min (expo (rung x)) (expo (rung v))) := by
    unfold fadd Format.add
    rw [read_mant x h1, read_mant v h2]; rfl
  rw [signed_sg, signed_sg] at hf
  rw [hf, nearest_rung, key_word _ _ (rungOf_le _ _)]

theorem rungOf_zero (b : Int) : rungOf 0 b = 0 := by simp [rungOf]

theorem add_ge {x v : Nat} (hx : isNum x) (hv : isNum v) (h0 : 0 ≤ key v) : key x ≤ key (fadd x v) := by
  have h1 := (num_iff x).1 hx
  obtain ⟨b, T, hb, hT, hk⟩ := add_key hx hv
  rw [hk]
  have hA : ∀ N : Nat, mant (rung x) * 2 ^ (expo (rung x) - b).toNat ≤ N → rung x ≤ rungOf N b := fun N hN => by
    have := rung_mono (mant (rung x)) (expo (rung x)) N b (leV_of b (by omega) (by omega) (by rw [show (b - b).toNat = 0 from by omega, Nat.pow_zero, Nat.mul_one]; exact hN))
    rwa [rung_mant x h1] at this
  have hB : ∀ N : Nat, N ≤ mant (rung x) * 2 ^ (expo (rung x) - b).toNat → rungOf N b ≤ rung x := fun N hN => by
    have := rung_mono N b (mant (rung x)) (expo (rung x)) (leV_of b (by omega) (by omega) (by rw [show (b - b).toNat = 0 from by omega, Nat.pow_zero, Nat.mul_one]; exact hN))
    rwa [rung_mant x h1] at this
  have hC : 0 ≤ sg (neg v) (mant (rung v) * 2 ^ (expo (rung v) - b).toNat) := by
    unfold key sg at h0
    unfold sg
    split at h0
    · rename_i q
      have : rung v = 0 := by omega
      rw [if_pos q, this]; simp [mant]
    · rename_i q
      rw [if_neg q]; omega
  generalize sg (neg v) (mant (rung v) * 2 ^ (expo (rung v) - b).toNat) = C at *
  generalize mant (rung x) * 2 ^ (expo (rung x) - b).toNat = A at *
  unfold key
  generalize neg x = s at *
  generalize neg v = t at *
  cases s
  · simp only [sg, Bool.false_eq_true, if_false, Bool.false_and] at hT ⊢
    have q := hA T.natAbs (by omega)
    have hs : (if T = 0 then false else decide (T < 0)) = false := by split <;> simp; omega
    rw [hs]
    simp only [Bool.false_eq_true, if_false]
    omega
  · simp only [sg, if_true] at hT ⊢
    by_cases h0' : T < 0
    · have q := hB T.natAbs (by omega)
      split <;> omega
    · by_cases hz : T = 0
      · rw [hz]; simp only [Int.natAbs_zero, rungOf_zero]; split <;> omega
      · rw [if_neg hz, decide_eq_false h0']
        simp only [Bool.false_eq_true, if_false]
        omega

theorem add_le {x v : Nat} (hx : isNum x) (hv : isNum v) (h0 : key v ≤ 0) : key (fadd x v) ≤ key x := by
  have h1 := (num_iff x).1 hx
  obtain ⟨b, T, hb, hT, hk⟩ := add_key hx hv
  rw [hk]
  have hA : ∀ N : Nat, mant (rung x) * 2 ^ (expo (rung x) - b).toNat ≤ N → rung x ≤ rungOf N b := fun N hN => by
    have := rung_mono (mant (rung x)) (expo (rung x)) N b (leV_of b (by omega) (by omega) (by rw [show (b - b).toNat = 0 from by omega, Nat.pow_zero, Nat.mul_one]; exact hN))
    rwa [rung_mant x h1] at this
  have hB : ∀ N : Nat, N ≤ mant (rung x) * 2 ^ (expo (rung x) - b).toNat → rungOf N b ≤ rung x := fun N hN => by
    have := rung_mono N b (mant (rung x)) (expo (rung x)) (leV_of b (by omega) (by omega) (by rw [show (b - b).toNat = 0 from by omega, Nat.pow_zero, Nat.mul_one]; exact hN))
    rwa [rung_mant x h1] at this
  have hC : sg (neg v) (mant (rung v) * 2 ^ (expo (rung v) - b).toNat) ≤ 0 := by
    unfold key sg at h0
    unfold sg
    split at h0
    · rename_i q
      rw [if_pos q]; omega
    · rename_i q
      have : rung v = 0 := by omega
      rw [if_neg q, this]; simp [mant]
  generalize sg (neg v) (mant (rung v) * 2 ^ (expo (rung v) - b).toNat) = C at *
  generalize mant (rung x) * 2 ^ (expo (rung x) - b).toNat = A at *
  unfold key
  generalize neg x = s at *
  generalize neg v = t at *
  cases s
  · simp only [sg, Bool.false_eq_true, if_false, Bool.false_and] at hT ⊢
    by_cases h0' : T < 0
    · have hs : (if T = 0 then false else decide (T < 0)) = true := by rw [if_neg (by omega)]; simp [h0']
      rw [hs]
      simp only [if_true]
      omega
    · have q := hB T.natAbs (by omega)
      split <;> omega
  · simp only [sg, if_true] at hT ⊢
    have q := hA T.natAbs (by omega)
    by_cases hz : T = 0
    · have : A = 0 := by omega
      rw [hz] at q
      simp only [Int.natAbs_zero, rungOf_zero] at q
      rw [hz]; simp only [Int.natAbs_zero, rungOf_zero]; split <;> omega
    · rw [if_neg hz, decide_eq_true (by omega)]
      simp only [if_true]
      omega
end Go.Proofs.YtlfmfhmbkpnjbaaGreatDoor

namespace Go.Proofs.YtlfmfhmbkpnjbaaGreatDoor
open Go.RowKit

def I64 (z : Int) : Prop := -9223372036854775808 ≤ z ∧ z ≤ 9223372036854775807

/-- A list of raw numbers. -/
def RI (w : World) (p : Option Addr) (n : Nat) : Prop :=
  0 < n → ∃ b off, p = some ⟨b, off, none⟩ ∧ b < w.heap.size ∧ ∀ j, j < n → ∃ z, I64 z ∧ w.cell? ⟨b, off + j, none⟩ = some (.int .i64 z)
theorem RI.keep {w w' : World} {S : Nat → Prop} {p : Option Addr} {n : Nat} (h : RI w p n) (hk : Kept S w w') (hS : ∀ b, b < w.heap.size → ¬ S b) : RI w' p n := by
  intro hn
  obtain ⟨b, off, h1, h2, h3⟩ := h hn
  refine ⟨b, off, h1, Nat.lt_of_lt_of_le h2 hk.size, fun j hj => ?_⟩
  obtain ⟨z, q1, q2⟩ := h3 j hj
  exact ⟨z, q1, by rw [cell_keep hk h2 (hS b h2)]; exact q2⟩
theorem RI.calm {w w' : World} {p : Option Addr} {n : Nat} (h : RI w p n) (hk : Kept (fun _ => False) w w') : RI w' p n := h.keep hk (fun _ _ e => e)

theorem i64_tdiv {z : Int} (h : I64 z) (k : Int) (hk : 0 < k) : I64 (z.tdiv k) := by
  unfold I64 at *
  by_cases h0 : 0 ≤ z
  · rw [Int.tdiv_eq_ediv_of_nonneg h0]
    have h1 := Int.ediv_nonneg h0 (Int.le_of_lt hk)
    have h2 := Int.ediv_le_self k h0
    omega
  · obtain ⟨y, rfl⟩ : ∃ y, z = -y := ⟨-z, by omega⟩
    rw [Int.neg_tdiv, Int.tdiv_eq_ediv_of_nonneg (by omega)]
    have h1 := Int.ediv_nonneg (show 0 ≤ y by omega) (Int.le_of_lt hk)
    have h2 := Int.ediv_le_self k (show 0 ≤ y by omega)
    omega

theorem ten_pos : isPos 1092616192 := ⟨false, 10485760, -20, by decide, by decide⟩
theorem ok_int (n : Int) : okV (floatOfInt .f32 n) := ok_nearest _ _ _

theorem six_cells {w : World} {c : Nat} {a b d e f g : Value} {T : TypeId} (h : w.heap[c]? = some (.cells #[a, b, d, e, f, g] T (0, 0))) : w.cell? ⟨c, 0, none⟩ = some a ∧ w.cell? ⟨c, 1, none⟩ = some b ∧ w.cell? ⟨c, 2, none⟩ = some d ∧ w.cell? ⟨c, 3, none⟩ = some e ∧ w.cell? ⟨c, 4, none⟩ = some f ∧ w.cell? ⟨c, 5, none⟩ = some g := by
  refine ⟨?_, ?_, ?_, ?_, ?_, ?_⟩ <;> rw [cell_block h] <;> rfl

theorem info_cmd : (Tryz.prog.info? 57).map (fun i => (i.zero, i.size, i.bytes)) = some (some (.agg #[.int .i64 0, .int .i64 0, .int .i64 0, .float .f32 0, .float .f32 0, .int .i64 0]), 6, 40) := by kernel_rfl

theorem owns_readsC {w : World} {base : Nat} {p : Option Addr} {cap : Nat} {cs : List Cmd} (h : w.ownsRow base 57 6 (.slice p cs.length cap) cs.length (rowC cs)) : ReadsC w p cs ∧ (p = none → cap = 0) ∧ (∀ b off, p = some ⟨b, off, none⟩ → base ≤ b ∧ b < w.heap.size) := by
  have h' := h
  rcases h.2 with ⟨e, h0⟩ | ⟨g, cp, cur, e, hb, hh, _⟩
  · simp only [Value.slice.injEq] at e
    obtain ⟨rfl, _, rfl⟩ := e
    exact ⟨fun hne => absurd (List.eq_nil_of_length_eq_zero h0) hne, fun _ => rfl, fun b off e => by cases e⟩
  · simp only [Value.slice.injEq] at e
    obtain ⟨rfl, _, rfl⟩ := e
    refine ⟨fun _ => ⟨g, 0, rfl, heap_lt hh, fun j u hu => ?_⟩, (fun e => by cases e), fun b off e => ?_⟩
    · have := h'.cells (g := g) rfl j u hu
      rw [addr_add2] at this; exact this
    · simp only [Option.some.injEq, Addr.mk.injEq] at e
      obtain ⟨rfl, _⟩ := e
      exact ⟨hb, heap_lt hh⟩

end Go.Proofs.YtlfmfhmbkpnjbaaGreatDoor

namespace Go.Proofs.YtlfmfhmbkpnjbaaGreatDoor
open Go.RowKit

/-- The ways are numbers. -/
def FinL (L : List Mob) : Prop := ∀ m ∈ L, isNum m.vx ∧ isNum m.vy

theorem num_zero : isNum 0 := ⟨false, 0, -149, by decide⟩

theorem finL_set {L : List Mob} {i : Nat} {m : Mob} (h : FinL L) (hm : isNum m.vx ∧ isNum m.vy) : FinL (L.set i m) := by
  intro x hx
  rcases List.mem_or_eq_of_mem_set hx with hx | rfl
  · exact h x hx
  · exact hm

theorem doM_fin {L : List Mob} (c : Cmd) (h : FinL L) : FinL (doM L c) := by
  unfold doM
  split
  · split
    · intro x hx
      rcases List.mem_append.1 hx with hx | hx
      · exact h x (List.mem_of_mem_take hx)
      · rcases List.mem_cons.1 hx with rfl | hx
        · exact ⟨num_zero, num_zero⟩
        · exact h x (List.mem_of_mem_drop hx)
    · exact h
  · split
    · split
      · rename_i q
        have hl := findB_lt q.2
        rw [setAt_eq _ _ _ hl]
        have hm := h L[findI L c.id] (List.getElem_mem hl)
        have hp := q.1
        simp only [pushB, Bool.and_eq_true] at hp
        exact finL_set h ⟨add_fin hm.1 hp.1, add_fin hm.2 hp.2⟩
      · exact h
    · split
      · split
        · rename_i q
          have hl := findB_lt q.2
          rw [setAt_eq _ _ _ hl]
          exact finL_set h (h L[findI L c.id] (List.getElem_mem hl))
        · exact h
      · split
        · split
          · intro x hx
            rcases List.mem_append.1 hx with hx | hx
            · exact h x (List.mem_of_mem_take hx)
            · exact h x (List.mem_of_mem_drop hx)
          · exact h
        · exact h

theorem fold_fin (cs : List Cmd) (L : List Mob) (h : FinL L) : FinL (cs.foldl doM L) := by
  induction cs generalizing L with
  | nil => exact h
  | cons c r ih => exact ih (doM L c) (doM_fin c h)

theorem moveM_id (m : Mob) : (moveM m).id = m.id := rfl
theorem moveM_team (m : Mob) : (moveM m).team = m.team := rfl
theorem moveM_health (m : Mob) : (moveM m).health = m.health := rfl

theorem worldB_fin {t : Int} {L : List Mob} (h : worldB t L = true) : FinL L := by
  simp only [worldB, decide_eq_true_eq] at h
  intro m hm
  obtain ⟨j, hj, rfl⟩ := List.getElem_of_mem hm
  have := (h.2.2 j hj hj).1
  simp only [mobB, Bool.and_eq_true, decide_eq_true_eq] at this
  exact ⟨fin_num this.1.1.1.2, fin_num this.1.1.2⟩

theorem okTo_of {L : List Mob} (h1 : ∀ m ∈ L, mobB m = true) (h2 : (L.map Mob.id).Pairwise (· < ·)) : OkTo L L.length := by
  intro j hj _
  refine ⟨h1 _ (List.getElem_mem hj), fun k hk e => ?_⟩
  exact rises_of h2 k j hk hj (by omega)

/-- A world stays a world. -/
theorem worldB_next {t : Int} {L : List Mob} (cs : List Cmd) (h : worldB t L = true) (ht : t ≠ 500) : worldB (t + 1) (stepL cs L) = true := by
  obtain ⟨h0, h1, hF⟩ := worldB_fine h
  have hN := worldB_fin h
  have hF' := keep_fine (fold_fine cs L hF)
  have hN' : FinL (keepL (cs.foldl doM L)) := fun m hm => fold_fin cs L hN m (List.mem_filter.1 hm).1
  refine worldB_true _ _ ⟨by omega, by omega⟩ (okTo_of ?_ ?_)
  · intro m hm
    obtain ⟨a, ha, rfl⟩ := List.mem_map.1 hm
    have hm := hF'.mob a ha
    have hn := hN' a ha
    have hlive := (List.mem_filter.1 ha).2
    simp only [liveB, Bool.not_eq_true', decide_eq_false_iff_not] at hlive
    have mx := moved_fits hm.px hn.1
    have my := moved_fits hm.py hn.2
    simp only [mobB, Bool.and_eq_true, decide_eq_true_eq]
    refine ⟨⟨⟨⟨⟨⟨hm.id, hm.team⟩, ?_⟩, num_fin mx.2⟩, num_fin my.2⟩, ?_⟩, hm.high⟩
    · simp only [placeB, Bool.and_eq_true]; exact ⟨mx.1, my.1⟩
    · show 1 ≤ a.health; omega
  · have : (stepL cs L).map Mob.id = (keepL (cs.foldl doM L)).map Mob.id := by
      unfold stepL
      rw [List.map_map]
      rfl
    rw [this]; exact hF'.rises

theorem worldB_zero : worldB 0 [] = true := worldB_true 0 [] (by decide) (fun j hj _ => absurd hj (Nat.not_lt_zero j))
end Go.Proofs.YtlfmfhmbkpnjbaaGreatDoor

namespace Go.Proofs.YtlfmfhmbkpnjbaaGreatDoor
open Ieee

theorem ok_cases {v : Nat} (h : okV v) : (rung v < 2139095040 ∧ Ieee.single.read v = .number (neg v) (mant (rung v)) (expo (rung v))) ∨ (rung v = 2139095040 ∧ Ieee.single.read v = .infinity (neg v)) := by
  rcases Nat.lt_or_eq_of_le ((ok_iff v).1 h) with q | q
  · exact Or.inl ⟨q, read_mant v q⟩
  · exact Or.inr ⟨q, read_inf v q⟩

/-- The rung of a square, by the rung. -/
def sqR (r : Nat) : Nat := if r < 2139095040 then rungOf (mant r * mant r) (expo r + expo r) else 2139095040
theorem sqR_le (r : Nat) : sqR r ≤ 2139095040 := by unfold sqR; split; exact rungOf_le _ _; omega

theorem sq_any {v : Nat} (h : okV v) : fmul v v = Ieee.single.word false (sqR (rung v)) ∧ floatBits .mul .f32 v v = some (fmul v v) ∧ okV (fmul v v) := by
  have key : Ieee.single.mul v v = some (Ieee.single.word false (sqR (rung v))) := by
    unfold Format.mul sqR
    rcases ok_cases h with ⟨q, e⟩ | ⟨q, e⟩
    · rw [e, if_pos q]
      show some (Ieee.single.nearest (neg v ^^ neg v) _ _) = _
      rw [Bool.xor_self, nearest_rung]
    · rw [e, if_neg (by omega)]
      show some (Ieee.single.word (neg v ^^ neg v) _) = _
      rw [Bool.xor_self, inf_single]
  have hf : fmul v v = Ieee.single.word false (sqR (rung v)) := by unfold fmul; rw [key]; rfl
  refine ⟨hf, ?_, ?_⟩
  · show Ieee.single.mul v v = _
    rw [key, hf]
  · rw [hf, ok_iff, rung_word _ _ (sqR_le _)]; exact sqR_le _

theorem sqR_mono {u v : Nat} (hu : rung u < 2139095040) (hv : okV v) (h : rung u ≤ rung v) : sqR (rung u) ≤ sqR (rung v) := by
  rcases ok_cases hv with ⟨q, _⟩ | ⟨q, _⟩
  · have hle := val_mono hu q h
    unfold sqR
    rw [if_pos hu, if_pos q]
    apply rung_mono
    have h0 := hle (min (expo (rung u)) (expo (rung v))) (by omega) (by omega)
    refine leV_of (min (expo (rung u)) (expo (rung v)) + min (expo (rung u)) (expo (rung v))) (by omega) (by omega) ?_
    have h1 := Nat.mul_le_mul h0 h0
    rw [show ∀ a b : Nat, a * 2 ^ b * (a * 2 ^ b) = a * a * (2 ^ b * 2 ^ b) from fun a b => by rw [Nat.mul_mul_mul_comm], ← Nat.pow_add, show ∀ a b : Nat, a * 2 ^ b * (a * 2 ^ b) = a * a * (2 ^ b * 2 ^ b) from fun a b => by rw [Nat.mul_mul_mul_comm], ← Nat.pow_add] at h1
    rw [show (expo (rung u) + expo (rung u) - (min (expo (rung u)) (expo (rung v)) + min (expo (rung u)) (expo (rung v)))).toNat = (expo (rung u) - min (expo (rung u)) (expo (rung v))).toNat + (expo (rung u) - min (expo (rung u)) (expo (rung v))).toNat from by omega,
      show (expo (rung v) + expo (rung v) - (min (expo (rung u)) (expo (rung v)) + min (expo (rung u)) (expo (rung v)))).toNat = (expo (rung v) - min (expo (rung u)) (expo (rung v))).toNat + (expo (rung v) - min (expo (rung u)) (expo (rung v))).toNat from by omega]
    exact h1
  · unfold sqR
    rw [if_pos hu, if_neg (by omega)]
    exact rungOf_le _ _

/-- A difference. -/
theorem sub_any {x y : Nat} (hx : isNum x) (hy : isNum y) : floatBits .sub .f32 x y = some (fsub x y) ∧ okV (fsub x y) ∧
    rung (fsub x y) = rungOf (sg (neg x) (mant (rung x) * 2 ^ (expo (rung x) - min (expo (rung x)) (expo (rung y))).toNat) + sg (!neg y) (mant (rung y) * 2 ^ (expo (rung y) - min (expo (rung x)) (expo (rung y))).toNat)).natAbs (min (expo (rung x)) (expo (rung y))) := by
  have h1 := (num_iff x).1 hx
  have h2 := (num_iff y).1 hy
  have key : ∃ s, Ieee.single.sub x y = some (Ieee.single.nearest s (sg (neg x) (mant (rung x) * 2 ^ (expo (rung x) - min (expo (rung x)) (expo (rung y))).toNat) + sg (!neg y) (mant (rung y) * 2 ^ (expo (rung y) - min (expo (rung x)) (expo (rung y))).toNat)).natAbs (min (expo (rung x)) (expo (rung y)))) := by
    unfold Format.sub
    rw [read_mant x h1, read_mant y h2, ← signed_sg, ← signed_sg]
    exact ⟨_, rfl⟩
  obtain ⟨s, hs⟩ := key
  generalize (sg (neg x) (mant (rung x) * 2 ^ (expo (rung x) - min (expo (rung x)) (expo (rung y))).toNat) + sg (!neg y) (mant (rung y) * 2 ^ (expo (rung y) - min (expo (rung x)) (expo (rung y))).toNat)).natAbs = T at *
  generalize min (expo (rung x)) (expo (rung y)) = b at *
  have hf : fsub x y = Ieee.single.nearest s T b := by unfold fsub; rw [hs]; rfl
  refine ⟨?_, by rw [hf]; exact ok_nearest _ _ _, ?_⟩
  · show Ieee.single.sub x y = _
    rw [hs, hf]
  · rw [hf, nearest_rung, rung_word _ _ (rungOf_le _ _)]

theorem sub_swap {x y : Nat} (hx : isNum x) (hy : isNum y) : rung (fsub x y) = rung (fsub y x) := by
  obtain ⟨_, _, r1⟩ := sub_any hx hy
  obtain ⟨_, _, r2⟩ := sub_any hy hx
  rw [r1, r2, show min (expo (rung y)) (expo (rung x)) = min (expo (rung x)) (expo (rung y)) from by omega]
  congr 1
  generalize mant (rung x) * 2 ^ (expo (rung x) - min (expo (rung x)) (expo (rung y))).toNat = A
  generalize mant (rung y) * 2 ^ (expo (rung y) - min (expo (rung x)) (expo (rung y))).toNat = C
  cases neg x <;> cases neg y <;> simp only [sg, Bool.not_true, Bool.not_false, if_true, if_false, Bool.false_eq_true] <;> omega

/-- A sum of two that are not below zero. -/
theorem add_pos {r q : Nat} (hr : r ≤ 2139095040) (hq : q ≤ 2139095040) : floatBits .add .f32 (Ieee.single.word false r) (Ieee.single.word false q) = some (fadd (Ieee.single.word false r) (Ieee.single.word false q)) ∧ okV (fadd (Ieee.single.word false r) (Ieee.single.word false q)) := by
  have o1 : okV (Ieee.single.word false r) := by rw [ok_iff, rung_word _ _ hr]; exact hr
  have o2 : okV (Ieee.single.word false q) := by rw [ok_iff, rung_word _ _ hq]; exact hq
  have key : ∃ d, (Ieee.single.read (Ieee.single.word false r)).sum (Ieee.single.read (Ieee.single.word false q)) = some d ∧ d.isNaN = false := by
    rcases ok_cases o1 with ⟨_, e⟩ | ⟨_, e⟩ <;> rcases ok_cases o2 with ⟨_, f⟩ | ⟨_, f⟩ <;> rw [e, f]
    · exact ⟨_, rfl, rfl⟩
    · exact ⟨_, rfl, rfl⟩
    · exact ⟨_, rfl, rfl⟩
    · rw [neg_word _ _ hr, neg_word _ _ hq]
      exact ⟨.infinity false, rfl, rfl⟩
  obtain ⟨d, h1, h2⟩ := key
  have : Ieee.single.add (Ieee.single.word false r) (Ieee.single.word false q) = some (Ieee.single.write d) := by unfold Format.add; rw [h1]; rfl
  have e : fadd (Ieee.single.word false r) (Ieee.single.word false q) = Ieee.single.write d := by unfold fadd; rw [this]; rfl
  exact ⟨by rw [e]; exact this, by rw [e]; exact ok_write h2⟩

/-! float64(x) of a float32. -/
theorem inf_double : Ieee.double.infRung = 9218868437227405312 := by decide
theorem sign_double : Ieee.double.signWeight = 9223372036854775808 := by decide
theorem bin_double : Ieee.double.binade = 4503599627370496 := by decide
theorem least_double : Ieee.double.leastPlace = -1074 := by decide

theorem mod_double (s : Bool) (r : Nat) (h : r ≤ 9218868437227405312) : Ieee.double.word s r % 9223372036854775808 = r := by
  unfold Format.word
  rw [sign_double]
  split <;> omega

theorem double_word (s : Bool) (r : Nat) (h : r ≤ 9218868437227405312) : (Ieee.double.read (Ieee.double.word s r)).isNaN = false ∧ (r < 9218868437227405312 → (Ieee.double.read (Ieee.double.word s r)).isInfinity = false) := by
  unfold Format.read
  rw [bin_double, inf_double, sign_double, mod_double s r h]
  simp only
  by_cases h1 : r < 4503599627370496
  · rw [if_pos h1]; exact ⟨rfl, fun _ => rfl⟩
  · rw [if_neg h1]
    by_cases h2 : r < 9218868437227405312
    · rw [if_pos h2]; exact ⟨rfl, fun _ => rfl⟩
    · rw [if_neg h2, if_pos (by omega)]; exact ⟨rfl, fun e => absurd e h2⟩

theorem double_near (s : Bool) (m : Nat) (e : Int) (hm : m ≤ 16777215) (he : e ≤ 104) : ∃ r, Ieee.double.nearest s m e = Ieee.double.word s r ∧ r < 9218868437227405312 := by
  unfold Format.nearest
  split
  · exact ⟨0, rfl, by decide⟩
  · rename_i h0
    refine ⟨_, rfl, ?_⟩
    rw [inf_double, bin_double, least_double]
    have hlog : m.log2 < 24 := (Nat.log2_lt h0).2 (Nat.lt_of_le_of_lt hm (by decide))
    have hfb : (Ieee.double.fractionBits : Int) = 52 := rfl
    rw [hfb]
    generalize hl : max (e + (m.log2 : Int) - 52) (-1074) = l
    have hl2 : l ≤ 75 := by omega
    have hl3 : -1074 ≤ l := by omega
    have hk : Toward.even.cut s (m <<< (e - l).toNat) (l - e).toNat ≤ 9007199254740992 := by
      have : Toward.even.cut s (m <<< (e - l).toNat) (l - e).toNat ≤ Toward.even.cut false (2 ^ 53) 0 := by
        apply cut_mono
        rw [Nat.shiftLeft_eq, Nat.pow_zero, Nat.mul_one, ← Nat.pow_add]
        have hlt : m < 2 ^ (m.log2 + 1) := Nat.lt_log2_self
        exact Nat.le_trans (Nat.mul_le_mul_right _ (Nat.le_of_lt hlt)) (by rw [← Nat.pow_add]; exact Nat.pow_le_pow_right (by decide) (by omega))
      rw [cut_zero] at this
      exact this
    omega

theorem conv_ok {v : Nat} (h : okV v) : ∃ r, floatToFloatBits .f32 v .f64 = some r ∧ (FloatKind.f64.format.order r r != some .eq) = false := by
  have ord : ∀ d : Nat, (Ieee.double.read d).isNaN = false → (FloatKind.f64.format.order d d != some .eq) = false := by
    intro d hd
    have : FloatKind.f64.format.order d d = some .eq := by
      show (Ieee.double.read d).order (Ieee.double.read d) = _
      cases hr : Ieee.double.read d with
      | number s m i => simp [Datum.order]
      | infinity s => simp [Datum.order]
      | nan s t => rw [hr] at hd; cases hd
    rw [this]; rfl
  unfold floatToFloatBits
  rw [if_neg (by decide)]
  rcases ok_cases h with ⟨q, e⟩ | ⟨q, e⟩
  · obtain ⟨m, e', hr, _, h1, h2, h3⟩ := read_num v q
    have hd : FloatKind.f32.decode v = .number (neg v) m e' := hr
    rw [hd]
    obtain ⟨r, hn, hlt⟩ := double_near (neg v) m e' h3 h2
    have he : FloatKind.f64.encode (.number (neg v) m e') = Ieee.double.word (neg v) r := hn
    have hw := double_word (neg v) r (by omega)
    simp only [he]
    have hi : (FloatKind.f64.decode (Ieee.double.word (neg v) r)).isInfinity = false := hw.2 hlt
    rw [hi]
    exact ⟨_, rfl, ord _ hw.1⟩
  · have hd : FloatKind.f32.decode v = .infinity (neg v) := e
    rw [hd]
    have he : FloatKind.f64.encode (.infinity (neg v)) = Ieee.double.word (neg v) 9218868437227405312 := by
      show Ieee.double.word (neg v) Ieee.double.infRung = _
      rw [inf_double]
    refine ⟨_, rfl, ?_⟩
    rw [he]
    exact ord _ (double_word (neg v) _ (Nat.le_refl _)).1
end Go.Proofs.YtlfmfhmbkpnjbaaGreatDoor
