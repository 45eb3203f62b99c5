import Derived.Test.YtlfmfhmbkpnjbaaLeaf
namespace Go.Proofs.Ytlfmfhmbkpnjbaa
open Go.RowKit Ieee

/-- No NaN; a number. -/
def okV (v : Nat) : Prop := (Ieee.single.read v).isNaN = false
def isNum (v : Nat) : Prop := ∃ s m e, Ieee.single.read v = .number s m e

def fadd (x y : Nat) : Nat := (Ieee.single.add x y).getD 0
def fsub (x y : Nat) : Nat := (Ieee.single.sub x y).getD 0
def fmul (x y : Nat) : Nat := (Ieee.single.mul x y).getD 0

theorem isNum.ok {v : Nat} (h : isNum v) : okV v := by obtain ⟨s, m, e, h⟩ := h; simp [okV, h, Datum.isNaN]

theorem inf_single : Ieee.single.infRung = 2139095040 := by decide
theorem sign_single : Ieee.single.signWeight = 2147483648 := by decide
theorem bin_single : Ieee.single.binade = 8388608 := by decide

theorem read_word (neg : Bool) (rung : Nat) (h : rung ≤ Ieee.single.infRung) : okV (Ieee.single.word neg rung) := by
  have hm : Ieee.single.word neg rung % Ieee.single.signWeight = rung := by
    unfold Format.word
    rw [inf_single] at h
    rw [sign_single]
    split <;> omega
  unfold okV Format.read
  simp only [hm]
  split
  · rfl
  · split
    · rfl
    · split
      · rfl
      · rename_i h1 h2 h3; omega

theorem ok_nearest (neg : Bool) (mag : Nat) (place : Int) : okV (Ieee.single.nearest neg mag place) := by
  unfold Format.nearest
  dsimp only
  split
  · exact read_word _ _ (Nat.zero_le _)
  · exact read_word _ _ (Nat.min_le_right ..)

theorem ok_write {d : Datum} (h : d.isNaN = false) : okV (Ieee.single.write d) := by
  cases d with
  | number s m e => exact ok_nearest s m e
  | infinity s => exact read_word s _ (Nat.le_refl _)
  | nan s t => simp [Datum.isNaN] at h

theorem add_some {x v : Nat} (hx : isNum x) (hv : okV v) : ∃ d, (Ieee.single.read x).sum (Ieee.single.read v) = some d ∧ d.isNaN = false := by
  obtain ⟨s, m, e, hx⟩ := hx
  rw [hx]
  unfold okV at hv
  cases hr : Ieee.single.read v with
  | number t n j => exact ⟨_, rfl, rfl⟩
  | infinity t => exact ⟨_, rfl, rfl⟩
  | nan t f => simp [hr, Datum.isNaN] at hv

theorem add_some' {x v : Nat} (hx : isNum x) (hv : okV v) : ∃ d, (Ieee.single.read v).sum (Ieee.single.read x) = some d ∧ d.isNaN = false := by
  obtain ⟨s, m, e, hx⟩ := hx
  rw [hx]
  unfold okV at hv
  cases hr : Ieee.single.read v with
  | number t n j => exact ⟨_, rfl, rfl⟩
  | infinity t => exact ⟨_, rfl, rfl⟩
  | nan t f => simp [hr, Datum.isNaN] at hv

theorem fadd_ok {x v : Nat} (hx : isNum x) (hv : okV v) : floatBits .add .f32 x v = some (fadd x v) ∧ okV (fadd x v) := by
  obtain ⟨d, h1, h2⟩ := add_some hx hv
  have : Ieee.single.add x v = some (Ieee.single.write d) := by unfold Format.add; rw [h1]; rfl
  have e : fadd x v = Ieee.single.write d := by unfold fadd; rw [this]; rfl
  exact ⟨by rw [e]; exact this, by rw [e]; exact ok_write h2⟩

theorem fadd_ok' {x v : Nat} (hx : isNum x) (hv : okV v) : floatBits .add .f32 v x = some (fadd v x) ∧ okV (fadd v x) := by
  obtain ⟨d, h1, h2⟩ := add_some' hx hv
  have : Ieee.single.add v x = some (Ieee.single.write d) := by unfold Format.add; rw [h1]; rfl
  have e : fadd v x = Ieee.single.write d := by unfold fadd; rw [this]; rfl
  exact ⟨by rw [e]; exact this, by rw [e]; exact ok_write h2⟩

/-- A number that is no zero. -/
def isPos (v : Nat) : Prop := ∃ s m e, Ieee.single.read v = .number s m e ∧ m ≠ 0

theorem fmul_ok {v c : Nat} (hv : okV v) (hc : isPos c) : floatBits .mul .f32 v c = some (fmul v c) ∧ okV (fmul v c) := by
  obtain ⟨s, m, e, hc, hm⟩ := hc
  have key : ∃ d, (Ieee.single.read v).product (Ieee.single.read c) = some d ∧ d.isNaN = false := by
    rw [hc]
    unfold okV at hv
    cases hr : Ieee.single.read v with
    | number t n j => exact ⟨_, rfl, rfl⟩
    | infinity t => exact ⟨.infinity (t ^^ s), by simp [Datum.product, hm], rfl⟩
    | nan t f => simp [hr, Datum.isNaN] at hv
  obtain ⟨d, h1, h2⟩ := key
  have : Ieee.single.mul v c = some (Ieee.single.write d) := by unfold Format.mul; rw [h1]; rfl
  have e : fmul v c = Ieee.single.write d := by unfold fmul; rw [this]; rfl
  exact ⟨by rw [e]; exact this, by rw [e]; exact ok_write h2⟩

theorem half_pos : isPos 3204448256 := ⟨true, 8388608, -24, by decide, by decide⟩
theorem slow_pos : isPos 1061158912 := ⟨false, 12582912, -24, by decide, by decide⟩

/-- What fits a bound is a number. -/
theorem fits_num {x b : Nat} (h : fitsB x b = true) (hb : isNum b) (hn : isNum (Op.negFloat .f32 b)) : isNum x := by
  obtain ⟨s, m, e, hb⟩ := hb
  obtain ⟨s', m', e', hn⟩ := hn
  unfold fitsB fge fle ford at h
  simp only [Bool.and_eq_true] at h
  obtain ⟨h1, h2⟩ := h
  cases hr : Ieee.single.read x with
  | number t n j => exact ⟨t, n, j, hr⟩
  | nan t f =>
    have : FloatKind.f32.format.order x b = none := by
      show (Ieee.single.read x).order (Ieee.single.read b) = none
      rw [hr]; rfl
    rw [this] at h2
    exact absurd h2 (by decide)
  | infinity t =>
    have q2 : FloatKind.f32.format.order x b = some (if t then .lt else .gt) := by
      show (Ieee.single.read x).order (Ieee.single.read b) = _
      rw [hr, hb]; rfl
    have q1 : FloatKind.f32.format.order x (Op.negFloat .f32 b) = some (if t then .lt else .gt) := by
      show (Ieee.single.read x).order (Ieee.single.read _) = _
      rw [hr, hn]; rfl
    rw [q2] at h2
    rw [q1] at h1
    cases t
    · exact absurd h2 (by decide)
    · exact absurd h1 (by decide)

theorem place_num {x : Nat} (h : fitsB x 1148846080 = true) : isNum x := fits_num h ⟨false, 16384000, -14, by decide⟩ ⟨true, 16384000, -14, by decide⟩
theorem push_num {x : Nat} (h : fitsB x 1120403456 = true) : isNum x := fits_num h ⟨false, 13107200, -17, by decide⟩ ⟨true, 13107200, -17, by decide⟩
theorem fin_num {x : Nat} (h : finB x = true) : isNum x := fits_num h ⟨false, 16777215, 104, by decide⟩ ⟨true, 16777215, 104, by decide⟩

/-- The place and the way behind a move. -/
def movedF (x v : Nat) : Nat × Nat :=
  if ford (fadd x v) 3296329728 = some .lt then (3296329728, fmul (fmul v 3204448256) 1061158912)
  else if ford (fadd x v) 1148846080 = some .gt then (1148846080, fmul (fmul v 3204448256) 1061158912)
  else (fadd x v, fmul v 1061158912)

theorem ford_beq {x y : Nat} {o : Ordering} (h : ford x y = some o) : (FloatKind.f32.format.order x y == some o) = true := by
  show (ford x y == some o) = true
  rw [h]; cases o <;> rfl
theorem ford_bne {x y : Nat} {o : Ordering} (h : ¬ ford x y = some o) : (FloatKind.f32.format.order x y == some o) = false := by
  show (ford x y == some o) = false
  rw [beq_eq_false_iff_ne]; exact h

set_option maxHeartbeats 400000 in
theorem moved_c (x v : Nat) (w : World) (hx : isNum x) (hv : okV v) : Calls Try.prog 78 #[.float .f32 x, .float .f32 v] w fun e w' => e = .returned (.tuple #[.float .f32 (movedF x v).1, .float .f32 (movedF x v).2]) ∧ w' = w := by
  obtain ⟨f1, -⟩ := fadd_ok hx hv
  obtain ⟨f2, o2⟩ := fmul_ok hv half_pos
  obtain ⟨f3, -⟩ := fmul_ok o2 slow_pos
  obtain ⟨f4, -⟩ := fmul_ok hv slow_pos
  have r1 : (binOp .add 54 (.float .f32 x) (.float .f32 v)).run Try.prog w = .ok (.float .f32 (fadd x v)) w := run_float_arith w .add _ .f32 x v _ f1
  have r2 : (binOp .mul 54 (.float .f32 v) (.float .f32 3204448256)).run Try.prog w = .ok (.float .f32 (fmul v 3204448256)) w := run_float_arith w .mul _ .f32 v _ _ f2
  have r3 : (binOp .mul 54 (.float .f32 (fmul v 3204448256)) (.float .f32 1061158912)).run Try.prog w = .ok (.float .f32 (fmul (fmul v 3204448256) 1061158912)) w := run_float_arith w .mul _ .f32 _ _ _ f3
  have r4 : (binOp .mul 54 (.float .f32 v) (.float .f32 1061158912)).run Try.prog w = .ok (.float .f32 (fmul v 1061158912)) w := run_float_arith w .mul _ .f32 v _ _ f4
  clear f1 f2 f3 f4 o2
  by_cases h1 : ford (fadd x v) 3296329728 = some .lt
  · have H : Hid (movedF x v = (3296329728, fmul (fmul v 3204448256) 1061158912)) := by show _ = _; unfold movedF; rw [if_pos h1]
    have b1 := ford_beq h1
    clear h1
    go_enter Try.func78, Try.ntmps78
    go_wp2
    go_ret2
    exact ⟨ret2 (by rw [H.out]; rfl) (by rw [H.out]; rfl), rfl⟩
  · have b1 := ford_bne h1
    by_cases h2 : ford (fadd x v) 1148846080 = some .gt
    · have H : Hid (movedF x v = (1148846080, fmul (fmul v 3204448256) 1061158912)) := by show _ = _; unfold movedF; rw [if_neg h1, if_pos h2]
      have b2 := ford_beq h2
      clear h1 h2
      go_enter Try.func78, Try.ntmps78
      go_wp2
      go_ret2
      exact ⟨ret2 (by rw [H.out]; rfl) (by rw [H.out]; rfl), rfl⟩
    · have H : Hid (movedF x v = (fadd x v, fmul v 1061158912)) := by show _ = _; unfold movedF; rw [if_neg h1, if_neg h2]
      have b2 := ford_bne h2
      clear h1 h2
      go_enter Try.func78, Try.ntmps78
      go_wp2
      go_ret2
      exact ⟨ret2 (by rw [H.out]; rfl) (by rw [H.out]; rfl), rfl⟩
end Go.Proofs.Ytlfmfhmbkpnjbaa
