import Derived.Test.YtlfmfhmbkpnjbaaSoundw
import Derived.Test.YtlfmfhmbkpnjbaaKey
namespace Go.Proofs.Ytlfmfhmbkpnjbaa
open Go.RowKit

theorem key_zero : key 0 = 0 := by decide
theorem ok_zero : okV 0 := num_zero.ok

theorem fits_key {x : Nat} (h : fitsB x 1148846080 = true) : -1148846080 ≤ key x ∧ key x ≤ 1148846080 := by
  have hn := (place_num h).ok
  have e1 : Op.negFloat .f32 1148846080 = 3296329728 := by decide
  have k1 : key 3296329728 = -1148846080 := by decide
  have k2 : key 1148846080 = 1148846080 := by decide
  have o1 : okV 3296329728 := by unfold okV; decide
  have o2 : okV 1148846080 := by unfold okV; decide
  simp only [fitsB, fge, fle, e1, ford_key hn o1, ford_key hn o2, k1, k2, Bool.and_eq_true, Bool.or_eq_true, beq_iff_eq, Option.some.injEq, Int.compare_eq_gt, Int.compare_eq_eq, Int.compare_eq_lt] at h
  omega

theorem moved_key {x v : Nat} (hx : fitsB x 1148846080 = true) (hv : isNum v) : (0 ≤ key v → key x ≤ key (movedF x v).1) ∧ (key v ≤ 0 → key (movedF x v).1 ≤ key x) := by
  have hn := place_num hx
  have hf := fits_key hx
  have oy := (fadd_ok hn hv.ok).2
  have k1 : key 3296329728 = -1148846080 := by decide
  have k2 : key 1148846080 = 1148846080 := by decide
  have o1 : okV 3296329728 := by unfold okV; decide
  have o2 : okV 1148846080 := by unfold okV; decide
  unfold movedF
  rw [ford_key oy o1, ford_key oy o2, k1, k2]
  simp only [Option.some.injEq, Int.compare_eq_lt, Int.compare_eq_gt]
  constructor
  · intro h0
    have := add_ge hn hv h0
    split
    · simp only [k1]; omega
    · split
      · simp only [k2]; omega
      · exact this
  · intro h0
    have := add_le hn hv h0
    split
    · simp only [k1]; omega
    · split
      · simp only [k2]; omega
      · exact this

theorem moved_slow (x : Nat) {v : Nat} (hv : isNum v) : rung (movedF x v).2 ≤ rung v ∧ isNum (movedF x v).2 := by
  have h1 := mul_slow hv
  have h2 := mul_half hv
  have h3 := mul_slow h2.2.1
  unfold movedF
  split
  · exact ⟨Nat.le_trans h3.1 h2.1, h3.2.1⟩
  · split
    · exact ⟨Nat.le_trans h3.1 h2.1, h3.2.1⟩
    · exact ⟨h1.1, h1.2.1⟩

/-- What a tick without commands does along one axis. -/
structure Axis (x v x' v' : Nat) : Prop where
  sq : (FloatKind.f32.format.order (fmul v' v') (fmul v v) == some .gt) = false
  m1 : ∀ w, (binOp .mul 54 (.float .f32 v') (.float .f32 v')).run Try.prog w = .ok (.float .f32 (fmul v' v')) w
  m2 : ∀ w, (binOp .mul 54 (.float .f32 v) (.float .f32 v)).run Try.prog w = .ok (.float .f32 (fmul v v)) w
  way : ((FloatKind.f32.format.order v 0 == some .eq) = true ∧ (FloatKind.f32.format.order v 0 == some .gt) = false ∧ (FloatKind.f32.format.order v 0 == some .lt) = false ∧ (FloatKind.f32.format.order x' x != some .eq) = false) ∨
    ((FloatKind.f32.format.order v 0 == some .eq) = false ∧ (FloatKind.f32.format.order v 0 == some .gt) = true ∧ (FloatKind.f32.format.order v 0 == some .lt) = false ∧ (FloatKind.f32.format.order x' x == some .lt) = false) ∨
    ((FloatKind.f32.format.order v 0 == some .eq) = false ∧ (FloatKind.f32.format.order v 0 == some .gt) = false ∧ (FloatKind.f32.format.order v 0 == some .lt) = true ∧ (FloatKind.f32.format.order x' x == some .gt) = false)

theorem axis_of {x v : Nat} (hx : fitsB x 1148846080 = true) (hv : isNum v) : Axis x v (movedF x v).1 (movedF x v).2 := by
  obtain ⟨r1, n1⟩ := moved_slow x hv
  obtain ⟨g1, g2⟩ := moved_key hx hv
  have ox := (place_num hx).ok
  have oy := (place_num (moved_fits (place_num hx) hv).1).ok
  have hz := ford_key hv.ok ok_zero
  have hk := ford_key oy ox
  rw [key_zero] at hz
  refine ⟨sq_mono n1 hv r1, fun w => run_float_arith w .mul _ .f32 _ _ _ (sq_key n1).2.2, fun w => run_float_arith w .mul _ .f32 _ _ _ (sq_key hv).2.2, ?_⟩
  have hz' : FloatKind.f32.format.order v 0 = some (compare (key v) 0) := hz
  have hk' : FloatKind.f32.format.order (movedF x v).1 x = some (compare (key (movedF x v).1) (key x)) := hk
  rw [hz', hk']
  rcases Int.lt_trichotomy (key v) 0 with q | q | q
  · right; right
    have := g2 (by omega)
    rw [Int.compare_eq_lt.2 q]
    refine ⟨rfl, rfl, rfl, ?_⟩
    rw [beq_eq_false_iff_ne]
    intro e
    have := Int.compare_eq_gt.1 (Option.some.inj e)
    omega
  · left
    have a1 := g1 (by omega)
    have a2 := g2 (by omega)
    rw [Int.compare_eq_eq.2 q, Int.compare_eq_eq.2 (show key (movedF x v).1 = key x by omega)]
    exact ⟨rfl, rfl, rfl, rfl⟩
  · right; left
    have := g1 (by omega)
    rw [Int.compare_eq_gt.2 q]
    refine ⟨rfl, rfl, rfl, ?_⟩
    rw [beq_eq_false_iff_ne]
    intro e
    have := Int.compare_eq_lt.1 (Option.some.inj e)
    omega

theorem keep_all {t : Int} {L : List Mob} (h : worldB t L = true) : keepL L = L := by
  unfold keepL
  rw [List.filter_eq_self]
  intro m hm
  have := (mob_parts (worldB_mobs h m hm)).2.2.2.2.1
  simp [liveB]; omega

theorem step_none {t : Int} {L : List Mob} (h : worldB t L = true) : stepL [] L = L.map moveM := by
  show (keepL L).map moveM = _
  rw [keep_all h]

theorem mob_axes {m : Mob} (h : mobB m = true) : Axis m.x m.vx (moveM m).x (moveM m).vx ∧ Axis m.y m.vy (moveM m).y (moveM m).vy := by
  simp only [mobB, Bool.and_eq_true, decide_eq_true_eq, placeB] at h
  exact ⟨axis_of h.1.1.1.1.2.1 (fin_num h.1.1.1.2), axis_of h.1.1.1.1.2.2 (fin_num h.1.1.2)⟩
end Go.Proofs.Ytlfmfhmbkpnjbaa
