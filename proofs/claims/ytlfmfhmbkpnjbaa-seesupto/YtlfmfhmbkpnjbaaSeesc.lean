import Derived.Test.YtlfmfhmbkpnjbaaStepok
import Derived.Test.YtlfmfhmbkpnjbaaDist
namespace Go.Proofs.Ytlfmfhmbkpnjbaa
open Go.RowKit

/-- How far two are apart, squared; who sees whom. -/
def dist (a e : Mob) : Nat := fadd (fmul (fsub e.x a.x) (fsub e.x a.x)) (fmul (fsub e.y a.y) (fsub e.y a.y))
def seesB (a e : Mob) (far : Nat) : Bool := (a.team == e.team) || fle (dist a e) (fmul far far)

structure Pl (m : Mob) : Prop where
  x : isNum m.x
  y : isNum m.y

theorem dist_ok {a e : Mob} (ha : Pl a) (he : Pl e) : okV (dist a e) ∧ floatBits .add .f32 (fmul (fsub e.x a.x) (fsub e.x a.x)) (fmul (fsub e.y a.y) (fsub e.y a.y)) = some (dist a e) := by
  have hx := sq_any (sub_any he.x ha.x).2.1
  have hy := sq_any (sub_any he.y ha.y).2.1
  unfold dist
  rw [hx.1, hy.1]
  have := add_pos (sqR_le (rung (fsub e.x a.x))) (sqR_le (rung (fsub e.y a.y)))
  exact ⟨this.2, this.1⟩

theorem dist_swap {a e : Mob} (ha : Pl a) (he : Pl e) : dist a e = dist e a := by
  have hx := sq_any (sub_any he.x ha.x).2.1
  have hy := sq_any (sub_any he.y ha.y).2.1
  have hx' := sq_any (sub_any ha.x he.x).2.1
  have hy' := sq_any (sub_any ha.y he.y).2.1
  unfold dist
  rw [hx.1, hy.1, hx'.1, hy'.1, sub_swap he.x ha.x, sub_swap he.y ha.y]

theorem sees_swap {a e : Mob} (ha : Pl a) (he : Pl e) (far : Nat) : seesB a e far = seesB e a far := by
  unfold seesB
  rw [dist_swap ha he, BEq.comm]

set_option maxHeartbeats 1000000 in
set_option maxRecDepth 100000 in
theorem sees_c (a e : Mob) (far : Nat) (w : World) (ha : Pl a) (he : Pl e) (hf : okV far) :
    Calls Try.prog 60 #[.agg #[.int .i64 a.id, .int .i64 a.team, .float .f32 a.x, .float .f32 a.y, .float .f32 a.vx, .float .f32 a.vy, .int .i64 a.health], .agg #[.int .i64 e.id, .int .i64 e.team, .float .f32 e.x, .float .f32 e.y, .float .f32 e.vx, .float .f32 e.vy, .int .i64 e.health], .float .f32 far] w fun r w' => r = .returned (.bool (seesB a e far)) ∧ Kept (fun _ => False) w w' := by
  have r1 : ∀ w, (binOp .sub 54 (.float .f32 e.x) (.float .f32 a.x)).run Try.prog w = .ok (.float .f32 (fsub e.x a.x)) w := fun w => run_float_arith w .sub _ .f32 _ _ _ (sub_any he.x ha.x).1
  have r2 : ∀ w, (binOp .sub 54 (.float .f32 e.y) (.float .f32 a.y)).run Try.prog w = .ok (.float .f32 (fsub e.y a.y)) w := fun w => run_float_arith w .sub _ .f32 _ _ _ (sub_any he.y ha.y).1
  have r3 : ∀ w, (binOp .mul 54 (.float .f32 (fsub e.x a.x)) (.float .f32 (fsub e.x a.x))).run Try.prog w = .ok (.float .f32 (fmul (fsub e.x a.x) (fsub e.x a.x))) w := fun w => run_float_arith w .mul _ .f32 _ _ _ (sq_any (sub_any he.x ha.x).2.1).2.1
  have r4 : ∀ w, (binOp .mul 54 (.float .f32 (fsub e.y a.y)) (.float .f32 (fsub e.y a.y))).run Try.prog w = .ok (.float .f32 (fmul (fsub e.y a.y) (fsub e.y a.y))) w := fun w => run_float_arith w .mul _ .f32 _ _ _ (sq_any (sub_any he.y ha.y).2.1).2.1
  have r5 : ∀ w, (binOp .add 54 (.float .f32 (fmul (fsub e.x a.x) (fsub e.x a.x))) (.float .f32 (fmul (fsub e.y a.y) (fsub e.y a.y)))).run Try.prog w = .ok (.float .f32 (dist a e)) w := fun w => run_float_arith w .add _ .f32 _ _ _ (dist_ok ha he).2
  have r6 : ∀ w, (binOp .mul 54 (.float .f32 far) (.float .f32 far)).run Try.prog w = .ok (.float .f32 (fmul far far)) w := fun w => run_float_arith w .mul _ .f32 _ _ _ (sq_any hf).2.1
  have HK := hide ((Kept.alloc w (.cells #[.int .i64 a.id, .int .i64 a.team, .float .f32 a.x, .float .f32 a.y, .float .f32 a.vx, .float .f32 a.vy, .int .i64 a.health] 57)).calm2 (Kept.alloc _ (.cells #[.int .i64 e.id, .int .i64 e.team, .float .f32 e.x, .float .f32 e.y, .float .f32 e.vx, .float .f32 e.vy, .int .i64 e.health] 57)))
  by_cases h1 : a.team = e.team
  · have H : Hid (seesB a e far = true) := by show _ = _; simp [seesB, h1]
    have h1' : (a.team == e.team) = true := by simp [h1]
    clear h1
    go_enter Try.func60, Try.ntmps60
    go_wp2
    go_ret
    exact ⟨ret1 (by rw [H.out]; rfl), HK.out⟩
  · have h1' : (a.team == e.team) = false := by simp [h1]
    have H : Hid (seesB a e far = fle (dist a e) (fmul far far)) := by show _ = _; simp [seesB, h1]
    clear h1
    go_enter Try.func60, Try.ntmps60
    go_wp2
    go_quiet (fail)
    go_wp2
    go_ret
    exact ⟨ret1 (by rw [H.out]; rfl), HK.out.calm2 (Kept.drewN _ _)⟩

theorem isNaN64_c (r : Nat) (w : World) (h : (FloatKind.f64.format.order r r != some .eq) = false) : Calls Try.prog 59 #[.float .f64 r] w fun e w' => e = .returned (.bool false) ∧ w' = w := by
  go_enter Try.func59, Try.ntmps59
  go_wp2
  go_ret
  exact ⟨rfl, rfl⟩
end Go.Proofs.Ytlfmfhmbkpnjbaa
