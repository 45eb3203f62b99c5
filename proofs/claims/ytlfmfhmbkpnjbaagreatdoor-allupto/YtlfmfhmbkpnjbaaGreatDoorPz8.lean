import Derived.Test.YtlfmfhmbkpnjbaaGreatDoorPz7
import Derived.Laws.StructEq
import Derived.Test.YtlfmfhmbkpnjbaaGreatDoorPz5
namespace Go.Proofs.YtlfmfhmbkpnjbaaGreatDoor
open Go.RowKit

def feq (x y : Nat) : Bool := Op.floatEq .f32 x y
/-- The program's own equality of two entities. -/
def eqM (e m : Mob) : Bool := if e.id == m.id then (if e.team == m.team then (if feq e.x m.x then (if feq e.y m.y then (if feq e.vx m.vx then (if feq e.vy m.vy then e.health == m.health else false) else false) else false) else false) else false) else false

theorem part_int (xs : Array Value) (o : Nat) (v : Value) (h : xs[o]? = some v) (w : World) : (part 3 xs o).run Tryz.prog w = .ok v w := by
  simp [part, isAgg, run_underlying Tryz.underlying3, h]
theorem part_f32 (xs : Array Value) (o : Nat) (v : Value) (h : xs[o]? = some v) (w : World) : (part 55 xs o).run Tryz.prog w = .ok v w := by
  simp [part, isAgg, run_underlying Tryz.underlying55, h]
theorem eq_f32 (d : Nat) (x y : Nat) (w : World) : (Op.equalIn (d + 1) 55 (.float .f32 x) (.float .f32 y)).run Tryz.prog w = .ok (feq x y) w := by
  simp [Op.equalIn, run_underlying Tryz.underlying55, feq]
theorem eq_int (d : Nat) (x y : Int) (w : World) : (Op.equalIn (d + 1) 3 (.int .i64 x) (.int .i64 y)).run Tryz.prog w = .ok (x == y) w := run_equalIn_int w d 3 .i64 .i64 x y Tryz.underlying3
theorem eqF_cons (d : Nat) (xs ys : Array Value) (f : Field) (fs : List Field) (a b : Value) (r : Bool) (w : World) (hn : (f.name ≠ "_") = True) (h1 : (part f.type xs f.offset).run Tryz.prog w = .ok a w) (h2 : (part f.type ys f.offset).run Tryz.prog w = .ok b w) (h3 : (Op.equalIn d f.type a b).run Tryz.prog w = .ok r w) :
    (Op.eqFields d xs ys (f :: fs)).run Tryz.prog w = if r then (Op.eqFields d xs ys fs).run Tryz.prog w else .ok false w := by
  simp only [Op.eqFields, hn, if_true, Sem.run_bind, h1, h2, h3, Result.andThen_ok]
  cases r
  · simp
  · simp

set_option maxRecDepth 100000 in
theorem eql_mob (e m : Mob) (w : World) : (binOp .eql 83 (.agg #[.int .i64 e.id, .int .i64 e.team, .float .f32 e.x, .float .f32 e.y, .float .f32 e.vx, .float .f32 e.vy, .int .i64 e.health]) (.agg #[.int .i64 m.id, .int .i64 m.team, .float .f32 m.x, .float .f32 m.y, .float .f32 m.vx, .float .f32 m.vy, .int .i64 m.health])).run Tryz.prog w = .ok (.bool (eqM e m)) w := by
  rw [run_eql_struct, run_equalIn_agg w 9999 83 _ _ (by kernel_rfl) (by kernel_rfl)]
  rw [show (Tryz.prog.fieldsOf 83).toList = [{ name := "ID", type := 3, offset := 0, embedded := false, tag := "", pkgPath := "", byteOffset := 0 }, { name := "Team", type := 3, offset := 1, embedded := false, tag := "", pkgPath := "", byteOffset := 8 }, { name := "X", type := 55, offset := 2, embedded := false, tag := "", pkgPath := "", byteOffset := 16 }, { name := "Y", type := 55, offset := 3, embedded := false, tag := "", pkgPath := "", byteOffset := 20 }, { name := "VX", type := 55, offset := 4, embedded := false, tag := "", pkgPath := "", byteOffset := 24 }, { name := "VY", type := 55, offset := 5, embedded := false, tag := "", pkgPath := "", byteOffset := 28 }, { name := "Health", type := 3, offset := 6, embedded := false, tag := "", pkgPath := "", byteOffset := 32 }] from by kernel_rfl]
  rw [eqF_cons 9999 #[.int .i64 e.id, .int .i64 e.team, .float .f32 e.x, .float .f32 e.y, .float .f32 e.vx, .float .f32 e.vy, .int .i64 e.health] #[.int .i64 m.id, .int .i64 m.team, .float .f32 m.x, .float .f32 m.y, .float .f32 m.vx, .float .f32 m.vy, .int .i64 m.health] { name := "ID", type := 3, offset := 0, embedded := false, tag := "", pkgPath := "", byteOffset := 0 } [{ name := "Team", type := 3, offset := 1, embedded := false, tag := "", pkgPath := "", byteOffset := 8 }, { name := "X", type := 55, offset := 2, embedded := false, tag := "", pkgPath := "", byteOffset := 16 }, { name := "Y", type := 55, offset := 3, embedded := false, tag := "", pkgPath := "", byteOffset := 20 }, { name := "VX", type := 55, offset := 4, embedded := false, tag := "", pkgPath := "", byteOffset := 24 }, { name := "VY", type := 55, offset := 5, embedded := false, tag := "", pkgPath := "", byteOffset := 28 }, { name := "Health", type := 3, offset := 6, embedded := false, tag := "", pkgPath := "", byteOffset := 32 }] (.int .i64 e.id) (.int .i64 m.id) (e.id == m.id) w (by simp) (part_int #[.int .i64 e.id, .int .i64 e.team, .float .f32 e.x, .float .f32 e.y, .float .f32 e.vx, .float .f32 e.vy, .int .i64 e.health] 0 (.int .i64 e.id) rfl w) (part_int #[.int .i64 m.id, .int .i64 m.team, .float .f32 m.x, .float .f32 m.y, .float .f32 m.vx, .float .f32 m.vy, .int .i64 m.health] 0 (.int .i64 m.id) rfl w) (eq_int 9998 e.id m.id w)]
  rw [eqF_cons 9999 #[.int .i64 e.id, .int .i64 e.team, .float .f32 e.x, .float .f32 e.y, .float .f32 e.vx, .float .f32 e.vy, .int .i64 e.health] #[.int .i64 m.id, .int .i64 m.team, .float .f32 m.x, .float .f32 m.y, .float .f32 m.vx, .float .f32 m.vy, .int .i64 m.health] { name := "Team", type := 3, offset := 1, embedded := false, tag := "", pkgPath := "", byteOffset := 8 } [{ name := "X", type := 55, offset := 2, embedded := false, tag := "", pkgPath := "", byteOffset := 16 }, { name := "Y", type := 55, offset := 3, embedded := false, tag := "", pkgPath := "", byteOffset := 20 }, { name := "VX", type := 55, offset := 4, embedded := false, tag := "", pkgPath := "", byteOffset := 24 }, { name := "VY", type := 55, offset := 5, embedded := false, tag := "", pkgPath := "", byteOffset := 28 }, { name := "Health", type := 3, offset := 6, embedded := false, tag := "", pkgPath := "", byteOffset := 32 }] (.int .i64 e.team) (.int .i64 m.team) (e.team == m.team) w (by simp) (part_int #[.int .i64 e.id, .int .i64 e.team, .float .f32 e.x, .float .f32 e.y, .float .f32 e.vx, .float .f32 e.vy, .int .i64 e.health] 1 (.int .i64 e.team) rfl w) (part_int #[.int .i64 m.id, .int .i64 m.team, .float .f32 m.x, .float .f32 m.y, .float .f32 m.vx, .float .f32 m.vy, .int .i64 m.health] 1 (.int .i64 m.team) rfl w) (eq_int 9998 e.team m.team w)]
  rw [eqF_cons 9999 #[.int .i64 e.id, .int .i64 e.team, .float .f32 e.x, .float .f32 e.y, .float .f32 e.vx, .float .f32 e.vy, .int .i64 e.health] #[.int .i64 m.id, .int .i64 m.team, .float .f32 m.x, .float .f32 m.y, .float .f32 m.vx, .float .f32 m.vy, .int .i64 m.health] { name := "X", type := 55, offset := 2, embedded := false, tag := "", pkgPath := "", byteOffset := 16 } [{ name := "Y", type := 55, offset := 3, embedded := false, tag := "", pkgPath := "", byteOffset := 20 }, { name := "VX", type := 55, offset := 4, embedded := false, tag := "", pkgPath := "", byteOffset := 24 }, { name := "VY", type := 55, offset := 5, embedded := false, tag := "", pkgPath := "", byteOffset := 28 }, { name := "Health", type := 3, offset := 6, embedded := false, tag := "", pkgPath := "", byteOffset := 32 }] (.float .f32 e.x) (.float .f32 m.x) (feq e.x m.x) w (by simp) (part_f32 #[.int .i64 e.id, .int .i64 e.team, .float .f32 e.x, .float .f32 e.y, .float .f32 e.vx, .float .f32 e.vy, .int .i64 e.health] 2 (.float .f32 e.x) rfl w) (part_f32 #[.int .i64 m.id, .int .i64 m.team, .float .f32 m.x, .float .f32 m.y, .float .f32 m.vx, .float .f32 m.vy, .int .i64 m.health] 2 (.float .f32 m.x) rfl w) (eq_f32 9998 e.x m.x w)]
  rw [eqF_cons 9999 #[.int .i64 e.id, .int .i64 e.team, .float .f32 e.x, .float .f32 e.y, .float .f32 e.vx, .float .f32 e.vy, .int .i64 e.health] #[.int .i64 m.id, .int .i64 m.team, .float .f32 m.x, .float .f32 m.y, .float .f32 m.vx, .float .f32 m.vy, .int .i64 m.health] { name := "Y", type := 55, offset := 3, embedded := false, tag := "", pkgPath := "", byteOffset := 20 } [{ name := "VX", type := 55, offset := 4, embedded := false, tag := "", pkgPath := "", byteOffset := 24 }, { name := "VY", type := 55, offset := 5, embedded := false, tag := "", pkgPath := "", byteOffset := 28 }, { name := "Health", type := 3, offset := 6, embedded := false, tag := "", pkgPath := "", byteOffset := 32 }] (.float .f32 e.y) (.float .f32 m.y) (feq e.y m.y) w (by simp) (part_f32 #[.int .i64 e.id, .int .i64 e.team, .float .f32 e.x, .float .f32 e.y, .float .f32 e.vx, .float .f32 e.vy, .int .i64 e.health] 3 (.float .f32 e.y) rfl w) (part_f32 #[.int .i64 m.id, .int .i64 m.team, .float .f32 m.x, .float .f32 m.y, .float .f32 m.vx, .float .f32 m.vy, .int .i64 m.health] 3 (.float .f32 m.y) rfl w) (eq_f32 9998 e.y m.y w)]
  rw [eqF_cons 9999 #[.int .i64 e.id, .int .i64 e.team, .float .f32 e.x, .float .f32 e.y, .float .f32 e.vx, .float .f32 e.vy, .int .i64 e.health] #[.int .i64 m.id, .int .i64 m.team, .float .f32 m.x, .float .f32 m.y, .float .f32 m.vx, .float .f32 m.vy, .int .i64 m.health] { name := "VX", type := 55, offset := 4, embedded := false, tag := "", pkgPath := "", byteOffset := 24 } [{ name := "VY", type := 55, offset := 5, embedded := false, tag := "", pkgPath := "", byteOffset := 28 }, { name := "Health", type := 3, offset := 6, embedded := false, tag := "", pkgPath := "", byteOffset := 32 }] (.float .f32 e.vx) (.float .f32 m.vx) (feq e.vx m.vx) w (by simp) (part_f32 #[.int .i64 e.id, .int .i64 e.team, .float .f32 e.x, .float .f32 e.y, .float .f32 e.vx, .float .f32 e.vy, .int .i64 e.health] 4 (.float .f32 e.vx) rfl w) (part_f32 #[.int .i64 m.id, .int .i64 m.team, .float .f32 m.x, .float .f32 m.y, .float .f32 m.vx, .float .f32 m.vy, .int .i64 m.health] 4 (.float .f32 m.vx) rfl w) (eq_f32 9998 e.vx m.vx w)]
  rw [eqF_cons 9999 #[.int .i64 e.id, .int .i64 e.team, .float .f32 e.x, .float .f32 e.y, .float .f32 e.vx, .float .f32 e.vy, .int .i64 e.health] #[.int .i64 m.id, .int .i64 m.team, .float .f32 m.x, .float .f32 m.y, .float .f32 m.vx, .float .f32 m.vy, .int .i64 m.health] { name := "VY", type := 55, offset := 5, embedded := false, tag := "", pkgPath := "", byteOffset := 28 } [{ name := "Health", type := 3, offset := 6, embedded := false, tag := "", pkgPath := "", byteOffset := 32 }] (.float .f32 e.vy) (.float .f32 m.vy) (feq e.vy m.vy) w (by simp) (part_f32 #[.int .i64 e.id, .int .i64 e.team, .float .f32 e.x, .float .f32 e.y, .float .f32 e.vx, .float .f32 e.vy, .int .i64 e.health] 5 (.float .f32 e.vy) rfl w) (part_f32 #[.int .i64 m.id, .int .i64 m.team, .float .f32 m.x, .float .f32 m.y, .float .f32 m.vx, .float .f32 m.vy, .int .i64 m.health] 5 (.float .f32 m.vy) rfl w) (eq_f32 9998 e.vy m.vy w)]
  rw [eqF_cons 9999 #[.int .i64 e.id, .int .i64 e.team, .float .f32 e.x, .float .f32 e.y, .float .f32 e.vx, .float .f32 e.vy, .int .i64 e.health] #[.int .i64 m.id, .int .i64 m.team, .float .f32 m.x, .float .f32 m.y, .float .f32 m.vx, .float .f32 m.vy, .int .i64 m.health] { name := "Health", type := 3, offset := 6, embedded := false, tag := "", pkgPath := "", byteOffset := 32 } [] (.int .i64 e.health) (.int .i64 m.health) (e.health == m.health) w (by simp) (part_int #[.int .i64 e.id, .int .i64 e.team, .float .f32 e.x, .float .f32 e.y, .float .f32 e.vx, .float .f32 e.vy, .int .i64 e.health] 6 (.int .i64 e.health) rfl w) (part_int #[.int .i64 m.id, .int .i64 m.team, .float .f32 m.x, .float .f32 m.y, .float .f32 m.vx, .float .f32 m.vy, .int .i64 m.health] 6 (.int .i64 m.health) rfl w) (eq_int 9998 e.health m.health w)]
  have hnil : (Op.eqFields 9999 #[.int .i64 e.id, .int .i64 e.team, .float .f32 e.x, .float .f32 e.y, .float .f32 e.vx, .float .f32 e.vy, .int .i64 e.health] #[.int .i64 m.id, .int .i64 m.team, .float .f32 m.x, .float .f32 m.y, .float .f32 m.vx, .float .f32 m.vy, .int .i64 m.health] []).run Tryz.prog w = .ok true w := by simp [Op.eqFields]
  rw [hnil]
  unfold eqM
  cases (e.id == m.id)
  · rfl
  cases (e.team == m.team)
  · rfl
  cases feq e.x m.x
  · rfl
  cases feq e.y m.y
  · rfl
  cases feq e.vx m.vx
  · rfl
  cases feq e.vy m.vy
  · rfl
  cases (e.health == m.health)
  · rfl
  · rfl
set_option maxRecDepth 100000 in
theorem neq_mob (e m : Mob) (w : World) : (binOp .neq 83 (.agg #[.int .i64 e.id, .int .i64 e.team, .float .f32 e.x, .float .f32 e.y, .float .f32 e.vx, .float .f32 e.vy, .int .i64 e.health]) (.agg #[.int .i64 m.id, .int .i64 m.team, .float .f32 m.x, .float .f32 m.y, .float .f32 m.vx, .float .f32 m.vy, .int .i64 m.health])).run Tryz.prog w = .ok (.bool (!eqM e m)) w := by
  have h := eql_mob e m w
  rw [run_eql_struct] at h
  rw [run_neq_struct]
  cases hr : Sem.run Tryz.prog (Op.equalIn 10000 83 (.agg #[.int .i64 e.id, .int .i64 e.team, .float .f32 e.x, .float .f32 e.y, .float .f32 e.vx, .float .f32 e.vy, .int .i64 e.health]) (.agg #[.int .i64 m.id, .int .i64 m.team, .float .f32 m.x, .float .f32 m.y, .float .f32 m.vx, .float .f32 m.vy, .int .i64 m.health])) w with
  | ok b w' =>
    rw [hr] at h
    simp only [Result.andThen_ok, Result.ok.injEq, Value.bool.injEq] at h ⊢
    rw [h.1, h.2]; exact ⟨rfl, rfl⟩
  | halt x w' => rw [hr] at h; simp [Result.andThen] at h

theorem feq_self {v : Nat} (h : okV v) : feq v v = true := by
  have h1 : FloatKind.f32.format.order v v = some .eq := by
    unfold okV at h
    show (Ieee.single.read v).order (Ieee.single.read v) = _
    cases hr : Ieee.single.read v with
    | number s m i => simp [Ieee.Datum.order]
    | infinity s => simp [Ieee.Datum.order]
    | nan s t => rw [hr] at h; cases h
  show Op.floatEq .f32 v v = true
  unfold Op.floatEq
  rw [h1]; rfl
theorem okV_of {v : Nat} (h : isNum v) : okV v := by obtain ⟨s, m, e, hr⟩ := h; unfold okV; rw [hr]; rfl
theorem fine_eq {k : Nat} {m : Mob} (h : FineM k m) : eqM m m = true := by
  have h1 := feq_self (okV_of h.px)
  have h2 := feq_self (okV_of h.py)
  have h3 := feq_self h.vx
  have h4 := feq_self h.vy
  simp [eqM, h1, h2, h3, h4]

end Go.Proofs.YtlfmfhmbkpnjbaaGreatDoor

namespace Go.Proofs.YtlfmfhmbkpnjbaaGreatDoor
open Ieee

/-- Rounding to the nearest whole number, ties to even: what it keeps to. -/
theorem cut_spec (neg : Bool) (n d : Nat) : 2 * n ≤ 2 ^ d * (2 * (Toward.even.cut neg n d) + 1) ∧ 2 ^ d * (2 * (Toward.even.cut neg n d)) ≤ 2 * n + 2 ^ d ∧
    (2 * n = 2 ^ d * (2 * (Toward.even.cut neg n d) + 1) → (Toward.even.cut neg n d) % 2 = 0) ∧ (2 ^ d * (2 * (Toward.even.cut neg n d)) = 2 * n + 2 ^ d → (Toward.even.cut neg n d) % 2 = 0) := by
  have hG : 0 < 2 ^ d := Nat.two_pow_pos d
  by_cases hd : d ≤ n.log2 + 2
  · have e1 : (1 <<< min d (n.log2 + 2)) = 2 ^ d := by rw [Nat.min_eq_left hd, Nat.one_shiftLeft]
    have e2 : Toward.even.cut neg n d = n / 2 ^ d + (decide (2 ^ d < 2 * (n % 2 ^ d)) || (2 ^ d == 2 * (n % 2 ^ d) && (n / 2 ^ d) % 2 == 1)).toNat := by
      unfold Toward.cut
      simp only [e1]
    have hn := Nat.div_add_mod n (2 ^ d)
    have hr := Nat.mod_lt n hG
    rw [e2]
    generalize 2 ^ d = G at *
    generalize n / G = low at *
    generalize n % G = rest at *
    subst hn
    by_cases h1 : G < 2 * rest
    · simp only [h1, decide_true, Bool.true_or, Bool.toNat_true]
      have q : G * (2 * (low + 1)) = 2 * (G * low) + 2 * G := by rw [Nat.mul_left_comm, Nat.mul_add, Nat.mul_one, Nat.mul_add]
      have q' : G * (2 * (low + 1) + 1) = 2 * (G * low) + 3 * G := by rw [Nat.mul_add, q]; omega
      rw [q, q']
      refine ⟨by omega, by omega, fun h => by omega, fun h => by omega⟩
    · by_cases h2 : G = 2 * rest
      · by_cases h3 : low % 2 = 1
        · have e : (decide (G < 2 * rest) || (G == 2 * rest && low % 2 == 1)) = true := by simp [h2.symm, h3]
          rw [e]
          simp only [Bool.toNat_true]
          have q : G * (2 * (low + 1)) = 2 * (G * low) + 2 * G := by rw [Nat.mul_left_comm, Nat.mul_add, Nat.mul_one, Nat.mul_add]
          have q' : G * (2 * (low + 1) + 1) = 2 * (G * low) + 3 * G := by rw [Nat.mul_add, q]; omega
          rw [q, q']
          refine ⟨by omega, by omega, fun h => by omega, fun h => by omega⟩
        · have e : (decide (G < 2 * rest) || (G == 2 * rest && low % 2 == 1)) = false := by simp [h1, h3]
          rw [e]
          simp only [Bool.toNat_false, Nat.add_zero]
          have q : G * (2 * low) = 2 * (G * low) := by rw [← Nat.mul_assoc, Nat.mul_comm G 2, Nat.mul_assoc]
          have q' : G * (2 * low + 1) = 2 * (G * low) + G := by rw [Nat.mul_add, q]; omega
          rw [q, q']
          refine ⟨by omega, by omega, fun h => by omega, fun h => by omega⟩
      · have e : (decide (G < 2 * rest) || (G == 2 * rest && low % 2 == 1)) = false := by simp [h1, h2]
        rw [e]
        simp only [Bool.toNat_false, Nat.add_zero]
        have q : G * (2 * low) = 2 * (G * low) := by rw [← Nat.mul_assoc, Nat.mul_comm G 2, Nat.mul_assoc]
        have q' : G * (2 * low + 1) = 2 * (G * low) + G := by rw [Nat.mul_add, q]; omega
        rw [q, q']
        refine ⟨by omega, by omega, fun h => by omega, fun h => by omega⟩
  · have e1 : (1 <<< min d (n.log2 + 2)) = 2 ^ (n.log2 + 2) := by rw [Nat.min_eq_right (by omega), Nat.one_shiftLeft]
    have hlt : n < 2 ^ (n.log2 + 1) := Nat.lt_log2_self
    have hp : 2 ^ (n.log2 + 2) = 2 * 2 ^ (n.log2 + 1) := by rw [Nat.pow_succ, Nat.mul_comm]
    have hle : 2 ^ (n.log2 + 2) ≤ 2 ^ d := Nat.pow_le_pow_right (by decide) (by omega)
    have e2 : Toward.even.cut neg n d = 0 := by
      unfold Toward.cut
      simp only [e1]
      rw [Nat.div_eq_of_lt (by omega), Nat.mod_eq_of_lt (by omega)]
      have h1 : ¬ 2 ^ (n.log2 + 2) < 2 * n := by omega
      simp [h1]
    rw [e2]
    refine ⟨by omega, by omega, fun _ => rfl, fun _ => rfl⟩

theorem cut_mono (s t : Bool) (n d n' d' : Nat) (h : n * 2 ^ d' ≤ n' * 2 ^ d) : Toward.even.cut s n d ≤ Toward.even.cut t n' d' := by
  obtain ⟨_, p2, _, p4⟩ := cut_spec s n d
  obtain ⟨q1, _, q3, _⟩ := cut_spec t n' d'
  generalize Toward.even.cut s n d = k at *
  generalize Toward.even.cut t n' d' = k' at *
  have hA : 0 < 2 ^ d := Nat.two_pow_pos d
  have hB : 0 < 2 ^ d' := Nat.two_pow_pos d'
  generalize 2 ^ d = A at *
  generalize 2 ^ d' = B at *
  apply Nat.le_of_not_lt
  intro hk
  have m1 := Nat.mul_le_mul_left B p2
  have m2 := Nat.mul_le_mul_left A q1
  have x1 : B * (A * (2 * k)) = (A * B) * (2 * k) := by rw [← Nat.mul_assoc, Nat.mul_comm B A]
  have x2 : B * (2 * n + A) = 2 * (n * B) + A * B := by rw [Nat.mul_add, Nat.mul_comm B A, ← Nat.mul_assoc, Nat.mul_comm B 2, Nat.mul_assoc, Nat.mul_comm B n]
  have x3 : A * (2 * n') = 2 * (n' * A) := by rw [← Nat.mul_assoc, Nat.mul_comm A 2, Nat.mul_assoc, Nat.mul_comm A n']
  have x4 : A * (B * (2 * k' + 1)) = (A * B) * (2 * k' + 1) := by rw [Nat.mul_assoc]
  rw [x1, x2] at m1
  rw [x3, x4] at m2
  have hAB : 0 < A * B := Nat.mul_pos hA hB
  have x5 : (A * B) * (2 * k' + 1) + A * B = (A * B) * (2 * (k' + 1)) := by rw [show 2 * (k' + 1) = (2 * k' + 1) + 1 from by omega, Nat.mul_add (A * B) (2 * k' + 1) 1, Nat.mul_one]
  have hle : (A * B) * (2 * k) ≤ (A * B) * (2 * (k' + 1)) := by rw [← x5]; omega
  have hkk : k ≤ k' + 1 := by
    have := Nat.le_of_mul_le_mul_left hle hAB
    omega
  obtain rfl : k = k' + 1 := by omega
  have t1 : A * (2 * (k' + 1)) = 2 * n + A := by
    apply Nat.eq_of_mul_eq_mul_left hB
    rw [x1, x2]; omega
  have t2 : 2 * n' = B * (2 * k' + 1) := by
    apply Nat.eq_of_mul_eq_mul_left hA
    rw [x3, x4]; omega
  have e1 := p4 t1
  have e2 := q3 t2
  omega

/-- m * 2 ^ i is not above n * 2 ^ j. -/
def LeV (m : Nat) (i : Int) (n : Nat) (j : Int) : Prop := ∀ b : Int, b ≤ i → b ≤ j → m * 2 ^ (i - b).toNat ≤ n * 2 ^ (j - b).toNat

theorem leV_of {m : Nat} {i : Int} {n : Nat} {j : Int} (c : Int) (h1 : c ≤ i) (h2 : c ≤ j) (h : m * 2 ^ (i - c).toNat ≤ n * 2 ^ (j - c).toNat) : LeV m i n j := by
  intro b hb1 hb2
  by_cases hbc : b ≤ c
  · rw [show (i - b).toNat = (i - c).toNat + (c - b).toNat from by omega, show (j - b).toNat = (j - c).toNat + (c - b).toNat from by omega, Nat.pow_add, Nat.pow_add, ← Nat.mul_assoc, ← Nat.mul_assoc]
    exact Nat.mul_le_mul_right _ h
  · rw [show (i - c).toNat = (i - b).toNat + (b - c).toNat from by omega, show (j - c).toNat = (j - b).toNat + (b - c).toNat from by omega, Nat.pow_add, Nat.pow_add, ← Nat.mul_assoc, ← Nat.mul_assoc] at h
    exact Nat.le_of_mul_le_mul_right h (Nat.two_pow_pos _)

theorem LeV.total (m : Nat) (i : Int) (n : Nat) (j : Int) : LeV m i n j ∨ LeV n j m i := by
  rcases Nat.le_total (m * 2 ^ (i - min i j).toNat) (n * 2 ^ (j - min i j).toNat) with h | h
  · exact Or.inl (leV_of (min i j) (by omega) (by omega) h)
  · exact Or.inr (leV_of (min i j) (by omega) (by omega) h)

/-- The last place that is kept; the rung. -/
def lastOf (m : Nat) (i : Int) : Int := max (i + m.log2 - 23) (-149)
def keptOf (m : Nat) (i : Int) : Nat := Toward.even.cut false (m <<< (i - lastOf m i).toNat) (lastOf m i - i).toNat
def rungOf (m : Nat) (i : Int) : Nat := if m = 0 then 0 else min ((lastOf m i + 149).toNat * 8388608 + keptOf m i) 2139095040

theorem least_single : Ieee.single.leastPlace = -149 := by decide

theorem nearest_rung (neg : Bool) (m : Nat) (i : Int) : Ieee.single.nearest neg m i = Ieee.single.word neg (rungOf m i) := by
  unfold Format.nearest rungOf
  split
  · rfl
  · rw [inf_single, bin_single, least_single]
    rfl

theorem rungOf_le (m : Nat) (i : Int) : rungOf m i ≤ 2139095040 := by
  unfold rungOf; split <;> omega

theorem cut_shift_le (m : Nat) (i l : Int) (n : Nat) (j l' : Int) (hl : l = l') (h : LeV m i n j) : Toward.even.cut false (m <<< (i - l).toNat) (l - i).toNat ≤ Toward.even.cut false (n <<< (j - l').toNat) (l' - j).toNat := by
  subst hl
  apply cut_mono
  rw [Nat.shiftLeft_eq, Nat.shiftLeft_eq, Nat.mul_assoc, Nat.mul_assoc, ← Nat.pow_add, ← Nat.pow_add]
  have := h (min (min i j) l) (by omega) (by omega)
  have h2 := Nat.mul_le_mul_right (2 ^ (((i - l).toNat + (l - j).toNat) - (i - min (min i j) l).toNat)) this
  by_cases hc : (i - min (min i j) l).toNat ≤ (i - l).toNat + (l - j).toNat
  · rw [Nat.mul_assoc, Nat.mul_assoc, ← Nat.pow_add, ← Nat.pow_add] at h2
    rw [show (i - l).toNat + (l - j).toNat = (i - min (min i j) l).toNat + ((i - l).toNat + (l - j).toNat - (i - min (min i j) l).toNat) from by omega]
    rw [show (j - l).toNat + (l - i).toNat = (j - min (min i j) l).toNat + ((i - l).toNat + (l - j).toNat - (i - min (min i j) l).toNat) from by omega]
    exact h2
  · rw [show (i - min (min i j) l).toNat = ((i - l).toNat + (l - j).toNat) + ((i - min (min i j) l).toNat - ((i - l).toNat + (l - j).toNat)) from by omega,
      show (j - min (min i j) l).toNat = ((j - l).toNat + (l - i).toNat) + ((i - min (min i j) l).toNat - ((i - l).toNat + (l - j).toNat)) from by omega,
      Nat.pow_add, Nat.pow_add _ ((j - l).toNat + (l - i).toNat), ← Nat.mul_assoc, ← Nat.mul_assoc] at this
    exact Nat.le_of_mul_le_mul_right this (Nat.two_pow_pos _)

theorem cut_zero (n : Nat) : Toward.even.cut false n 0 = n := by
  obtain ⟨h1, h2, _, _⟩ := cut_spec false n 0
  simp only [Nat.pow_zero, Nat.one_mul] at h1 h2
  omega

theorem kept_le (m : Nat) (i : Int) : keptOf m i ≤ 16777216 := by
  have hlt : m < 2 ^ (m.log2 + 1) := Nat.lt_log2_self
  unfold keptOf
  have : Toward.even.cut false (m <<< (i - lastOf m i).toNat) (lastOf m i - i).toNat ≤ Toward.even.cut false 16777216 0 := by
    apply cut_mono
    rw [Nat.shiftLeft_eq, Nat.pow_zero, Nat.mul_one]
    have hl : i + m.log2 - 23 ≤ lastOf m i := by unfold lastOf; omega
    generalize lastOf m i = l at *
    have e : (16777216 : Nat) = 2 ^ 24 := by decide
    rw [e, ← Nat.pow_add]
    calc m * 2 ^ (i - l).toNat ≤ 2 ^ (m.log2 + 1) * 2 ^ (i - l).toNat := Nat.mul_le_mul_right _ (Nat.le_of_lt hlt)
      _ = 2 ^ (m.log2 + 1 + (i - l).toNat) := (Nat.pow_add 2 _ _).symm
      _ ≤ 2 ^ (24 + (l - i).toNat) := Nat.pow_le_pow_right (by decide) (by omega)
  rwa [cut_zero] at this

theorem pow_swap (a b c d : Nat) (m : Nat) (hm : 2 ^ a ≤ m) (h : b + c ≤ a + d) : 2 ^ b * 2 ^ c ≤ m * 2 ^ d :=
  Nat.le_trans (by rw [← Nat.pow_add, ← Nat.pow_add]; exact Nat.pow_le_pow_right (by decide) h) (Nat.mul_le_mul_right _ hm)

theorem kept_ge (m : Nat) (i : Int) (hm : m ≠ 0) (hl : lastOf m i ≠ -149) : 2 ^ 23 ≤ keptOf m i := by
  have hge : 2 ^ m.log2 ≤ m := Nat.log2_self_le hm
  have hle : lastOf m i = i + m.log2 - 23 := by unfold lastOf at *; omega
  have : Toward.even.cut false (2 ^ 23) 0 ≤ Toward.even.cut false (m <<< (i - lastOf m i).toNat) (lastOf m i - i).toNat := by
    apply cut_mono
    rw [Nat.shiftLeft_eq, Nat.pow_zero, Nat.mul_one]
    exact pow_swap m.log2 23 _ _ m hge (by omega)
  rw [cut_zero] at this
  exact this

end Go.Proofs.YtlfmfhmbkpnjbaaGreatDoor

namespace Go.Proofs.YtlfmfhmbkpnjbaaGreatDoor
open Ieee

theorem leV_pos {m : Nat} {i : Int} {n : Nat} {j : Int} (h : LeV m i n j) (hm : m ≠ 0) : n ≠ 0 := by
  intro e
  have h1 := h (min i j) (by omega) (by omega)
  rw [e, Nat.zero_mul] at h1
  have h2 := Nat.mul_pos (Nat.pos_of_ne_zero hm) (Nat.two_pow_pos (i - min i j).toNat)
  exact Nat.lt_irrefl _ (Nat.lt_of_lt_of_le h2 h1)

theorem leV_log {m : Nat} {i : Int} {n : Nat} {j : Int} (h : LeV m i n j) (hm : m ≠ 0) : i + m.log2 ≤ j + n.log2 := by
  apply Int.le_of_not_gt
  intro hgt
  have h0 := h (min i j) (by omega) (by omega)
  have h2 : n < 2 ^ (n.log2 + 1) := Nat.lt_log2_self
  have h3 : n * 2 ^ (j - min i j).toNat < 2 ^ (n.log2 + 1) * 2 ^ (j - min i j).toNat := Nat.mul_lt_mul_of_pos_right h2 (Nat.two_pow_pos _)
  have h4 := pow_swap m.log2 (n.log2 + 1) (j - min i j).toNat (i - min i j).toNat m (Nat.log2_self_le hm) (by omega)
  exact Nat.lt_irrefl _ (Nat.lt_of_lt_of_le (Nat.lt_of_lt_of_le h3 h4) h0)

theorem last_lo (m : Nat) (i : Int) : -149 ≤ lastOf m i := by unfold lastOf; omega

theorem step_up (a b k k' : Nat) (h : a + 1 ≤ b) (h1 : k ≤ 2 * 8388608) (h2 : 8388608 ≤ k') : a * 8388608 + k ≤ b * 8388608 + k' := by
  omega

theorem rung_key {m : Nat} {i : Int} {n : Nat} {j : Int} (h : LeV m i n j) (hm : m ≠ 0) : (lastOf m i + 149).toNat * 8388608 + keptOf m i ≤ (lastOf n j + 149).toNat * 8388608 + keptOf n j := by
  have hL := leV_log h hm
  have hn := leV_pos h hm
  have hlast : lastOf m i ≤ lastOf n j := by unfold lastOf; omega
  have hlo := last_lo m i
  by_cases e : lastOf m i = lastOf n j
  · have h1 : keptOf m i ≤ keptOf n j := cut_shift_le m i (lastOf m i) n j (lastOf n j) e h
    rw [e]
    exact Nat.add_le_add_left h1 _
  · have h1 := kept_le m i
    have h2 := kept_ge n j hn (by omega)
    exact step_up _ _ _ _ (by omega) h1 h2

/-- To round keeps the order. -/
theorem rung_mono (m : Nat) (i : Int) (n : Nat) (j : Int) (h : LeV m i n j) : rungOf m i ≤ rungOf n j := by
  unfold rungOf
  by_cases hm : m = 0
  · rw [if_pos hm]; exact Nat.zero_le _
  · have hk := rung_key h hm
    rw [if_neg hm, if_neg (leV_pos h hm)]
    exact Nat.le_min.2 ⟨Nat.le_trans (Nat.min_le_left ..) hk, Nat.min_le_right ..⟩
end Go.Proofs.YtlfmfhmbkpnjbaaGreatDoor

namespace Go.Proofs.YtlfmfhmbkpnjbaaGreatDoor
open Ieee

/-- The rung of a word. -/
def rung (v : Nat) : Nat := v % 2147483648
def neg (v : Nat) : Bool := v / 2147483648 % 2 == 1

theorem rung_word (s : Bool) (r : Nat) (h : r ≤ 2139095040) : rung (Ieee.single.word s r) = r := by
  unfold rung Format.word
  rw [sign_single]
  split <;> omega
theorem neg_word (s : Bool) (r : Nat) (h : r ≤ 2139095040) : neg (Ieee.single.word s r) = s := by
  unfold neg Format.word
  rw [sign_single]
  cases s
  · simp; omega
  · simp; omega

theorem log_small (r : Nat) (h : r ≠ 0) (h2 : r < 8388608) : r.log2 < 23 := (Nat.log2_lt h).2 (by simpa using h2)
theorem log_norm (r : Nat) (h1 : 8388608 ≤ r) (h2 : r < 16777216) : r.log2 = 23 := by
  have a : r.log2 < 24 := (Nat.log2_lt (by omega)).2 (by simpa using h2)
  have b : 23 ≤ r.log2 := (Nat.le_log2 (by omega)).2 (by simpa using h1)
  omega

/-- What a word stands for, and back. -/
theorem read_num (v : Nat) (h : rung v < 2139095040) : ∃ m e, Ieee.single.read v = .number (neg v) m e ∧ rungOf m e = rung v ∧ -149 ≤ e ∧ e ≤ 104 ∧ m ≤ 16777215 := by
  unfold Format.read
  rw [sign_single, bin_single, inf_single, least_single]
  simp only
  by_cases h1 : v % 2147483648 < 8388608
  · rw [if_pos h1]
    refine ⟨rung v, -149, rfl, ?_, by omega, by omega, by unfold rung; omega⟩
    have h1' : rung v < 8388608 := h1
    generalize rung v = r at *
    unfold rungOf
    by_cases h0 : r = 0
    · rw [if_pos h0, h0]
    · have hl := log_small r h0 h1'
      have e1 : lastOf r (-149) = -149 := by unfold lastOf; omega
      have e2 : keptOf r (-149) = r := by
        unfold keptOf
        rw [e1]
        simp only [Int.sub_self, Int.toNat_zero, Nat.shiftLeft_zero]
        exact cut_zero r
      rw [if_neg h0, e1, e2]
      simp only [Int.add_left_neg, Int.toNat_zero, Nat.zero_mul, Nat.zero_add]
      omega
  · have h' : v % 2147483648 < 2139095040 := h
    rw [if_neg h1, if_pos h']
    have hr : rung v = v % 2147483648 := rfl
    rw [← hr] at h1 ⊢
    generalize rung v = r at *
    refine ⟨8388608 + r % 8388608, -149 + ((r / 8388608 - 1 : Nat) : Int), rfl, ?_, by omega, by omega, by omega⟩
    have hq := Nat.div_add_mod r 8388608
    have hm := Nat.mod_lt r (show 0 < 8388608 by decide)
    have hq1 : 1 ≤ r / 8388608 := (Nat.le_div_iff_mul_le (by decide)).2 (by omega)
    generalize r / 8388608 = q at *
    generalize r % 8388608 = t at *
    have hl := log_norm (8388608 + t) (by omega) (by omega)
    unfold rungOf
    have e1 : lastOf (8388608 + t) (-149 + ((q - 1 : Nat) : Int)) = -149 + ((q - 1 : Nat) : Int) := by unfold lastOf; rw [hl]; omega
    have e2 : keptOf (8388608 + t) (-149 + ((q - 1 : Nat) : Int)) = 8388608 + t := by
      unfold keptOf
      rw [e1]
      simp only [Int.sub_self, Int.toNat_zero, Nat.shiftLeft_zero]
      exact cut_zero _
    rw [if_neg (by omega), e1, e2]
    omega

theorem num_iff (v : Nat) : isNum v ↔ rung v < 2139095040 := by
  constructor
  · rintro ⟨s, m, e, h⟩
    apply Nat.lt_of_not_le
    intro hr
    unfold Format.read at h
    rw [sign_single, bin_single, inf_single] at h
    simp only at h
    have hr' : 2139095040 ≤ v % 2147483648 := hr
    rw [if_neg (by omega), if_neg (by omega)] at h
    split at h <;> cases h
  · intro h
    obtain ⟨m, e, h1, _⟩ := read_num v h
    exact ⟨_, _, _, h1⟩

theorem num_word (s : Bool) (m : Nat) (i : Int) (h : rungOf m i < 2139095040) : isNum (Ieee.single.nearest s m i) := by
  rw [num_iff, nearest_rung, rung_word s _ (rungOf_le m i)]; exact h

/-- A product with a factor that is not above one. -/
theorem mul_small {v c : Nat} (hv : isNum v) {sc : Bool} {mc : Nat} {ec : Int} (hc : Ieee.single.read c = .number sc mc ec) (h1 : LeV mc ec 1 0) : rung (fmul v c) ≤ rung v ∧ isNum (fmul v c) ∧ neg (fmul v c) = (neg v ^^ sc) := by
  have hlt := (num_iff v).1 hv
  obtain ⟨m, e, hr, hrg, _⟩ := read_num v hlt
  have hf : fmul v c = Ieee.single.nearest (neg v ^^ sc) (m * mc) (e + ec) := by
    unfold fmul Format.mul
    rw [hr, hc]; rfl
  have hle : LeV (m * mc) (e + ec) m e := by
    refine leV_of (e + min ec 0) (by omega) (by omega) ?_
    have := h1 (min ec 0) (by omega) (by omega)
    rw [show (e + ec - (e + min ec 0)).toNat = (ec - min ec 0).toNat from by omega, show (e - (e + min ec 0)).toNat = (0 - min ec 0).toNat from by omega, Nat.mul_assoc]
    refine Nat.mul_le_mul_left m ?_
    rwa [Nat.one_mul] at this
  have hm := rung_mono _ _ _ _ hle
  rw [hrg] at hm
  have e1 : rung (fmul v c) = rungOf (m * mc) (e + ec) := by rw [hf, nearest_rung, rung_word _ _ (rungOf_le _ _)]
  refine ⟨by rw [e1]; exact hm, by rw [num_iff, e1]; omega, ?_⟩
  rw [hf, nearest_rung, neg_word _ _ (rungOf_le _ _)]

theorem slow_le : LeV 12582912 (-24) 1 0 := leV_of (-24) (by decide) (by decide) (by decide)
theorem half_le : LeV 8388608 (-24) 1 0 := leV_of (-24) (by decide) (by decide) (by decide)

theorem mul_slow {v : Nat} (hv : isNum v) : rung (fmul v 1061158912) ≤ rung v ∧ isNum (fmul v 1061158912) ∧ neg (fmul v 1061158912) = (neg v ^^ false) :=
  mul_small hv (sc := false) (mc := 12582912) (ec := -24) (by decide) slow_le
theorem mul_half {v : Nat} (hv : isNum v) : rung (fmul v 3204448256) ≤ rung v ∧ isNum (fmul v 3204448256) ∧ neg (fmul v 3204448256) = (neg v ^^ true) :=
  mul_small hv (sc := true) (mc := 8388608) (ec := -24) (by decide) half_le

theorem natAbs_signed (s : Bool) (m k : Nat) : (signed s m k).natAbs = m * 2 ^ k := by
  unfold signed
  rw [Nat.shiftLeft_eq]
  split
  · rw [Int.natAbs_neg, Int.natAbs_natCast]
  · rw [Int.natAbs_natCast]

/-- Numbers are not above the greatest. -/
theorem num_fin {v : Nat} (h : isNum v) : finB v = true := by
  obtain ⟨m, e, hr, _, h1, h2, h3⟩ := read_num v ((num_iff v).1 h)
  have key : 0 < 2 ^ (104 - e).toNat := Nat.two_pow_pos _
  have hm : m ≤ 16777215 * 2 ^ (104 - e).toNat := Nat.le_trans h3 (Nat.le_mul_of_pos_right _ key)
  have o1 : ford v 2139095039 = some (compare (signed (neg v) m (e - min e 104).toNat) (signed false 16777215 (104 - min e 104).toNat)) := by
    show (Ieee.single.read v).order (Ieee.single.read 2139095039) = _
    rw [hr, show Ieee.single.read 2139095039 = .number false 16777215 104 from by decide]; rfl
  have o2 : ford v (Op.negFloat .f32 2139095039) = some (compare (signed (neg v) m (e - min e 104).toNat) (signed true 16777215 (104 - min e 104).toNat)) := by
    show (Ieee.single.read v).order (Ieee.single.read _) = _
    rw [hr, show Ieee.single.read (Op.negFloat .f32 2139095039) = .number true 16777215 104 from by decide]; rfl
  have a1 := natAbs_signed (neg v) m (e - min e 104).toNat
  have a2 : signed false 16777215 (104 - min e 104).toNat = ((16777215 * 2 ^ (104 - e).toNat : Nat) : Int) := by unfold signed; rw [Nat.shiftLeft_eq, show min e 104 = e from by omega]; simp
  have a3 : signed true 16777215 (104 - min e 104).toNat = -((16777215 * 2 ^ (104 - e).toNat : Nat) : Int) := by unfold signed; rw [Nat.shiftLeft_eq, show min e 104 = e from by omega]; simp
  rw [show (e - min e 104).toNat = 0 from by omega, Nat.pow_zero, Nat.mul_one] at a1
  rw [show (e - min e 104).toNat = 0 from by omega, a2] at o1
  rw [show (e - min e 104).toNat = 0 from by omega, a3] at o2
  generalize signed (neg v) m 0 = x at *
  generalize 16777215 * 2 ^ (104 - e).toNat = y at *
  have g1 : fle v 2139095039 = true := by
    unfold fle
    rw [o1]
    have : x ≤ (y : Int) := by omega
    rcases Int.lt_or_eq_of_le this with q | q
    · simp [Int.compare_eq_lt.2 q]
    · simp [q]
  have g2 : fge v (Op.negFloat .f32 2139095039) = true := by
    unfold fge
    rw [o2]
    have : -(y : Int) ≤ x := by omega
    rcases Int.lt_or_eq_of_le this with q | q
    · simp [Int.compare_eq_gt.2 q]
    · simp [← q]
  unfold finB fitsB
  rw [g1, g2]; rfl

theorem leV_of_fits {p : Nat} (h : fitsB p 1120403456 = true) : ∃ s n j, Ieee.single.read p = .number s n j ∧ LeV n j 13107200 (-17) := by
  obtain ⟨n, j, hr, _⟩ := read_num p ((num_iff p).1 (push_num h))
  refine ⟨neg p, n, j, hr, leV_of (min j (-17)) (by omega) (by omega) ?_⟩
  have o1 : ford p 1120403456 = some (compare (signed (neg p) n (j - min j (-17)).toNat) (signed false 13107200 (-17 - min j (-17)).toNat)) := by
    show (Ieee.single.read p).order (Ieee.single.read 1120403456) = _
    rw [hr, show Ieee.single.read 1120403456 = .number false 13107200 (-17) from by decide]; rfl
  have o2 : ford p (Op.negFloat .f32 1120403456) = some (compare (signed (neg p) n (j - min j (-17)).toNat) (signed true 13107200 (-17 - min j (-17)).toNat)) := by
    show (Ieee.single.read p).order (Ieee.single.read _) = _
    rw [hr, show Ieee.single.read (Op.negFloat .f32 1120403456) = .number true 13107200 (-17) from by decide]; rfl
  have a1 := natAbs_signed (neg p) n (j - min j (-17)).toNat
  have a2 : signed false 13107200 (-17 - min j (-17)).toNat = ((13107200 * 2 ^ (-17 - min j (-17)).toNat : Nat) : Int) := by unfold signed; rw [Nat.shiftLeft_eq]; simp
  have a3 : signed true 13107200 (-17 - min j (-17)).toNat = -((13107200 * 2 ^ (-17 - min j (-17)).toNat : Nat) : Int) := by unfold signed; rw [Nat.shiftLeft_eq]; simp
  rw [a2] at o1
  rw [a3] at o2
  simp only [fitsB, fge, fle, o1, o2, Bool.and_eq_true, Bool.or_eq_true, beq_iff_eq, Option.some.injEq] at h
  rw [← a1]
  generalize signed (neg p) n (j - min j (-17)).toNat = x at *
  generalize 13107200 * 2 ^ (-17 - min j (-17)).toNat = y at *
  obtain ⟨h1, h2⟩ := h
  have g1 : -(y : Int) ≤ x := by
    rcases h1 with q | q
    · have := Int.compare_eq_gt.1 q; omega
    · have := Int.compare_eq_eq.1 q; omega
  have g2 : x ≤ (y : Int) := by
    rcases h2 with q | q
    · have := Int.compare_eq_lt.1 q; omega
    · have := Int.compare_eq_eq.1 q; omega
  omega

theorem rung_top : rungOf 268435441 100 = 2139095039 := by kernel_rfl

theorem add_fin {v p : Nat} (hv : isNum v) (hp : fitsB p 1120403456 = true) : isNum (fadd v p) := by
  obtain ⟨m, e, hr, _, h1, h2, h3⟩ := read_num v ((num_iff v).1 hv)
  obtain ⟨s, n, j, hr2, hle⟩ := leV_of_fits hp
  obtain ⟨tot, hs, hab⟩ : ∃ tot : Int, (∃ sg, fadd v p = Ieee.single.nearest sg tot.natAbs (min e j)) ∧ tot.natAbs ≤ m * 2 ^ (e - min e j).toNat + n * 2 ^ (j - min e j).toNat := by
    have hfa : fadd v p = Ieee.single.nearest (if signed (neg v) m (e - min e j).toNat + signed s n (j - min e j).toNat = 0 then neg v && s else decide (signed (neg v) m (e - min e j).toNat + signed s n (j - min e j).toNat < 0)) (signed (neg v) m (e - min e j).toNat + signed s n (j - min e j).toNat).natAbs (min e j) := by
      unfold fadd Format.add
      rw [hr, hr2]; rfl
    refine ⟨signed (neg v) m (e - min e j).toNat + signed s n (j - min e j).toNat, ⟨_, hfa⟩, ?_⟩
    rw [← natAbs_signed (neg v) m, ← natAbs_signed s n]; exact Int.natAbs_add_le _ _
  obtain ⟨sg, hf⟩ := hs
  rw [hf]
  apply num_word
  have hb : LeV tot.natAbs (min e j) 268435441 100 := by
    refine leV_of (min (min e j) (-17)) (by omega) (by omega) ?_
    generalize hc : min (min e j) (-17) = c at *
    have k1 := Nat.mul_le_mul_right (2 ^ (min e j - c).toNat) hab
    rw [Nat.add_mul, Nat.mul_assoc, Nat.mul_assoc, ← Nat.pow_add, ← Nat.pow_add, show (e - min e j).toNat + (min e j - c).toNat = (e - c).toNat from by omega, show (j - min e j).toNat + (min e j - c).toNat = (j - c).toNat from by omega] at k1
    have k2 : m * 2 ^ (e - c).toNat ≤ 268435440 * 2 ^ (100 - c).toNat := by
      refine Nat.le_trans (Nat.mul_le_mul h3 (Nat.pow_le_pow_right (by decide) (show (e - c).toNat ≤ 4 + (100 - c).toNat by omega))) ?_
      rw [Nat.pow_add, ← Nat.mul_assoc]
      exact Nat.le_refl _
    have k3 : n * 2 ^ (j - c).toNat ≤ 1 * 2 ^ (100 - c).toNat := by
      refine Nat.le_trans (hle c (by omega) (by omega)) ?_
      refine Nat.le_trans (Nat.mul_le_mul_right _ (show 13107200 ≤ 2 ^ 24 by decide)) ?_
      rw [← Nat.pow_add, Nat.one_mul]
      exact Nat.pow_le_pow_right (by decide) (by omega)
    have k4 : 268435440 * 2 ^ (100 - c).toNat + 1 * 2 ^ (100 - c).toNat = 268435441 * 2 ^ (100 - c).toNat := by rw [← Nat.add_mul]
    rw [← k4]
    exact Nat.le_trans k1 (Nat.add_le_add k2 k3)
  have := rung_mono _ _ _ _ hb
  rw [rung_top] at this
  omega

/-- The place behind a move fits; the way is a number. -/
theorem moved_fits {x v : Nat} (hx : isNum x) (hv : isNum v) : fitsB (movedF x v).1 1148846080 = true ∧ isNum (movedF x v).2 := by
  have o := (fadd_ok hx hv.ok).2
  unfold movedF
  split
  · exact ⟨show fitsB 3296329728 1148846080 = true by decide, (mul_slow (mul_half hv).2.1).2.1⟩
  · rename_i h1
    split
    · exact ⟨show fitsB 1148846080 1148846080 = true by decide, (mul_slow (mul_half hv).2.1).2.1⟩
    · rename_i h2
      refine ⟨?_, (mul_slow hv).2.1⟩
      have c1 : ∀ c s m e, Ieee.single.read c = .number s m e → ford (fadd x v) c ≠ none := by
        intro c s m e hc hn
        have : (Ieee.single.read (fadd x v)).order (Ieee.single.read c) = none := hn
        rw [hc] at this
        unfold okV at o
        cases hq : Ieee.single.read (fadd x v) with
        | number t n j => rw [hq] at this; cases this
        | infinity t => rw [hq] at this; cases this
        | nan t f => rw [hq] at o; cases o
      have d1 := c1 3296329728 true 16384000 (-14) (by decide)
      have d2 := c1 1148846080 false 16384000 (-14) (by decide)
      have e1 : Op.negFloat .f32 1148846080 = 3296329728 := by decide
      unfold fitsB fge fle
      rw [e1]
      show ((ford (fadd x v) 3296329728 == some .gt || ford (fadd x v) 3296329728 == some .eq) && (ford (fadd x v) 1148846080 == some .lt || ford (fadd x v) 1148846080 == some .eq)) = true
      generalize ford (fadd x v) 3296329728 = a at *
      generalize ford (fadd x v) 1148846080 = b at *
      cases a with
      | none => exact absurd rfl d1
      | some a =>
        cases b with
        | none => exact absurd rfl d2
        | some b => cases a <;> cases b <;> simp_all
end Go.Proofs.YtlfmfhmbkpnjbaaGreatDoor
