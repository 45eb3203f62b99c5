import Derived.Test.YtlfmfhmbkpnjbaaStepok
import Derived.Laws.StructEq
namespace Go.Proofs.Ytlfmfhmbkpnjbaa
open Go.RowKit

def feq (x y : Nat) : Bool := Op.floatEq .f32 x y
/-- The program's own equality of two entities. -/
def eqM (e m : Mob) : Bool := if e.id == m.id then (if e.team == m.team then (if feq e.x m.x then (if feq e.y m.y then (if feq e.vx m.vx then (if feq e.vy m.vy then e.health == m.health else false) else false) else false) else false) else false) else false

theorem part_int (xs : Array Value) (o : Nat) (v : Value) (h : xs[o]? = some v) (w : World) : (part 3 xs o).run Try.prog w = .ok v w := by
  simp [part, isAgg, run_underlying Try.underlying3, h]
theorem part_f32 (xs : Array Value) (o : Nat) (v : Value) (h : xs[o]? = some v) (w : World) : (part 54 xs o).run Try.prog w = .ok v w := by
  simp [part, isAgg, run_underlying Try.underlying54, h]
theorem eq_f32 (d : Nat) (x y : Nat) (w : World) : (Op.equalIn (d + 1) 54 (.float .f32 x) (.float .f32 y)).run Try.prog w = .ok (feq x y) w := by
  simp [Op.equalIn, run_underlying Try.underlying54, feq]
theorem eq_int (d : Nat) (x y : Int) (w : World) : (Op.equalIn (d + 1) 3 (.int .i64 x) (.int .i64 y)).run Try.prog w = .ok (x == y) w := run_equalIn_int w d 3 .i64 .i64 x y Try.underlying3
theorem eqF_cons (d : Nat) (xs ys : Array Value) (f : Field) (fs : List Field) (a b : Value) (r : Bool) (w : World) (hn : (f.name ≠ "_") = True) (h1 : (part f.type xs f.offset).run Try.prog w = .ok a w) (h2 : (part f.type ys f.offset).run Try.prog w = .ok b w) (h3 : (Op.equalIn d f.type a b).run Try.prog w = .ok r w) :
    (Op.eqFields d xs ys (f :: fs)).run Try.prog w = if r then (Op.eqFields d xs ys fs).run Try.prog w else .ok false w := by
  simp only [Op.eqFields, hn, if_true, Sem.run_bind, h1, h2, h3, Result.andThen_ok]
  cases r
  · simp
  · simp

set_option maxRecDepth 100000 in
theorem eql_mob (e m : Mob) (w : World) : (binOp .eql 57 (.agg #[.int .i64 e.id, .int .i64 e.team, .float .f32 e.x, .float .f32 e.y, .float .f32 e.vx, .float .f32 e.vy, .int .i64 e.health]) (.agg #[.int .i64 m.id, .int .i64 m.team, .float .f32 m.x, .float .f32 m.y, .float .f32 m.vx, .float .f32 m.vy, .int .i64 m.health])).run Try.prog w = .ok (.bool (eqM e m)) w := by
  rw [run_eql_struct, run_equalIn_agg w 9999 57 _ _ (by kernel_rfl) (by kernel_rfl)]
  rw [show (Try.prog.fieldsOf 57).toList = [{ name := "ID", type := 3, offset := 0, embedded := false, tag := "", pkgPath := "", byteOffset := 0 }, { name := "Team", type := 3, offset := 1, embedded := false, tag := "", pkgPath := "", byteOffset := 8 }, { name := "X", type := 54, offset := 2, embedded := false, tag := "", pkgPath := "", byteOffset := 16 }, { name := "Y", type := 54, offset := 3, embedded := false, tag := "", pkgPath := "", byteOffset := 20 }, { name := "VX", type := 54, offset := 4, embedded := false, tag := "", pkgPath := "", byteOffset := 24 }, { name := "VY", type := 54, offset := 5, embedded := false, tag := "", pkgPath := "", byteOffset := 28 }, { name := "Health", type := 3, offset := 6, embedded := false, tag := "", pkgPath := "", byteOffset := 32 }] from by kernel_rfl]
  rw [eqF_cons 9999 #[.int .i64 e.id, .int .i64 e.team, .float .f32 e.x, .float .f32 e.y, .float .f32 e.vx, .float .f32 e.vy, .int .i64 e.health] #[.int .i64 m.id, .int .i64 m.team, .float .f32 m.x, .float .f32 m.y, .float .f32 m.vx, .float .f32 m.vy, .int .i64 m.health] { name := "ID", type := 3, offset := 0, embedded := false, tag := "", pkgPath := "", byteOffset := 0 } [{ name := "Team", type := 3, offset := 1, embedded := false, tag := "", pkgPath := "", byteOffset := 8 }, { name := "X", type := 54, offset := 2, embedded := false, tag := "", pkgPath := "", byteOffset := 16 }, { name := "Y", type := 54, offset := 3, embedded := false, tag := "", pkgPath := "", byteOffset := 20 }, { name := "VX", type := 54, offset := 4, embedded := false, tag := "", pkgPath := "", byteOffset := 24 }, { name := "VY", type := 54, offset := 5, embedded := false, tag := "", pkgPath := "", byteOffset := 28 }, { name := "Health", type := 3, offset := 6, embedded := false, tag := "", pkgPath := "", byteOffset := 32 }] (.int .i64 e.id) (.int .i64 m.id) (e.id == m.id) w (by simp) (part_int #[.int .i64 e.id, .int .i64 e.team, .float .f32 e.x, .float .f32 e.y, .float .f32 e.vx, .float .f32 e.vy, .int .i64 e.health] 0 (.int .i64 e.id) rfl w) (part_int #[.int .i64 m.id, .int .i64 m.team, .float .f32 m.x, .float .f32 m.y, .float .f32 m.vx, .float .f32 m.vy, .int .i64 m.health] 0 (.int .i64 m.id) rfl w) (eq_int 9998 e.id m.id w)]
  rw [eqF_cons 9999 #[.int .i64 e.id, .int .i64 e.team, .float .f32 e.x, .float .f32 e.y, .float .f32 e.vx, .float .f32 e.vy, .int .i64 e.health] #[.int .i64 m.id, .int .i64 m.team, .float .f32 m.x, .float .f32 m.y, .float .f32 m.vx, .float .f32 m.vy, .int .i64 m.health] { name := "Team", type := 3, offset := 1, embedded := false, tag := "", pkgPath := "", byteOffset := 8 } [{ name := "X", type := 54, offset := 2, embedded := false, tag := "", pkgPath := "", byteOffset := 16 }, { name := "Y", type := 54, offset := 3, embedded := false, tag := "", pkgPath := "", byteOffset := 20 }, { name := "VX", type := 54, offset := 4, embedded := false, tag := "", pkgPath := "", byteOffset := 24 }, { name := "VY", type := 54, offset := 5, embedded := false, tag := "", pkgPath := "", byteOffset := 28 }, { name := "Health", type := 3, offset := 6, embedded := false, tag := "", pkgPath := "", byteOffset := 32 }] (.int .i64 e.team) (.int .i64 m.team) (e.team == m.team) w (by simp) (part_int #[.int .i64 e.id, .int .i64 e.team, .float .f32 e.x, .float .f32 e.y, .float .f32 e.vx, .float .f32 e.vy, .int .i64 e.health] 1 (.int .i64 e.team) rfl w) (part_int #[.int .i64 m.id, .int .i64 m.team, .float .f32 m.x, .float .f32 m.y, .float .f32 m.vx, .float .f32 m.vy, .int .i64 m.health] 1 (.int .i64 m.team) rfl w) (eq_int 9998 e.team m.team w)]
  rw [eqF_cons 9999 #[.int .i64 e.id, .int .i64 e.team, .float .f32 e.x, .float .f32 e.y, .float .f32 e.vx, .float .f32 e.vy, .int .i64 e.health] #[.int .i64 m.id, .int .i64 m.team, .float .f32 m.x, .float .f32 m.y, .float .f32 m.vx, .float .f32 m.vy, .int .i64 m.health] { name := "X", type := 54, offset := 2, embedded := false, tag := "", pkgPath := "", byteOffset := 16 } [{ name := "Y", type := 54, offset := 3, embedded := false, tag := "", pkgPath := "", byteOffset := 20 }, { name := "VX", type := 54, offset := 4, embedded := false, tag := "", pkgPath := "", byteOffset := 24 }, { name := "VY", type := 54, offset := 5, embedded := false, tag := "", pkgPath := "", byteOffset := 28 }, { name := "Health", type := 3, offset := 6, embedded := false, tag := "", pkgPath := "", byteOffset := 32 }] (.float .f32 e.x) (.float .f32 m.x) (feq e.x m.x) w (by simp) (part_f32 #[.int .i64 e.id, .int .i64 e.team, .float .f32 e.x, .float .f32 e.y, .float .f32 e.vx, .float .f32 e.vy, .int .i64 e.health] 2 (.float .f32 e.x) rfl w) (part_f32 #[.int .i64 m.id, .int .i64 m.team, .float .f32 m.x, .float .f32 m.y, .float .f32 m.vx, .float .f32 m.vy, .int .i64 m.health] 2 (.float .f32 m.x) rfl w) (eq_f32 9998 e.x m.x w)]
  rw [eqF_cons 9999 #[.int .i64 e.id, .int .i64 e.team, .float .f32 e.x, .float .f32 e.y, .float .f32 e.vx, .float .f32 e.vy, .int .i64 e.health] #[.int .i64 m.id, .int .i64 m.team, .float .f32 m.x, .float .f32 m.y, .float .f32 m.vx, .float .f32 m.vy, .int .i64 m.health] { name := "Y", type := 54, offset := 3, embedded := false, tag := "", pkgPath := "", byteOffset := 20 } [{ name := "VX", type := 54, offset := 4, embedded := false, tag := "", pkgPath := "", byteOffset := 24 }, { name := "VY", type := 54, offset := 5, embedded := false, tag := "", pkgPath := "", byteOffset := 28 }, { name := "Health", type := 3, offset := 6, embedded := false, tag := "", pkgPath := "", byteOffset := 32 }] (.float .f32 e.y) (.float .f32 m.y) (feq e.y m.y) w (by simp) (part_f32 #[.int .i64 e.id, .int .i64 e.team, .float .f32 e.x, .float .f32 e.y, .float .f32 e.vx, .float .f32 e.vy, .int .i64 e.health] 3 (.float .f32 e.y) rfl w) (part_f32 #[.int .i64 m.id, .int .i64 m.team, .float .f32 m.x, .float .f32 m.y, .float .f32 m.vx, .float .f32 m.vy, .int .i64 m.health] 3 (.float .f32 m.y) rfl w) (eq_f32 9998 e.y m.y w)]
  rw [eqF_cons 9999 #[.int .i64 e.id, .int .i64 e.team, .float .f32 e.x, .float .f32 e.y, .float .f32 e.vx, .float .f32 e.vy, .int .i64 e.health] #[.int .i64 m.id, .int .i64 m.team, .float .f32 m.x, .float .f32 m.y, .float .f32 m.vx, .float .f32 m.vy, .int .i64 m.health] { name := "VX", type := 54, offset := 4, embedded := false, tag := "", pkgPath := "", byteOffset := 24 } [{ name := "VY", type := 54, offset := 5, embedded := false, tag := "", pkgPath := "", byteOffset := 28 }, { name := "Health", type := 3, offset := 6, embedded := false, tag := "", pkgPath := "", byteOffset := 32 }] (.float .f32 e.vx) (.float .f32 m.vx) (feq e.vx m.vx) w (by simp) (part_f32 #[.int .i64 e.id, .int .i64 e.team, .float .f32 e.x, .float .f32 e.y, .float .f32 e.vx, .float .f32 e.vy, .int .i64 e.health] 4 (.float .f32 e.vx) rfl w) (part_f32 #[.int .i64 m.id, .int .i64 m.team, .float .f32 m.x, .float .f32 m.y, .float .f32 m.vx, .float .f32 m.vy, .int .i64 m.health] 4 (.float .f32 m.vx) rfl w) (eq_f32 9998 e.vx m.vx w)]
  rw [eqF_cons 9999 #[.int .i64 e.id, .int .i64 e.team, .float .f32 e.x, .float .f32 e.y, .float .f32 e.vx, .float .f32 e.vy, .int .i64 e.health] #[.int .i64 m.id, .int .i64 m.team, .float .f32 m.x, .float .f32 m.y, .float .f32 m.vx, .float .f32 m.vy, .int .i64 m.health] { name := "VY", type := 54, offset := 5, embedded := false, tag := "", pkgPath := "", byteOffset := 28 } [{ name := "Health", type := 3, offset := 6, embedded := false, tag := "", pkgPath := "", byteOffset := 32 }] (.float .f32 e.vy) (.float .f32 m.vy) (feq e.vy m.vy) w (by simp) (part_f32 #[.int .i64 e.id, .int .i64 e.team, .float .f32 e.x, .float .f32 e.y, .float .f32 e.vx, .float .f32 e.vy, .int .i64 e.health] 5 (.float .f32 e.vy) rfl w) (part_f32 #[.int .i64 m.id, .int .i64 m.team, .float .f32 m.x, .float .f32 m.y, .float .f32 m.vx, .float .f32 m.vy, .int .i64 m.health] 5 (.float .f32 m.vy) rfl w) (eq_f32 9998 e.vy m.vy w)]
  rw [eqF_cons 9999 #[.int .i64 e.id, .int .i64 e.team, .float .f32 e.x, .float .f32 e.y, .float .f32 e.vx, .float .f32 e.vy, .int .i64 e.health] #[.int .i64 m.id, .int .i64 m.team, .float .f32 m.x, .float .f32 m.y, .float .f32 m.vx, .float .f32 m.vy, .int .i64 m.health] { name := "Health", type := 3, offset := 6, embedded := false, tag := "", pkgPath := "", byteOffset := 32 } [] (.int .i64 e.health) (.int .i64 m.health) (e.health == m.health) w (by simp) (part_int #[.int .i64 e.id, .int .i64 e.team, .float .f32 e.x, .float .f32 e.y, .float .f32 e.vx, .float .f32 e.vy, .int .i64 e.health] 6 (.int .i64 e.health) rfl w) (part_int #[.int .i64 m.id, .int .i64 m.team, .float .f32 m.x, .float .f32 m.y, .float .f32 m.vx, .float .f32 m.vy, .int .i64 m.health] 6 (.int .i64 m.health) rfl w) (eq_int 9998 e.health m.health w)]
  have hnil : (Op.eqFields 9999 #[.int .i64 e.id, .int .i64 e.team, .float .f32 e.x, .float .f32 e.y, .float .f32 e.vx, .float .f32 e.vy, .int .i64 e.health] #[.int .i64 m.id, .int .i64 m.team, .float .f32 m.x, .float .f32 m.y, .float .f32 m.vx, .float .f32 m.vy, .int .i64 m.health] []).run Try.prog w = .ok true w := by simp [Op.eqFields]
  rw [hnil]
  unfold eqM
  cases (e.id == m.id)
  · rfl
  cases (e.team == m.team)
  · rfl
  cases feq e.x m.x
  · rfl
  cases feq e.y m.y
  · rfl
  cases feq e.vx m.vx
  · rfl
  cases feq e.vy m.vy
  · rfl
  cases (e.health == m.health)
  · rfl
  · rfl
set_option maxRecDepth 100000 in
theorem neq_mob (e m : Mob) (w : World) : (binOp .neq 57 (.agg #[.int .i64 e.id, .int .i64 e.team, .float .f32 e.x, .float .f32 e.y, .float .f32 e.vx, .float .f32 e.vy, .int .i64 e.health]) (.agg #[.int .i64 m.id, .int .i64 m.team, .float .f32 m.x, .float .f32 m.y, .float .f32 m.vx, .float .f32 m.vy, .int .i64 m.health])).run Try.prog w = .ok (.bool (!eqM e m)) w := by
  have h := eql_mob e m w
  rw [run_eql_struct] at h
  rw [run_neq_struct]
  cases hr : Sem.run Try.prog (Op.equalIn 10000 57 (.agg #[.int .i64 e.id, .int .i64 e.team, .float .f32 e.x, .float .f32 e.y, .float .f32 e.vx, .float .f32 e.vy, .int .i64 e.health]) (.agg #[.int .i64 m.id, .int .i64 m.team, .float .f32 m.x, .float .f32 m.y, .float .f32 m.vx, .float .f32 m.vy, .int .i64 m.health])) w with
  | ok b w' =>
    rw [hr] at h
    simp only [Result.andThen_ok, Result.ok.injEq, Value.bool.injEq] at h ⊢
    rw [h.1, h.2]; exact ⟨rfl, rfl⟩
  | halt x w' => rw [hr] at h; simp [Result.andThen] at h

theorem feq_self {v : Nat} (h : okV v) : feq v v = true := by
  have h1 : FloatKind.f32.format.order v v = some .eq := by
    unfold okV at h
    show (Ieee.single.read v).order (Ieee.single.read v) = _
    cases hr : Ieee.single.read v with
    | number s m i => simp [Ieee.Datum.order]
    | infinity s => simp [Ieee.Datum.order]
    | nan s t => rw [hr] at h; cases h
  show Op.floatEq .f32 v v = true
  unfold Op.floatEq
  rw [h1]; rfl
theorem okV_of {v : Nat} (h : isNum v) : okV v := by obtain ⟨s, m, e, hr⟩ := h; unfold okV; rw [hr]; rfl
theorem fine_eq {k : Nat} {m : Mob} (h : FineM k m) : eqM m m = true := by
  have h1 := feq_self (okV_of h.px)
  have h2 := feq_self (okV_of h.py)
  have h3 := feq_self h.vx
  have h4 := feq_self h.vy
  simp [eqM, h1, h2, h3, h4]

end Go.Proofs.Ytlfmfhmbkpnjbaa
