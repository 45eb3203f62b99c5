import Derived.Test.YtgclehnhjjkdbaaDoorKcmde
import Derived.Laws.StructEq
import Derived.BigQuiet
import Derived.Deep.QuietTactic
namespace Go.Proofs.YtgclehnhjjkdbaaDoor
open Go.RowKit

def feq (x y : Nat) : Bool := Op.floatEq .f32 x y
/-- The program's own equality of two entities. -/
def eqM (e m : Mob) : Bool := if e.id == m.id then (if e.team == m.team then (if feq e.x m.x then (if feq e.y m.y then (if feq e.vx m.vx then (if feq e.vy m.vy then e.health == m.health else false) else false) else false) else false) else false) else false

theorem part_int (xs : Array Value) (o : Nat) (v : Value) (h : xs[o]? = some v) (w : World) : (part 3 xs o).run Tryd.prog w = .ok v w := by
  simp [part, isAgg, run_underlying Tryd.underlying3, h]
theorem part_f32 (xs : Array Value) (o : Nat) (v : Value) (h : xs[o]? = some v) (w : World) : (part 43 xs o).run Tryd.prog w = .ok v w := by
  simp [part, isAgg, run_underlying Tryd.underlying43, h]
theorem eq_f32 (d : Nat) (x y : Nat) (w : World) : (Op.equalIn (d + 1) 43 (.float .f32 x) (.float .f32 y)).run Tryd.prog w = .ok (feq x y) w := by
  simp [Op.equalIn, run_underlying Tryd.underlying43, feq]
theorem eq_int (d : Nat) (x y : Int) (w : World) : (Op.equalIn (d + 1) 3 (.int .i64 x) (.int .i64 y)).run Tryd.prog w = .ok (x == y) w := run_equalIn_int w d 3 .i64 .i64 x y Tryd.underlying3
theorem eqF_cons (d : Nat) (xs ys : Array Value) (f : Field) (fs : List Field) (a b : Value) (r : Bool) (w : World) (hn : (f.name ≠ "_") = True) (h1 : (part f.type xs f.offset).run Tryd.prog w = .ok a w) (h2 : (part f.type ys f.offset).run Tryd.prog w = .ok b w) (h3 : (Op.equalIn d f.type a b).run Tryd.prog w = .ok r w) :
    (Op.eqFields d xs ys (f :: fs)).run Tryd.prog w = if r then (Op.eqFields d xs ys fs).run Tryd.prog w else .ok false w := by
  simp only [Op.eqFields, hn, if_true, Sem.run_bind, h1, h2, h3, Result.andThen_ok]
  cases r
  · simp
  · simp

set_option maxRecDepth 100000 in
theorem eql_mob (e m : Mob) (w : World) : (binOp .eql 45 (.agg #[.int .i64 e.id, .int .i64 e.team, .float .f32 e.x, .float .f32 e.y, .float .f32 e.vx, .float .f32 e.vy, .int .i64 e.health]) (.agg #[.int .i64 m.id, .int .i64 m.team, .float .f32 m.x, .float .f32 m.y, .float .f32 m.vx, .float .f32 m.vy, .int .i64 m.health])).run Tryd.prog w = .ok (.bool (eqM e m)) w := by
  rw [run_eql_struct, run_equalIn_agg w 9999 45 _ _ (by kernel_rfl) (by kernel_rfl)]
  rw [show (Tryd.prog.fieldsOf 45).toList = [{ name := "ID", type := 3, offset := 0, embedded := false, tag := "", pkgPath := "", byteOffset := 0 }, { name := "Team", type := 3, offset := 1, embedded := false, tag := "", pkgPath := "", byteOffset := 8 }, { name := "X", type := 43, offset := 2, embedded := false, tag := "", pkgPath := "", byteOffset := 16 }, { name := "Y", type := 43, offset := 3, embedded := false, tag := "", pkgPath := "", byteOffset := 20 }, { name := "VX", type := 43, offset := 4, embedded := false, tag := "", pkgPath := "", byteOffset := 24 }, { name := "VY", type := 43, offset := 5, embedded := false, tag := "", pkgPath := "", byteOffset := 28 }, { name := "Health", type := 3, offset := 6, embedded := false, tag := "", pkgPath := "", byteOffset := 32 }] from by kernel_rfl]
  rw [eqF_cons 9999 #[.int .i64 e.id, .int .i64 e.team, .float .f32 e.x, .float .f32 e.y, .float .f32 e.vx, .float .f32 e.vy, .int .i64 e.health] #[.int .i64 m.id, .int .i64 m.team, .float .f32 m.x, .float .f32 m.y, .float .f32 m.vx, .float .f32 m.vy, .int .i64 m.health] { name := "ID", type := 3, offset := 0, embedded := false, tag := "", pkgPath := "", byteOffset := 0 } [{ name := "Team", type := 3, offset := 1, embedded := false, tag := "", pkgPath := "", byteOffset := 8 }, { name := "X", type := 43, offset := 2, embedded := false, tag := "", pkgPath := "", byteOffset := 16 }, { name := "Y", type := 43, offset := 3, embedded := false, tag := "", pkgPath := "", byteOffset := 20 }, { name := "VX", type := 43, offset := 4, embedded := false, tag := "", pkgPath := "", byteOffset := 24 }, { name := "VY", type := 43, offset := 5, embedded := false, tag := "", pkgPath := "", byteOffset := 28 }, { name := "Health", type := 3, offset := 6, embedded := false, tag := "", pkgPath := "", byteOffset := 32 }] (.int .i64 e.id) (.int .i64 m.id) (e.id == m.id) w (by simp) (part_int #[.int .i64 e.id, .int .i64 e.team, .float .f32 e.x, .float .f32 e.y, .float .f32 e.vx, .float .f32 e.vy, .int .i64 e.health] 0 (.int .i64 e.id) rfl w) (part_int #[.int .i64 m.id, .int .i64 m.team, .float .f32 m.x, .float .f32 m.y, .float .f32 m.vx, .float .f32 m.vy, .int .i64 m.health] 0 (.int .i64 m.id) rfl w) (eq_int 9998 e.id m.id w)]
  rw [eqF_cons 9999 #[.int .i64 e.id, .int .i64 e.team, .float .f32 e.x, .float .f32 e.y, .float .f32 e.vx, .float .f32 e.vy, .int .i64 e.health] #[.int .i64 m.id, .int .i64 m.team, .float .f32 m.x, .float .f32 m.y, .float .f32 m.vx, .float .f32 m.vy, .int .i64 m.health] { name := "Team", type := 3, offset := 1, embedded := false, tag := "", pkgPath := "", byteOffset := 8 } [{ name := "X", type := 43, offset := 2, embedded := false, tag := "", pkgPath := "", byteOffset := 16 }, { name := "Y", type := 43, offset := 3, embedded := false, tag := "", pkgPath := "", byteOffset := 20 }, { name := "VX", type := 43, offset := 4, embedded := false, tag := "", pkgPath := "", byteOffset := 24 }, { name := "VY", type := 43, offset := 5, embedded := false, tag := "", pkgPath := "", byteOffset := 28 }, { name := "Health", type := 3, offset := 6, embedded := false, tag := "", pkgPath := "", byteOffset := 32 }] (.int .i64 e.team) (.int .i64 m.team) (e.team == m.team) w (by simp) (part_int #[.int .i64 e.id, .int .i64 e.team, .float .f32 e.x, .float .f32 e.y, .float .f32 e.vx, .float .f32 e.vy, .int .i64 e.health] 1 (.int .i64 e.team) rfl w) (part_int #[.int .i64 m.id, .int .i64 m.team, .float .f32 m.x, .float .f32 m.y, .float .f32 m.vx, .float .f32 m.vy, .int .i64 m.health] 1 (.int .i64 m.team) rfl w) (eq_int 9998 e.team m.team w)]
  rw [eqF_cons 9999 #[.int .i64 e.id, .int .i64 e.team, .float .f32 e.x, .float .f32 e.y, .float .f32 e.vx, .float .f32 e.vy, .int .i64 e.health] #[.int .i64 m.id, .int .i64 m.team, .float .f32 m.x, .float .f32 m.y, .float .f32 m.vx, .float .f32 m.vy, .int .i64 m.health] { name := "X", type := 43, offset := 2, embedded := false, tag := "", pkgPath := "", byteOffset := 16 } [{ name := "Y", type := 43, offset := 3, embedded := false, tag := "", pkgPath := "", byteOffset := 20 }, { name := "VX", type := 43, offset := 4, embedded := false, tag := "", pkgPath := "", byteOffset := 24 }, { name := "VY", type := 43, offset := 5, embedded := false, tag := "", pkgPath := "", byteOffset := 28 }, { name := "Health", type := 3, offset := 6, embedded := false, tag := "", pkgPath := "", byteOffset := 32 }] (.float .f32 e.x) (.float .f32 m.x) (feq e.x m.x) w (by simp) (part_f32 #[.int .i64 e.id, .int .i64 e.team, .float .f32 e.x, .float .f32 e.y, .float .f32 e.vx, .float .f32 e.vy, .int .i64 e.health] 2 (.float .f32 e.x) rfl w) (part_f32 #[.int .i64 m.id, .int .i64 m.team, .float .f32 m.x, .float .f32 m.y, .float .f32 m.vx, .float .f32 m.vy, .int .i64 m.health] 2 (.float .f32 m.x) rfl w) (eq_f32 9998 e.x m.x w)]
  rw [eqF_cons 9999 #[.int .i64 e.id, .int .i64 e.team, .float .f32 e.x, .float .f32 e.y, .float .f32 e.vx, .float .f32 e.vy, .int .i64 e.health] #[.int .i64 m.id, .int .i64 m.team, .float .f32 m.x, .float .f32 m.y, .float .f32 m.vx, .float .f32 m.vy, .int .i64 m.health] { name := "Y", type := 43, offset := 3, embedded := false, tag := "", pkgPath := "", byteOffset := 20 } [{ name := "VX", type := 43, offset := 4, embedded := false, tag := "", pkgPath := "", byteOffset := 24 }, { name := "VY", type := 43, offset := 5, embedded := false, tag := "", pkgPath := "", byteOffset := 28 }, { name := "Health", type := 3, offset := 6, embedded := false, tag := "", pkgPath := "", byteOffset := 32 }] (.float .f32 e.y) (.float .f32 m.y) (feq e.y m.y) w (by simp) (part_f32 #[.int .i64 e.id, .int .i64 e.team, .float .f32 e.x, .float .f32 e.y, .float .f32 e.vx, .float .f32 e.vy, .int .i64 e.health] 3 (.float .f32 e.y) rfl w) (part_f32 #[.int .i64 m.id, .int .i64 m.team, .float .f32 m.x, .float .f32 m.y, .float .f32 m.vx, .float .f32 m.vy, .int .i64 m.health] 3 (.float .f32 m.y) rfl w) (eq_f32 9998 e.y m.y w)]
  rw [eqF_cons 9999 #[.int .i64 e.id, .int .i64 e.team, .float .f32 e.x, .float .f32 e.y, .float .f32 e.vx, .float .f32 e.vy, .int .i64 e.health] #[.int .i64 m.id, .int .i64 m.team, .float .f32 m.x, .float .f32 m.y, .float .f32 m.vx, .float .f32 m.vy, .int .i64 m.health] { name := "VX", type := 43, offset := 4, embedded := false, tag := "", pkgPath := "", byteOffset := 24 } [{ name := "VY", type := 43, offset := 5, embedded := false, tag := "", pkgPath := "", byteOffset := 28 }, { name := "Health", type := 3, offset := 6, embedded := false, tag := "", pkgPath := "", byteOffset := 32 }] (.float .f32 e.vx) (.float .f32 m.vx) (feq e.vx m.vx) w (by simp) (part_f32 #[.int .i64 e.id, .int .i64 e.team, .float .f32 e.x, .float .f32 e.y, .float .f32 e.vx, .float .f32 e.vy, .int .i64 e.health] 4 (.float .f32 e.vx) rfl w) (part_f32 #[.int .i64 m.id, .int .i64 m.team, .float .f32 m.x, .float .f32 m.y, .float .f32 m.vx, .float .f32 m.vy, .int .i64 m.health] 4 (.float .f32 m.vx) rfl w) (eq_f32 9998 e.vx m.vx w)]
  rw [eqF_cons 9999 #[.int .i64 e.id, .int .i64 e.team, .float .f32 e.x, .float .f32 e.y, .float .f32 e.vx, .float .f32 e.vy, .int .i64 e.health] #[.int .i64 m.id, .int .i64 m.team, .float .f32 m.x, .float .f32 m.y, .float .f32 m.vx, .float .f32 m.vy, .int .i64 m.health] { name := "VY", type := 43, offset := 5, embedded := false, tag := "", pkgPath := "", byteOffset := 28 } [{ name := "Health", type := 3, offset := 6, embedded := false, tag := "", pkgPath := "", byteOffset := 32 }] (.float .f32 e.vy) (.float .f32 m.vy) (feq e.vy m.vy) w (by simp) (part_f32 #[.int .i64 e.id, .int .i64 e.team, .float .f32 e.x, .float .f32 e.y, .float .f32 e.vx, .float .f32 e.vy, .int .i64 e.health] 5 (.float .f32 e.vy) rfl w) (part_f32 #[.int .i64 m.id, .int .i64 m.team, .float .f32 m.x, .float .f32 m.y, .float .f32 m.vx, .float .f32 m.vy, .int .i64 m.health] 5 (.float .f32 m.vy) rfl w) (eq_f32 9998 e.vy m.vy w)]
  rw [eqF_cons 9999 #[.int .i64 e.id, .int .i64 e.team, .float .f32 e.x, .float .f32 e.y, .float .f32 e.vx, .float .f32 e.vy, .int .i64 e.health] #[.int .i64 m.id, .int .i64 m.team, .float .f32 m.x, .float .f32 m.y, .float .f32 m.vx, .float .f32 m.vy, .int .i64 m.health] { name := "Health", type := 3, offset := 6, embedded := false, tag := "", pkgPath := "", byteOffset := 32 } [] (.int .i64 e.health) (.int .i64 m.health) (e.health == m.health) w (by simp) (part_int #[.int .i64 e.id, .int .i64 e.team, .float .f32 e.x, .float .f32 e.y, .float .f32 e.vx, .float .f32 e.vy, .int .i64 e.health] 6 (.int .i64 e.health) rfl w) (part_int #[.int .i64 m.id, .int .i64 m.team, .float .f32 m.x, .float .f32 m.y, .float .f32 m.vx, .float .f32 m.vy, .int .i64 m.health] 6 (.int .i64 m.health) rfl w) (eq_int 9998 e.health m.health w)]
  have hnil : (Op.eqFields 9999 #[.int .i64 e.id, .int .i64 e.team, .float .f32 e.x, .float .f32 e.y, .float .f32 e.vx, .float .f32 e.vy, .int .i64 e.health] #[.int .i64 m.id, .int .i64 m.team, .float .f32 m.x, .float .f32 m.y, .float .f32 m.vx, .float .f32 m.vy, .int .i64 m.health] []).run Tryd.prog w = .ok true w := by simp [Op.eqFields]
  rw [hnil]
  unfold eqM
  cases (e.id == m.id)
  · rfl
  cases (e.team == m.team)
  · rfl
  cases feq e.x m.x
  · rfl
  cases feq e.y m.y
  · rfl
  cases feq e.vx m.vx
  · rfl
  cases feq e.vy m.vy
  · rfl
  cases (e.health == m.health)
  · rfl
  · rfl

set_option maxRecDepth 100000 in
theorem neq_mob (e m : Mob) (w : World) : (binOp .neq 45 (.agg #[.int .i64 e.id, .int .i64 e.team, .float .f32 e.x, .float .f32 e.y, .float .f32 e.vx, .float .f32 e.vy, .int .i64 e.health]) (.agg #[.int .i64 m.id, .int .i64 m.team, .float .f32 m.x, .float .f32 m.y, .float .f32 m.vx, .float .f32 m.vy, .int .i64 m.health])).run Tryd.prog w = .ok (.bool (!eqM e m)) w := by
  have h := eql_mob e m w
  rw [run_eql_struct] at h
  rw [run_neq_struct]
  cases hr : Sem.run Tryd.prog (Op.equalIn 10000 45 (.agg #[.int .i64 e.id, .int .i64 e.team, .float .f32 e.x, .float .f32 e.y, .float .f32 e.vx, .float .f32 e.vy, .int .i64 e.health]) (.agg #[.int .i64 m.id, .int .i64 m.team, .float .f32 m.x, .float .f32 m.y, .float .f32 m.vx, .float .f32 m.vy, .int .i64 m.health])) w with
  | ok b w' =>
    rw [hr] at h
    simp only [Result.andThen_ok, Result.ok.injEq, Value.bool.injEq] at h ⊢
    rw [h.1, h.2]; exact ⟨rfl, rfl⟩
  | halt x w' => rw [hr] at h; simp [Result.andThen] at h


theorem feq_self {v : Nat} (h : okV v) : feq v v = true := by
  have h1 : FloatKind.f32.format.order v v = some .eq := by
    unfold okV at h
    show (Ieee.single.read v).order (Ieee.single.read v) = _
    cases hr : Ieee.single.read v with
    | number s m i => simp [Ieee.Datum.order]
    | infinity s => simp [Ieee.Datum.order]
    | nan s t => rw [hr] at h; cases h
  show Op.floatEq .f32 v v = true
  unfold Op.floatEq
  rw [h1]; rfl
theorem okV_of {v : Nat} (h : isNum v) : okV v := by obtain ⟨s, m, e, hr⟩ := h; unfold okV; rw [hr]; rfl
theorem fine_eq {k : Nat} {m : Mob} (h : FineM k m) : eqM m m = true := by
  have h1 := feq_self (okV_of h.px)
  have h2 := feq_self (okV_of h.py)
  have h3 := feq_self h.vx
  have h4 := feq_self h.vy
  simp [eqM, h1, h2, h3, h4]

set_option maxHeartbeats 2000000 in
set_option maxRecDepth 100000 in
theorem same_k (t t' : Int) (p p' : Option Addr) (cap cap' : Nat) (X X' : List Mob) (w : World) (h : Reads w p X) (h' : Reads w p' X') (hl : X.length ≤ 32) :
    Calls Tryd.prog 5 #[.agg #[.int .i64 t, .slice p X.length cap], .agg #[.int .i64 t', .slice p' X'.length cap']] w fun e w' => ∃ b, e = .returned (.bool b) ∧ (t = t' → X = X' → (∀ m ∈ X, eqM m m = true) → b = true) ∧ Kept (fun _ => False) w w' := by
  have HR := hide h
  have HR' := hide h'
  clear h h'
  have K0 := hide ((Kept.alloc w (.cells #[.int .i64 t, .slice p X.length cap] 30)).calm2 (Kept.alloc _ (.cells #[.int .i64 t', .slice p' X'.length cap'] 30)))
  have A0 : Hid (((w.alloc (.cells #[.int .i64 t, .slice p X.length cap] 30)).alloc (.cells #[.int .i64 t', .slice p' X'.length cap'] 30)).heap[w.heap.size]? = some (.cells #[.int .i64 t, .slice p X.length cap] 30 (0, 0))) := by
    show _ = _
    rw [(Kept.alloc (w.alloc (.cells #[.int .i64 t, .slice p X.length cap] 30)) (.cells #[.int .i64 t', .slice p' X'.length cap'] 30)).block _ (by simp) (fun e => e)]; exact heap_alloc_new w (.cells #[.int .i64 t, .slice p X.length cap] 30)
  have B0 : Hid (((w.alloc (.cells #[.int .i64 t, .slice p X.length cap] 30)).alloc (.cells #[.int .i64 t', .slice p' X'.length cap'] 30)).heap[w.heap.size + 1]? = some (.cells #[.int .i64 t', .slice p' X'.length cap'] 30 (0, 0))) := by
    have q := heap_alloc_new (w.alloc (.cells #[.int .i64 t, .slice p X.length cap] 30)) (.cells #[.int .i64 t', .slice p' X'.length cap'] 30)
    rw [show (w.alloc (.cells #[.int .i64 t, .slice p X.length cap] 30)).heap.size = w.heap.size + 1 from by simp] at q
    exact q
  by_cases ht : t = t'
  · subst ht
    have n0 : (t != t) = false := by simp
    by_cases hx : X.length = X'.length
    · have n1 : ((X.length : Int) != (X'.length : Int)) = false := by simp [hx]
      have HXL := hide hx
      clear hx
      go_enter Tryd.func5, Tryd.ntmps5
      go_wp2
      generalize (w.alloc (.cells #[.int .i64 t, .slice p X.length cap] 30)).alloc (.cells #[.int .i64 t, .slice p' X'.length cap'] 30) = W at *
      go_loopw [5] (fun a wr => ∃ i : Nat, i ≤ X.length ∧ a = .int .i64 i ∧ Hid (Kept (fun _ => False) W wr)) (fun a _ => X.length - (intOf a).toNat)
      case atStart => exact ⟨0, Nat.zero_le _, rfl, Kept.refl _ _⟩
      case round =>
        obtain ⟨i, hil, rfl, HK⟩ := hrel
        have AR : Hid (wr.heap[w.heap.size]? = some (.cells #[.int .i64 t, .slice p X.length cap] 30 (0, 0))) := by show _ = _; rw [HK.out.block _ (heap_lt A0.out) (fun e => e)]; exact A0.out
        have BR : Hid (wr.heap[w.heap.size + 1]? = some (.cells #[.int .i64 t, .slice p' X'.length cap'] 30 (0, 0))) := by show _ = _; rw [HK.out.block _ (heap_lt B0.out) (fun e => e)]; exact B0.out
        obtain ⟨a0, a1, -, -⟩ := two_cells AR.out
        obtain ⟨b0, b1, -, -⟩ := two_cells BR.out
        have KW := hide (K0.out.calm2 HK.out)
        by_cases hlt : i < X.length
        · have hlt' : i < X'.length := by have := HXL.out; omega
          obtain ⟨b, off, hp, hb, c0, c1, c2, c3, c4, c5, c6⟩ := (HR.out.calm KW.out).at i hlt
          obtain ⟨b', off', hp', hb', d0, d1, d2, d3, d4, d5, d6⟩ := (HR'.out.calm KW.out).at i hlt'
          have hne := neq_mob X[i] X'[i]
          have hb1 : (0 : Int) ≤ (i : Int) := by omega
          have hb2 : (i : Int) < (X.length : Int) := by omega
          have hb3 : (i : Int) < (X'.length : Int) := by omega
          subst hp
          subst hp'
          cases hq : eqM X[i] X'[i]
          · rw [hq] at hne
            have HF : Hid (X = X' → (∀ m ∈ X, eqM m m = true) → False) := fun e hm => by
              have h2 := hm X[i] (List.getElem_mem hlt)
              have h3 : X[i] = X'[i] := by simp [e]
              rw [← h3, h2] at hq
              cases hq
            clear hq
            go_wp2
            go_quiet (fail)
            go_wp2
            go_ret
            exact ⟨false, rfl, fun _ e hm => (HF.out e hm).elim, KW.out.calm2 (Kept.drewN _ _)⟩
          · rw [hq] at hne
            clear hq
            go_wp2
            go_quiet (fail)
            go_wp2
            go_roundw
            case rel => exact ⟨i + 1, by omega, by go_num, HK.out.calm2 (Kept.drewN _ _)⟩
            case measure => simp [intOf]; omega
        · go_wp2
          go_ret
          exact ⟨true, rfl, fun _ _ _ => rfl, KW.out⟩
    · have n1 : ((X.length : Int) != (X'.length : Int)) = true := by simp; omega
      go_enter Tryd.func5, Tryd.ntmps5
      go_wp2
      go_ret
      exact ⟨false, rfl, fun _ e _ => absurd (by rw [e]) hx, K0.out⟩
  · have n0 : (t != t') = true := by simp [ht]
    go_enter Tryd.func5, Tryd.ntmps5
    go_wp2
    go_ret
    exact ⟨false, rfl, fun e _ _ => absurd e ht, K0.out⟩
end Go.Proofs.YtgclehnhjjkdbaaDoor
