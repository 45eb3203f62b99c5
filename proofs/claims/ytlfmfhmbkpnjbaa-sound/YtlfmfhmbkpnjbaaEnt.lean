import Derived.Test.YtlfmfhmbkpnjbaaBase
import Derived.Test.YtlfmfhmbkpnjbaaRows
import Derived.WalkLawsBesides
namespace Go.Proofs.Ytlfmfhmbkpnjbaa
open Go.RowKit

/-- An entity; the numbers with a point by their bits. -/
structure Mob where
  id : Int
  team : Int
  x : Nat
  y : Nat
  vx : Nat
  vy : Nat
  health : Int
deriving DecidableEq

/-- The cells of a row of entities, seven each. -/
def rowM : List Mob → List Value
  | [] => []
  | m :: r => .int .i64 m.id :: .int .i64 m.team :: .float .f32 m.x :: .float .f32 m.y :: .float .f32 m.vx :: .float .f32 m.vy :: .int .i64 m.health :: rowM r

theorem rowM_length (L : List Mob) : (rowM L).length = L.length * 7 := by
  induction L with
  | nil => rfl
  | cons p r ih => simp only [rowM, List.length_cons, ih]; omega

theorem rowM_append (L M : List Mob) : rowM (L ++ M) = rowM L ++ rowM M := by
  induction L with
  | nil => rfl
  | cons p r ih => simp [rowM, ih]

theorem rowM_take (L : List Mob) (n : Nat) : (rowM L).take (n * 7) = rowM (L.take n) := by
  induction L generalizing n with
  | nil => simp [rowM]
  | cons p r ih =>
    cases n with
    | zero => simp [rowM]
    | succ m => rw [show (m + 1) * 7 = m * 7 + 1 + 1 + 1 + 1 + 1 + 1 + 1 from by omega]; simp [rowM, ih]

theorem rowM_drop (L : List Mob) (n : Nat) : (rowM L).drop (n * 7) = rowM (L.drop n) := by
  induction L generalizing n with
  | nil => simp [rowM]
  | cons p r ih =>
    cases n with
    | zero => simp
    | succ m => rw [show (m + 1) * 7 = m * 7 + 1 + 1 + 1 + 1 + 1 + 1 + 1 from by omega]; simp [rowM, ih]

theorem rowM_get (L : List Mob) (j : Nat) (h : j < L.length) :
    (rowM L)[j * 7]? = some (.int .i64 L[j].id) ∧ (rowM L)[j * 7 + 1]? = some (.int .i64 L[j].team) ∧ (rowM L)[j * 7 + 2]? = some (.float .f32 L[j].x) ∧ (rowM L)[j * 7 + 3]? = some (.float .f32 L[j].y) ∧
    (rowM L)[j * 7 + 4]? = some (.float .f32 L[j].vx) ∧ (rowM L)[j * 7 + 5]? = some (.float .f32 L[j].vy) ∧ (rowM L)[j * 7 + 6]? = some (.int .i64 L[j].health) := by
  induction L generalizing j with
  | nil => simp at h
  | cons p r ih =>
    cases j with
    | zero => simp [rowM]
    | succ m =>
      have := ih m (by simpa using h)
      rw [show (m + 1) * 7 = m * 7 + 1 + 1 + 1 + 1 + 1 + 1 + 1 from by omega]
      simpa [rowM, Nat.add_assoc] using this

theorem rowM_one (L : List Mob) : ∀ u ∈ rowM L, u.oneCell' = true := by
  induction L with
  | nil => simp [rowM]
  | cons p r ih =>
    intro u hu
    simp only [rowM, List.mem_cons] at hu
    rcases hu with rfl | rfl | rfl | rfl | rfl | rfl | rfl | h
    · rfl
    · rfl
    · rfl
    · rfl
    · rfl
    · rfl
    · rfl
    · exact ih u h

abbrev ford (x y : Nat) : Option Ordering := FloatKind.f32.format.order x y
def fge (x y : Nat) : Bool := ford x y == some .gt || ford x y == some .eq
def fle (x y : Nat) : Bool := ford x y == some .lt || ford x y == some .eq
def fitsB (x b : Nat) : Bool := fge x (Op.negFloat .f32 b) && fle x b

theorem run_neg (P : Program) (b : Nat) (w : World) : Sem.run P (Op.unary UnOp.neg (.float .f32 b)) w = .ok (.float .f32 (Op.negFloat .f32 b)) w := rfl

set_option maxHeartbeats 400000 in
theorem fits_c (x b : Nat) (w : World) : Calls Try.prog 95 #[.float .f32 x, .float .f32 b] w fun e w' => e = .returned (.bool (fitsB x b)) ∧ w' = w := by
  have hn := run_neg Try.prog b w
  cases h1 : fge x (Op.negFloat .f32 b)
  · have H : Hid (fitsB x b = false) := by show fitsB x b = false; simp [fitsB, h1]
    unfold fge ford at h1
    go_enter Try.func95, Try.ntmps95
    go_wp2
    go_ret
    exact ⟨ret1 (by rw [H.out]; rfl), rfl⟩
  · cases h2 : fle x b
    · have H : Hid (fitsB x b = false) := by show fitsB x b = false; simp [fitsB, h2]
      unfold fge ford at h1
      unfold fle ford at h2
      go_enter Try.func95, Try.ntmps95
      go_wp2
      go_ret
      exact ⟨ret1 (by rw [H.out]; rfl), rfl⟩
    · have H : Hid (fitsB x b = true) := by show fitsB x b = true; simp [fitsB, h1, h2]
      unfold fge ford at h1
      unfold fle ford at h2
      go_enter Try.func95, Try.ntmps95
      go_wp2
      go_ret
      exact ⟨ret1 (by rw [H.out]; rfl), rfl⟩
end Go.Proofs.Ytlfmfhmbkpnjbaa
