import Derived.Test.YtlfmfhmbkpnjbabGreatDoorPy1
import Derived.Test.YtlfmfhmbkpnjbabGreatDoorRows
import Derived.WalkLawsBesides
import Derived.Deep.RegionHeld3
namespace Go.Proofs.YtlfmfhmbkpnjbabGreatDoor
open Go.RowKit

/-- An entity; the numbers with a point by their bits. -/
structure Mob where
  id : Int
  team : Int
  x : Nat
  y : Nat
  vx : Nat
  vy : Nat
  health : Int

/-- The cells of a row of entities, seven each. -/
def rowM : List Mob → List Value
  | [] => []
  | m :: r => .int .i64 m.id :: .int .i64 m.team :: .float .f32 m.x :: .float .f32 m.y :: .float .f32 m.vx :: .float .f32 m.vy :: .int .i64 m.health :: rowM r

theorem rowM_length (L : List Mob) : (rowM L).length = L.length * 7 := by
  induction L with
  | nil => rfl
  | cons p r ih => simp only [rowM, List.length_cons, ih]; omega

theorem rowM_append (L M : List Mob) : rowM (L ++ M) = rowM L ++ rowM M := by
  induction L with
  | nil => rfl
  | cons p r ih => simp [rowM, ih]

theorem rowM_take (L : List Mob) (n : Nat) : (rowM L).take (n * 7) = rowM (L.take n) := by
  induction L generalizing n with
  | nil => simp [rowM]
  | cons p r ih =>
    cases n with
    | zero => simp [rowM]
    | succ m => rw [show (m + 1) * 7 = m * 7 + 1 + 1 + 1 + 1 + 1 + 1 + 1 from by omega]; simp [rowM, ih]

theorem rowM_drop (L : List Mob) (n : Nat) : (rowM L).drop (n * 7) = rowM (L.drop n) := by
  induction L generalizing n with
  | nil => simp [rowM]
  | cons p r ih =>
    cases n with
    | zero => simp
    | succ m => rw [show (m + 1) * 7 = m * 7 + 1 + 1 + 1 + 1 + 1 + 1 + 1 from by omega]; simp [rowM, ih]

theorem rowM_get (L : List Mob) (j : Nat) (h : j < L.length) :
    (rowM L)[j * 7]? = some (.int .i64 L[j].id) ∧ (rowM L)[j * 7 + 1]? = some (.int .i64 L[j].team) ∧ (rowM L)[j * 7 + 2]? = some (.float .f32 L[j].x) ∧ (rowM L)[j * 7 + 3]? = some (.float .f32 L[j].y) ∧
    (rowM L)[j * 7 + 4]? = some (.float .f32 L[j].vx) ∧ (rowM L)[j * 7 + 5]? = some (.float .f32 L[j].vy) ∧ (rowM L)[j * 7 + 6]? = some (.int .i64 L[j].health) := by
  induction L generalizing j with
  | nil => simp at h
  | cons p r ih =>
    cases j with
    | zero => simp [rowM]
    | succ m =>
      have := ih m (by simpa using h)
      rw [show (m + 1) * 7 = m * 7 + 1 + 1 + 1 + 1 + 1 + 1 + 1 from by omega]
      simpa [rowM, Nat.add_assoc] using this

theorem rowM_one (L : List Mob) : ∀ u ∈ rowM L, u.oneCell' = true := by
  induction L with
  | nil => simp [rowM]
  | cons p r ih =>
    intro u hu
    simp only [rowM, List.mem_cons] at hu
    rcases hu with rfl | rfl | rfl | rfl | rfl | rfl | rfl | h
    · rfl
    · rfl
    · rfl
    · rfl
    · rfl
    · rfl
    · rfl
    · exact ih u h

abbrev ford (x y : Nat) : Option Ordering := FloatKind.f32.format.order x y
def fge (x y : Nat) : Bool := ford x y == some .gt || ford x y == some .eq
def fle (x y : Nat) : Bool := ford x y == some .lt || ford x y == some .eq
def fitsB (x b : Nat) : Bool := fge x (Op.negFloat .f32 b) && fle x b

theorem run_neg (P : Program) (b : Nat) (w : World) : Sem.run P (Op.unary UnOp.neg (.float .f32 b)) w = .ok (.float .f32 (Op.negFloat .f32 b)) w := rfl

set_option maxHeartbeats 400000 in
theorem fits_c (x b : Nat) (w : World) : Calls Tryz.prog 103 #[.float .f32 x, .float .f32 b] w fun e w' => e = .returned (.bool (fitsB x b)) ∧ w' = w := by
  have hn := run_neg Tryz.prog b w
  cases h1 : fge x (Op.negFloat .f32 b)
  · have H : Hid (fitsB x b = false) := by show fitsB x b = false; simp [fitsB, h1]
    unfold fge ford at h1
    go_enter Tryz.func103, Tryz.ntmps103
    go_wp2
    go_ret
    exact ⟨ret1 (by rw [H.out]; rfl), rfl⟩
  · cases h2 : fle x b
    · have H : Hid (fitsB x b = false) := by show fitsB x b = false; simp [fitsB, h2]
      unfold fge ford at h1
      unfold fle ford at h2
      go_enter Tryz.func103, Tryz.ntmps103
      go_wp2
      go_ret
      exact ⟨ret1 (by rw [H.out]; rfl), rfl⟩
    · have H : Hid (fitsB x b = true) := by show fitsB x b = true; simp [fitsB, h1, h2]
      unfold fge ford at h1
      unfold fle ford at h2
      go_enter Tryz.func103, Tryz.ntmps103
      go_wp2
      go_ret
      exact ⟨ret1 (by rw [H.out]; rfl), rfl⟩
end Go.Proofs.YtlfmfhmbkpnjbabGreatDoor

namespace Go.Proofs.YtlfmfhmbkpnjbabGreatDoor
open Go.RowKit

def finB (v : Nat) : Bool := fitsB v 2139095039
def idB (i : Int) : Bool := decide (0 ≤ i) && decide (i ≤ 31)
def teamB (t : Int) : Bool := decide (t = 0) || decide (t = 1)
def placeB (x y : Nat) : Bool := fitsB x 1148846080 && fitsB y 1148846080
def mobB (m : Mob) : Bool := idB m.id && teamB m.team && placeB m.x m.y && finB m.vx && finB m.vy && decide (1 ≤ m.health) && decide (m.health ≤ 100)
def hitB (n : Int) : Bool := decide (1 ≤ n) && decide (n ≤ 100)
def pushB (x y : Nat) : Bool := fitsB x 1120403456 && fitsB y 1120403456
def spawnB (i t : Int) (x y : Nat) : Bool := idB i && teamB t && placeB x y

theorem isFinite_c (v : Nat) (w : World) : Calls Tryz.prog 83 #[.float .f32 v] w fun e w' => e = .returned (.bool (finB v)) ∧ w' = w := by
  go_enter Tryz.func83, Tryz.ntmps83
  go_wp2_with fail
  refine (fits_c _ _ _).mono ?_
  rintro e w' ⟨rfl, rfl⟩
  go_wp2
  go_ret
  exact ⟨rfl, rfl⟩

theorem isTeam_c (t : Int) (w : World) : Calls Tryz.prog 81 #[.int .i64 t] w fun e w' => e = .returned (.bool (teamB t)) ∧ w' = w := by
  by_cases h0 : t = 0
  · have H : Hid (teamB t = true) := by show teamB t = true; simp [teamB, h0]
    have h0 : (t == 0) = true := by simp [h0]
    go_enter Tryz.func81, Tryz.ntmps81
    go_wp2
    go_ret
    exact ⟨ret1 (by rw [H.out]; rfl), rfl⟩
  · by_cases h1 : t = 1
    · have H : Hid (teamB t = true) := by show teamB t = true; simp [teamB, h1]
      have h0 : (t == 0) = false := by simp [h0]
      have h1 : (t == 1) = true := by simp [h1]
      go_enter Tryz.func81, Tryz.ntmps81
      go_wp2
      go_ret
      exact ⟨ret1 (by rw [H.out]; rfl), rfl⟩
    · have H : Hid (teamB t = false) := by show teamB t = false; simp [teamB, h0, h1]
      have h0 : (t == 0) = false := by simp [h0]
      have h1 : (t == 1) = false := by simp [h1]
      go_enter Tryz.func81, Tryz.ntmps81
      go_wp2
      go_ret
      exact ⟨ret1 (by rw [H.out]; rfl), rfl⟩

set_option maxHeartbeats 400000 in
set_option maxRecDepth 100000 in
theorem isID_c (i : Int) (w : World) : Calls Tryz.prog 80 #[.int .i64 i] w fun e w' => e = .returned (.bool (idB i)) ∧ w' = w := by
  cases h0 : decide (0 ≤ i)
  · skip
    have H : Hid (idB i = false) := by show idB i = false; simp [idB, h0]
    have h0 := of_decide_eq_false h0
    go_enter Tryz.func80, Tryz.ntmps80
    go_wp2
    go_ret
    exact ⟨ret1 (by rw [H.out]; rfl), rfl⟩
  · skip
    cases h1 : decide (i ≤ 31)
    · skip
      have H : Hid (idB i = false) := by show idB i = false; simp [idB, h0, h1]
      have h0 := of_decide_eq_true h0
      have h1 := of_decide_eq_false h1
      go_enter Tryz.func80, Tryz.ntmps80
      go_wp2
      go_ret
      exact ⟨ret1 (by rw [H.out]; rfl), rfl⟩
    · skip
      have H : Hid (idB i = true) := by show idB i = true; simp [idB, h0, h1]
      have h0 := of_decide_eq_true h0
      have h1 := of_decide_eq_true h1
      go_enter Tryz.func80, Tryz.ntmps80
      go_wp2
      go_ret
      exact ⟨ret1 (by rw [H.out]; rfl), rfl⟩

set_option maxHeartbeats 400000 in
set_option maxRecDepth 100000 in
theorem isPlace_c (x y : Nat) (w : World) : Calls Tryz.prog 82 #[.float .f32 x, .float .f32 y] w fun e w' => e = .returned (.bool (placeB x y)) ∧ w' = w := by
  cases h0 : fitsB x 1148846080
  · skip
    have H : Hid (placeB x y = false) := by show placeB x y = false; simp [placeB, h0]
    go_enter Tryz.func82, Tryz.ntmps82
    go_wp2_with fail
    refine (fits_c _ _ _).mono ?_
    rintro e w' ⟨rfl, rfl⟩
    go_wp2
    go_ret
    exact ⟨ret1 (by rw [H.out]; rfl), rfl⟩
  · skip
    cases h1 : fitsB y 1148846080
    · skip
      have H : Hid (placeB x y = false) := by show placeB x y = false; simp [placeB, h0, h1]
      go_enter Tryz.func82, Tryz.ntmps82
      go_wp2_with fail
      refine (fits_c _ _ _).mono ?_
      rintro e w' ⟨rfl, rfl⟩
      go_wp2_with fail
      refine (fits_c _ _ _).mono ?_
      rintro e w' ⟨rfl, rfl⟩
      go_wp2
      go_ret
      exact ⟨ret1 (by rw [H.out]; rfl), rfl⟩
    · skip
      have H : Hid (placeB x y = true) := by show placeB x y = true; simp [placeB, h0, h1]
      go_enter Tryz.func82, Tryz.ntmps82
      go_wp2_with fail
      refine (fits_c _ _ _).mono ?_
      rintro e w' ⟨rfl, rfl⟩
      go_wp2_with fail
      refine (fits_c _ _ _).mono ?_
      rintro e w' ⟨rfl, rfl⟩
      go_wp2
      go_ret
      exact ⟨ret1 (by rw [H.out]; rfl), rfl⟩

set_option maxHeartbeats 400000 in
set_option maxRecDepth 100000 in
theorem isEntity_c (m : Mob) (w : World) : Calls Tryz.prog 61 #[.agg #[.int .i64 m.id, .int .i64 m.team, .float .f32 m.x, .float .f32 m.y, .float .f32 m.vx, .float .f32 m.vy, .int .i64 m.health]] w fun e w' => e = .returned (.bool (mobB m)) ∧ Kept (fun _ => False) w w' := by
  cases h0 : idB m.id
  · skip
    have H : Hid (mobB m = false) := by show mobB m = false; simp [mobB, h0]
    go_enter Tryz.func61, Tryz.ntmps61
    go_wp2_with fail
    refine (isID_c _ _).mono ?_
    rintro e w' ⟨rfl, rfl⟩
    go_wp2
    go_ret
    exact ⟨ret1 (by rw [H.out]; rfl), Kept.alloc w _⟩
  · skip
    cases h1 : teamB m.team
    · skip
      have H : Hid (mobB m = false) := by show mobB m = false; simp [mobB, h0, h1]
      go_enter Tryz.func61, Tryz.ntmps61
      go_wp2_with fail
      refine (isID_c _ _).mono ?_
      rintro e w' ⟨rfl, rfl⟩
      go_wp2_with fail
      refine (isTeam_c _ _).mono ?_
      rintro e w' ⟨rfl, rfl⟩
      go_wp2
      go_ret
      exact ⟨ret1 (by rw [H.out]; rfl), Kept.alloc w _⟩
    · skip
      cases h2 : placeB m.x m.y
      · skip
        have H : Hid (mobB m = false) := by show mobB m = false; simp [mobB, h0, h1, h2]
        go_enter Tryz.func61, Tryz.ntmps61
        go_wp2_with fail
        refine (isID_c _ _).mono ?_
        rintro e w' ⟨rfl, rfl⟩
        go_wp2_with fail
        refine (isTeam_c _ _).mono ?_
        rintro e w' ⟨rfl, rfl⟩
        go_wp2_with fail
        refine (isPlace_c _ _ _).mono ?_
        rintro e w' ⟨rfl, rfl⟩
        go_wp2
        go_ret
        exact ⟨ret1 (by rw [H.out]; rfl), Kept.alloc w _⟩
      · skip
        cases h3 : finB m.vx
        · skip
          have H : Hid (mobB m = false) := by show mobB m = false; simp [mobB, h0, h1, h2, h3]
          go_enter Tryz.func61, Tryz.ntmps61
          go_wp2_with fail
          refine (isID_c _ _).mono ?_
          rintro e w' ⟨rfl, rfl⟩
          go_wp2_with fail
          refine (isTeam_c _ _).mono ?_
          rintro e w' ⟨rfl, rfl⟩
          go_wp2_with fail
          refine (isPlace_c _ _ _).mono ?_
          rintro e w' ⟨rfl, rfl⟩
          go_wp2_with fail
          refine (isFinite_c _ _).mono ?_
          rintro e w' ⟨rfl, rfl⟩
          go_wp2
          go_ret
          exact ⟨ret1 (by rw [H.out]; rfl), Kept.alloc w _⟩
        · skip
          cases h4 : finB m.vy
          · skip
            have H : Hid (mobB m = false) := by show mobB m = false; simp [mobB, h0, h1, h2, h3, h4]
            go_enter Tryz.func61, Tryz.ntmps61
            go_wp2_with fail
            refine (isID_c _ _).mono ?_
            rintro e w' ⟨rfl, rfl⟩
            go_wp2_with fail
            refine (isTeam_c _ _).mono ?_
            rintro e w' ⟨rfl, rfl⟩
            go_wp2_with fail
            refine (isPlace_c _ _ _).mono ?_
            rintro e w' ⟨rfl, rfl⟩
            go_wp2_with fail
            refine (isFinite_c _ _).mono ?_
            rintro e w' ⟨rfl, rfl⟩
            go_wp2_with fail
            refine (isFinite_c _ _).mono ?_
            rintro e w' ⟨rfl, rfl⟩
            go_wp2
            go_ret
            exact ⟨ret1 (by rw [H.out]; rfl), Kept.alloc w _⟩
          · skip
            cases h5 : decide (1 ≤ m.health)
            · skip
              have H : Hid (mobB m = false) := by show mobB m = false; simp [mobB, h0, h1, h2, h3, h4, h5]
              have h5 := of_decide_eq_false h5
              go_enter Tryz.func61, Tryz.ntmps61
              go_wp2_with fail
              refine (isID_c _ _).mono ?_
              rintro e w' ⟨rfl, rfl⟩
              go_wp2_with fail
              refine (isTeam_c _ _).mono ?_
              rintro e w' ⟨rfl, rfl⟩
              go_wp2_with fail
              refine (isPlace_c _ _ _).mono ?_
              rintro e w' ⟨rfl, rfl⟩
              go_wp2_with fail
              refine (isFinite_c _ _).mono ?_
              rintro e w' ⟨rfl, rfl⟩
              go_wp2_with fail
              refine (isFinite_c _ _).mono ?_
              rintro e w' ⟨rfl, rfl⟩
              go_wp2
              go_ret
              exact ⟨ret1 (by rw [H.out]; rfl), Kept.alloc w _⟩
            · skip
              cases h6 : decide (m.health ≤ 100)
              · skip
                have H : Hid (mobB m = false) := by show mobB m = false; simp [mobB, h0, h1, h2, h3, h4, h5, h6]
                have h5 := of_decide_eq_true h5
                have h6 := of_decide_eq_false h6
                go_enter Tryz.func61, Tryz.ntmps61
                go_wp2_with fail
                refine (isID_c _ _).mono ?_
                rintro e w' ⟨rfl, rfl⟩
                go_wp2_with fail
                refine (isTeam_c _ _).mono ?_
                rintro e w' ⟨rfl, rfl⟩
                go_wp2_with fail
                refine (isPlace_c _ _ _).mono ?_
                rintro e w' ⟨rfl, rfl⟩
                go_wp2_with fail
                refine (isFinite_c _ _).mono ?_
                rintro e w' ⟨rfl, rfl⟩
                go_wp2_with fail
                refine (isFinite_c _ _).mono ?_
                rintro e w' ⟨rfl, rfl⟩
                go_wp2
                go_ret
                exact ⟨ret1 (by rw [H.out]; rfl), Kept.alloc w _⟩
              · skip
                have H : Hid (mobB m = true) := by show mobB m = true; simp [mobB, h0, h1, h2, h3, h4, h5, h6]
                have h5 := of_decide_eq_true h5
                have h6 := of_decide_eq_true h6
                go_enter Tryz.func61, Tryz.ntmps61
                go_wp2_with fail
                refine (isID_c _ _).mono ?_
                rintro e w' ⟨rfl, rfl⟩
                go_wp2_with fail
                refine (isTeam_c _ _).mono ?_
                rintro e w' ⟨rfl, rfl⟩
                go_wp2_with fail
                refine (isPlace_c _ _ _).mono ?_
                rintro e w' ⟨rfl, rfl⟩
                go_wp2_with fail
                refine (isFinite_c _ _).mono ?_
                rintro e w' ⟨rfl, rfl⟩
                go_wp2_with fail
                refine (isFinite_c _ _).mono ?_
                rintro e w' ⟨rfl, rfl⟩
                go_wp2
                go_ret
                exact ⟨ret1 (by rw [H.out]; rfl), Kept.alloc w _⟩

set_option maxHeartbeats 400000 in
set_option maxRecDepth 100000 in
theorem spawnIn_c (i t : Int) (x y : Nat) (w : World) : Calls Tryz.prog 153 #[.agg #[.int .i64 i, .int .i64 t, .float .f32 x, .float .f32 y]] w fun e w' => e = .returned (.bool (spawnB i t x y)) ∧ Kept (fun _ => False) w w' := by
  cases h0 : idB i
  · skip
    have H : Hid (spawnB i t x y = false) := by show spawnB i t x y = false; simp [spawnB, h0]
    go_enter Tryz.func153, Tryz.ntmps153
    go_wp2_with fail
    refine (isID_c _ _).mono ?_
    rintro e w' ⟨rfl, rfl⟩
    go_wp2
    go_ret
    exact ⟨ret1 (by rw [H.out]; rfl), Kept.alloc w _⟩
  · skip
    cases h1 : teamB t
    · skip
      have H : Hid (spawnB i t x y = false) := by show spawnB i t x y = false; simp [spawnB, h0, h1]
      go_enter Tryz.func153, Tryz.ntmps153
      go_wp2_with fail
      refine (isID_c _ _).mono ?_
      rintro e w' ⟨rfl, rfl⟩
      go_wp2_with fail
      refine (isTeam_c _ _).mono ?_
      rintro e w' ⟨rfl, rfl⟩
      go_wp2
      go_ret
      exact ⟨ret1 (by rw [H.out]; rfl), Kept.alloc w _⟩
    · skip
      cases h2 : placeB x y
      · skip
        have H : Hid (spawnB i t x y = false) := by show spawnB i t x y = false; simp [spawnB, h0, h1, h2]
        go_enter Tryz.func153, Tryz.ntmps153
        go_wp2_with fail
        refine (isID_c _ _).mono ?_
        rintro e w' ⟨rfl, rfl⟩
        go_wp2_with fail
        refine (isTeam_c _ _).mono ?_
        rintro e w' ⟨rfl, rfl⟩
        go_wp2_with fail
        refine (isPlace_c _ _ _).mono ?_
        rintro e w' ⟨rfl, rfl⟩
        go_wp2
        go_ret
        exact ⟨ret1 (by rw [H.out]; rfl), Kept.alloc w _⟩
      · skip
        have H : Hid (spawnB i t x y = true) := by show spawnB i t x y = true; simp [spawnB, h0, h1, h2]
        go_enter Tryz.func153, Tryz.ntmps153
        go_wp2_with fail
        refine (isID_c _ _).mono ?_
        rintro e w' ⟨rfl, rfl⟩
        go_wp2_with fail
        refine (isTeam_c _ _).mono ?_
        rintro e w' ⟨rfl, rfl⟩
        go_wp2_with fail
        refine (isPlace_c _ _ _).mono ?_
        rintro e w' ⟨rfl, rfl⟩
        go_wp2
        go_ret
        exact ⟨ret1 (by rw [H.out]; rfl), Kept.alloc w _⟩

set_option maxHeartbeats 400000 in
set_option maxRecDepth 100000 in
theorem pushIn_c (i : Int) (x y : Nat) (w : World) : Calls Tryz.prog 154 #[.agg #[.int .i64 i, .float .f32 x, .float .f32 y]] w fun e w' => e = .returned (.bool (pushB x y)) ∧ Kept (fun _ => False) w w' := by
  cases h0 : fitsB x 1120403456
  · skip
    have H : Hid (pushB x y = false) := by show pushB x y = false; simp [pushB, h0]
    go_enter Tryz.func154, Tryz.ntmps154
    go_wp2_with fail
    refine (fits_c _ _ _).mono ?_
    rintro e w' ⟨rfl, rfl⟩
    go_wp2
    go_ret
    exact ⟨ret1 (by rw [H.out]; rfl), Kept.alloc w _⟩
  · skip
    cases h1 : fitsB y 1120403456
    · skip
      have H : Hid (pushB x y = false) := by show pushB x y = false; simp [pushB, h0, h1]
      go_enter Tryz.func154, Tryz.ntmps154
      go_wp2_with fail
      refine (fits_c _ _ _).mono ?_
      rintro e w' ⟨rfl, rfl⟩
      go_wp2_with fail
      refine (fits_c _ _ _).mono ?_
      rintro e w' ⟨rfl, rfl⟩
      go_wp2
      go_ret
      exact ⟨ret1 (by rw [H.out]; rfl), Kept.alloc w _⟩
    · skip
      have H : Hid (pushB x y = true) := by show pushB x y = true; simp [pushB, h0, h1]
      go_enter Tryz.func154, Tryz.ntmps154
      go_wp2_with fail
      refine (fits_c _ _ _).mono ?_
      rintro e w' ⟨rfl, rfl⟩
      go_wp2_with fail
      refine (fits_c _ _ _).mono ?_
      rintro e w' ⟨rfl, rfl⟩
      go_wp2
      go_ret
      exact ⟨ret1 (by rw [H.out]; rfl), Kept.alloc w _⟩

set_option maxHeartbeats 400000 in
set_option maxRecDepth 100000 in
theorem hitIn_c (i n : Int) (w : World) : Calls Tryz.prog 155 #[.agg #[.int .i64 i, .int .i64 n]] w fun e w' => e = .returned (.bool (hitB n)) ∧ Kept (fun _ => False) w w' := by
  cases h0 : decide (1 ≤ n)
  · skip
    have H : Hid (hitB n = false) := by show hitB n = false; simp [hitB, h0]
    have h0 := of_decide_eq_false h0
    go_enter Tryz.func155, Tryz.ntmps155
    go_wp2
    go_ret
    exact ⟨ret1 (by rw [H.out]; rfl), Kept.alloc w _⟩
  · skip
    cases h1 : decide (n ≤ 100)
    · skip
      have H : Hid (hitB n = false) := by show hitB n = false; simp [hitB, h0, h1]
      have h0 := of_decide_eq_true h0
      have h1 := of_decide_eq_false h1
      go_enter Tryz.func155, Tryz.ntmps155
      go_wp2
      go_ret
      exact ⟨ret1 (by rw [H.out]; rfl), Kept.alloc w _⟩
    · skip
      have H : Hid (hitB n = true) := by show hitB n = true; simp [hitB, h0, h1]
      have h0 := of_decide_eq_true h0
      have h1 := of_decide_eq_true h1
      go_enter Tryz.func155, Tryz.ntmps155
      go_wp2
      go_ret
      exact ⟨ret1 (by rw [H.out]; rfl), Kept.alloc w _⟩

theorem leaveIn_c (i : Int) (w : World) : Calls Tryz.prog 156 #[.agg #[.int .i64 i]] w fun e w' => e = .returned (.bool true) ∧ Kept (fun _ => False) w w' := by
  go_enter Tryz.func156, Tryz.ntmps156
  go_wp2
  go_ret
  exact ⟨rfl, by first | exact Kept.refl _ _ | exact Kept.alloc w _⟩

theorem unknownIn_c (w : World) : Calls Tryz.prog 157 #[.agg #[]] w fun e w' => e = .returned (.bool false) ∧ Kept (fun _ => False) w w' := by
  go_enter Tryz.func157, Tryz.ntmps157
  go_wp2
  go_ret
  exact ⟨rfl, by first | exact Kept.refl _ _ | exact Kept.alloc w _⟩

end Go.Proofs.YtlfmfhmbkpnjbabGreatDoor
