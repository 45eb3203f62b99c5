import Derived.Test.YtgclehnhjjkdbaaGreatDoorRstep
namespace Go.Proofs.YtgclehnhjjkdbaaGreatDoor
open Go.RowKit

/-- What a step answers: tick, entities, error. -/
noncomputable def stepR (t : Int) (L : List Mob) (cs : List Cmd) : Sn :=
  if worldB t L = false then ⟨0, [], 2⟩ else if t = 500 then ⟨0, [], 2⟩ else if 64 < cs.length then ⟨0, [], 1⟩ else ⟨t + 1, stepL cs L, 0⟩

theorem stepR_small (t : Int) (L : List Mob) (cs : List Cmd) : (stepR t L cs).X.length ≤ 32 ∧ ∀ m ∈ (stepR t L cs).X, eqM m m = true := by
  unfold stepR
  split
  · exact ⟨Nat.zero_le _, fun m hm => by cases hm⟩
  · rename_i hb
    have hb : worldB t L = true := by simpa using hb
    split
    · exact ⟨Nat.zero_le _, fun m hm => by cases hm⟩
    · rename_i ht
      split
      · exact ⟨Nat.zero_le _, fun m hm => by cases hm⟩
      · have h2 := worldB_next cs hb ht
        refine ⟨(worldB_fine h2).2.2.short, fun m hm => ?_⟩
        exact fine_eq ((worldB_fine h2).2.2.mob m hm)

/-- Where the answer is OK, it is a world's list again, and no longer than it was, or than a world's is. -/
theorem stepR_len (t : Int) (L : List Mob) (cs : List Cmd) : (stepR t L cs).X.length ≤ 32 := (stepR_small t L cs).1

theorem step_any (t : Int) (p pc : Option Addr) (cap capc : Nat) (L : List Mob) (cs : List Cmd) (w : World) (hl : (L.length : Int) ≤ 4611686018427387903) (h : Reads w p L) (hp : p = none → cap = 0) (hc : ReadsC w pc cs) :
    Calls Tryz.prog 31 #[.agg #[.int .i64 t, .slice p L.length cap], .slice pc cs.length capc] w fun e w' =>
      ∃ q cq, e = .returned (.tuple #[.agg #[.int .i64 (stepR t L cs).t, .slice q (stepR t L cs).X.length cq], .int .i64 (stepR t L cs).e]) ∧ Raw w' q (stepR t L cs).X.length cq ∧ Reads w' q (stepR t L cs).X ∧ (∀ j, HB q j → w.heap.size ≤ j) ∧ Kept (fun _ => False) w w' := by
  have none_ok : ∀ w' : World, Raw w' none 0 0 ∧ Reads w' none [] ∧ (∀ j, HB none j → w.heap.size ≤ j) := fun w' => ⟨Or.inl ⟨rfl, rfl, rfl⟩, fun h => absurd rfl h, fun j hj => by obtain ⟨_, e⟩ := hj; cases e⟩
  unfold stepR
  split
  · rename_i hb
    refine (step_bad t p pc cap cs.length capc L w hl h hb).mono ?_
    rintro e w' ⟨rfl, hk⟩
    exact ⟨none, 0, rfl, (none_ok w').1, (none_ok w').2.1, (none_ok w').2.2, hk⟩
  · rename_i hb
    have hb : worldB t L = true := by simpa using hb
    split
    · rename_i ht
      subst ht
      refine (step_last p pc cap cs.length capc L w hl h hb).mono ?_
      rintro e w' ⟨rfl, hk⟩
      exact ⟨none, 0, rfl, (none_ok w').1, (none_ok w').2.1, (none_ok w').2.2, hk⟩
    · rename_i ht
      split
      · rename_i hn
        refine (step_many t p pc cap cs.length capc L w hl h hb ht hn).mono ?_
        rintro e w' ⟨rfl, hk⟩
        exact ⟨none, 0, rfl, (none_ok w').1, (none_ok w').2.1, (none_ok w').2.2, hk⟩
      · rename_i hn
        refine (step_ok t p pc cap capc L cs w hl h hp hc hb ht (by omega)).mono ?_
        rintro e w' ⟨g, cur, hg, rfl, hr, hk⟩
        exact ⟨some ⟨g, 0, none⟩, 32, rfl, Or.inr ⟨g, cur, rfl, hr.blk, hr.len, hr.short⟩, hr.reads, fun j hj => by obtain ⟨_, e⟩ := hj; cases e; exact hg, hk⟩

theorem rstep_any (t : Int) (p pc : Option Addr) (cap capc : Nat) (L : List Mob) (cs : List Cmd) (w : World) (hl : (L.length : Int) ≤ 4611686018427387903) (h : Reads w p L) (hp : p = none → cap = 0) (hc : ReadsC w pc cs) :
    Calls Tryz.prog 22 #[.agg #[.int .i64 t, .slice p L.length cap], .slice pc cs.length capc] w fun e w' =>
      ∃ q cq, e = .returned (.tuple #[.agg #[.int .i64 (stepR t L cs).t, .slice q (stepR t L cs).X.length cq], .int .i64 (stepR t L cs).e]) ∧ OwnE w' w.heap.size q cq (stepR t L cs).X ∧ Kept (fun _ => False) w w' := by
  unfold stepR
  split
  · rename_i hb
    refine (rstep_bad t p pc cap cs.length capc L w hl h hb).mono ?_
    rintro e w' ⟨rfl, hk⟩
    exact ⟨none, 0, rfl, OwnE.nil _ _, hk⟩
  · rename_i hb
    have hb : worldB t L = true := by simpa using hb
    split
    · rename_i ht
      subst ht
      refine (rstep_last p pc cap cs.length capc L w hl h hb).mono ?_
      rintro e w' ⟨rfl, hk⟩
      exact ⟨none, 0, rfl, OwnE.nil _ _, hk⟩
    · rename_i ht
      split
      · rename_i hn
        refine (rstep_many t p pc cap cs.length capc L w hl h hb ht hn).mono ?_
        rintro e w' ⟨rfl, hk⟩
        exact ⟨none, 0, rfl, OwnE.nil _ _, hk⟩
      · rename_i hn
        exact rstep_ok t p pc cap capc L cs w h hp hc hb ht (by omega)

/-- The document's second example. -/
def k1 : Cmd := { kind := 1, id := 3, team := 0, x := 1092616192, y := 1148829696, n := 0 }
def k2 : Cmd := { kind := 2, id := 3, team := 0, x := 1082130432, y := 1073741824, n := 0 }
def km : Mob := { id := 3, team := 0, x := 1096810496, y := 1148846080, vx := 1077936128, vy := 3208642560, health := 100 }

theorem known_step : stepR 0 [] [k1, k2] = ⟨1, [km], 0⟩ := by
  unfold stepR
  rw [if_neg (by rw [worldB_true 0 [] ⟨by decide, by decide⟩ (fun j hj _ => absurd hj (Nat.not_lt_zero _))]; decide), if_neg (by decide), if_neg (by decide)]
  congr 1
end Go.Proofs.YtgclehnhjjkdbaaGreatDoor
