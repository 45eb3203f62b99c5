import Derived.Test.YtlfmfhmbkpnjbaaSany
namespace Go.Proofs.Ytlfmfhmbkpnjbaa
open Go.RowKit

def m1 : Mob := { id := 2, team := 0, x := 0, y := 0, vx := 0, vy := 0, health := 1 }
def m2 : Mob := { id := 5, team := 1, x := 1077936128, y := 1082130432, vx := 0, vy := 0, health := 1 }
def m3 : Mob := { id := 6, team := 1, x := 1077936128, y := 1083179008, vx := 0, vy := 0, health := 1 }

theorem first_world : worldB 0 [m1, m2, m3] = true := by
  refine worldB_true 0 _ ⟨by decide, by decide⟩ (fun j hj _ => ?_)
  have h3 : j < 3 := hj
  match j, h3 with
  | 0, _ => exact ⟨by kernel_rfl, fun k _ e => by omega⟩
  | 1, _ => exact ⟨by kernel_rfl, fun k _ e => by obtain rfl : k = 0 := by omega
                                                  simp [m1, m2, m3]⟩
  | 2, _ => exact ⟨by kernel_rfl, fun k _ e => by obtain rfl : k = 1 := by omega
                                                  simp [m1, m2, m3]⟩

theorem first_c (p : Option Addr) (cap : Nat) (w : World) (h : Reads w p [m1, m2, m3]) :
    Calls Try.prog 23 #[.agg #[.int .i64 0, .slice p 3 cap], .int .i64 2, .float .f32 1084227584] w fun e w' =>
      ∃ q cq, e = .returned (.tuple #[.agg #[.int .i64 0, .slice q 2 cq], .int .i64 0]) ∧ Kept (fun _ => False) w w' := by
  have hf : findB [m1, m2, m3] 2 = true := findB_true 0 (by kernel_rfl) (by decide) rfl
  have hok : okV 1084227584 := by unfold okV; kernel_rfl
  refine (seen_ok 0 2 1084227584 p cap [m1, m2, m3] w h first_world 0 (by kernel_rfl) (by decide) hf hok (by kernel_rfl)).mono ?_
  rintro e w' ⟨g, cur, _, rfl, _, hk⟩
  have hl : (List.filter (fun e => seesB [m1, m2, m3][0] e 1084227584) [m1, m2, m3]).length = 2 := by kernel_rfl
  rw [hl]
  exact ⟨_, _, rfl, hk⟩
end Go.Proofs.Ytlfmfhmbkpnjbaa
