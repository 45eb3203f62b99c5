import Derived.Test.YtlfmfhmbkpnjbaaSift
import Derived.Test.YtlfmfhmbkpnjbaaFlo
namespace Go.Proofs.Ytlfmfhmbkpnjbaa
open Go.RowKit

def moveX (m : Mob) : Mob := { m with x := (movedF m.x m.vx).1, vx := (movedF m.x m.vx).2 }
def moveY (m : Mob) : Mob := { m with y := (movedF m.y m.vy).1, vy := (movedF m.y m.vy).2 }
def moveM (m : Mob) : Mob := moveY (moveX m)

theorem set_set_same {L : List Mob} {i : Nat} (hi : i < L.length) (f : Mob → Mob) (g : Mob → Mob) : (L.set i (f L[i])).set i (g ((L.set i (f L[i]))[i]'(by simpa using hi))) = L.set i (g (f L[i])) := by simp

theorem ent_two {w : World} {g : Nat} {L : List Mob} {cur : List Value} (h : EntAt w g L cur) (i : Nat) (hi : i < L.length) (a b : Nat) : ∃ cur',
    EntAt ((w.setCell ⟨g, i * 7 + 2, none⟩ (.float .f32 a)).setCell ⟨g, i * 7 + 4, none⟩ (.float .f32 b)) g (L.set i { L[i] with x := a, vx := b }) cur' := by
  have h1 := h.store (i * 7 + 2) (.float .f32 a) (L' := L.set i { L[i] with x := a }) (by simp) (setx L i hi a)
  have h2 := h1.store (i * 7 + 4) (.float .f32 b) (L' := (L.set i { L[i] with x := a }).set i { (L.set i { L[i] with x := a })[i]'(by simpa using hi) with vx := b }) (by simp) (setvx _ i (by simpa using hi) b)
  simp only [List.getElem_set_self, List.set_set] at h2
  exact ⟨_, h2⟩

theorem ent_two' {w : World} {g : Nat} {L : List Mob} {cur : List Value} (h : EntAt w g L cur) (i : Nat) (hi : i < L.length) (a b : Nat) : ∃ cur',
    EntAt ((w.setCell ⟨g, i * 7 + 4, none⟩ (.float .f32 b)).setCell ⟨g, i * 7 + 2, none⟩ (.float .f32 a)) g (L.set i { L[i] with x := a, vx := b }) cur' := by
  have h1 := h.store (i * 7 + 4) (.float .f32 b) (L' := L.set i { L[i] with vx := b }) (by simp) (setvx L i hi b)
  have h2 := h1.store (i * 7 + 2) (.float .f32 a) (L' := (L.set i { L[i] with vx := b }).set i { (L.set i { L[i] with vx := b })[i]'(by simpa using hi) with x := a }) (by simp) (setx _ i (by simpa using hi) a)
  simp only [List.getElem_set_self, List.set_set] at h2
  exact ⟨_, h2⟩

theorem ent_twoY {w : World} {g : Nat} {L : List Mob} {cur : List Value} (h : EntAt w g L cur) (i : Nat) (hi : i < L.length) (a b : Nat) : ∃ cur',
    EntAt ((w.setCell ⟨g, i * 7 + 3, none⟩ (.float .f32 a)).setCell ⟨g, i * 7 + 5, none⟩ (.float .f32 b)) g (L.set i { L[i] with y := a, vy := b }) cur' := by
  have h1 := h.store (i * 7 + 3) (.float .f32 a) (L' := L.set i { L[i] with y := a }) (by simp) (sety L i hi a)
  have h2 := h1.store (i * 7 + 5) (.float .f32 b) (L' := (L.set i { L[i] with y := a }).set i { (L.set i { L[i] with y := a })[i]'(by simpa using hi) with vy := b }) (by simp) (setvy _ i (by simpa using hi) b)
  simp only [List.getElem_set_self, List.set_set] at h2
  exact ⟨_, h2⟩

theorem ent_twoY' {w : World} {g : Nat} {L : List Mob} {cur : List Value} (h : EntAt w g L cur) (i : Nat) (hi : i < L.length) (a b : Nat) : ∃ cur',
    EntAt ((w.setCell ⟨g, i * 7 + 5, none⟩ (.float .f32 b)).setCell ⟨g, i * 7 + 3, none⟩ (.float .f32 a)) g (L.set i { L[i] with y := a, vy := b }) cur' := by
  have h1 := h.store (i * 7 + 5) (.float .f32 b) (L' := L.set i { L[i] with vy := b }) (by simp) (setvy L i hi b)
  have h2 := h1.store (i * 7 + 3) (.float .f32 a) (L' := (L.set i { L[i] with vy := b }).set i { (L.set i { L[i] with vy := b })[i]'(by simpa using hi) with y := a }) (by simp) (sety _ i (by simpa using hi) a)
  simp only [List.getElem_set_self, List.set_set] at h2
  exact ⟨_, h2⟩

set_option maxHeartbeats 1000000 in
set_option maxRecDepth 100000 in
theorem move_c (g i : Nat) (L : List Mob) (cur : List Value) (w : World) (hil : i < L.length) (h : EntAt w g L cur) (hx : isNum L[i].x) (hy : isNum L[i].y) (hvx : okV L[i].vx) (hvy : okV L[i].vy) :
    Calls Try.prog 52 #[.pointer (some ⟨g, i * 7, none⟩)] w fun e w' =>
      e = .returned (.tuple #[]) ∧ (∃ cur', EntAt w' g (L.set i (moveM L[i])) cur') ∧ Kept (fun k => k = g) w w' := by
  obtain ⟨c0, c1, c2, c3, c4, c5, c6⟩ := h.at i hil
  have f2 := h.warm (i * 7 + 2)
  have f4 := h.warm (i * 7 + 4)
  have hsf := store_float Try.prog
  have H := hide h
  clear h
  go_enter Try.func52, Try.ntmps52
  go_wp2
  go_region_with ((go_at_call 78; refine (moved_c _ _ _ hx hvx).mono ?_; rintro e w1 ⟨rfl, rfl⟩))
  all_goals
    go_wp2
    have HE : Hid (∃ cur', EntAt ((w.setCell ⟨g, i * 7 + 2, none⟩ (.float .f32 (movedF L[i].x L[i].vx).1)).setCell ⟨g, i * 7 + 4, none⟩ (.float .f32 (movedF L[i].x L[i].vx).2)).drew g (L.set i (moveX L[i])) cur') := by
      obtain ⟨cu, q⟩ := ent_two H.out i hil (movedF L[i].x L[i].vx).1 (movedF L[i].x L[i].vx).2
      exact ⟨cu, q.calm (Kept.drew _)⟩
    have HK : Hid (Kept (fun k => k = g) w ((w.setCell ⟨g, i * 7 + 2, none⟩ (.float .f32 (movedF L[i].x L[i].vx).1)).setCell ⟨g, i * 7 + 4, none⟩ (.float .f32 (movedF L[i].x L[i].vx).2)).drew) :=
      (((Kept.setCell w _ _).join (Kept.setCell _ _ _) (R := fun k => k = g) (fun _ _ e => e) (fun _ _ e => e))).join (Kept.drew _) (fun _ _ e => e) (fun _ _ e => e.elim)
    clear c0 c1 c2 c3 c4 c5 c6 f2 f4 H
    generalize ((w.setCell ⟨g, i * 7 + 2, none⟩ (.float .f32 (movedF L[i].x L[i].vx).1)).setCell ⟨g, i * 7 + 4, none⟩ (.float .f32 (movedF L[i].x L[i].vx).2)).drew = w1 at *
    obtain ⟨cu1, q1⟩ := HE.out
    have hil1 : i < (L.set i (moveX L[i])).length := by simpa using hil
    obtain ⟨c0, c1, c2, c3, c4, c5, c6⟩ := q1.at i hil1
    have f3 := q1.warm (i * 7 + 3)
    have f5 := q1.warm (i * 7 + 5)
    simp only [List.getElem_set_self, moveX] at c3 c5
    have Q1 := hide q1
    clear q1 c0 c1 c2 c4 c6 HE
    go_region_with ((go_at_call 78; refine (moved_c _ _ _ hy hvy).mono ?_; rintro e w2 ⟨rfl, rfl⟩))
    all_goals
      go_wp2
      go_end0
      refine ⟨rfl, ?_, HK.out.join (((Kept.setCell w1 _ _).join (Kept.setCell _ _ _) (R := fun k => k = g) (fun _ _ e => e) (fun _ _ e => e)).join (Kept.drew _) (fun _ _ e => e) (fun _ _ e => e.elim)) (fun _ _ e => e) (fun _ _ e => e)⟩
      obtain ⟨cu, q⟩ := ent_twoY Q1.out i hil1 (movedF L[i].y L[i].vy).1 (movedF L[i].y L[i].vy).2
      simp only [List.getElem_set_self, List.set_set] at q
      exact ⟨cu, q.calm (Kept.drew _)⟩
end Go.Proofs.Ytlfmfhmbkpnjbaa
