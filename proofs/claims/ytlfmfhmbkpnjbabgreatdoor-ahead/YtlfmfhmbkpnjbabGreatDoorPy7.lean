import Derived.Test.YtlfmfhmbkpnjbabGreatDoorPy6
namespace Go.Proofs.YtlfmfhmbkpnjbabGreatDoor
open Go.RowKit

def moveX (m : Mob) : Mob := { m with x := (movedF m.x m.vx).1, vx := (movedF m.x m.vx).2 }
def moveY (m : Mob) : Mob := { m with y := (movedF m.y m.vy).1, vy := (movedF m.y m.vy).2 }
def moveM (m : Mob) : Mob := moveY (moveX m)

theorem set_set_same {L : List Mob} {i : Nat} (hi : i < L.length) (f : Mob → Mob) (g : Mob → Mob) : (L.set i (f L[i])).set i (g ((L.set i (f L[i]))[i]'(by simpa using hi))) = L.set i (g (f L[i])) := by simp

theorem ent_two {w : World} {g : Nat} {L : List Mob} {cur : List Value} (h : EntAt w g L cur) (i : Nat) (hi : i < L.length) (a b : Nat) : ∃ cur',
    EntAt ((w.setCell ⟨g, i * 7 + 2, none⟩ (.float .f32 a)).setCell ⟨g, i * 7 + 4, none⟩ (.float .f32 b)) g (L.set i { L[i] with x := a, vx := b }) cur' := by
  have h1 := h.store (i * 7 + 2) (.float .f32 a) (L' := L.set i { L[i] with x := a }) (by simp) (setx L i hi a)
  have h2 := h1.store (i * 7 + 4) (.float .f32 b) (L' := (L.set i { L[i] with x := a }).set i { (L.set i { L[i] with x := a })[i]'(by simpa using hi) with vx := b }) (by simp) (setvx _ i (by simpa using hi) b)
  simp only [List.getElem_set_self, List.set_set] at h2
  exact ⟨_, h2⟩

theorem ent_two' {w : World} {g : Nat} {L : List Mob} {cur : List Value} (h : EntAt w g L cur) (i : Nat) (hi : i < L.length) (a b : Nat) : ∃ cur',
    EntAt ((w.setCell ⟨g, i * 7 + 4, none⟩ (.float .f32 b)).setCell ⟨g, i * 7 + 2, none⟩ (.float .f32 a)) g (L.set i { L[i] with x := a, vx := b }) cur' := by
  have h1 := h.store (i * 7 + 4) (.float .f32 b) (L' := L.set i { L[i] with vx := b }) (by simp) (setvx L i hi b)
  have h2 := h1.store (i * 7 + 2) (.float .f32 a) (L' := (L.set i { L[i] with vx := b }).set i { (L.set i { L[i] with vx := b })[i]'(by simpa using hi) with x := a }) (by simp) (setx _ i (by simpa using hi) a)
  simp only [List.getElem_set_self, List.set_set] at h2
  exact ⟨_, h2⟩

theorem ent_twoY {w : World} {g : Nat} {L : List Mob} {cur : List Value} (h : EntAt w g L cur) (i : Nat) (hi : i < L.length) (a b : Nat) : ∃ cur',
    EntAt ((w.setCell ⟨g, i * 7 + 3, none⟩ (.float .f32 a)).setCell ⟨g, i * 7 + 5, none⟩ (.float .f32 b)) g (L.set i { L[i] with y := a, vy := b }) cur' := by
  have h1 := h.store (i * 7 + 3) (.float .f32 a) (L' := L.set i { L[i] with y := a }) (by simp) (sety L i hi a)
  have h2 := h1.store (i * 7 + 5) (.float .f32 b) (L' := (L.set i { L[i] with y := a }).set i { (L.set i { L[i] with y := a })[i]'(by simpa using hi) with vy := b }) (by simp) (setvy _ i (by simpa using hi) b)
  simp only [List.getElem_set_self, List.set_set] at h2
  exact ⟨_, h2⟩

theorem ent_twoY' {w : World} {g : Nat} {L : List Mob} {cur : List Value} (h : EntAt w g L cur) (i : Nat) (hi : i < L.length) (a b : Nat) : ∃ cur',
    EntAt ((w.setCell ⟨g, i * 7 + 5, none⟩ (.float .f32 b)).setCell ⟨g, i * 7 + 3, none⟩ (.float .f32 a)) g (L.set i { L[i] with y := a, vy := b }) cur' := by
  have h1 := h.store (i * 7 + 5) (.float .f32 b) (L' := L.set i { L[i] with vy := b }) (by simp) (setvy L i hi b)
  have h2 := h1.store (i * 7 + 3) (.float .f32 a) (L' := (L.set i { L[i] with vy := b }).set i { (L.set i { L[i] with vy := b })[i]'(by simpa using hi) with y := a }) (by simp) (sety _ i (by simpa using hi) a)
  simp only [List.getElem_set_self, List.set_set] at h2
  exact ⟨_, h2⟩

set_option maxHeartbeats 1000000 in
set_option maxRecDepth 100000 in
theorem move_c (g i : Nat) (L : List Mob) (cur : List Value) (w : World) (hil : i < L.length) (h : EntAt w g L cur) (hx : isNum L[i].x) (hy : isNum L[i].y) (hvx : okV L[i].vx) (hvy : okV L[i].vy) :
    Calls Tryz.prog 38 #[.pointer (some ⟨g, i * 7, none⟩)] w fun e w' =>
      e = .returned (.tuple #[]) ∧ (∃ cur', EntAt w' g (L.set i (moveM L[i])) cur') ∧ Kept (fun k => k = g) w w' := by
  obtain ⟨c0, c1, c2, c3, c4, c5, c6⟩ := h.at i hil
  have f2 := h.warm (i * 7 + 2)
  have f4 := h.warm (i * 7 + 4)
  have hsf := store_float Tryz.prog
  have H := hide h
  clear h
  go_enter Tryz.func38, Tryz.ntmps38
  go_wp2
  go_region_with ((go_at_call 67; refine (moved_c _ _ _ hx hvx).mono ?_; rintro e w1 ⟨rfl, rfl⟩))
  all_goals
    go_wp2
    have HE : Hid (∃ cur', EntAt ((w.setCell ⟨g, i * 7 + 2, none⟩ (.float .f32 (movedF L[i].x L[i].vx).1)).setCell ⟨g, i * 7 + 4, none⟩ (.float .f32 (movedF L[i].x L[i].vx).2)).drew g (L.set i (moveX L[i])) cur') := by
      obtain ⟨cu, q⟩ := ent_two H.out i hil (movedF L[i].x L[i].vx).1 (movedF L[i].x L[i].vx).2
      exact ⟨cu, q.calm (Kept.drew _)⟩
    have HK : Hid (Kept (fun k => k = g) w ((w.setCell ⟨g, i * 7 + 2, none⟩ (.float .f32 (movedF L[i].x L[i].vx).1)).setCell ⟨g, i * 7 + 4, none⟩ (.float .f32 (movedF L[i].x L[i].vx).2)).drew) :=
      (((Kept.setCell w _ _).join (Kept.setCell _ _ _) (R := fun k => k = g) (fun _ _ e => e) (fun _ _ e => e))).join (Kept.drew _) (fun _ _ e => e) (fun _ _ e => e.elim)
    clear c0 c1 c2 c3 c4 c5 c6 f2 f4 H
    generalize ((w.setCell ⟨g, i * 7 + 2, none⟩ (.float .f32 (movedF L[i].x L[i].vx).1)).setCell ⟨g, i * 7 + 4, none⟩ (.float .f32 (movedF L[i].x L[i].vx).2)).drew = w1 at *
    obtain ⟨cu1, q1⟩ := HE.out
    have hil1 : i < (L.set i (moveX L[i])).length := by simpa using hil
    obtain ⟨c0, c1, c2, c3, c4, c5, c6⟩ := q1.at i hil1
    have f3 := q1.warm (i * 7 + 3)
    have f5 := q1.warm (i * 7 + 5)
    simp only [List.getElem_set_self, moveX] at c3 c5
    have Q1 := hide q1
    clear q1 c0 c1 c2 c4 c6 HE
    go_region_with ((go_at_call 67; refine (moved_c _ _ _ hy hvy).mono ?_; rintro e w2 ⟨rfl, rfl⟩))
    all_goals
      go_wp2
      go_end0
      refine ⟨rfl, ?_, HK.out.join (((Kept.setCell w1 _ _).join (Kept.setCell _ _ _) (R := fun k => k = g) (fun _ _ e => e) (fun _ _ e => e)).join (Kept.drew _) (fun _ _ e => e) (fun _ _ e => e.elim)) (fun _ _ e => e) (fun _ _ e => e)⟩
      obtain ⟨cu, q⟩ := ent_twoY Q1.out i hil1 (movedF L[i].y L[i].vy).1 (movedF L[i].y L[i].vy).2
      simp only [List.getElem_set_self, List.set_set] at q
      exact ⟨cu, q.calm (Kept.drew _)⟩
end Go.Proofs.YtlfmfhmbkpnjbabGreatDoor

namespace Go.Proofs.YtlfmfhmbkpnjbabGreatDoor
open Go.RowKit

/-- A command. -/
structure Cmd where
  kind : Int
  id : Int
  team : Int
  x : Nat
  y : Nat
  n : Int

/-- The value that a command becomes. -/
def ifaceOf (c : Cmd) : Value :=
  if c.kind = 1 then .iface 120 (.agg #[.int .i64 c.id, .int .i64 c.team, .float .f32 c.x, .float .f32 c.y])
  else if c.kind = 2 then .iface 125 (.agg #[.int .i64 c.id, .float .f32 c.x, .float .f32 c.y])
  else if c.kind = 3 then .iface 127 (.agg #[.int .i64 c.id, .int .i64 c.n])
  else if c.kind = 4 then .iface 129 (.agg #[.int .i64 c.id])
  else .iface 132 (.agg #[])

set_option maxHeartbeats 1000000 in
set_option maxRecDepth 100000 in
theorem commandOf_c (c : Cmd) (w : World) : Calls Tryz.prog 35 #[.agg #[.int .i64 c.kind, .int .i64 c.id, .int .i64 c.team, .float .f32 c.x, .float .f32 c.y, .int .i64 c.n]] w fun e w' => e = .returned (ifaceOf c) ∧ Kept (fun _ => False) w w' := by
  by_cases h1 : c.kind = 1
  · have H : Hid (ifaceOf c = .iface 120 (.agg #[.int .i64 c.id, .int .i64 c.team, .float .f32 c.x, .float .f32 c.y])) := by show _ = _; unfold ifaceOf; rw [if_pos h1]
    have b1 : (c.kind == 1) = true := by simp [h1]
    clear h1
    go_enter Tryz.func35, Tryz.ntmps35
    go_wp2
    go_ret
    exact ⟨ret1 (by rw [H.out]; rfl), Kept.alloc w _⟩
  by_cases h2 : c.kind = 2
  · have H : Hid (ifaceOf c = .iface 125 (.agg #[.int .i64 c.id, .float .f32 c.x, .float .f32 c.y])) := by show _ = _; unfold ifaceOf; rw [if_neg h1, if_pos h2]
    have b1 : (c.kind == 1) = false := by simp [h1]
    have b2 : (c.kind == 2) = true := by simp [h2]
    clear h1 h2
    go_enter Tryz.func35, Tryz.ntmps35
    go_wp2
    go_ret
    exact ⟨ret1 (by rw [H.out]; rfl), Kept.alloc w _⟩
  by_cases h3 : c.kind = 3
  · have H : Hid (ifaceOf c = .iface 127 (.agg #[.int .i64 c.id, .int .i64 c.n])) := by show _ = _; unfold ifaceOf; rw [if_neg h1, if_neg h2, if_pos h3]
    have b1 : (c.kind == 1) = false := by simp [h1]
    have b2 : (c.kind == 2) = false := by simp [h2]
    have b3 : (c.kind == 3) = true := by simp [h3]
    clear h1 h2 h3
    go_enter Tryz.func35, Tryz.ntmps35
    go_wp2
    go_ret
    exact ⟨ret1 (by rw [H.out]; rfl), Kept.alloc w _⟩
  by_cases h4 : c.kind = 4
  · have H : Hid (ifaceOf c = .iface 129 (.agg #[.int .i64 c.id])) := by show _ = _; unfold ifaceOf; rw [if_neg h1, if_neg h2, if_neg h3, if_pos h4]
    have b1 : (c.kind == 1) = false := by simp [h1]
    have b2 : (c.kind == 2) = false := by simp [h2]
    have b3 : (c.kind == 3) = false := by simp [h3]
    have b4 : (c.kind == 4) = true := by simp [h4]
    clear h1 h2 h3 h4
    go_enter Tryz.func35, Tryz.ntmps35
    go_wp2
    go_ret
    exact ⟨ret1 (by rw [H.out]; rfl), Kept.alloc w _⟩
  have H : Hid (ifaceOf c = .iface 132 (.agg #[])) := by show _ = _; unfold ifaceOf; rw [if_neg h1, if_neg h2, if_neg h3, if_neg h4]
  have b1 : (c.kind == 1) = false := by simp [h1]
  have b2 : (c.kind == 2) = false := by simp [h2]
  have b3 : (c.kind == 3) = false := by simp [h3]
  have b4 : (c.kind == 4) = false := by simp [h4]
  clear h1 h2 h3 h4
  go_enter Tryz.func35, Tryz.ntmps35
  go_wp2
  go_ret
  exact ⟨ret1 (by rw [H.out]; rfl), Kept.alloc w _⟩

def newM (i t : Int) (x y : Nat) : Mob := { id := i, team := t, x := x, y := y, vx := 0, vy := 0, health := 100 }

set_option maxHeartbeats 1000000 in
set_option maxRecDepth 100000 in
theorem entity_c (i t : Int) (x y : Nat) (w : World) : Calls Tryz.prog 64 #[.agg #[.int .i64 i, .int .i64 t, .float .f32 x, .float .f32 y]] w fun e w' =>
    e = .returned (.agg #[.int .i64 i, .int .i64 t, .float .f32 x, .float .f32 y, .float .f32 0, .float .f32 0, .int .i64 100]) ∧ Kept (fun _ => False) w w' := by
  have hsf := store_float Tryz.prog
  go_enter Tryz.func64, Tryz.ntmps64
  go_wp2
  refine bodyPost_ret (v := .agg #[.int .i64 i, .int .i64 t, .float .f32 x, .float .f32 y, .float .f32 0, .float .f32 0, .int .i64 100]) (by simp [results, Tryz.results64, go_sem]) rfl ?_
  exact ⟨rfl, (Kept.alloc w _).calm2 (Kept.alloc _ _)⟩

theorem as_ss (v : Value) (w : World) : (Instr.typeAssert (.iface 120 v) 96 120 true).run Tryz.prog w = .ok (.tuple #[v, .bool true]) w := by kernel_rfl
theorem as_ps (v : Value) (w : World) : (Instr.typeAssert (.iface 125 v) 96 120 true).run Tryz.prog w = .ok (.tuple #[.agg #[.int .i64 0, .int .i64 0, .float .f32 0, .float .f32 0], .bool false]) w := by kernel_rfl
theorem as_pp (v : Value) (w : World) : (Instr.typeAssert (.iface 125 v) 96 125 true).run Tryz.prog w = .ok (.tuple #[v, .bool true]) w := by kernel_rfl
theorem as_hs (v : Value) (w : World) : (Instr.typeAssert (.iface 127 v) 96 120 true).run Tryz.prog w = .ok (.tuple #[.agg #[.int .i64 0, .int .i64 0, .float .f32 0, .float .f32 0], .bool false]) w := by kernel_rfl
theorem as_hp (v : Value) (w : World) : (Instr.typeAssert (.iface 127 v) 96 125 true).run Tryz.prog w = .ok (.tuple #[.agg #[.int .i64 0, .float .f32 0, .float .f32 0], .bool false]) w := by kernel_rfl
theorem as_hh (v : Value) (w : World) : (Instr.typeAssert (.iface 127 v) 96 127 true).run Tryz.prog w = .ok (.tuple #[v, .bool true]) w := by kernel_rfl
theorem as_ls (v : Value) (w : World) : (Instr.typeAssert (.iface 129 v) 96 120 true).run Tryz.prog w = .ok (.tuple #[.agg #[.int .i64 0, .int .i64 0, .float .f32 0, .float .f32 0], .bool false]) w := by kernel_rfl
theorem as_lp (v : Value) (w : World) : (Instr.typeAssert (.iface 129 v) 96 125 true).run Tryz.prog w = .ok (.tuple #[.agg #[.int .i64 0, .float .f32 0, .float .f32 0], .bool false]) w := by kernel_rfl
theorem as_lh (v : Value) (w : World) : (Instr.typeAssert (.iface 129 v) 96 127 true).run Tryz.prog w = .ok (.tuple #[.agg #[.int .i64 0, .int .i64 0], .bool false]) w := by kernel_rfl
theorem as_ll (v : Value) (w : World) : (Instr.typeAssert (.iface 129 v) 96 129 true).run Tryz.prog w = .ok (.tuple #[v, .bool true]) w := by kernel_rfl

/-- What 'do' leaves. -/
def DoPost (w : World) (g : Nat) (L' : List Mob) (e : Ending) (w' : World) : Prop := e = .returned (.slice (some ⟨g, 0, none⟩) L'.length 32) ∧ (∃ cur', EntAt w' g L' cur') ∧ Kept (fun k => k = g) w w'

set_option maxHeartbeats 1000000 in
set_option maxRecDepth 100000 in
theorem do_unknown (g : Nat) (L : List Mob) (cur : List Value) (w : World) (h : EntAt w g L cur) :
    Calls Tryz.prog 34 #[.iface 132 (.agg #[]), .slice (some ⟨g, 0, none⟩) L.length 32] w (DoPost w g L) := by
  have H := hide h
  clear h
  go_enter Tryz.func34, Tryz.ntmps34
  go_wp2_with fail
  refine (unknownIn_c _).mono ?_
  rintro e w1 ⟨rfl, q1⟩
  have K1 := hide q1
  clear q1
  go_wp2
  go_ret
  exact ⟨rfl, ⟨cur, H.out.calm K1.out⟩, K1.out.mono (fun _ _ e => e.elim)⟩

set_option maxHeartbeats 1000000 in
set_option maxRecDepth 100000 in
theorem do_spawn_no (i t : Int) (x y : Nat) (g : Nat) (L : List Mob) (cur : List Value) (w : World) (hb : spawnB i t x y = false) (h : EntAt w g L cur) :
    Calls Tryz.prog 34 #[.iface 120 (.agg #[.int .i64 i, .int .i64 t, .float .f32 x, .float .f32 y]), .slice (some ⟨g, 0, none⟩) L.length 32] w (DoPost w g L) := by
  have H := hide h
  clear h
  go_enter Tryz.func34, Tryz.ntmps34
  go_wp2_with fail
  refine (spawnIn_c _ _ _ _ _).mono ?_
  rintro e w1 ⟨rfl, q1⟩
  have K1 := hide q1
  clear q1
  go_wp2
  go_ret
  exact ⟨rfl, ⟨cur, H.out.calm K1.out⟩, K1.out.mono (fun _ _ e => e.elim)⟩

set_option maxHeartbeats 2000000 in
set_option maxRecDepth 100000 in
theorem do_spawn_there (i t : Int) (x y : Nat) (g : Nat) (L : List Mob) (cur : List Value) (w : World) (hb : spawnB i t x y = true) (hf : findB L i = true) (hr : Rises L) (h : EntAt w g L cur) :
    Calls Tryz.prog 34 #[.iface 120 (.agg #[.int .i64 i, .int .i64 t, .float .f32 x, .float .f32 y]), .slice (some ⟨g, 0, none⟩) L.length 32] w (DoPost w g L) := by
  have H := hide h
  have HR := hide hr
  have hsh := h.short
  clear h hr
  have hsf := store_float Tryz.prog
  have ha := as_ss
  go_enter Tryz.func34, Tryz.ntmps34
  go_wp2_with fail
  refine (spawnIn_c _ _ _ _ _).mono ?_
  rintro e w1 ⟨rfl, q1⟩
  have K1 := hide q1
  clear q1
  go_wp2_with fail
  refine (find_c (some ⟨g, 0, none⟩) 32 i L _ (by omega) HR.out (H.out.reads.calm (K1.out.calm2 (Kept.alloc _ _)))).mono ?_
  rintro e w2 ⟨rfl, q2⟩
  have K2 := hide ((K1.out.calm2 (Kept.alloc _ _)).calm2 q2)
  clear q2
  go_wp2
  go_ret
  exact ⟨rfl, ⟨cur, H.out.calm K2.out⟩, K2.out.mono (fun _ _ e => e.elim)⟩
end Go.Proofs.YtlfmfhmbkpnjbabGreatDoor

namespace Go.Proofs.YtlfmfhmbkpnjbabGreatDoor
open Go.RowKit

theorem four_cells {w : World} {c : Nat} {a b d e : Value} {T : TypeId} (h : w.heap[c]? = some (.cells #[a, b, d, e] T (0, 0))) : w.cell? ⟨c, 0, none⟩ = some a ∧ w.cell? ⟨c, 1, none⟩ = some b ∧ w.cell? ⟨c, 2, none⟩ = some d ∧ w.cell? ⟨c, 3, none⟩ = some e := by
  refine ⟨?_, ?_, ?_, ?_⟩ <;> rw [cell_block h] <;> rfl
theorem tri_cells {w : World} {c : Nat} {a b d : Value} {T : TypeId} (h : w.heap[c]? = some (.cells #[a, b, d] T (0, 0))) : w.cell? ⟨c, 0, none⟩ = some a ∧ w.cell? ⟨c, 1, none⟩ = some b ∧ w.cell? ⟨c, 2, none⟩ = some d := by
  refine ⟨?_, ?_, ?_⟩ <;> rw [cell_block h] <;> rfl
theorem new_calm {w w' : World} {o : Obj} (hk : Kept (fun _ => False) (w.alloc o) w') : w'.heap[w.heap.size]? = some o := new_kept hk (fun e => e)

set_option maxHeartbeats 1000000 in
set_option maxRecDepth 100000 in
theorem do_push_no (i : Int) (x y : Nat) (g : Nat) (L : List Mob) (cur : List Value) (w : World) (hb : pushB x y = false) (h : EntAt w g L cur) :
    Calls Tryz.prog 34 #[.iface 125 (.agg #[.int .i64 i, .float .f32 x, .float .f32 y]), .slice (some ⟨g, 0, none⟩) L.length 32] w (DoPost w g L) := by
  have H := hide h
  clear h
  go_enter Tryz.func34, Tryz.ntmps34
  go_wp2_with fail
  refine (pushIn_c _ _ _ _).mono ?_
  rintro e w1 ⟨rfl, q1⟩
  have K1 := hide q1
  clear q1
  go_wp2
  go_ret
  exact ⟨rfl, ⟨cur, H.out.calm K1.out⟩, K1.out.mono (fun _ _ e => e.elim)⟩

set_option maxHeartbeats 1000000 in
set_option maxRecDepth 100000 in
theorem do_hit_no (i n : Int) (g : Nat) (L : List Mob) (cur : List Value) (w : World) (hb : hitB n = false) (h : EntAt w g L cur) :
    Calls Tryz.prog 34 #[.iface 127 (.agg #[.int .i64 i, .int .i64 n]), .slice (some ⟨g, 0, none⟩) L.length 32] w (DoPost w g L) := by
  have H := hide h
  clear h
  go_enter Tryz.func34, Tryz.ntmps34
  go_wp2_with fail
  refine (hitIn_c _ _ _).mono ?_
  rintro e w1 ⟨rfl, q1⟩
  have K1 := hide q1
  clear q1
  go_wp2
  go_ret
  exact ⟨rfl, ⟨cur, H.out.calm K1.out⟩, K1.out.mono (fun _ _ e => e.elim)⟩

set_option maxHeartbeats 2000000 in
set_option maxRecDepth 100000 in
theorem do_push_none (i : Int) (x y : Nat) (g : Nat) (L : List Mob) (cur : List Value) (w : World) (hb : pushB x y = true) (hf : findB L i = false) (hr : Rises L) (h : EntAt w g L cur) :
    Calls Tryz.prog 34 #[.iface 125 (.agg #[.int .i64 i, .float .f32 x, .float .f32 y]), .slice (some ⟨g, 0, none⟩) L.length 32] w (DoPost w g (L)) := by
  have H := hide h
  have HR := hide hr
  have hsh := h.short
  clear h hr
  have hsf := store_float Tryz.prog
  have as_psh := as_ps
  have as_pph := as_pp
  go_enter Tryz.func34, Tryz.ntmps34
  go_wp2_with fail
  refine (pushIn_c _ _ _ _).mono ?_
  rintro e w1 ⟨rfl, q1⟩
  have K1 := hide q1
  clear q1
  go_wp2_with fail
  refine (find_c (some ⟨g, 0, none⟩) 32 i L _ (by omega) HR.out (H.out.reads.calm (K1.out.calm2 (Kept.alloc _ _)))).mono ?_
  rintro e w2 ⟨rfl, q2⟩
  have HB := hide (new_calm q2)
  have K2 := hide ((K1.out.calm2 (Kept.alloc _ _)).calm2 q2)
  have H2 := hide (H.out.calm K2.out)
  clear q2 as_psh as_pph
  go_wp2
  go_ret
  exact ⟨rfl, ⟨cur, H2.out⟩, K2.out.mono (fun _ _ e => e.elim)⟩

set_option maxHeartbeats 2000000 in
set_option maxRecDepth 100000 in
theorem do_hit_none (i n : Int) (g : Nat) (L : List Mob) (cur : List Value) (w : World) (hb : hitB n = true) (hf : findB L i = false) (hr : Rises L) (h : EntAt w g L cur) :
    Calls Tryz.prog 34 #[.iface 127 (.agg #[.int .i64 i, .int .i64 n]), .slice (some ⟨g, 0, none⟩) L.length 32] w (DoPost w g (L)) := by
  have H := hide h
  have HR := hide hr
  have hsh := h.short
  clear h hr
  have hsf := store_float Tryz.prog
  have as_hsh := as_hs
  have as_hph := as_hp
  have as_hhh := as_hh
  go_enter Tryz.func34, Tryz.ntmps34
  go_wp2_with fail
  refine (hitIn_c _ _ _).mono ?_
  rintro e w1 ⟨rfl, q1⟩
  have K1 := hide q1
  clear q1
  go_wp2_with fail
  refine (find_c (some ⟨g, 0, none⟩) 32 i L _ (by omega) HR.out (H.out.reads.calm (K1.out.calm2 (Kept.alloc _ _)))).mono ?_
  rintro e w2 ⟨rfl, q2⟩
  have HB := hide (new_calm q2)
  have K2 := hide ((K1.out.calm2 (Kept.alloc _ _)).calm2 q2)
  have H2 := hide (H.out.calm K2.out)
  clear q2 as_hsh as_hph as_hhh
  go_wp2
  go_ret
  exact ⟨rfl, ⟨cur, H2.out⟩, K2.out.mono (fun _ _ e => e.elim)⟩

set_option maxHeartbeats 2000000 in
set_option maxRecDepth 100000 in
theorem do_leave_none (i : Int) (g : Nat) (L : List Mob) (cur : List Value) (w : World) (hf : findB L i = false) (hr : Rises L) (h : EntAt w g L cur) :
    Calls Tryz.prog 34 #[.iface 129 (.agg #[.int .i64 i]), .slice (some ⟨g, 0, none⟩) L.length 32] w (DoPost w g (L)) := by
  have H := hide h
  have HR := hide hr
  have hsh := h.short
  clear h hr
  have hsf := store_float Tryz.prog
  have as_lsh := as_ls
  have as_lph := as_lp
  have as_lhh := as_lh
  have as_llh := as_ll
  go_enter Tryz.func34, Tryz.ntmps34
  go_wp2_with fail
  refine (leaveIn_c _ _).mono ?_
  rintro e w1 ⟨rfl, q1⟩
  have K1 := hide q1
  clear q1
  go_wp2_with fail
  refine (find_c (some ⟨g, 0, none⟩) 32 i L _ (by omega) HR.out (H.out.reads.calm (K1.out.calm2 (Kept.alloc _ _)))).mono ?_
  rintro e w2 ⟨rfl, q2⟩
  have HB := hide (new_calm q2)
  have K2 := hide ((K1.out.calm2 (Kept.alloc _ _)).calm2 q2)
  have H2 := hide (H.out.calm K2.out)
  clear q2 as_lsh as_lph as_lhh as_llh
  go_wp2
  go_ret
  exact ⟨rfl, ⟨cur, H2.out⟩, K2.out.mono (fun _ _ e => e.elim)⟩

set_option maxHeartbeats 2000000 in
set_option maxRecDepth 100000 in
theorem do_spawn_new (i t : Int) (x y : Nat) (g : Nat) (L : List Mob) (cur : List Value) (w : World) (hb : spawnB i t x y = true) (hf : findB L i = false) (hroom : L.length < 32) (hle : findI L i ≤ L.length) (hr : Rises L) (h : EntAt w g L cur) :
    Calls Tryz.prog 34 #[.iface 120 (.agg #[.int .i64 i, .int .i64 t, .float .f32 x, .float .f32 y]), .slice (some ⟨g, 0, none⟩) L.length 32] w (DoPost w g (L.take (findI L i) ++ newM i t x y :: L.drop (findI L i))) := by
  have H := hide h
  have HR := hide hr
  have hsh := h.short
  clear h hr
  have hsf := store_float Tryz.prog
  have as_ssh := as_ss
  go_enter Tryz.func34, Tryz.ntmps34
  go_wp2_with fail
  refine (spawnIn_c _ _ _ _ _).mono ?_
  rintro e w1 ⟨rfl, q1⟩
  have K1 := hide q1
  clear q1
  go_wp2_with fail
  refine (find_c (some ⟨g, 0, none⟩) 32 i L _ (by omega) HR.out (H.out.reads.calm (K1.out.calm2 (Kept.alloc _ _)))).mono ?_
  rintro e w2 ⟨rfl, q2⟩
  have HB := hide (new_calm q2)
  have K2 := hide ((K1.out.calm2 (Kept.alloc _ _)).calm2 q2)
  have H2 := hide (H.out.calm K2.out)
  clear q2 as_ssh
  obtain ⟨s0, s1, s2, s3⟩ := four_cells HB.out
  generalize findI L i = q at *
  go_wp2_with fail
  refine (entity_c i t x y _).mono ?_
  rintro e w3 ⟨rfl, q3⟩
  have K3 := hide ((K2.out.calm2 q3).calm2 (Kept.alloc w3 (.cells (rowM [newM i t x y]).toArray 63)))
  have HV := hide (heap_alloc_new w3 (.cells (rowM [newM i t x y]).toArray 63))
  have HN : Hid (w3.heap.size ≠ g) := by
    show _ ≠ _
    have h1 := heap_lt H2.out.blk
    have h2 := q3.size
    omega
  clear q3 s0 s1 s2 s3 HB
  go_wp2_with fail
  refine (insert_c g w3.heap.size q (newM i t x y) L cur _ hroom hle HN.out (H.out.calm K3.out) HV.out).mono ?_
  rintro e w4 ⟨rfl, q4, k4⟩
  have K4 := hide (And.intro q4 (K3.out.join k4 (R := fun k => k = g) (fun _ _ e => e.elim) (fun _ _ e => e)))
  clear q4 k4
  go_wp2
  go_ret
  refine ⟨ret1 ?_, K4.out.1, K4.out.2⟩
  have : (L.take q ++ newM i t x y :: L.drop q).length = L.length + 1 := by simp; omega
  rw [this]; rfl

set_option maxHeartbeats 2000000 in
set_option maxRecDepth 100000 in
theorem do_leave_there (i : Int) (g : Nat) (L : List Mob) (cur : List Value) (w : World) (hf : findB L i = true) (q : Nat) (hq : findI L i = q) (hql : q < L.length) (hr : Rises L) (h : EntAt w g L cur) :
    Calls Tryz.prog 34 #[.iface 129 (.agg #[.int .i64 i]), .slice (some ⟨g, 0, none⟩) L.length 32] w (DoPost w g (L.take q ++ L.drop (q + 1))) := by
  have H := hide h
  have HR := hide hr
  have hsh := h.short
  clear h hr
  have hsf := store_float Tryz.prog
  have as_lsh := as_ls
  have as_lph := as_lp
  have as_lhh := as_lh
  have as_llh := as_ll
  have a1 : IntKind.i64.wrap ((q : Int) + 1) = (q : Int) + 1 := wrap_id _ (by omega)
  go_enter Tryz.func34, Tryz.ntmps34
  go_wp2_with fail
  refine (leaveIn_c _ _).mono ?_
  rintro e w1 ⟨rfl, q1⟩
  have K1 := hide q1
  clear q1
  go_wp2_with fail
  refine (find_c (some ⟨g, 0, none⟩) 32 i L _ (by omega) HR.out (H.out.reads.calm (K1.out.calm2 (Kept.alloc _ _)))).mono ?_
  rintro e w2 ⟨rfl, q2⟩
  have HB := hide (new_calm q2)
  have K2 := hide ((K1.out.calm2 (Kept.alloc _ _)).calm2 q2)
  have H2 := hide (H.out.calm K2.out)
  clear q2 as_lsh as_lph as_lhh as_llh
  rw [hq]
  clear HB
  go_wp2_with fail
  refine (delete_c g q L cur _ hql H2.out).mono ?_
  rintro e w4 ⟨rfl, q4, k4⟩
  have K4 := hide (And.intro q4 (K2.out.join k4 (R := fun k => k = g) (fun _ _ e => e.elim) (fun _ _ e => e)))
  clear q4 k4
  go_wp2
  go_ret
  refine ⟨ret1 ?_, K4.out.1, K4.out.2⟩
  have : (L.take q ++ L.drop (q + 1)).length = L.length - 1 := by simp; omega
  rw [this]; rfl

set_option maxHeartbeats 2000000 in
set_option maxRecDepth 100000 in
theorem do_hit_there (i n : Int) (g : Nat) (L : List Mob) (cur : List Value) (w : World) (hb : hitB n = true) (hf : findB L i = true) (q : Nat) (hq : findI L i = q) (hql : q < L.length) (hin : -9223372036854775808 ≤ L[q].health - n ∧ L[q].health - n ≤ 9223372036854775807) (hr : Rises L) (h : EntAt w g L cur) :
    Calls Tryz.prog 34 #[.iface 127 (.agg #[.int .i64 i, .int .i64 n]), .slice (some ⟨g, 0, none⟩) L.length 32] w (DoPost w g (L.set q { L[q] with health := L[q].health - n })) := by
  have H := hide h
  have HR := hide hr
  have hsh := h.short
  clear h hr
  have hsf := store_float Tryz.prog
  have as_hsh := as_hs
  have as_hph := as_hp
  have as_hhh := as_hh
  have a1 : IntKind.i64.wrap (L[q].health - n) = L[q].health - n := wrap_id _ hin
  have a2 : (0 : Int) ≤ (q : Int) := by omega
  have a3 : (q : Int) < (L.length : Int) := by omega
  clear hin
  go_enter Tryz.func34, Tryz.ntmps34
  go_wp2_with fail
  refine (hitIn_c _ _ _).mono ?_
  rintro e w1 ⟨rfl, q1⟩
  have K1 := hide q1
  clear q1
  go_wp2_with fail
  refine (find_c (some ⟨g, 0, none⟩) 32 i L _ (by omega) HR.out (H.out.reads.calm (K1.out.calm2 (Kept.alloc _ _)))).mono ?_
  rintro e w2 ⟨rfl, q2⟩
  have HB := hide (new_calm q2)
  have K2 := hide ((K1.out.calm2 (Kept.alloc _ _)).calm2 q2)
  have H2 := hide (H.out.calm K2.out)
  clear q2 as_hsh as_hph as_hhh
  rw [hq]
  obtain ⟨s0, s1⟩ : w2.cell? ⟨w1.heap.size, 0, none⟩ = some (.int .i64 i) ∧ w2.cell? ⟨w1.heap.size, 1, none⟩ = some (.int .i64 n) := ⟨(two_cells HB.out).1, (two_cells HB.out).2.1⟩
  obtain ⟨c0, c1, c2, c3, c4, c5, c6⟩ := H2.out.at q hql
  have f6 := H2.out.warm (q * 7 + 6)
  clear HB c0 c1 c2 c3 c4 c5
  have HF : Hid (EntAt (w2.setCell ⟨g, q * 7 + 6, none⟩ (.int .i64 (L[q].health - n))) g (L.set q { L[q] with health := L[q].health - n }) (cur.set (q * 7 + 6) (.int .i64 (L[q].health - n)))) :=
    H2.out.store (q * 7 + 6) (.int .i64 (L[q].health - n)) (by simp) (sethealth L q hql _)
  go_wp2
  go_region
  all_goals
    go_wp2
    go_ret
    refine ⟨ret1 ?_, ⟨_, HF.out.calm (Kept.drew _)⟩, ((K2.out.join (Kept.setCell w2 _ _) (R := fun k => k = g) (fun _ _ e => e.elim) (fun _ _ e => e))).join (Kept.drew _) (fun _ _ e => e) (fun _ _ e => e.elim)⟩
    rw [List.length_set]; rfl

set_option maxHeartbeats 2000000 in
set_option maxRecDepth 100000 in
theorem do_push_there (i : Int) (x y : Nat) (g : Nat) (L : List Mob) (cur : List Value) (w : World) (hb : pushB x y = true) (hf : findB L i = true) (q : Nat) (hq : findI L i = q) (hql : q < L.length) (hx : isNum x) (hy : isNum y) (hvx : okV L[q].vx) (hvy : okV L[q].vy) (hr : Rises L) (h : EntAt w g L cur) :
    Calls Tryz.prog 34 #[.iface 125 (.agg #[.int .i64 i, .float .f32 x, .float .f32 y]), .slice (some ⟨g, 0, none⟩) L.length 32] w (DoPost w g (L.set q { L[q] with vx := fadd L[q].vx x, vy := fadd L[q].vy y })) := by
  have H := hide h
  have HR := hide hr
  have hsh := h.short
  clear h hr
  have hsf := store_float Tryz.prog
  have as_psh := as_ps
  have as_pph := as_pp
  have r1 : ∀ w, (binOp .add 61 (.float .f32 L[q].vx) (.float .f32 x)).run Tryz.prog w = .ok (.float .f32 (fadd L[q].vx x)) w := fun w => run_float_arith w .add _ .f32 _ _ _ (fadd_ok' hx hvx).1
  have r2 : ∀ w, (binOp .add 61 (.float .f32 L[q].vy) (.float .f32 y)).run Tryz.prog w = .ok (.float .f32 (fadd L[q].vy y)) w := fun w => run_float_arith w .add _ .f32 _ _ _ (fadd_ok' hy hvy).1
  have a2 : (0 : Int) ≤ (q : Int) := by omega
  have a3 : (q : Int) < (L.length : Int) := by omega
  go_enter Tryz.func34, Tryz.ntmps34
  go_wp2_with fail
  refine (pushIn_c _ _ _ _).mono ?_
  rintro e w1 ⟨rfl, q1⟩
  have K1 := hide q1
  clear q1
  go_wp2_with fail
  refine (find_c (some ⟨g, 0, none⟩) 32 i L _ (by omega) HR.out (H.out.reads.calm (K1.out.calm2 (Kept.alloc _ _)))).mono ?_
  rintro e w2 ⟨rfl, q2⟩
  have HB := hide (new_calm q2)
  have K2 := hide ((K1.out.calm2 (Kept.alloc _ _)).calm2 q2)
  have H2 := hide (H.out.calm K2.out)
  clear q2 as_psh as_pph
  rw [hq]
  obtain ⟨s0, s1, s2⟩ := tri_cells HB.out
  obtain ⟨c0, c1, c2, c3, c4, c5, c6⟩ := H2.out.at q hql
  have f4 := H2.out.warm (q * 7 + 4)
  clear c0 c1 c2 c3 c5 c6
  have HF : Hid (EntAt (w2.setCell ⟨g, q * 7 + 4, none⟩ (.float .f32 (fadd L[q].vx x))).drew g (L.set q { L[q] with vx := fadd L[q].vx x }) (cur.set (q * 7 + 4) (.float .f32 (fadd L[q].vx x)))) :=
    (H2.out.store (q * 7 + 4) (.float .f32 (fadd L[q].vx x)) (by simp) (setvx L q hql _)).calm (Kept.drew _)
  have HK : Hid (Kept (fun k => k = g) w2 (w2.setCell ⟨g, q * 7 + 4, none⟩ (.float .f32 (fadd L[q].vx x))).drew) := (Kept.setCell w2 _ _).join (Kept.drew _) (fun _ _ e => e) (fun _ _ e => e.elim)
  have hgw : Hid (w1.heap.size ≠ g) := by
    show _ ≠ _
    have h1 := heap_lt H.out.blk
    have h2 := K1.out.size
    omega
  go_wp2
  go_region
  all_goals
    clear c4 f4 s0 s1 s2
    generalize (w2.setCell ⟨g, q * 7 + 4, none⟩ (.float .f32 (fadd L[q].vx x))).drew = w3 at *
    obtain ⟨s0, s1, s2⟩ := tri_cells (show w3.heap[w1.heap.size]? = some (.cells #[.int .i64 i, .float .f32 x, .float .f32 y] 125 (0, 0)) by rw [HK.out.block _ (heap_lt HB.out) hgw.out]; exact HB.out)
    have hql1 : q < (L.set q { L[q] with vx := fadd L[q].vx x }).length := by simpa using hql
    obtain ⟨c0, c1, c2, c3, c4, c5, c6⟩ := HF.out.at q hql1
    have f5 := HF.out.warm (q * 7 + 5)
    have HG := hide (HF.out.store (q * 7 + 5) (.float .f32 (fadd L[q].vy y)) (by simp) (setvy _ q hql1 _))
    simp only [List.getElem_set_self] at c5
    clear c0 c1 c2 c3 c4 c6 HB
    go_wp2
    go_region
    all_goals
      go_wp2
      go_ret
      refine ⟨ret1 ?_, ?_, (((K2.out.join HK.out (R := fun k => k = g) (fun _ _ e => e.elim) (fun _ _ e => e))).join (Kept.setCell w3 _ _) (fun _ _ e => e) (fun _ _ e => e)).join (Kept.drew _) (fun _ _ e => e) (fun _ _ e => e.elim)⟩
      · rw [List.length_set]; rfl
      · have q := HG.out
        simp only [List.getElem_set_self, List.set_set] at q
        exact ⟨_, q.calm (Kept.drew _)⟩

end Go.Proofs.YtlfmfhmbkpnjbabGreatDoor

namespace Go.Proofs.YtlfmfhmbkpnjbabGreatDoor
open Go.RowKit

def setAt (L : List Mob) (i : Nat) (f : Mob → Mob) : List Mob := match L[i]? with | some m => L.set i (f m) | none => L
theorem setAt_eq (L : List Mob) (i : Nat) (f : Mob → Mob) (h : i < L.length) : setAt L i f = L.set i (f L[i]) := by simp [setAt, h]

/-- What a command does. -/
noncomputable def doM (L : List Mob) (c : Cmd) : List Mob :=
  if c.kind = 1 then (if spawnB c.id c.team c.x c.y = true ∧ findB L c.id = false then L.take (findI L c.id) ++ newM c.id c.team c.x c.y :: L.drop (findI L c.id) else L)
  else if c.kind = 2 then (if pushB c.x c.y = true ∧ findB L c.id = true then setAt L (findI L c.id) (fun m => { m with vx := fadd m.vx c.x, vy := fadd m.vy c.y }) else L)
  else if c.kind = 3 then (if hitB c.n = true ∧ findB L c.id = true then setAt L (findI L c.id) (fun m => { m with health := m.health - c.n }) else L)
  else if c.kind = 4 then (if findB L c.id = true then L.take (findI L c.id) ++ L.drop (findI L c.id + 1) else L)
  else L

noncomputable def stepL (cs : List Cmd) (L : List Mob) : List Mob := (keepL (cs.foldl doM L)).map moveM

/-- An entity between the commands. -/
structure FineM (k : Nat) (m : Mob) : Prop where
  id : idB m.id = true
  team : teamB m.team = true
  place : placeB m.x m.y = true
  vx : okV m.vx
  vy : okV m.vy
  low : -(100 * (k : Int)) ≤ m.health
  high : m.health ≤ 100

structure Fine (k : Nat) (L : List Mob) : Prop where
  rises : (L.map Mob.id).Pairwise (· < ·)
  mob : ∀ m ∈ L, FineM k m

theorem rises_of {L : List Mob} (h : (L.map Mob.id).Pairwise (· < ·)) : Rises L := by
  intro i j hi hj hij
  have := (List.pairwise_iff_getElem.1 h) i j (by simpa using hi) (by simpa using hj) hij
  simpa using this
theorem of_rises {L : List Mob} (h : Rises L) : (L.map Mob.id).Pairwise (· < ·) := by
  rw [List.pairwise_iff_getElem]
  intro i j hi hj hij
  have := h i j (by simpa using hi) (by simpa using hj) hij
  simpa using this

theorem FineM.px {k : Nat} {m : Mob} (h : FineM k m) : isNum m.x := by have := h.place; simp only [placeB, Bool.and_eq_true] at this; exact place_num this.1
theorem FineM.py {k : Nat} {m : Mob} (h : FineM k m) : isNum m.y := by have := h.place; simp only [placeB, Bool.and_eq_true] at this; exact place_num this.2
theorem FineM.more {k : Nat} {m : Mob} (h : FineM k m) : FineM (k + 1) m := ⟨h.id, h.team, h.place, h.vx, h.vy, by have := h.low; omega, h.high⟩
theorem Fine.more {k : Nat} {L : List Mob} (h : Fine k L) : Fine (k + 1) L := ⟨h.rises, fun m hm => (h.mob m hm).more⟩

theorem short_ids (l : List Int) (a b : Int) (h : l.Pairwise (· < ·)) (h1 : ∀ x ∈ l, a ≤ x ∧ x ≤ b) : (l.length : Int) ≤ max 0 (b - a + 1) := by
  induction l generalizing a with
  | nil => simp; omega
  | cons x r ih =>
    rw [List.pairwise_cons] at h
    have hx := h1 x (by simp)
    have := ih (x + 1) h.2 (fun y hy => ⟨by have := h.1 y hy; omega, (h1 y (by simp [hy])).2⟩)
    simp only [List.length_cons]
    omega

theorem idB_in {i : Int} (h : idB i = true) : 0 ≤ i ∧ i ≤ 31 := by simpa [idB] using h

theorem Fine.short {k : Nat} {L : List Mob} (h : Fine k L) : L.length ≤ 32 := by
  have := short_ids (L.map Mob.id) 0 31 h.rises (fun x hx => by
    obtain ⟨m, hm, rfl⟩ := List.mem_map.1 hx
    exact idB_in (h.mob m hm).id)
  simp only [List.length_map] at this
  omega

theorem findI_le (L : List Mob) (id : Int) : findI L id ≤ L.length := by
  induction L with
  | nil => simp [findI]
  | cons m r ih => simp only [findI, List.length_cons]; split <;> omega
theorem findI_lt (L : List Mob) (id : Int) : ∀ m ∈ L.take (findI L id), m.id < id := by
  induction L with
  | nil => simp [findI]
  | cons m r ih =>
    simp only [findI]
    split
    · rename_i q
      intro x hx
      simp only [List.take_succ_cons, List.mem_cons] at hx
      rcases hx with rfl | hx
      · exact q
      · exact ih x hx
    · simp
theorem findI_ge (L : List Mob) (id : Int) (h : findI L id < L.length) : id ≤ L[findI L id].id := by
  induction L with
  | nil => simp at h
  | cons m r ih =>
    simp only [findI] at h ⊢
    split
    · rename_i q
      simp only [q, if_true] at h
      simp only [List.getElem_cons_succ]
      exact ih (by simpa using h)
    · rename_i q
      simp only [List.getElem_cons_zero]; omega

theorem findB_lt {L : List Mob} {id : Int} (h : findB L id = true) : findI L id < L.length := by
  simp only [findB, decide_eq_true_eq] at h; exact h.1

theorem drop_gt {L : List Mob} {id : Int} (hr : (L.map Mob.id).Pairwise (· < ·)) (hf : findB L id = false) : ∀ m ∈ L.drop (findI L id), id < m.id := by
  intro m hm
  obtain ⟨j, hj, rfl⟩ := List.getElem_of_mem hm
  rw [List.length_drop] at hj
  have hlt : findI L id < L.length := by omega
  have h1 := findI_ge L id hlt
  have h2 : L[findI L id].id ≠ id := by
    intro e
    simp only [findB, decide_eq_false_iff_not] at hf
    exact hf ⟨hlt, e⟩
  rw [List.getElem_drop]
  by_cases e : j = 0
  · subst e; simp only [Nat.add_zero]; omega
  · have := rises_of hr (findI L id) (findI L id + j) hlt (by omega) (by omega)
    omega

theorem insert_fine {k : Nat} {L : List Mob} {m : Mob} (h : Fine k L) (hm : FineM k m) (hf : findB L m.id = false) : Fine k (L.take (findI L m.id) ++ m :: L.drop (findI L m.id)) := by
  refine ⟨?_, ?_⟩
  · rw [List.map_append, List.map_cons, List.pairwise_append, List.pairwise_cons]
    refine ⟨?_, ⟨?_, ?_⟩, ?_⟩
    · exact h.rises.sublist ((List.take_sublist _ _).map _)
    · intro x hx
      obtain ⟨y, hy, rfl⟩ := List.mem_map.1 hx
      exact drop_gt h.rises hf y hy
    · exact h.rises.sublist ((List.drop_sublist _ _).map _)
    · intro x hx y hy
      obtain ⟨a, ha, rfl⟩ := List.mem_map.1 hx
      have h1 := findI_lt L m.id a ha
      rcases List.mem_cons.1 hy with rfl | hy
      · exact h1
      · obtain ⟨b, hb, rfl⟩ := List.mem_map.1 hy
        have h2 := drop_gt h.rises hf b hb
        omega
  · intro x hx
    rcases List.mem_append.1 hx with hx | hx
    · exact h.mob x (List.mem_of_mem_take hx)
    · rcases List.mem_cons.1 hx with rfl | hx
      · exact hm
      · exact h.mob x (List.mem_of_mem_drop hx)

theorem newM_fine (k : Nat) (i t : Int) (x y : Nat) (h : spawnB i t x y = true) : FineM k (newM i t x y) := by
  simp only [spawnB, Bool.and_eq_true] at h
  exact ⟨h.1.1, h.1.2, h.2, by show okV 0; unfold okV; decide, by show okV 0; unfold okV; decide, by simp [newM]; omega, by simp [newM]⟩

theorem set_map_id (L : List Mob) (i : Nat) (m : Mob) (hi : i < L.length) (hm : m.id = L[i].id) : (L.set i m).map Mob.id = L.map Mob.id := by
  rw [List.map_set, hm]
  apply List.ext_getElem (by simp)
  intro j h1 h2
  rw [List.getElem_set]
  split
  · rename_i e; subst e; simp
  · rfl

theorem set_fine {k : Nat} {L : List Mob} {i : Nat} {m : Mob} (h : Fine k L) (hi : i < L.length) (hid : m.id = L[i].id) (hm : FineM k m) : Fine k (L.set i m) := by
  refine ⟨by rw [set_map_id L i m hi hid]; exact h.rises, fun x hx => ?_⟩
  rcases List.mem_or_eq_of_mem_set hx with hx | rfl
  · exact h.mob x hx
  · exact hm

theorem doM_fine {k : Nat} {L : List Mob} (c : Cmd) (h : Fine k L) : Fine (k + 1) (doM L c) := by
  unfold doM
  split
  · split
    · rename_i q
      have hn := newM_fine (k + 1) c.id c.team c.x c.y q.1
      exact insert_fine (m := newM c.id c.team c.x c.y) h.more hn q.2
    · exact h.more
  · split
    · split
      · rename_i q
        have hl := findB_lt q.2
        rw [setAt_eq _ _ _ hl]
        have hm := (h.mob L[findI L c.id] (List.getElem_mem hl)).more
        have hp := q.1
        simp only [pushB, Bool.and_eq_true] at hp
        exact set_fine h.more hl rfl ⟨hm.id, hm.team, hm.place, (fadd_ok' (push_num hp.1) hm.vx).2, (fadd_ok' (push_num hp.2) hm.vy).2, hm.low, hm.high⟩
      · exact h.more
    · split
      · split
        · rename_i q
          have hl := findB_lt q.2
          rw [setAt_eq _ _ _ hl]
          have hm := h.mob L[findI L c.id] (List.getElem_mem hl)
          have hn := q.1
          simp only [hitB, Bool.and_eq_true, decide_eq_true_eq] at hn
          refine set_fine h.more hl rfl ⟨hm.id, hm.team, hm.place, hm.vx, hm.vy, ?_, ?_⟩
          · have := hm.low; show _ ≤ L[findI L c.id].health - c.n; omega
          · have := hm.high; show L[findI L c.id].health - c.n ≤ 100; omega
        · exact h.more
      · split
        · split
          · refine ⟨h.rises.sublist ?_, fun m hm => (h.mob m ?_).more⟩
            · rw [List.map_append]
              have : (L.map Mob.id) = (L.take (findI L c.id)).map Mob.id ++ (L.drop (findI L c.id)).map Mob.id := by rw [← List.map_append, List.take_append_drop]
              rw [this]
              exact (List.Sublist.refl _).append ((List.drop_sublist_drop_left L (by omega)).map _)
            · rcases List.mem_append.1 hm with hm | hm
              · exact List.mem_of_mem_take hm
              · exact List.mem_of_mem_drop hm
          · exact h.more
        · exact h.more
end Go.Proofs.YtlfmfhmbkpnjbabGreatDoor
