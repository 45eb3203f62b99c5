import Derived.Test.YtgclehnhjjkdbaaGreatDoorMove
namespace Go.Proofs.YtgclehnhjjkdbaaGreatDoor
open Go.RowKit

/-- A command. -/
structure Cmd where
  kind : Int
  id : Int
  team : Int
  x : Nat
  y : Nat
  n : Int

/-- The value that a command becomes. -/
def ifaceOf (c : Cmd) : Value :=
  if c.kind = 1 then .iface 119 (.agg #[.int .i64 c.id, .int .i64 c.team, .float .f32 c.x, .float .f32 c.y])
  else if c.kind = 2 then .iface 125 (.agg #[.int .i64 c.id, .float .f32 c.x, .float .f32 c.y])
  else if c.kind = 3 then .iface 127 (.agg #[.int .i64 c.id, .int .i64 c.n])
  else if c.kind = 4 then .iface 129 (.agg #[.int .i64 c.id])
  else .iface 132 (.agg #[])

set_option maxHeartbeats 1000000 in
set_option maxRecDepth 100000 in
theorem commandOf_c (c : Cmd) (w : World) : Calls Tryz.prog 43 #[.agg #[.int .i64 c.kind, .int .i64 c.id, .int .i64 c.team, .float .f32 c.x, .float .f32 c.y, .int .i64 c.n]] w fun e w' => e = .returned (ifaceOf c) ∧ Kept (fun _ => False) w w' := by
  by_cases h1 : c.kind = 1
  · have H : Hid (ifaceOf c = .iface 119 (.agg #[.int .i64 c.id, .int .i64 c.team, .float .f32 c.x, .float .f32 c.y])) := by show _ = _; unfold ifaceOf; rw [if_pos h1]
    have b1 : (c.kind == 1) = true := by simp [h1]
    clear h1
    go_enter Tryz.func43, Tryz.ntmps43
    go_wp2
    go_ret
    exact ⟨ret1 (by rw [H.out]; rfl), Kept.alloc w _⟩
  by_cases h2 : c.kind = 2
  · have H : Hid (ifaceOf c = .iface 125 (.agg #[.int .i64 c.id, .float .f32 c.x, .float .f32 c.y])) := by show _ = _; unfold ifaceOf; rw [if_neg h1, if_pos h2]
    have b1 : (c.kind == 1) = false := by simp [h1]
    have b2 : (c.kind == 2) = true := by simp [h2]
    clear h1 h2
    go_enter Tryz.func43, Tryz.ntmps43
    go_wp2
    go_ret
    exact ⟨ret1 (by rw [H.out]; rfl), Kept.alloc w _⟩
  by_cases h3 : c.kind = 3
  · have H : Hid (ifaceOf c = .iface 127 (.agg #[.int .i64 c.id, .int .i64 c.n])) := by show _ = _; unfold ifaceOf; rw [if_neg h1, if_neg h2, if_pos h3]
    have b1 : (c.kind == 1) = false := by simp [h1]
    have b2 : (c.kind == 2) = false := by simp [h2]
    have b3 : (c.kind == 3) = true := by simp [h3]
    clear h1 h2 h3
    go_enter Tryz.func43, Tryz.ntmps43
    go_wp2
    go_ret
    exact ⟨ret1 (by rw [H.out]; rfl), Kept.alloc w _⟩
  by_cases h4 : c.kind = 4
  · have H : Hid (ifaceOf c = .iface 129 (.agg #[.int .i64 c.id])) := by show _ = _; unfold ifaceOf; rw [if_neg h1, if_neg h2, if_neg h3, if_pos h4]
    have b1 : (c.kind == 1) = false := by simp [h1]
    have b2 : (c.kind == 2) = false := by simp [h2]
    have b3 : (c.kind == 3) = false := by simp [h3]
    have b4 : (c.kind == 4) = true := by simp [h4]
    clear h1 h2 h3 h4
    go_enter Tryz.func43, Tryz.ntmps43
    go_wp2
    go_ret
    exact ⟨ret1 (by rw [H.out]; rfl), Kept.alloc w _⟩
  have H : Hid (ifaceOf c = .iface 132 (.agg #[])) := by show _ = _; unfold ifaceOf; rw [if_neg h1, if_neg h2, if_neg h3, if_neg h4]
  have b1 : (c.kind == 1) = false := by simp [h1]
  have b2 : (c.kind == 2) = false := by simp [h2]
  have b3 : (c.kind == 3) = false := by simp [h3]
  have b4 : (c.kind == 4) = false := by simp [h4]
  clear h1 h2 h3 h4
  go_enter Tryz.func43, Tryz.ntmps43
  go_wp2
  go_ret
  exact ⟨ret1 (by rw [H.out]; rfl), Kept.alloc w _⟩

def newM (i t : Int) (x y : Nat) : Mob := { id := i, team := t, x := x, y := y, vx := 0, vy := 0, health := 100 }

set_option maxHeartbeats 1000000 in
set_option maxRecDepth 100000 in
theorem entity_c (i t : Int) (x y : Nat) (w : World) : Calls Tryz.prog 60 #[.agg #[.int .i64 i, .int .i64 t, .float .f32 x, .float .f32 y]] w fun e w' =>
    e = .returned (.agg #[.int .i64 i, .int .i64 t, .float .f32 x, .float .f32 y, .float .f32 0, .float .f32 0, .int .i64 100]) ∧ Kept (fun _ => False) w w' := by
  have hsf := store_float Tryz.prog
  go_enter Tryz.func60, Tryz.ntmps60
  go_wp2
  refine bodyPost_ret (v := .agg #[.int .i64 i, .int .i64 t, .float .f32 x, .float .f32 y, .float .f32 0, .float .f32 0, .int .i64 100]) (by simp [results, Tryz.results60, go_sem]) rfl ?_
  exact ⟨rfl, (Kept.alloc w _).calm2 (Kept.alloc _ _)⟩

theorem as_ss (v : Value) (w : World) : (Instr.typeAssert (.iface 119 v) 104 119 true).run Tryz.prog w = .ok (.tuple #[v, .bool true]) w := by kernel_rfl
theorem as_ps (v : Value) (w : World) : (Instr.typeAssert (.iface 125 v) 104 119 true).run Tryz.prog w = .ok (.tuple #[.agg #[.int .i64 0, .int .i64 0, .float .f32 0, .float .f32 0], .bool false]) w := by kernel_rfl
theorem as_pp (v : Value) (w : World) : (Instr.typeAssert (.iface 125 v) 104 125 true).run Tryz.prog w = .ok (.tuple #[v, .bool true]) w := by kernel_rfl
theorem as_hs (v : Value) (w : World) : (Instr.typeAssert (.iface 127 v) 104 119 true).run Tryz.prog w = .ok (.tuple #[.agg #[.int .i64 0, .int .i64 0, .float .f32 0, .float .f32 0], .bool false]) w := by kernel_rfl
theorem as_hp (v : Value) (w : World) : (Instr.typeAssert (.iface 127 v) 104 125 true).run Tryz.prog w = .ok (.tuple #[.agg #[.int .i64 0, .float .f32 0, .float .f32 0], .bool false]) w := by kernel_rfl
theorem as_hh (v : Value) (w : World) : (Instr.typeAssert (.iface 127 v) 104 127 true).run Tryz.prog w = .ok (.tuple #[v, .bool true]) w := by kernel_rfl
theorem as_ls (v : Value) (w : World) : (Instr.typeAssert (.iface 129 v) 104 119 true).run Tryz.prog w = .ok (.tuple #[.agg #[.int .i64 0, .int .i64 0, .float .f32 0, .float .f32 0], .bool false]) w := by kernel_rfl
theorem as_lp (v : Value) (w : World) : (Instr.typeAssert (.iface 129 v) 104 125 true).run Tryz.prog w = .ok (.tuple #[.agg #[.int .i64 0, .float .f32 0, .float .f32 0], .bool false]) w := by kernel_rfl
theorem as_lh (v : Value) (w : World) : (Instr.typeAssert (.iface 129 v) 104 127 true).run Tryz.prog w = .ok (.tuple #[.agg #[.int .i64 0, .int .i64 0], .bool false]) w := by kernel_rfl
theorem as_ll (v : Value) (w : World) : (Instr.typeAssert (.iface 129 v) 104 129 true).run Tryz.prog w = .ok (.tuple #[v, .bool true]) w := by kernel_rfl

/-- What 'do' leaves. -/
def DoPost (w : World) (g : Nat) (L' : List Mob) (e : Ending) (w' : World) : Prop := e = .returned (.slice (some ⟨g, 0, none⟩) L'.length 32) ∧ (∃ cur', EntAt w' g L' cur') ∧ Kept (fun k => k = g) w w'

set_option maxHeartbeats 1000000 in
set_option maxRecDepth 100000 in
theorem do_unknown (g : Nat) (L : List Mob) (cur : List Value) (w : World) (h : EntAt w g L cur) :
    Calls Tryz.prog 42 #[.iface 132 (.agg #[]), .slice (some ⟨g, 0, none⟩) L.length 32] w (DoPost w g L) := by
  have H := hide h
  clear h
  go_enter Tryz.func42, Tryz.ntmps42
  go_wp2_with fail
  refine (unknownIn_c _).mono ?_
  rintro e w1 ⟨rfl, q1⟩
  have K1 := hide q1
  clear q1
  go_wp2
  go_ret
  exact ⟨rfl, ⟨cur, H.out.calm K1.out⟩, K1.out.mono (fun _ _ e => e.elim)⟩

set_option maxHeartbeats 1000000 in
set_option maxRecDepth 100000 in
theorem do_spawn_no (i t : Int) (x y : Nat) (g : Nat) (L : List Mob) (cur : List Value) (w : World) (hb : spawnB i t x y = false) (h : EntAt w g L cur) :
    Calls Tryz.prog 42 #[.iface 119 (.agg #[.int .i64 i, .int .i64 t, .float .f32 x, .float .f32 y]), .slice (some ⟨g, 0, none⟩) L.length 32] w (DoPost w g L) := by
  have H := hide h
  clear h
  go_enter Tryz.func42, Tryz.ntmps42
  go_wp2_with fail
  refine (spawnIn_c _ _ _ _ _).mono ?_
  rintro e w1 ⟨rfl, q1⟩
  have K1 := hide q1
  clear q1
  go_wp2
  go_ret
  exact ⟨rfl, ⟨cur, H.out.calm K1.out⟩, K1.out.mono (fun _ _ e => e.elim)⟩

set_option maxHeartbeats 2000000 in
set_option maxRecDepth 100000 in
theorem do_spawn_there (i t : Int) (x y : Nat) (g : Nat) (L : List Mob) (cur : List Value) (w : World) (hb : spawnB i t x y = true) (hf : findB L i = true) (hr : Rises L) (h : EntAt w g L cur) :
    Calls Tryz.prog 42 #[.iface 119 (.agg #[.int .i64 i, .int .i64 t, .float .f32 x, .float .f32 y]), .slice (some ⟨g, 0, none⟩) L.length 32] w (DoPost w g L) := by
  have H := hide h
  have HR := hide hr
  have hsh := h.short
  clear h hr
  have hsf := store_float Tryz.prog
  have ha := as_ss
  go_enter Tryz.func42, Tryz.ntmps42
  go_wp2_with fail
  refine (spawnIn_c _ _ _ _ _).mono ?_
  rintro e w1 ⟨rfl, q1⟩
  have K1 := hide q1
  clear q1
  go_wp2_with fail
  refine (find_c (some ⟨g, 0, none⟩) 32 i L _ (by omega) HR.out (H.out.reads.calm (K1.out.calm2 (Kept.alloc _ _)))).mono ?_
  rintro e w2 ⟨rfl, q2⟩
  have K2 := hide ((K1.out.calm2 (Kept.alloc _ _)).calm2 q2)
  clear q2
  go_wp2
  go_ret
  exact ⟨rfl, ⟨cur, H.out.calm K2.out⟩, K2.out.mono (fun _ _ e => e.elim)⟩
end Go.Proofs.YtgclehnhjjkdbaaGreatDoor
