import Derived.Test.YtlfmfhmbkpnjbaaMove
namespace Go.Proofs.Ytlfmfhmbkpnjbaa
open Go.RowKit

/-- A command. -/
structure Cmd where
  kind : Int
  id : Int
  team : Int
  x : Nat
  y : Nat
  n : Int

/-- The value that a command becomes. -/
def ifaceOf (c : Cmd) : Value :=
  if c.kind = 1 then .iface 143 (.agg #[.int .i64 c.id, .int .i64 c.team, .float .f32 c.x, .float .f32 c.y])
  else if c.kind = 2 then .iface 147 (.agg #[.int .i64 c.id, .float .f32 c.x, .float .f32 c.y])
  else if c.kind = 3 then .iface 149 (.agg #[.int .i64 c.id, .int .i64 c.n])
  else if c.kind = 4 then .iface 151 (.agg #[.int .i64 c.id])
  else .iface 154 (.agg #[])

set_option maxHeartbeats 1000000 in
set_option maxRecDepth 100000 in
theorem commandOf_c (c : Cmd) (w : World) : Calls Try.prog 49 #[.agg #[.int .i64 c.kind, .int .i64 c.id, .int .i64 c.team, .float .f32 c.x, .float .f32 c.y, .int .i64 c.n]] w fun e w' => e = .returned (ifaceOf c) ∧ Kept (fun _ => False) w w' := by
  by_cases h1 : c.kind = 1
  · have H : Hid (ifaceOf c = .iface 143 (.agg #[.int .i64 c.id, .int .i64 c.team, .float .f32 c.x, .float .f32 c.y])) := by show _ = _; unfold ifaceOf; rw [if_pos h1]
    have b1 : (c.kind == 1) = true := by simp [h1]
    clear h1
    go_enter Try.func49, Try.ntmps49
    go_wp2
    go_ret
    exact ⟨ret1 (by rw [H.out]; rfl), Kept.alloc w _⟩
  by_cases h2 : c.kind = 2
  · have H : Hid (ifaceOf c = .iface 147 (.agg #[.int .i64 c.id, .float .f32 c.x, .float .f32 c.y])) := by show _ = _; unfold ifaceOf; rw [if_neg h1, if_pos h2]
    have b1 : (c.kind == 1) = false := by simp [h1]
    have b2 : (c.kind == 2) = true := by simp [h2]
    clear h1 h2
    go_enter Try.func49, Try.ntmps49
    go_wp2
    go_ret
    exact ⟨ret1 (by rw [H.out]; rfl), Kept.alloc w _⟩
  by_cases h3 : c.kind = 3
  · have H : Hid (ifaceOf c = .iface 149 (.agg #[.int .i64 c.id, .int .i64 c.n])) := by show _ = _; unfold ifaceOf; rw [if_neg h1, if_neg h2, if_pos h3]
    have b1 : (c.kind == 1) = false := by simp [h1]
    have b2 : (c.kind == 2) = false := by simp [h2]
    have b3 : (c.kind == 3) = true := by simp [h3]
    clear h1 h2 h3
    go_enter Try.func49, Try.ntmps49
    go_wp2
    go_ret
    exact ⟨ret1 (by rw [H.out]; rfl), Kept.alloc w _⟩
  by_cases h4 : c.kind = 4
  · have H : Hid (ifaceOf c = .iface 151 (.agg #[.int .i64 c.id])) := by show _ = _; unfold ifaceOf; rw [if_neg h1, if_neg h2, if_neg h3, if_pos h4]
    have b1 : (c.kind == 1) = false := by simp [h1]
    have b2 : (c.kind == 2) = false := by simp [h2]
    have b3 : (c.kind == 3) = false := by simp [h3]
    have b4 : (c.kind == 4) = true := by simp [h4]
    clear h1 h2 h3 h4
    go_enter Try.func49, Try.ntmps49
    go_wp2
    go_ret
    exact ⟨ret1 (by rw [H.out]; rfl), Kept.alloc w _⟩
  have H : Hid (ifaceOf c = .iface 154 (.agg #[])) := by show _ = _; unfold ifaceOf; rw [if_neg h1, if_neg h2, if_neg h3, if_neg h4]
  have b1 : (c.kind == 1) = false := by simp [h1]
  have b2 : (c.kind == 2) = false := by simp [h2]
  have b3 : (c.kind == 3) = false := by simp [h3]
  have b4 : (c.kind == 4) = false := by simp [h4]
  clear h1 h2 h3 h4
  go_enter Try.func49, Try.ntmps49
  go_wp2
  go_ret
  exact ⟨ret1 (by rw [H.out]; rfl), Kept.alloc w _⟩

def newM (i t : Int) (x y : Nat) : Mob := { id := i, team := t, x := x, y := y, vx := 0, vy := 0, health := 100 }

set_option maxHeartbeats 1000000 in
set_option maxRecDepth 100000 in
theorem entity_c (i t : Int) (x y : Nat) (w : World) : Calls Try.prog 75 #[.agg #[.int .i64 i, .int .i64 t, .float .f32 x, .float .f32 y]] w fun e w' =>
    e = .returned (.agg #[.int .i64 i, .int .i64 t, .float .f32 x, .float .f32 y, .float .f32 0, .float .f32 0, .int .i64 100]) ∧ Kept (fun _ => False) w w' := by
  have hsf := store_float Try.prog
  go_enter Try.func75, Try.ntmps75
  go_wp2
  refine bodyPost_ret (v := .agg #[.int .i64 i, .int .i64 t, .float .f32 x, .float .f32 y, .float .f32 0, .float .f32 0, .int .i64 100]) (by simp [results, Try.results75, go_sem]) rfl ?_
  exact ⟨rfl, (Kept.alloc w _).calm2 (Kept.alloc _ _)⟩

theorem as_ss (v : Value) (w : World) : (Instr.typeAssert (.iface 143 v) 103 143 true).run Try.prog w = .ok (.tuple #[v, .bool true]) w := by kernel_rfl
theorem as_ps (v : Value) (w : World) : (Instr.typeAssert (.iface 147 v) 103 143 true).run Try.prog w = .ok (.tuple #[.agg #[.int .i64 0, .int .i64 0, .float .f32 0, .float .f32 0], .bool false]) w := by kernel_rfl
theorem as_pp (v : Value) (w : World) : (Instr.typeAssert (.iface 147 v) 103 147 true).run Try.prog w = .ok (.tuple #[v, .bool true]) w := by kernel_rfl
theorem as_hs (v : Value) (w : World) : (Instr.typeAssert (.iface 149 v) 103 143 true).run Try.prog w = .ok (.tuple #[.agg #[.int .i64 0, .int .i64 0, .float .f32 0, .float .f32 0], .bool false]) w := by kernel_rfl
theorem as_hp (v : Value) (w : World) : (Instr.typeAssert (.iface 149 v) 103 147 true).run Try.prog w = .ok (.tuple #[.agg #[.int .i64 0, .float .f32 0, .float .f32 0], .bool false]) w := by kernel_rfl
theorem as_hh (v : Value) (w : World) : (Instr.typeAssert (.iface 149 v) 103 149 true).run Try.prog w = .ok (.tuple #[v, .bool true]) w := by kernel_rfl
theorem as_ls (v : Value) (w : World) : (Instr.typeAssert (.iface 151 v) 103 143 true).run Try.prog w = .ok (.tuple #[.agg #[.int .i64 0, .int .i64 0, .float .f32 0, .float .f32 0], .bool false]) w := by kernel_rfl
theorem as_lp (v : Value) (w : World) : (Instr.typeAssert (.iface 151 v) 103 147 true).run Try.prog w = .ok (.tuple #[.agg #[.int .i64 0, .float .f32 0, .float .f32 0], .bool false]) w := by kernel_rfl
theorem as_lh (v : Value) (w : World) : (Instr.typeAssert (.iface 151 v) 103 149 true).run Try.prog w = .ok (.tuple #[.agg #[.int .i64 0, .int .i64 0], .bool false]) w := by kernel_rfl
theorem as_ll (v : Value) (w : World) : (Instr.typeAssert (.iface 151 v) 103 151 true).run Try.prog w = .ok (.tuple #[v, .bool true]) w := by kernel_rfl

/-- What 'do' leaves. -/
def DoPost (w : World) (g : Nat) (L' : List Mob) (e : Ending) (w' : World) : Prop := e = .returned (.slice (some ⟨g, 0, none⟩) L'.length 32) ∧ (∃ cur', EntAt w' g L' cur') ∧ Kept (fun k => k = g) w w'

set_option maxHeartbeats 1000000 in
set_option maxRecDepth 100000 in
theorem do_unknown (g : Nat) (L : List Mob) (cur : List Value) (w : World) (h : EntAt w g L cur) :
    Calls Try.prog 48 #[.iface 154 (.agg #[]), .slice (some ⟨g, 0, none⟩) L.length 32] w (DoPost w g L) := by
  have H := hide h
  clear h
  go_enter Try.func48, Try.ntmps48
  go_wp2_with fail
  refine (unknownIn_c _).mono ?_
  rintro e w1 ⟨rfl, q1⟩
  have K1 := hide q1
  clear q1
  go_wp2
  go_ret
  exact ⟨rfl, ⟨cur, H.out.calm K1.out⟩, K1.out.mono (fun _ _ e => e.elim)⟩

set_option maxHeartbeats 1000000 in
set_option maxRecDepth 100000 in
theorem do_spawn_no (i t : Int) (x y : Nat) (g : Nat) (L : List Mob) (cur : List Value) (w : World) (hb : spawnB i t x y = false) (h : EntAt w g L cur) :
    Calls Try.prog 48 #[.iface 143 (.agg #[.int .i64 i, .int .i64 t, .float .f32 x, .float .f32 y]), .slice (some ⟨g, 0, none⟩) L.length 32] w (DoPost w g L) := by
  have H := hide h
  clear h
  go_enter Try.func48, Try.ntmps48
  go_wp2_with fail
  refine (spawnIn_c _ _ _ _ _).mono ?_
  rintro e w1 ⟨rfl, q1⟩
  have K1 := hide q1
  clear q1
  go_wp2
  go_ret
  exact ⟨rfl, ⟨cur, H.out.calm K1.out⟩, K1.out.mono (fun _ _ e => e.elim)⟩

set_option maxHeartbeats 2000000 in
set_option maxRecDepth 100000 in
theorem do_spawn_there (i t : Int) (x y : Nat) (g : Nat) (L : List Mob) (cur : List Value) (w : World) (hb : spawnB i t x y = true) (hf : findB L i = true) (hr : Rises L) (h : EntAt w g L cur) :
    Calls Try.prog 48 #[.iface 143 (.agg #[.int .i64 i, .int .i64 t, .float .f32 x, .float .f32 y]), .slice (some ⟨g, 0, none⟩) L.length 32] w (DoPost w g L) := by
  have H := hide h
  have HR := hide hr
  have hsh := h.short
  clear h hr
  have hsf := store_float Try.prog
  have ha := as_ss
  go_enter Try.func48, Try.ntmps48
  go_wp2_with fail
  refine (spawnIn_c _ _ _ _ _).mono ?_
  rintro e w1 ⟨rfl, q1⟩
  have K1 := hide q1
  clear q1
  go_wp2_with fail
  refine (find_c (some ⟨g, 0, none⟩) 32 i L _ (by omega) HR.out (H.out.reads.calm (K1.out.calm2 (Kept.alloc _ _)))).mono ?_
  rintro e w2 ⟨rfl, q2⟩
  have K2 := hide ((K1.out.calm2 (Kept.alloc _ _)).calm2 q2)
  clear q2
  go_wp2
  go_ret
  exact ⟨rfl, ⟨cur, H.out.calm K2.out⟩, K2.out.mono (fun _ _ e => e.elim)⟩
end Go.Proofs.Ytlfmfhmbkpnjbaa
