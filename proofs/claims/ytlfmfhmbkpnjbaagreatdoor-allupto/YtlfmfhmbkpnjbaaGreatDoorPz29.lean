import Derived.Test.YtlfmfhmbkpnjbaaGreatDoorPz28
import Derived.Test.YtlfmfhmbkpnjbaaGreatDoorPz7
import Derived.Test.YtlfmfhmbkpnjbaaGreatDoorPz9
namespace Go.Proofs.YtlfmfhmbkpnjbaaGreatDoor
open Go.RowKit

theorem makeAllM (n : Nat) (hn : n ≤ 4000000) : ∃ cur0 : List Value, cur0.length = n * 7 ∧ ∀ w : World, (Instr.makeSlice 36 (.int .i64 (n : Int)) (.int .i64 (n : Int))).run Tryz.prog w = .ok (.slice (some ⟨w.heap.size, 0, none⟩) n n) (w.alloc (.cells cur0.toArray 83)) := by
  obtain ⟨i0, hi, hz0, hz1, hz2⟩ := info_parts info_mob
  refine ⟨(madeCells (Value.agg #[.int .i64 0, .int .i64 0, .float .f32 0, .float .f32 0, .float .f32 0, .float .f32 0, .int .i64 0]).cells (n * 7)).toList, ?_, fun w => ?_⟩
  · rw [Array.length_toList, size_madeCells]
  · have := run_make (P := Tryz.prog) w 36 83 i0 _ Tryz.underlying36 hi hz0 .i64 .i64 (n : Int) (n : Int) (by omega) (by omega) (by rw [hz2]; omega) (by omega)
    rw [hz1, Int.toNat_natCast] at this
    exact this

theorem makeAllR (n : Nat) (hn : n ≤ 4000000) : ∃ cur0 : List Value, cur0.length = n * 6 ∧ ∀ w : World, (Instr.makeSlice 52 (.int .i64 (n : Int)) (.int .i64 (n : Int))).run Tryz.prog w = .ok (.slice (some ⟨w.heap.size, 0, none⟩) n n) (w.alloc (.cells cur0.toArray 57)) := by
  obtain ⟨i0, hi, hz0, hz1, hz2⟩ := info_parts info_cmd
  refine ⟨(madeCells (Value.agg #[.int .i64 0, .int .i64 0, .int .i64 0, .float .f32 0, .float .f32 0, .int .i64 0]).cells (n * 6)).toList, ?_, fun w => ?_⟩
  · rw [Array.length_toList, size_madeCells]
  · have := run_make (P := Tryz.prog) w 52 57 i0 _ Tryz.underlying52 hi hz0 .i64 .i64 (n : Int) (n : Int) (by omega) (by omega) (by rw [hz2]; omega) (by omega)
    rw [hz1, Int.toNat_natCast] at this
    exact this

theorem six_was {w : World} {g : Nat} {cur : List Value} {T : TypeId} (h : w.heap[g]? = some (.cells cur.toArray T (0, 0))) (o : Nat) (ho : o + 6 ≤ cur.length) : ∃ u0 u1 u2 u3 u4 u5,
    w.cell? ⟨g, o, none⟩ = some u0 ∧ w.cell? ⟨g, o + 1, none⟩ = some u1 ∧ w.cell? ⟨g, o + 2, none⟩ = some u2 ∧ w.cell? ⟨g, o + 3, none⟩ = some u3 ∧ w.cell? ⟨g, o + 4, none⟩ = some u4 ∧ w.cell? ⟨g, o + 5, none⟩ = some u5 := by
  have c : ∀ j, (hj : j < cur.length) → w.cell? ⟨g, j, none⟩ = some cur[j] := fun j hj => by rw [cell_block h]; simp [hj]
  exact ⟨_, _, _, _, _, _, c _ (by omega), c _ (by omega), c _ (by omega), c _ (by omega), c _ (by omega), c _ (by omega)⟩
theorem seven_was {w : World} {g : Nat} {cur : List Value} {T : TypeId} (h : w.heap[g]? = some (.cells cur.toArray T (0, 0))) (o : Nat) (ho : o + 7 ≤ cur.length) : ∃ u0 u1 u2 u3 u4 u5 u6,
    w.cell? ⟨g, o, none⟩ = some u0 ∧ w.cell? ⟨g, o + 1, none⟩ = some u1 ∧ w.cell? ⟨g, o + 2, none⟩ = some u2 ∧ w.cell? ⟨g, o + 3, none⟩ = some u3 ∧ w.cell? ⟨g, o + 4, none⟩ = some u4 ∧ w.cell? ⟨g, o + 5, none⟩ = some u5 ∧ w.cell? ⟨g, o + 6, none⟩ = some u6 := by
  have c : ∀ j, (hj : j < cur.length) → w.cell? ⟨g, j, none⟩ = some cur[j] := fun j hj => by rw [cell_block h]; simp [hj]
  exact ⟨_, _, _, _, _, _, _, c _ (by omega), c _ (by omega), c _ (by omega), c _ (by omega), c _ (by omega), c _ (by omega), c _ (by omega)⟩

def sevenM (w : World) (c : Nat) (m : Mob) : Prop := w.heap[c]? = some (.cells #[.int .i64 m.id, .int .i64 m.team, .float .f32 m.x, .float .f32 m.y, .float .f32 m.vx, .float .f32 m.vy, .int .i64 m.health] 83 (0, 0))
def zeroM : Mob := ⟨0, 0, 0, 0, 0, 0, 0⟩
theorem seven_all {w : World} {c : Nat} {m : Mob} (h : sevenM w c m) :
    (w.cell? ⟨c, 0, none⟩ = some (.int .i64 m.id) ∧ w.cell? ⟨c, 1, none⟩ = some (.int .i64 m.team) ∧ w.cell? ⟨c, 2, none⟩ = some (.float .f32 m.x) ∧ w.cell? ⟨c, 3, none⟩ = some (.float .f32 m.y) ∧ w.cell? ⟨c, 4, none⟩ = some (.float .f32 m.vx) ∧ w.cell? ⟨c, 5, none⟩ = some (.float .f32 m.vy) ∧ w.cell? ⟨c, 6, none⟩ = some (.int .i64 m.health)) ∧
    (w.frozen? ⟨c, 0, none⟩ = false ∧ w.frozen? ⟨c, 1, none⟩ = false ∧ w.frozen? ⟨c, 2, none⟩ = false ∧ w.frozen? ⟨c, 3, none⟩ = false ∧ w.frozen? ⟨c, 4, none⟩ = false ∧ w.frozen? ⟨c, 5, none⟩ = false ∧ w.frozen? ⟨c, 6, none⟩ = false) := by
  unfold sevenM at h
  refine ⟨seven_cells h, ?_⟩
  simp [World.frozen?, h]

set_option maxHeartbeats 1000000 in
set_option maxRecDepth 100000 in
theorem ent_c (b : Nat) (r : Rd) (w : World) (hB : Mine b) (hE : Errs w) (hs : r.small) (h : RdAt w b r) :
    Calls Tryz.prog 109 #[.pointer (some ⟨b, 0, none⟩)] w fun e w' => ∃ m r', r.ent = (m, r') ∧ e = .returned (.agg #[.int .i64 m.id, .int .i64 m.team, .float .f32 m.x, .float .f32 m.y, .float .f32 m.vx, .float .f32 m.vy, .int .i64 m.health]) ∧ RS w w' b r' := by
  have hb := heap_lt h
  have hsf := store_float Tryz.prog
  have HB := hide hB
  have KA := hide (Kept.alloc w (.cells #[.int .i64 0, .int .i64 0, .float .f32 0, .float .f32 0, .float .f32 0, .float .f32 0, .int .i64 0] 83))
  have A0 : Hid (sevenM (w.alloc (.cells #[.int .i64 0, .int .i64 0, .float .f32 0, .float .f32 0, .float .f32 0, .float .f32 0, .int .i64 0] 83)) w.heap.size zeroM) := heap_alloc_new w _
  have T0 : Hid (RS (w.alloc (.cells #[.int .i64 0, .int .i64 0, .float .f32 0, .float .f32 0, .float .f32 0, .float .f32 0, .int .i64 0] 83)) (w.alloc (.cells #[.int .i64 0, .int .i64 0, .float .f32 0, .float .f32 0, .float .f32 0, .float .f32 0, .int .i64 0] 83)) b r) := RS.start (h.calm KA.out) (hE.calm KA.out) hs
  clear h hE hs hB
  go_enter Tryz.func109, Tryz.ntmps109
  go_wp2_with fail
  refine (any_s b _ _ _ HB.out T0.out).mono ?_
  rintro e w1 ⟨v1, r1, hv1, rfl, s1⟩
  have T1 := hide s1
  have V1 := hide hv1
  clear s1 hv1
  go_wp2_with fail
  refine (any_s b _ _ _ HB.out T1.out).mono ?_
  rintro e w2 ⟨v2, r2, hv2, rfl, s2⟩
  have T2 := hide s2
  have V2 := hide hv2
  clear s2 hv2
  go_wp2_with fail
  refine (flt_s b _ _ _ HB.out T2.out).mono ?_
  rintro e w3 ⟨v3, r3, hv3, rfl, s3⟩
  have T3 := hide s3
  have V3 := hide hv3
  clear s3 hv3
  go_wp2_with fail
  refine (flt_s b _ _ _ HB.out T3.out).mono ?_
  rintro e w4 ⟨v4, r4, hv4, rfl, s4⟩
  have T4 := hide s4
  have V4 := hide hv4
  clear s4 hv4
  go_wp2_with fail
  refine (flt_s b _ _ _ HB.out T4.out).mono ?_
  rintro e w5 ⟨v5, r5, hv5, rfl, s5⟩
  have T5 := hide s5
  have V5 := hide hv5
  clear s5 hv5
  go_wp2_with fail
  refine (flt_s b _ _ _ HB.out T5.out).mono ?_
  rintro e w6 ⟨v6, r6, hv6, rfl, s6⟩
  have T6 := hide s6
  have V6 := hide hv6
  clear s6 hv6
  go_wp2_with fail
  refine (any_s b _ _ _ HB.out T6.out).mono ?_
  rintro e w7 ⟨v7, r7, hv7, rfl, s7⟩
  have T7 := hide s7
  have V7 := hide hv7
  clear s7 hv7
  obtain ⟨⟨a0, a1, a2, a3, a4, a5, a6⟩, z0, z1, z2, z3, z4, z5, z6⟩ := seven_all (T7.out.blk A0.out (by omega))
  simp only [zeroM] at a0 a1 a2 a3 a4 a5 a6
  go_wp2
  refine bodyPost_ret (v := .agg #[.int .i64 v1, .int .i64 v2, .float .f32 v3, .float .f32 v4, .float .f32 v5, .float .f32 v6, .int .i64 v7]) (by simp [results, Tryz.results109, go_sem, a0, a1, a2, a3, a4, a5, a6]) rfl ?_
  refine ⟨⟨v1, v2, v3, v4, v5, v6, v7⟩, _, (by unfold Rd.ent; simp only [V1.out, V2.out, V3.out, V4.out, V5.out, V6.out, V7.out]), rfl, cmd_end hb HB.out KA.out T7.out (Kept.refl _ _) (RS.start T7.out.at_ T7.out.errs T7.out.small) (b2 := w.heap.size) (b3 := w.heap.size) (Nat.le_refl _) (Nat.le_refl _) ?_ rfl⟩
  repeat (refine Kept.set' ?_ (by first | exact Or.inl rfl | exact Or.inr rfl))
  exact Kept.refl _ _

/-- A new row that is being filled by what a reader reads. -/
structure RL (Wm wr : World) (b g : Nat) (T : TypeId) (n : Nat) (done : List Value) (r : Rd) : Prop where
  at_ : RdAt wr b r
  kept : Kept (fun k => k = b ∨ k = g) Wm wr
  errs : Errs wr
  small : r.small
  row : ∃ cur : List Value, wr.heap[g]? = some (.cells cur.toArray T (0, 0)) ∧ cur.length = n ∧ cur.take done.length = done
theorem RL.step {Wm wr w1 w2 : World} {b g : Nat} {T : TypeId} {n : Nat} {done vs : List Value} {r r' : Rd} (h : RL Wm wr b g T n done r) (s : RS wr w1 b r') (hbg : b ≠ g) (hg : Mine g) (hl : done.length + vs.length ≤ n) (e : w2 = w1.setCells g done.length vs) : RL Wm w2 b g T n (done ++ vs) r' := by
  obtain ⟨cur, h1, h2, h3⟩ := h.row
  have hb1 := s.blk h1 (fun e => hbg e.symm)
  obtain ⟨q1, q2⟩ := setCells_row g T vs done.length cur w1 hb1 (by omega)
  subst e
  refine ⟨s.at_.keep q2 hbg, (h.kept.join s.kept (R := fun k => k = b ∨ k = g) (fun _ _ e => e) (fun _ _ e => Or.inl e)).join q2 (fun _ _ e => e) (fun _ _ e => Or.inr e), s.errs.mine hg q2, s.small, _, q1, ?_, ?_⟩
  · rw [length_splice _ _ _ (by omega)]; exact h2
  · unfold splice
    rw [h3, ← List.append_assoc]
    exact List.take_left

set_option maxHeartbeats 2000000 in
set_option maxRecDepth 100000 in
theorem commands_r (b : Nat) (r : Rd) (w : World) (hB : Mine b) (hE : Errs w) (hs : r.small) (h : RdAt w b r) :
    Calls Tryz.prog 82 #[.pointer (some ⟨b, 0, none⟩)] w fun e w' => ∃ cs r' g, r.cmdL = (cs, r') ∧ e = .returned (.slice (some ⟨g, 0, none⟩) cs.length cs.length) ∧ w.heap.size ≤ g ∧ w'.heap[g]? = some (.cells (rowC cs).toArray 57 (0, 0)) ∧ RS w w' b r' := by
  have hb := heap_lt h
  have hsf := store_float Tryz.prog
  have HB := hide hB
  have S0 : Hid (RS w w b r) := RS.start h hE hs
  clear h hE hs hB
  go_enter Tryz.func82, Tryz.ntmps82
  go_wp2_with fail
  refine (int_s b r 0 64 _ _ HB.out S0.out).mono ?_
  rintro e w1 ⟨v, r1, hv, rfl, s1⟩
  have hvb := int_bounds r 0 64 (by omega)
  rw [hv] at hvb
  simp only at hvb
  obtain ⟨n, rfl⟩ : ∃ n : Nat, v = (n : Int) := ⟨v.toNat, by omega⟩
  have V := hide hv
  have S1 := hide s1
  have hbw1 : b < w1.heap.size := heap_lt s1.at_
  have hww1 := s1.kept.size
  clear s1 hv
  obtain ⟨cur0, hc0, hmk⟩ := makeAllR n (by omega)
  have KM := hide (Kept.alloc w1 (.cells cur0.toArray 57))
  have L0 : Hid (RL (w1.alloc (.cells cur0.toArray 57)) (w1.alloc (.cells cur0.toArray 57)) b w1.heap.size 57 (n * 6) (rowC (r1.cmds 0).1) (r1.cmds 0).2) :=
    ⟨S1.out.at_.calm KM.out, Kept.refl _ _, S1.out.errs.calm KM.out, S1.out.small, cur0, heap_alloc_new w1 _, hc0, by simp [Rd.cmds, rowC]⟩
  have hgM : Hid (Mine w1.heap.size) := HB.out.up (by omega)
  go_wp2
  go_loopw [10] (fun a wr => ∃ i : Nat, i ≤ n ∧ a = .int .i64 i ∧ Hid (RL (w1.alloc (.cells cur0.toArray 57)) wr b w1.heap.size 57 (n * 6) (rowC (r1.cmds i).1) (r1.cmds i).2)) (fun a _ => n - (intOf a).toNat)
  case atStart => exact ⟨0, Nat.zero_le _, rfl, L0⟩
  case round =>
    obtain ⟨i, hin, rfl, HL⟩ := hrel
    clear L0
    by_cases hlt : i < n
    · have hb1 : (0 : Int) ≤ (i : Int) := by omega
      have hb2 : (i : Int) < (n : Int) := by omega
      go_wp2_with fail
      refine (cmd_c b _ _ HB.out HL.out.errs HL.out.small HL.out.at_).mono ?_
      rintro e w2 ⟨c, r2, hcc, rfl, s2⟩
      obtain ⟨cu, g1, g2, g3⟩ := HL.out.row
      have B2 := hide (s2.blk g1 (by omega))
      have hal : i * 6 + 6 ≤ cu.length := by omega
      obtain ⟨u0, u1, u2, u3, u4, u5, f0, f1, f2, f3, f4, f5⟩ := six_was B2.out (i * 6) hal
      have ffz : ∀ j, w2.frozen? ⟨w1.heap.size, j, none⟩ = false := fun j => by simp [World.frozen?, B2.out]
      have hln : (rowC (r1.cmds i).1).length = i * 6 := by rw [rowC_length, cmds_length]
      have HN : Hid (∀ w3, w3 = w2.setCells w1.heap.size (i * 6) (rowC [c]) → RL (w1.alloc (.cells cur0.toArray 57)) w3 b w1.heap.size 57 (n * 6) (rowC (r1.cmds (i + 1)).1) (r1.cmds (i + 1)).2) := by
        intro w3 e3
        rw [e3]
        have := HL.out.step (vs := rowC [c]) s2 (by omega) hgM.out (by rw [hln]; show i * 6 + 6 ≤ n * 6; omega) rfl
        simp only [Rd.cmds, hcc, rowC_append]
        rw [hln] at this
        exact this
      clear s2 g1 g2 g3 hln hcc
      go_wp2
      go_roundw
      case rel => exact ⟨i + 1, by omega, by go_num, HN.out _ rfl⟩
      case measure => simp [intOf]; omega
    · obtain rfl : i = n := by omega
      have HF : Hid (RS w wr b (r1.cmds i).2 ∧ wr.heap[w1.heap.size]? = some (.cells (rowC (r1.cmds i).1).toArray 57 (0, 0))) := by
        obtain ⟨cu, g1, g2, g3⟩ := HL.out.row
        have hln : (rowC (r1.cmds i).1).length = i * 6 := by rw [rowC_length, cmds_length]
        rw [hln, ← g2, List.take_length] at g3
        refine ⟨⟨HL.out.at_, S1.out.kept.join (KM.out.join HL.out.kept (R := fun k => k = b ∨ k = w1.heap.size) (fun _ _ e => e.elim) (fun _ _ e => e)) (fun _ _ e => e) (fun j hj e => by rcases e with e | e <;> omega), HL.out.errs, HL.out.small⟩, by rw [← g3]; exact g1⟩
      have HLen : Hid ((r1.cmds i).1.length = i) := cmds_length r1 i
      go_wp2
      go_ret
      refine ⟨(r1.cmds i).1, (r1.cmds i).2, w1.heap.size, ?_, ?_, hww1, HF.out.2, HF.out.1⟩
      · unfold Rd.cmdL
        rw [V.out]
        simp
      · rw [HLen.out]
        rfl

set_option maxHeartbeats 500000 in
set_option maxRecDepth 100000 in
theorem entities_r (b : Nat) (r : Rd) (w : World) (hB : Mine b) (hE : Errs w) (hs : r.small) (h : RdAt w b r) :
    Calls Tryz.prog 83 #[.pointer (some ⟨b, 0, none⟩)] w fun e w' => ∃ cs r' g, r.entL = (cs, r') ∧ e = .returned (.slice (some ⟨g, 0, none⟩) cs.length cs.length) ∧ w.heap.size ≤ g ∧ w'.heap[g]? = some (.cells (rowM cs).toArray 83 (0, 0)) ∧ RS w w' b r' := by
  have hb := heap_lt h
  have hsf := store_float Tryz.prog
  have HB := hide hB
  have S0 : Hid (RS w w b r) := RS.start h hE hs
  clear h hE hs hB
  go_enter Tryz.func83, Tryz.ntmps83
  go_wp2_with fail
  refine (int_s b r 0 32 _ _ HB.out S0.out).mono ?_
  rintro e w1 ⟨v, r1, hv, rfl, s1⟩
  have hvb := int_bounds r 0 32 (by omega)
  rw [hv] at hvb
  simp only at hvb
  obtain ⟨n, rfl⟩ : ∃ n : Nat, v = (n : Int) := ⟨v.toNat, by omega⟩
  have V := hide hv
  have S1 := hide s1
  have hbw1 : b < w1.heap.size := heap_lt s1.at_
  have hww1 := s1.kept.size
  clear s1 hv
  obtain ⟨cur0, hc0, hmk⟩ := makeAllM n (by omega)
  have KM := hide (Kept.alloc w1 (.cells cur0.toArray 83))
  have L0 : Hid (RL (w1.alloc (.cells cur0.toArray 83)) (w1.alloc (.cells cur0.toArray 83)) b w1.heap.size 83 (n * 7) (rowM (r1.ents 0).1) (r1.ents 0).2) :=
    ⟨S1.out.at_.calm KM.out, Kept.refl _ _, S1.out.errs.calm KM.out, S1.out.small, cur0, heap_alloc_new w1 _, hc0, by simp [Rd.ents, rowM]⟩
  have hgM : Hid (Mine w1.heap.size) := HB.out.up (by omega)
  go_wp2
  go_loopw [10] (fun a wr => ∃ i : Nat, i ≤ n ∧ a = .int .i64 i ∧ Hid (RL (w1.alloc (.cells cur0.toArray 83)) wr b w1.heap.size 83 (n * 7) (rowM (r1.ents i).1) (r1.ents i).2)) (fun a _ => n - (intOf a).toNat)
  case atStart => exact ⟨0, Nat.zero_le _, rfl, L0⟩
  case round =>
    obtain ⟨i, hin, rfl, HL⟩ := hrel
    clear L0
    by_cases hlt : i < n
    · have hb1 : (0 : Int) ≤ (i : Int) := by omega
      have hb2 : (i : Int) < (n : Int) := by omega
      go_wp2_with fail
      refine (ent_c b _ _ HB.out HL.out.errs HL.out.small HL.out.at_).mono ?_
      rintro e w2 ⟨c, r2, hcc, rfl, s2⟩
      obtain ⟨cu, g1, g2, g3⟩ := HL.out.row
      have B2 := hide (s2.blk g1 (by omega))
      have hal : i * 7 + 7 ≤ cu.length := by omega
      obtain ⟨u0, u1, u2, u3, u4, u5, u6, f0, f1, f2, f3, f4, f5, f6⟩ := seven_was B2.out (i * 7) hal
      have ffz : ∀ j, w2.frozen? ⟨w1.heap.size, j, none⟩ = false := fun j => by simp [World.frozen?, B2.out]
      have hln : (rowM (r1.ents i).1).length = i * 7 := by rw [rowM_length, ents_length]
      have HN : Hid (∀ w3, w3 = w2.setCells w1.heap.size (i * 7) (rowM [c]) → RL (w1.alloc (.cells cur0.toArray 83)) w3 b w1.heap.size 83 (n * 7) (rowM (r1.ents (i + 1)).1) (r1.ents (i + 1)).2) := by
        intro w3 e3
        rw [e3]
        have := HL.out.step (vs := rowM [c]) s2 (by omega) hgM.out (by rw [hln]; show i * 7 + 7 ≤ n * 7; omega) rfl
        simp only [Rd.ents, hcc, rowM_append]
        rw [hln] at this
        exact this
      clear s2 g1 g2 g3 hln hcc
      go_wp2
      go_roundw
      case rel => exact ⟨i + 1, by omega, by go_num, HN.out _ rfl⟩
      case measure => simp [intOf]; omega
    · obtain rfl : i = n := by omega
      have HF : Hid (RS w wr b (r1.ents i).2 ∧ wr.heap[w1.heap.size]? = some (.cells (rowM (r1.ents i).1).toArray 83 (0, 0))) := by
        obtain ⟨cu, g1, g2, g3⟩ := HL.out.row
        have hln : (rowM (r1.ents i).1).length = i * 7 := by rw [rowM_length, ents_length]
        rw [hln, ← g2, List.take_length] at g3
        refine ⟨⟨HL.out.at_, S1.out.kept.join (KM.out.join HL.out.kept (R := fun k => k = b ∨ k = w1.heap.size) (fun _ _ e => e.elim) (fun _ _ e => e)) (fun _ _ e => e) (fun j hj e => by rcases e with e | e <;> omega), HL.out.errs, HL.out.small⟩, by rw [← g3]; exact g1⟩
      have HLen : Hid ((r1.ents i).1.length = i) := ents_length r1 i
      go_wp2
      go_ret
      refine ⟨(r1.ents i).1, (r1.ents i).2, w1.heap.size, ?_, ?_, hww1, HF.out.2, HF.out.1⟩
      · unfold Rd.entL
        rw [V.out]
        simp
      · rw [HLen.out]
        rfl
end Go.Proofs.YtlfmfhmbkpnjbaaGreatDoor

namespace Go.Proofs.YtlfmfhmbkpnjbaaGreatDoor
open Go.RowKit

/-- How far two are apart, squared; who sees whom. -/
def dist (a e : Mob) : Nat := fadd (fmul (fsub e.x a.x) (fsub e.x a.x)) (fmul (fsub e.y a.y) (fsub e.y a.y))
def seesB (a e : Mob) (far : Nat) : Bool := (a.team == e.team) || fle (dist a e) (fmul far far)

structure Pl (m : Mob) : Prop where
  x : isNum m.x
  y : isNum m.y

theorem dist_ok {a e : Mob} (ha : Pl a) (he : Pl e) : okV (dist a e) ∧ floatBits .add .f32 (fmul (fsub e.x a.x) (fsub e.x a.x)) (fmul (fsub e.y a.y) (fsub e.y a.y)) = some (dist a e) := by
  have hx := sq_any (sub_any he.x ha.x).2.1
  have hy := sq_any (sub_any he.y ha.y).2.1
  unfold dist
  rw [hx.1, hy.1]
  have := add_pos (sqR_le (rung (fsub e.x a.x))) (sqR_le (rung (fsub e.y a.y)))
  exact ⟨this.2, this.1⟩

theorem dist_swap {a e : Mob} (ha : Pl a) (he : Pl e) : dist a e = dist e a := by
  have hx := sq_any (sub_any he.x ha.x).2.1
  have hy := sq_any (sub_any he.y ha.y).2.1
  have hx' := sq_any (sub_any ha.x he.x).2.1
  have hy' := sq_any (sub_any ha.y he.y).2.1
  unfold dist
  rw [hx.1, hy.1, hx'.1, hy'.1, sub_swap he.x ha.x, sub_swap he.y ha.y]

theorem sees_swap {a e : Mob} (ha : Pl a) (he : Pl e) (far : Nat) : seesB a e far = seesB e a far := by
  unfold seesB
  rw [dist_swap ha he, BEq.comm]

set_option maxHeartbeats 1000000 in
set_option maxRecDepth 100000 in
theorem sees_c (a e : Mob) (far : Nat) (w : World) (ha : Pl a) (he : Pl e) (hf : okV far) :
    Calls Tryz.prog 132 #[.agg #[.int .i64 a.id, .int .i64 a.team, .float .f32 a.x, .float .f32 a.y, .float .f32 a.vx, .float .f32 a.vy, .int .i64 a.health], .agg #[.int .i64 e.id, .int .i64 e.team, .float .f32 e.x, .float .f32 e.y, .float .f32 e.vx, .float .f32 e.vy, .int .i64 e.health], .float .f32 far] w fun r w' => r = .returned (.bool (seesB a e far)) ∧ Kept (fun _ => False) w w' := by
  have r1 : ∀ w, (binOp .sub 55 (.float .f32 e.x) (.float .f32 a.x)).run Tryz.prog w = .ok (.float .f32 (fsub e.x a.x)) w := fun w => run_float_arith w .sub _ .f32 _ _ _ (sub_any he.x ha.x).1
  have r2 : ∀ w, (binOp .sub 55 (.float .f32 e.y) (.float .f32 a.y)).run Tryz.prog w = .ok (.float .f32 (fsub e.y a.y)) w := fun w => run_float_arith w .sub _ .f32 _ _ _ (sub_any he.y ha.y).1
  have r3 : ∀ w, (binOp .mul 55 (.float .f32 (fsub e.x a.x)) (.float .f32 (fsub e.x a.x))).run Tryz.prog w = .ok (.float .f32 (fmul (fsub e.x a.x) (fsub e.x a.x))) w := fun w => run_float_arith w .mul _ .f32 _ _ _ (sq_any (sub_any he.x ha.x).2.1).2.1
  have r4 : ∀ w, (binOp .mul 55 (.float .f32 (fsub e.y a.y)) (.float .f32 (fsub e.y a.y))).run Tryz.prog w = .ok (.float .f32 (fmul (fsub e.y a.y) (fsub e.y a.y))) w := fun w => run_float_arith w .mul _ .f32 _ _ _ (sq_any (sub_any he.y ha.y).2.1).2.1
  have r5 : ∀ w, (binOp .add 55 (.float .f32 (fmul (fsub e.x a.x) (fsub e.x a.x))) (.float .f32 (fmul (fsub e.y a.y) (fsub e.y a.y)))).run Tryz.prog w = .ok (.float .f32 (dist a e)) w := fun w => run_float_arith w .add _ .f32 _ _ _ (dist_ok ha he).2
  have r6 : ∀ w, (binOp .mul 55 (.float .f32 far) (.float .f32 far)).run Tryz.prog w = .ok (.float .f32 (fmul far far)) w := fun w => run_float_arith w .mul _ .f32 _ _ _ (sq_any hf).2.1
  have HK := hide ((Kept.alloc w (.cells #[.int .i64 a.id, .int .i64 a.team, .float .f32 a.x, .float .f32 a.y, .float .f32 a.vx, .float .f32 a.vy, .int .i64 a.health] 83)).calm2 (Kept.alloc _ (.cells #[.int .i64 e.id, .int .i64 e.team, .float .f32 e.x, .float .f32 e.y, .float .f32 e.vx, .float .f32 e.vy, .int .i64 e.health] 83)))
  by_cases h1 : a.team = e.team
  · have H : Hid (seesB a e far = true) := by show _ = _; simp [seesB, h1]
    have h1' : (a.team == e.team) = true := by simp [h1]
    clear h1
    go_enter Tryz.func132, Tryz.ntmps132
    go_wp2
    go_ret
    exact ⟨ret1 (by rw [H.out]; rfl), HK.out⟩
  · have h1' : (a.team == e.team) = false := by simp [h1]
    have H : Hid (seesB a e far = fle (dist a e) (fmul far far)) := by show _ = _; simp [seesB, h1]
    clear h1
    go_enter Tryz.func132, Tryz.ntmps132
    go_wp2
    go_quiet (fail)
    go_wp2
    go_ret
    exact ⟨ret1 (by rw [H.out]; rfl), HK.out.calm2 (Kept.drewN _ _)⟩

theorem isNaN64_c (r : Nat) (w : World) (h : (FloatKind.f64.format.order r r != some .eq) = false) : Calls Tryz.prog 131 #[.float .f64 r] w fun e w' => e = .returned (.bool false) ∧ w' = w := by
  go_enter Tryz.func131, Tryz.ntmps131
  go_wp2
  go_ret
  exact ⟨rfl, rfl⟩
end Go.Proofs.YtlfmfhmbkpnjbaaGreatDoor
