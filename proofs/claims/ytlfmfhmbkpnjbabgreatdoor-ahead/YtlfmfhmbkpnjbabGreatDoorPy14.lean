import Derived.Test.YtlfmfhmbkpnjbabGreatDoorPy13
import Derived.Test.YtlfmfhmbkpnjbabGreatDoorPy11
namespace Go.Proofs.YtlfmfhmbkpnjbabGreatDoor
open Go.RowKit

theorem makeAllM (n : Nat) (hn : n ≤ 4000000) : ∃ cur0 : List Value, cur0.length = n * 7 ∧ ∀ w : World, (Instr.makeSlice 32 (.int .i64 (n : Int)) (.int .i64 (n : Int))).run Tryz.prog w = .ok (.slice (some ⟨w.heap.size, 0, none⟩) n n) (w.alloc (.cells cur0.toArray 63)) := by
  obtain ⟨i0, hi, hz0, hz1, hz2⟩ := info_parts info_mob
  refine ⟨(madeCells (Value.agg #[.int .i64 0, .int .i64 0, .float .f32 0, .float .f32 0, .float .f32 0, .float .f32 0, .int .i64 0]).cells (n * 7)).toList, ?_, fun w => ?_⟩
  · rw [Array.length_toList, size_madeCells]
  · have := run_make (P := Tryz.prog) w 32 63 i0 _ Tryz.underlying32 hi hz0 .i64 .i64 (n : Int) (n : Int) (by omega) (by omega) (by rw [hz2]; omega) (by omega)
    rw [hz1, Int.toNat_natCast] at this
    exact this

theorem makeAllR (n : Nat) (hn : n ≤ 4000000) : ∃ cur0 : List Value, cur0.length = n * 6 ∧ ∀ w : World, (Instr.makeSlice 54 (.int .i64 (n : Int)) (.int .i64 (n : Int))).run Tryz.prog w = .ok (.slice (some ⟨w.heap.size, 0, none⟩) n n) (w.alloc (.cells cur0.toArray 90)) := by
  obtain ⟨i0, hi, hz0, hz1, hz2⟩ := info_parts info_cmd
  refine ⟨(madeCells (Value.agg #[.int .i64 0, .int .i64 0, .int .i64 0, .float .f32 0, .float .f32 0, .int .i64 0]).cells (n * 6)).toList, ?_, fun w => ?_⟩
  · rw [Array.length_toList, size_madeCells]
  · have := run_make (P := Tryz.prog) w 54 90 i0 _ Tryz.underlying54 hi hz0 .i64 .i64 (n : Int) (n : Int) (by omega) (by omega) (by rw [hz2]; omega) (by omega)
    rw [hz1, Int.toNat_natCast] at this
    exact this

theorem six_was {w : World} {g : Nat} {cur : List Value} {T : TypeId} (h : w.heap[g]? = some (.cells cur.toArray T (0, 0))) (o : Nat) (ho : o + 6 ≤ cur.length) : ∃ u0 u1 u2 u3 u4 u5,
    w.cell? ⟨g, o, none⟩ = some u0 ∧ w.cell? ⟨g, o + 1, none⟩ = some u1 ∧ w.cell? ⟨g, o + 2, none⟩ = some u2 ∧ w.cell? ⟨g, o + 3, none⟩ = some u3 ∧ w.cell? ⟨g, o + 4, none⟩ = some u4 ∧ w.cell? ⟨g, o + 5, none⟩ = some u5 := by
  have c : ∀ j, (hj : j < cur.length) → w.cell? ⟨g, j, none⟩ = some cur[j] := fun j hj => by rw [cell_block h]; simp [hj]
  exact ⟨_, _, _, _, _, _, c _ (by omega), c _ (by omega), c _ (by omega), c _ (by omega), c _ (by omega), c _ (by omega)⟩
theorem seven_was {w : World} {g : Nat} {cur : List Value} {T : TypeId} (h : w.heap[g]? = some (.cells cur.toArray T (0, 0))) (o : Nat) (ho : o + 7 ≤ cur.length) : ∃ u0 u1 u2 u3 u4 u5 u6,
    w.cell? ⟨g, o, none⟩ = some u0 ∧ w.cell? ⟨g, o + 1, none⟩ = some u1 ∧ w.cell? ⟨g, o + 2, none⟩ = some u2 ∧ w.cell? ⟨g, o + 3, none⟩ = some u3 ∧ w.cell? ⟨g, o + 4, none⟩ = some u4 ∧ w.cell? ⟨g, o + 5, none⟩ = some u5 ∧ w.cell? ⟨g, o + 6, none⟩ = some u6 := by
  have c : ∀ j, (hj : j < cur.length) → w.cell? ⟨g, j, none⟩ = some cur[j] := fun j hj => by rw [cell_block h]; simp [hj]
  exact ⟨_, _, _, _, _, _, _, c _ (by omega), c _ (by omega), c _ (by omega), c _ (by omega), c _ (by omega), c _ (by omega), c _ (by omega)⟩

def sevenM (w : World) (c : Nat) (m : Mob) : Prop := w.heap[c]? = some (.cells #[.int .i64 m.id, .int .i64 m.team, .float .f32 m.x, .float .f32 m.y, .float .f32 m.vx, .float .f32 m.vy, .int .i64 m.health] 63 (0, 0))
def zeroM : Mob := ⟨0, 0, 0, 0, 0, 0, 0⟩
theorem seven_all {w : World} {c : Nat} {m : Mob} (h : sevenM w c m) :
    (w.cell? ⟨c, 0, none⟩ = some (.int .i64 m.id) ∧ w.cell? ⟨c, 1, none⟩ = some (.int .i64 m.team) ∧ w.cell? ⟨c, 2, none⟩ = some (.float .f32 m.x) ∧ w.cell? ⟨c, 3, none⟩ = some (.float .f32 m.y) ∧ w.cell? ⟨c, 4, none⟩ = some (.float .f32 m.vx) ∧ w.cell? ⟨c, 5, none⟩ = some (.float .f32 m.vy) ∧ w.cell? ⟨c, 6, none⟩ = some (.int .i64 m.health)) ∧
    (w.frozen? ⟨c, 0, none⟩ = false ∧ w.frozen? ⟨c, 1, none⟩ = false ∧ w.frozen? ⟨c, 2, none⟩ = false ∧ w.frozen? ⟨c, 3, none⟩ = false ∧ w.frozen? ⟨c, 4, none⟩ = false ∧ w.frozen? ⟨c, 5, none⟩ = false ∧ w.frozen? ⟨c, 6, none⟩ = false) := by
  unfold sevenM at h
  refine ⟨seven_cells h, ?_⟩
  simp [World.frozen?, h]

set_option maxHeartbeats 1000000 in
set_option maxRecDepth 100000 in
theorem ent_c (b : Nat) (r : Rd) (w : World) (hB : Mine b) (hE : Errs w) (hs : r.small) (h : RdAt w b r) :
    Calls Tryz.prog 73 #[.pointer (some ⟨b, 0, none⟩)] w fun e w' => ∃ m r', r.ent = (m, r') ∧ e = .returned (.agg #[.int .i64 m.id, .int .i64 m.team, .float .f32 m.x, .float .f32 m.y, .float .f32 m.vx, .float .f32 m.vy, .int .i64 m.health]) ∧ RS w w' b r' := by
  have hb := heap_lt h
  have hsf := store_float Tryz.prog
  have HB := hide hB
  have KA := hide (Kept.alloc w (.cells #[.int .i64 0, .int .i64 0, .float .f32 0, .float .f32 0, .float .f32 0, .float .f32 0, .int .i64 0] 63))
  have A0 : Hid (sevenM (w.alloc (.cells #[.int .i64 0, .int .i64 0, .float .f32 0, .float .f32 0, .float .f32 0, .float .f32 0, .int .i64 0] 63)) w.heap.size zeroM) := heap_alloc_new w _
  have T0 : Hid (RS (w.alloc (.cells #[.int .i64 0, .int .i64 0, .float .f32 0, .float .f32 0, .float .f32 0, .float .f32 0, .int .i64 0] 63)) (w.alloc (.cells #[.int .i64 0, .int .i64 0, .float .f32 0, .float .f32 0, .float .f32 0, .float .f32 0, .int .i64 0] 63)) b r) := RS.start (h.calm KA.out) (hE.calm KA.out) hs
  clear h hE hs hB
  go_enter Tryz.func73, Tryz.ntmps73
  go_wp2_with fail
  refine (any_s b _ _ _ HB.out T0.out).mono ?_
  rintro e w1 ⟨v1, r1, hv1, rfl, s1⟩
  have T1 := hide s1
  have V1 := hide hv1
  clear s1 hv1
  go_wp2_with fail
  refine (any_s b _ _ _ HB.out T1.out).mono ?_
  rintro e w2 ⟨v2, r2, hv2, rfl, s2⟩
  have T2 := hide s2
  have V2 := hide hv2
  clear s2 hv2
  go_wp2_with fail
  refine (flt_s b _ _ _ HB.out T2.out).mono ?_
  rintro e w3 ⟨v3, r3, hv3, rfl, s3⟩
  have T3 := hide s3
  have V3 := hide hv3
  clear s3 hv3
  go_wp2_with fail
  refine (flt_s b _ _ _ HB.out T3.out).mono ?_
  rintro e w4 ⟨v4, r4, hv4, rfl, s4⟩
  have T4 := hide s4
  have V4 := hide hv4
  clear s4 hv4
  go_wp2_with fail
  refine (flt_s b _ _ _ HB.out T4.out).mono ?_
  rintro e w5 ⟨v5, r5, hv5, rfl, s5⟩
  have T5 := hide s5
  have V5 := hide hv5
  clear s5 hv5
  go_wp2_with fail
  refine (flt_s b _ _ _ HB.out T5.out).mono ?_
  rintro e w6 ⟨v6, r6, hv6, rfl, s6⟩
  have T6 := hide s6
  have V6 := hide hv6
  clear s6 hv6
  go_wp2_with fail
  refine (any_s b _ _ _ HB.out T6.out).mono ?_
  rintro e w7 ⟨v7, r7, hv7, rfl, s7⟩
  have T7 := hide s7
  have V7 := hide hv7
  clear s7 hv7
  obtain ⟨⟨a0, a1, a2, a3, a4, a5, a6⟩, z0, z1, z2, z3, z4, z5, z6⟩ := seven_all (T7.out.blk A0.out (by omega))
  simp only [zeroM] at a0 a1 a2 a3 a4 a5 a6
  go_wp2
  refine bodyPost_ret (v := .agg #[.int .i64 v1, .int .i64 v2, .float .f32 v3, .float .f32 v4, .float .f32 v5, .float .f32 v6, .int .i64 v7]) (by simp [results, Tryz.results73, go_sem, a0, a1, a2, a3, a4, a5, a6]) rfl ?_
  refine ⟨⟨v1, v2, v3, v4, v5, v6, v7⟩, _, (by unfold Rd.ent; simp only [V1.out, V2.out, V3.out, V4.out, V5.out, V6.out, V7.out]), rfl, cmd_end hb HB.out KA.out T7.out (Kept.refl _ _) (RS.start T7.out.at_ T7.out.errs T7.out.small) (b2 := w.heap.size) (b3 := w.heap.size) (Nat.le_refl _) (Nat.le_refl _) ?_ rfl⟩
  repeat (refine Kept.set' ?_ (by first | exact Or.inl rfl | exact Or.inr rfl))
  exact Kept.refl _ _

/-- A new row that is being filled by what a reader reads. -/
structure RL (Wm wr : World) (b g : Nat) (T : TypeId) (n : Nat) (done : List Value) (r : Rd) : Prop where
  at_ : RdAt wr b r
  kept : Kept (fun k => k = b ∨ k = g) Wm wr
  errs : Errs wr
  small : r.small
  row : ∃ cur : List Value, wr.heap[g]? = some (.cells cur.toArray T (0, 0)) ∧ cur.length = n ∧ cur.take done.length = done
theorem RL.step {Wm wr w1 w2 : World} {b g : Nat} {T : TypeId} {n : Nat} {done vs : List Value} {r r' : Rd} (h : RL Wm wr b g T n done r) (s : RS wr w1 b r') (hbg : b ≠ g) (hg : Mine g) (hl : done.length + vs.length ≤ n) (e : w2 = w1.setCells g done.length vs) : RL Wm w2 b g T n (done ++ vs) r' := by
  obtain ⟨cur, h1, h2, h3⟩ := h.row
  have hb1 := s.blk h1 (fun e => hbg e.symm)
  obtain ⟨q1, q2⟩ := setCells_row g T vs done.length cur w1 hb1 (by omega)
  subst e
  refine ⟨s.at_.keep q2 hbg, (h.kept.join s.kept (R := fun k => k = b ∨ k = g) (fun _ _ e => e) (fun _ _ e => Or.inl e)).join q2 (fun _ _ e => e) (fun _ _ e => Or.inr e), s.errs.mine hg q2, s.small, _, q1, ?_, ?_⟩
  · rw [length_splice _ _ _ (by omega)]; exact h2
  · unfold splice
    rw [h3, ← List.append_assoc]
    exact List.take_left

set_option maxHeartbeats 2000000 in
set_option maxRecDepth 100000 in
theorem commands_r (b : Nat) (r : Rd) (w : World) (hB : Mine b) (hE : Errs w) (hs : r.small) (h : RdAt w b r) :
    Calls Tryz.prog 51 #[.pointer (some ⟨b, 0, none⟩)] w fun e w' => ∃ cs r' g, r.cmdL = (cs, r') ∧ e = .returned (.slice (some ⟨g, 0, none⟩) cs.length cs.length) ∧ w.heap.size ≤ g ∧ w'.heap[g]? = some (.cells (rowC cs).toArray 90 (0, 0)) ∧ RS w w' b r' := by
  have hb := heap_lt h
  have hsf := store_float Tryz.prog
  have HB := hide hB
  have S0 : Hid (RS w w b r) := RS.start h hE hs
  clear h hE hs hB
  go_enter Tryz.func51, Tryz.ntmps51
  go_wp2_with fail
  refine (int_s b r 0 64 _ _ HB.out S0.out).mono ?_
  rintro e w1 ⟨v, r1, hv, rfl, s1⟩
  have hvb := int_bounds r 0 64 (by omega)
  rw [hv] at hvb
  simp only at hvb
  obtain ⟨n, rfl⟩ : ∃ n : Nat, v = (n : Int) := ⟨v.toNat, by omega⟩
  have V := hide hv
  have S1 := hide s1
  have hbw1 : b < w1.heap.size := heap_lt s1.at_
  have hww1 := s1.kept.size
  clear s1 hv
  obtain ⟨cur0, hc0, hmk⟩ := makeAllR n (by omega)
  have KM := hide (Kept.alloc w1 (.cells cur0.toArray 90))
  have L0 : Hid (RL (w1.alloc (.cells cur0.toArray 90)) (w1.alloc (.cells cur0.toArray 90)) b w1.heap.size 90 (n * 6) (rowC (r1.cmds 0).1) (r1.cmds 0).2) :=
    ⟨S1.out.at_.calm KM.out, Kept.refl _ _, S1.out.errs.calm KM.out, S1.out.small, cur0, heap_alloc_new w1 _, hc0, by simp [Rd.cmds, rowC]⟩
  have hgM : Hid (Mine w1.heap.size) := HB.out.up (by omega)
  go_wp2
  go_loopw [10] (fun a wr => ∃ i : Nat, i ≤ n ∧ a = .int .i64 i ∧ Hid (RL (w1.alloc (.cells cur0.toArray 90)) wr b w1.heap.size 90 (n * 6) (rowC (r1.cmds i).1) (r1.cmds i).2)) (fun a _ => n - (intOf a).toNat)
  case atStart => exact ⟨0, Nat.zero_le _, rfl, L0⟩
  case round =>
    obtain ⟨i, hin, rfl, HL⟩ := hrel
    clear L0
    by_cases hlt : i < n
    · have hb1 : (0 : Int) ≤ (i : Int) := by omega
      have hb2 : (i : Int) < (n : Int) := by omega
      go_wp2_with fail
      refine (cmd_c b _ _ HB.out HL.out.errs HL.out.small HL.out.at_).mono ?_
      rintro e w2 ⟨c, r2, hcc, rfl, s2⟩
      obtain ⟨cu, g1, g2, g3⟩ := HL.out.row
      have B2 := hide (s2.blk g1 (by omega))
      have hal : i * 6 + 6 ≤ cu.length := by omega
      obtain ⟨u0, u1, u2, u3, u4, u5, f0, f1, f2, f3, f4, f5⟩ := six_was B2.out (i * 6) hal
      have ffz : ∀ j, w2.frozen? ⟨w1.heap.size, j, none⟩ = false := fun j => by simp [World.frozen?, B2.out]
      have hln : (rowC (r1.cmds i).1).length = i * 6 := by rw [rowC_length, cmds_length]
      have HN : Hid (∀ w3, w3 = w2.setCells w1.heap.size (i * 6) (rowC [c]) → RL (w1.alloc (.cells cur0.toArray 90)) w3 b w1.heap.size 90 (n * 6) (rowC (r1.cmds (i + 1)).1) (r1.cmds (i + 1)).2) := by
        intro w3 e3
        rw [e3]
        have := HL.out.step (vs := rowC [c]) s2 (by omega) hgM.out (by rw [hln]; show i * 6 + 6 ≤ n * 6; omega) rfl
        simp only [Rd.cmds, hcc, rowC_append]
        rw [hln] at this
        exact this
      clear s2 g1 g2 g3 hln hcc
      go_wp2
      go_roundw
      case rel => exact ⟨i + 1, by omega, by go_num, HN.out _ rfl⟩
      case measure => simp [intOf]; omega
    · obtain rfl : i = n := by omega
      have HF : Hid (RS w wr b (r1.cmds i).2 ∧ wr.heap[w1.heap.size]? = some (.cells (rowC (r1.cmds i).1).toArray 90 (0, 0))) := by
        obtain ⟨cu, g1, g2, g3⟩ := HL.out.row
        have hln : (rowC (r1.cmds i).1).length = i * 6 := by rw [rowC_length, cmds_length]
        rw [hln, ← g2, List.take_length] at g3
        refine ⟨⟨HL.out.at_, S1.out.kept.join (KM.out.join HL.out.kept (R := fun k => k = b ∨ k = w1.heap.size) (fun _ _ e => e.elim) (fun _ _ e => e)) (fun _ _ e => e) (fun j hj e => by rcases e with e | e <;> omega), HL.out.errs, HL.out.small⟩, by rw [← g3]; exact g1⟩
      have HLen : Hid ((r1.cmds i).1.length = i) := cmds_length r1 i
      go_wp2
      go_ret
      refine ⟨(r1.cmds i).1, (r1.cmds i).2, w1.heap.size, ?_, ?_, hww1, HF.out.2, HF.out.1⟩
      · unfold Rd.cmdL
        rw [V.out]
        simp
      · rw [HLen.out]
        rfl

set_option maxHeartbeats 500000 in
set_option maxRecDepth 100000 in
theorem entities_r (b : Nat) (r : Rd) (w : World) (hB : Mine b) (hE : Errs w) (hs : r.small) (h : RdAt w b r) :
    Calls Tryz.prog 52 #[.pointer (some ⟨b, 0, none⟩)] w fun e w' => ∃ cs r' g, r.entL = (cs, r') ∧ e = .returned (.slice (some ⟨g, 0, none⟩) cs.length cs.length) ∧ w.heap.size ≤ g ∧ w'.heap[g]? = some (.cells (rowM cs).toArray 63 (0, 0)) ∧ RS w w' b r' := by
  have hb := heap_lt h
  have hsf := store_float Tryz.prog
  have HB := hide hB
  have S0 : Hid (RS w w b r) := RS.start h hE hs
  clear h hE hs hB
  go_enter Tryz.func52, Tryz.ntmps52
  go_wp2_with fail
  refine (int_s b r 0 32 _ _ HB.out S0.out).mono ?_
  rintro e w1 ⟨v, r1, hv, rfl, s1⟩
  have hvb := int_bounds r 0 32 (by omega)
  rw [hv] at hvb
  simp only at hvb
  obtain ⟨n, rfl⟩ : ∃ n : Nat, v = (n : Int) := ⟨v.toNat, by omega⟩
  have V := hide hv
  have S1 := hide s1
  have hbw1 : b < w1.heap.size := heap_lt s1.at_
  have hww1 := s1.kept.size
  clear s1 hv
  obtain ⟨cur0, hc0, hmk⟩ := makeAllM n (by omega)
  have KM := hide (Kept.alloc w1 (.cells cur0.toArray 63))
  have L0 : Hid (RL (w1.alloc (.cells cur0.toArray 63)) (w1.alloc (.cells cur0.toArray 63)) b w1.heap.size 63 (n * 7) (rowM (r1.ents 0).1) (r1.ents 0).2) :=
    ⟨S1.out.at_.calm KM.out, Kept.refl _ _, S1.out.errs.calm KM.out, S1.out.small, cur0, heap_alloc_new w1 _, hc0, by simp [Rd.ents, rowM]⟩
  have hgM : Hid (Mine w1.heap.size) := HB.out.up (by omega)
  go_wp2
  go_loopw [10] (fun a wr => ∃ i : Nat, i ≤ n ∧ a = .int .i64 i ∧ Hid (RL (w1.alloc (.cells cur0.toArray 63)) wr b w1.heap.size 63 (n * 7) (rowM (r1.ents i).1) (r1.ents i).2)) (fun a _ => n - (intOf a).toNat)
  case atStart => exact ⟨0, Nat.zero_le _, rfl, L0⟩
  case round =>
    obtain ⟨i, hin, rfl, HL⟩ := hrel
    clear L0
    by_cases hlt : i < n
    · have hb1 : (0 : Int) ≤ (i : Int) := by omega
      have hb2 : (i : Int) < (n : Int) := by omega
      go_wp2_with fail
      refine (ent_c b _ _ HB.out HL.out.errs HL.out.small HL.out.at_).mono ?_
      rintro e w2 ⟨c, r2, hcc, rfl, s2⟩
      obtain ⟨cu, g1, g2, g3⟩ := HL.out.row
      have B2 := hide (s2.blk g1 (by omega))
      have hal : i * 7 + 7 ≤ cu.length := by omega
      obtain ⟨u0, u1, u2, u3, u4, u5, u6, f0, f1, f2, f3, f4, f5, f6⟩ := seven_was B2.out (i * 7) hal
      have ffz : ∀ j, w2.frozen? ⟨w1.heap.size, j, none⟩ = false := fun j => by simp [World.frozen?, B2.out]
      have hln : (rowM (r1.ents i).1).length = i * 7 := by rw [rowM_length, ents_length]
      have HN : Hid (∀ w3, w3 = w2.setCells w1.heap.size (i * 7) (rowM [c]) → RL (w1.alloc (.cells cur0.toArray 63)) w3 b w1.heap.size 63 (n * 7) (rowM (r1.ents (i + 1)).1) (r1.ents (i + 1)).2) := by
        intro w3 e3
        rw [e3]
        have := HL.out.step (vs := rowM [c]) s2 (by omega) hgM.out (by rw [hln]; show i * 7 + 7 ≤ n * 7; omega) rfl
        simp only [Rd.ents, hcc, rowM_append]
        rw [hln] at this
        exact this
      clear s2 g1 g2 g3 hln hcc
      go_wp2
      go_roundw
      case rel => exact ⟨i + 1, by omega, by go_num, HN.out _ rfl⟩
      case measure => simp [intOf]; omega
    · obtain rfl : i = n := by omega
      have HF : Hid (RS w wr b (r1.ents i).2 ∧ wr.heap[w1.heap.size]? = some (.cells (rowM (r1.ents i).1).toArray 63 (0, 0))) := by
        obtain ⟨cu, g1, g2, g3⟩ := HL.out.row
        have hln : (rowM (r1.ents i).1).length = i * 7 := by rw [rowM_length, ents_length]
        rw [hln, ← g2, List.take_length] at g3
        refine ⟨⟨HL.out.at_, S1.out.kept.join (KM.out.join HL.out.kept (R := fun k => k = b ∨ k = w1.heap.size) (fun _ _ e => e.elim) (fun _ _ e => e)) (fun _ _ e => e) (fun j hj e => by rcases e with e | e <;> omega), HL.out.errs, HL.out.small⟩, by rw [← g3]; exact g1⟩
      have HLen : Hid ((r1.ents i).1.length = i) := ents_length r1 i
      go_wp2
      go_ret
      refine ⟨(r1.ents i).1, (r1.ents i).2, w1.heap.size, ?_, ?_, hww1, HF.out.2, HF.out.1⟩
      · unfold Rd.entL
        rw [V.out]
        simp
      · rw [HLen.out]
        rfl
end Go.Proofs.YtlfmfhmbkpnjbabGreatDoor

namespace Go.Proofs.YtlfmfhmbkpnjbabGreatDoor
open Ieee

def mant (r : Nat) : Nat := if r < 8388608 then r else 8388608 + r % 8388608
def expo (r : Nat) : Int := if r < 8388608 then -149 else -149 + ((r / 8388608 - 1 : Nat) : Int)

theorem read_mant (v : Nat) (h : rung v < 2139095040) : Ieee.single.read v = .number (neg v) (mant (rung v)) (expo (rung v)) := by
  unfold Format.read mant expo
  rw [sign_single, bin_single, inf_single, least_single]
  simp only
  have hr : rung v = v % 2147483648 := rfl
  by_cases h1 : v % 2147483648 < 8388608
  · rw [if_pos h1, hr, if_pos h1, if_pos h1]; rfl
  · have h' : v % 2147483648 < 2139095040 := h
    rw [if_neg h1, if_pos h', hr, if_neg h1, if_neg h1]; rfl

theorem rung_mant (v : Nat) (h : rung v < 2139095040) : rungOf (mant (rung v)) (expo (rung v)) = rung v := by
  obtain ⟨m, e, h1, h2, _⟩ := read_num v h
  rw [read_mant v h] at h1
  simp only [Datum.number.injEq] at h1
  rw [h1.2.1, h1.2.2]; exact h2

theorem LeV.refl (m : Nat) (i : Int) : LeV m i m i := fun _ _ _ => Nat.le_refl _

/-- Values and rungs go together. -/
theorem val_mono {u v : Nat} (hu : rung u < 2139095040) (hv : rung v < 2139095040) (h : rung u ≤ rung v) : LeV (mant (rung u)) (expo (rung u)) (mant (rung v)) (expo (rung v)) := by
  rcases LeV.total (mant (rung u)) (expo (rung u)) (mant (rung v)) (expo (rung v)) with q | q
  · exact q
  · have := rung_mono _ _ _ _ q
    rw [rung_mant u hu, rung_mant v hv] at this
    have e : rung u = rung v := Nat.le_antisymm h this
    rw [e]; exact LeV.refl _ _
theorem rung_le_of {u v : Nat} (hu : rung u < 2139095040) (hv : rung v < 2139095040) (h : LeV (mant (rung u)) (expo (rung u)) (mant (rung v)) (expo (rung v))) : rung u ≤ rung v := by
  have := rung_mono _ _ _ _ h
  rwa [rung_mant u hu, rung_mant v hv] at this

def sg (s : Bool) (a : Nat) : Int := if s then -(a : Int) else (a : Int)
/-- Where a number stands among all. -/
def key (v : Nat) : Int := sg (neg v) (rung v)

theorem signed_sg (s : Bool) (m k : Nat) : signed s m k = sg s (m * 2 ^ k) := by unfold signed sg; rw [Nat.shiftLeft_eq]

theorem mant_zero (r : Nat) : mant r = 0 ↔ r = 0 := by
  unfold mant
  split
  · exact Iff.rfl
  · constructor
    · intro h; omega
    · intro h; omega

theorem cmp_congr {x y x' y' : Int} (h1 : x < y ↔ x' < y') (h2 : x = y ↔ x' = y') : compare x y = compare x' y' := by
  rcases Int.lt_trichotomy x y with h | h | h
  · rw [Int.compare_eq_lt.2 h, Int.compare_eq_lt.2 (h1.1 h)]
  · rw [Int.compare_eq_eq.2 h, Int.compare_eq_eq.2 (h2.1 h)]
  · have h' : y' < x' := by
      rcases Int.lt_trichotomy x' y' with q | q | q
      · have := h1.2 q; omega
      · have := h2.2 q; omega
      · exact q
    rw [Int.compare_eq_gt.2 h, Int.compare_eq_gt.2 h']

theorem cmp_sg (s t : Bool) (a c r q : Nat) (h1 : a ≤ c ↔ r ≤ q) (h2 : c ≤ a ↔ q ≤ r) (h3 : a = 0 ↔ r = 0) (h4 : c = 0 ↔ q = 0) : compare (sg s a) (sg t c) = compare (sg s r) (sg t q) := by
  unfold sg
  apply cmp_congr
  · cases s <;> cases t <;> simp only [if_true, if_false, Bool.false_eq_true] <;> omega
  · cases s <;> cases t <;> simp only [if_true, if_false, Bool.false_eq_true] <;> omega

theorem rung_lt_two (v : Nat) : rung v < 2147483648 := Nat.mod_lt _ (by decide)

theorem read_inf (v : Nat) (h : rung v = 2139095040) : Ieee.single.read v = .infinity (neg v) := by
  unfold Format.read
  rw [sign_single, bin_single, inf_single, least_single]
  simp only
  have h' : v % 2147483648 = 2139095040 := h
  rw [if_neg (by omega), if_neg (by omega), if_pos h']; rfl

theorem ok_iff (v : Nat) : okV v ↔ rung v ≤ 2139095040 := by
  constructor
  · intro h
    apply Nat.le_of_not_lt
    intro hr
    unfold okV Format.read at h
    rw [sign_single, bin_single, inf_single, least_single] at h
    simp only at h
    have hr' : 2139095040 < v % 2147483648 := hr
    rw [if_neg (by omega), if_neg (by omega), if_neg (by omega)] at h
    cases h
  · intro h
    rcases Nat.lt_or_eq_of_le h with q | q
    · unfold okV; rw [read_mant v q]; rfl
    · unfold okV; rw [read_inf v q]; rfl

/-- The order of two words that are no NaN. -/
theorem ford_key {u v : Nat} (hu : okV u) (hv : okV v) : ford u v = some (compare (key u) (key v)) := by
  rw [ok_iff] at hu hv
  show (Ieee.single.read u).order (Ieee.single.read v) = _
  rcases Nat.lt_or_eq_of_le hu with qu | qu
  · rcases Nat.lt_or_eq_of_le hv with qv | qv
    · rw [read_mant u qu, read_mant v qv]
      show some (compare (signed _ _ _) (signed _ _ _)) = _
      rw [signed_sg, signed_sg]
      congr 1
      have hp1 := Nat.two_pow_pos (expo (rung u) - min (expo (rung u)) (expo (rung v))).toNat
      have hp2 := Nat.two_pow_pos (expo (rung v) - min (expo (rung u)) (expo (rung v))).toNat
      apply cmp_sg
      · constructor
        · intro h; exact rung_le_of qu qv (leV_of _ (by omega) (by omega) h)
        · intro h; exact val_mono qu qv h _ (by omega) (by omega)
      · constructor
        · intro h; exact rung_le_of qv qu (leV_of _ (by omega) (by omega) h)
        · intro h; exact val_mono qv qu h _ (by omega) (by omega)
      · rw [Nat.mul_eq_zero, mant_zero]
        exact ⟨fun h => h.elim id (fun h => by omega), Or.inl⟩
      · rw [Nat.mul_eq_zero, mant_zero]
        exact ⟨fun h => h.elim id (fun h => by omega), Or.inl⟩
    · rw [read_mant u qu, read_inf v qv]
      show some (if neg v then Ordering.gt else Ordering.lt) = _
      unfold key sg
      rw [qv]
      cases neg v
      · rw [Int.compare_eq_lt.2 (by cases neg u <;> simp <;> omega)]; rfl
      · rw [Int.compare_eq_gt.2 (by cases neg u <;> simp <;> omega)]; rfl
  · rcases Nat.lt_or_eq_of_le hv with qv | qv
    · rw [read_inf u qu, read_mant v qv]
      show some (if neg u then Ordering.lt else Ordering.gt) = _
      unfold key sg
      rw [qu]
      cases neg u
      · rw [Int.compare_eq_gt.2 (by cases neg v <;> simp <;> omega)]; rfl
      · rw [Int.compare_eq_lt.2 (by cases neg v <;> simp <;> omega)]; rfl
    · rw [read_inf u qu, read_inf v qv]
      show some (compare (neg v).toNat (neg u).toNat) = _
      unfold key sg
      rw [qu, qv]
      cases neg u <;> cases neg v <;> rfl

theorem key_word (s : Bool) (r : Nat) (h : r ≤ 2139095040) : key (Ieee.single.word s r) = sg s r := by unfold key; rw [neg_word s r h, rung_word s r h]

/-- A square. -/
theorem sq_key {v : Nat} (hv : isNum v) : fmul v v = Ieee.single.word false (rungOf (mant (rung v) * mant (rung v)) (expo (rung v) + expo (rung v))) ∧ okV (fmul v v) ∧ floatBits .mul .f32 v v = some (fmul v v) := by
  have h := (num_iff v).1 hv
  have hm : Ieee.single.mul v v = some (Ieee.single.nearest (neg v ^^ neg v) (mant (rung v) * mant (rung v)) (expo (rung v) + expo (rung v))) := by
    unfold Format.mul; rw [read_mant v h]; rfl
  have hf : fmul v v = Ieee.single.nearest (neg v ^^ neg v) (mant (rung v) * mant (rung v)) (expo (rung v) + expo (rung v)) := by
    unfold fmul; rw [hm]; rfl
  rw [Bool.xor_self] at hf hm
  refine ⟨by rw [hf, nearest_rung], by rw [hf]; exact ok_nearest _ _ _, ?_⟩
  show Ieee.single.mul v v = _
  rw [hm, hf]

theorem sq_mono {u v : Nat} (hu : isNum u) (hv : isNum v) (h : rung u ≤ rung v) : (FloatKind.f32.format.order (fmul u u) (fmul v v) == some .gt) = false := by
  obtain ⟨e1, o1, _⟩ := sq_key hu
  obtain ⟨e2, o2, _⟩ := sq_key hv
  have hle := val_mono ((num_iff u).1 hu) ((num_iff v).1 hv) h
  have hsq : LeV (mant (rung u) * mant (rung u)) (expo (rung u) + expo (rung u)) (mant (rung v) * mant (rung v)) (expo (rung v) + expo (rung v)) := by
    have h0 := hle (min (expo (rung u)) (expo (rung v))) (by omega) (by omega)
    refine leV_of (min (expo (rung u)) (expo (rung v)) + min (expo (rung u)) (expo (rung v))) (by omega) (by omega) ?_
    have h1 := Nat.mul_le_mul h0 h0
    rw [show ∀ a b : Nat, a * 2 ^ b * (a * 2 ^ b) = a * a * (2 ^ b * 2 ^ b) from fun a b => by rw [Nat.mul_mul_mul_comm], ← Nat.pow_add, show ∀ a b : Nat, a * 2 ^ b * (a * 2 ^ b) = a * a * (2 ^ b * 2 ^ b) from fun a b => by rw [Nat.mul_mul_mul_comm], ← Nat.pow_add] at h1
    rw [show (expo (rung u) + expo (rung u) - (min (expo (rung u)) (expo (rung v)) + min (expo (rung u)) (expo (rung v)))).toNat = (expo (rung u) - min (expo (rung u)) (expo (rung v))).toNat + (expo (rung u) - min (expo (rung u)) (expo (rung v))).toNat from by omega,
      show (expo (rung v) + expo (rung v) - (min (expo (rung u)) (expo (rung v)) + min (expo (rung u)) (expo (rung v)))).toNat = (expo (rung v) - min (expo (rung u)) (expo (rung v))).toNat + (expo (rung v) - min (expo (rung u)) (expo (rung v))).toNat from by omega]
    exact h1
  have hr := rung_mono _ _ _ _ hsq
  apply ford_bne
  rw [ford_key o1 o2, e1, e2, key_word _ _ (rungOf_le _ _), key_word _ _ (rungOf_le _ _)]
  intro e
  have := Int.compare_eq_gt.1 (Option.some.inj e)
  simp only [sg, Bool.false_eq_true, if_false] at this
  omega

/-- A sum. -/
theorem add_key {x v : Nat} (hx : isNum x) (hv : isNum v) : ∃ (b T : Int), b = min (expo (rung x)) (expo (rung v)) ∧ T = sg (neg x) (mant (rung x) * 2 ^ (expo (rung x) - b).toNat) + sg (neg v) (mant (rung v) * 2 ^ (expo (rung v) - b).toNat) ∧
    key (fadd x v) = sg (if T = 0 then neg x && neg v else decide (T < 0)) (rungOf T.natAbs b) := by
  have h1 := (num_iff x).1 hx
  have h2 := (num_iff v).1 hv
  refine ⟨_, _, rfl, rfl, ?_⟩
  have hf : fadd x v = Ieee.single.nearest (if signed (neg x) (mant (rung x)) (expo (rung x) - min (expo (rung x)) (expo (rung v))).toNat + signed (neg v) (mant (rung v)) (expo (rung v) - min (expo (rung x)) (expo (rung v))).toNat = 0 then neg x && neg v else decide (signed (neg x) (mant (rung x)) (expo (rung x) - min (expo (rung x)) (expo (rung v))).toNat + signed (neg v) (mant (rung v)) (expo (rung v) - min (expo (rung x)) (expo (rung v))).toNat < 0)) (signed (neg x) (mant (rung x)) (expo (rung x) - min (expo (rung x)) (expo (rung v))).toNat + signed (neg v) (mant (rung v)) (expo (rung v) - min (expo (rung x)) (expo (rung v))).toNat).natAbs (min (expo (rung x)) (expo (rung v))) := by
    unfold fadd Format.add
    rw [read_mant x h1, read_mant v h2]; rfl
  rw [signed_sg, signed_sg] at hf
  rw [hf, nearest_rung, key_word _ _ (rungOf_le _ _)]

theorem rungOf_zero (b : Int) : rungOf 0 b = 0 := by simp [rungOf]

theorem add_ge {x v : Nat} (hx : isNum x) (hv : isNum v) (h0 : 0 ≤ key v) : key x ≤ key (fadd x v) := by
  have h1 := (num_iff x).1 hx
  obtain ⟨b, T, hb, hT, hk⟩ := add_key hx hv
  rw [hk]
  have hA : ∀ N : Nat, mant (rung x) * 2 ^ (expo (rung x) - b).toNat ≤ N → rung x ≤ rungOf N b := fun N hN => by
    have := rung_mono (mant (rung x)) (expo (rung x)) N b (leV_of b (by omega) (by omega) (by rw [show (b - b).toNat = 0 from by omega, Nat.pow_zero, Nat.mul_one]; exact hN))
    rwa [rung_mant x h1] at this
  have hB : ∀ N : Nat, N ≤ mant (rung x) * 2 ^ (expo (rung x) - b).toNat → rungOf N b ≤ rung x := fun N hN => by
    have := rung_mono N b (mant (rung x)) (expo (rung x)) (leV_of b (by omega) (by omega) (by rw [show (b - b).toNat = 0 from by omega, Nat.pow_zero, Nat.mul_one]; exact hN))
    rwa [rung_mant x h1] at this
  have hC : 0 ≤ sg (neg v) (mant (rung v) * 2 ^ (expo (rung v) - b).toNat) := by
    unfold key sg at h0
    unfold sg
    split at h0
    · rename_i q
      have : rung v = 0 := by omega
      rw [if_pos q, this]; simp [mant]
    · rename_i q
      rw [if_neg q]; omega
  generalize sg (neg v) (mant (rung v) * 2 ^ (expo (rung v) - b).toNat) = C at *
  generalize mant (rung x) * 2 ^ (expo (rung x) - b).toNat = A at *
  unfold key
  generalize neg x = s at *
  generalize neg v = t at *
  cases s
  · simp only [sg, Bool.false_eq_true, if_false, Bool.false_and] at hT ⊢
    have q := hA T.natAbs (by omega)
    have hs : (if T = 0 then false else decide (T < 0)) = false := by split <;> simp; omega
    rw [hs]
    simp only [Bool.false_eq_true, if_false]
    omega
  · simp only [sg, if_true] at hT ⊢
    by_cases h0' : T < 0
    · have q := hB T.natAbs (by omega)
      split <;> omega
    · by_cases hz : T = 0
      · rw [hz]; simp only [Int.natAbs_zero, rungOf_zero]; split <;> omega
      · rw [if_neg hz, decide_eq_false h0']
        simp only [Bool.false_eq_true, if_false]
        omega

theorem add_le {x v : Nat} (hx : isNum x) (hv : isNum v) (h0 : key v ≤ 0) : key (fadd x v) ≤ key x := by
  have h1 := (num_iff x).1 hx
  obtain ⟨b, T, hb, hT, hk⟩ := add_key hx hv
  rw [hk]
  have hA : ∀ N : Nat, mant (rung x) * 2 ^ (expo (rung x) - b).toNat ≤ N → rung x ≤ rungOf N b := fun N hN => by
    have := rung_mono (mant (rung x)) (expo (rung x)) N b (leV_of b (by omega) (by omega) (by rw [show (b - b).toNat = 0 from by omega, Nat.pow_zero, Nat.mul_one]; exact hN))
    rwa [rung_mant x h1] at this
  have hB : ∀ N : Nat, N ≤ mant (rung x) * 2 ^ (expo (rung x) - b).toNat → rungOf N b ≤ rung x := fun N hN => by
    have := rung_mono N b (mant (rung x)) (expo (rung x)) (leV_of b (by omega) (by omega) (by rw [show (b - b).toNat = 0 from by omega, Nat.pow_zero, Nat.mul_one]; exact hN))
    rwa [rung_mant x h1] at this
  have hC : sg (neg v) (mant (rung v) * 2 ^ (expo (rung v) - b).toNat) ≤ 0 := by
    unfold key sg at h0
    unfold sg
    split at h0
    · rename_i q
      rw [if_pos q]; omega
    · rename_i q
      have : rung v = 0 := by omega
      rw [if_neg q, this]; simp [mant]
  generalize sg (neg v) (mant (rung v) * 2 ^ (expo (rung v) - b).toNat) = C at *
  generalize mant (rung x) * 2 ^ (expo (rung x) - b).toNat = A at *
  unfold key
  generalize neg x = s at *
  generalize neg v = t at *
  cases s
  · simp only [sg, Bool.false_eq_true, if_false, Bool.false_and] at hT ⊢
    by_cases h0' : T < 0
    · have hs : (if T = 0 then false else decide (T < 0)) = true := by rw [if_neg (by omega)]; simp [h0']
      rw [hs]
      simp only [if_true]
      omega
    · have q := hB T.natAbs (by omega)
      split <;> omega
  · simp only [sg, if_true] at hT ⊢
    have q := hA T.natAbs (by omega)
    by_cases hz : T = 0
    · have : A = 0 := by omega
      rw [hz] at q
      simp only [Int.natAbs_zero, rungOf_zero] at q
      rw [hz]; simp only [Int.natAbs_zero, rungOf_zero]; split <;> omega
    · rw [if_neg hz, decide_eq_true (by omega)]
      simp only [if_true]
      omega
end Go.Proofs.YtlfmfhmbkpnjbabGreatDoor

namespace Go.Proofs.YtlfmfhmbkpnjbabGreatDoor
open Ieee

theorem ok_cases {v : Nat} (h : okV v) : (rung v < 2139095040 ∧ Ieee.single.read v = .number (neg v) (mant (rung v)) (expo (rung v))) ∨ (rung v = 2139095040 ∧ Ieee.single.read v = .infinity (neg v)) := by
  rcases Nat.lt_or_eq_of_le ((ok_iff v).1 h) with q | q
  · exact Or.inl ⟨q, read_mant v q⟩
  · exact Or.inr ⟨q, read_inf v q⟩

/-- The rung of a square, by the rung. -/
def sqR (r : Nat) : Nat := if r < 2139095040 then rungOf (mant r * mant r) (expo r + expo r) else 2139095040
theorem sqR_le (r : Nat) : sqR r ≤ 2139095040 := by unfold sqR; split; exact rungOf_le _ _; omega

theorem sq_any {v : Nat} (h : okV v) : fmul v v = Ieee.single.word false (sqR (rung v)) ∧ floatBits .mul .f32 v v = some (fmul v v) ∧ okV (fmul v v) := by
  have key : Ieee.single.mul v v = some (Ieee.single.word false (sqR (rung v))) := by
    unfold Format.mul sqR
    rcases ok_cases h with ⟨q, e⟩ | ⟨q, e⟩
    · rw [e, if_pos q]
      show some (Ieee.single.nearest (neg v ^^ neg v) _ _) = _
      rw [Bool.xor_self, nearest_rung]
    · rw [e, if_neg (by omega)]
      show some (Ieee.single.word (neg v ^^ neg v) _) = _
      rw [Bool.xor_self, inf_single]
  have hf : fmul v v = Ieee.single.word false (sqR (rung v)) := by unfold fmul; rw [key]; rfl
  refine ⟨hf, ?_, ?_⟩
  · show Ieee.single.mul v v = _
    rw [key, hf]
  · rw [hf, ok_iff, rung_word _ _ (sqR_le _)]; exact sqR_le _

theorem sqR_mono {u v : Nat} (hu : rung u < 2139095040) (hv : okV v) (h : rung u ≤ rung v) : sqR (rung u) ≤ sqR (rung v) := by
  rcases ok_cases hv with ⟨q, _⟩ | ⟨q, _⟩
  · have hle := val_mono hu q h
    unfold sqR
    rw [if_pos hu, if_pos q]
    apply rung_mono
    have h0 := hle (min (expo (rung u)) (expo (rung v))) (by omega) (by omega)
    refine leV_of (min (expo (rung u)) (expo (rung v)) + min (expo (rung u)) (expo (rung v))) (by omega) (by omega) ?_
    have h1 := Nat.mul_le_mul h0 h0
    rw [show ∀ a b : Nat, a * 2 ^ b * (a * 2 ^ b) = a * a * (2 ^ b * 2 ^ b) from fun a b => by rw [Nat.mul_mul_mul_comm], ← Nat.pow_add, show ∀ a b : Nat, a * 2 ^ b * (a * 2 ^ b) = a * a * (2 ^ b * 2 ^ b) from fun a b => by rw [Nat.mul_mul_mul_comm], ← Nat.pow_add] at h1
    rw [show (expo (rung u) + expo (rung u) - (min (expo (rung u)) (expo (rung v)) + min (expo (rung u)) (expo (rung v)))).toNat = (expo (rung u) - min (expo (rung u)) (expo (rung v))).toNat + (expo (rung u) - min (expo (rung u)) (expo (rung v))).toNat from by omega,
      show (expo (rung v) + expo (rung v) - (min (expo (rung u)) (expo (rung v)) + min (expo (rung u)) (expo (rung v)))).toNat = (expo (rung v) - min (expo (rung u)) (expo (rung v))).toNat + (expo (rung v) - min (expo (rung u)) (expo (rung v))).toNat from by omega]
    exact h1
  · unfold sqR
    rw [if_pos hu, if_neg (by omega)]
    exact rungOf_le _ _

/-- A difference. -/
theorem sub_any {x y : Nat} (hx : isNum x) (hy : isNum y) : floatBits .sub .f32 x y = some (fsub x y) ∧ okV (fsub x y) ∧
    rung (fsub x y) = rungOf (sg (neg x) (mant (rung x) * 2 ^ (expo (rung x) - min (expo (rung x)) (expo (rung y))).toNat) + sg (!neg y) (mant (rung y) * 2 ^ (expo (rung y) - min (expo (rung x)) (expo (rung y))).toNat)).natAbs (min (expo (rung x)) (expo (rung y))) := by
  have h1 := (num_iff x).1 hx
  have h2 := (num_iff y).1 hy
  have key : ∃ s, Ieee.single.sub x y = some (Ieee.single.nearest s (sg (neg x) (mant (rung x) * 2 ^ (expo (rung x) - min (expo (rung x)) (expo (rung y))).toNat) + sg (!neg y) (mant (rung y) * 2 ^ (expo (rung y) - min (expo (rung x)) (expo (rung y))).toNat)).natAbs (min (expo (rung x)) (expo (rung y)))) := by
    unfold Format.sub
    rw [read_mant x h1, read_mant y h2, ← signed_sg, ← signed_sg]
    exact ⟨_, rfl⟩
  obtain ⟨s, hs⟩ := key
  generalize (sg (neg x) (mant (rung x) * 2 ^ (expo (rung x) - min (expo (rung x)) (expo (rung y))).toNat) + sg (!neg y) (mant (rung y) * 2 ^ (expo (rung y) - min (expo (rung x)) (expo (rung y))).toNat)).natAbs = T at *
  generalize min (expo (rung x)) (expo (rung y)) = b at *
  have hf : fsub x y = Ieee.single.nearest s T b := by unfold fsub; rw [hs]; rfl
  refine ⟨?_, by rw [hf]; exact ok_nearest _ _ _, ?_⟩
  · show Ieee.single.sub x y = _
    rw [hs, hf]
  · rw [hf, nearest_rung, rung_word _ _ (rungOf_le _ _)]

theorem sub_swap {x y : Nat} (hx : isNum x) (hy : isNum y) : rung (fsub x y) = rung (fsub y x) := by
  obtain ⟨_, _, r1⟩ := sub_any hx hy
  obtain ⟨_, _, r2⟩ := sub_any hy hx
  rw [r1, r2, show min (expo (rung y)) (expo (rung x)) = min (expo (rung x)) (expo (rung y)) from by omega]
  congr 1
  generalize mant (rung x) * 2 ^ (expo (rung x) - min (expo (rung x)) (expo (rung y))).toNat = A
  generalize mant (rung y) * 2 ^ (expo (rung y) - min (expo (rung x)) (expo (rung y))).toNat = C
  cases neg x <;> cases neg y <;> simp only [sg, Bool.not_true, Bool.not_false, if_true, if_false, Bool.false_eq_true] <;> omega

/-- A sum of two that are not below zero. -/
theorem add_pos {r q : Nat} (hr : r ≤ 2139095040) (hq : q ≤ 2139095040) : floatBits .add .f32 (Ieee.single.word false r) (Ieee.single.word false q) = some (fadd (Ieee.single.word false r) (Ieee.single.word false q)) ∧ okV (fadd (Ieee.single.word false r) (Ieee.single.word false q)) := by
  have o1 : okV (Ieee.single.word false r) := by rw [ok_iff, rung_word _ _ hr]; exact hr
  have o2 : okV (Ieee.single.word false q) := by rw [ok_iff, rung_word _ _ hq]; exact hq
  have key : ∃ d, (Ieee.single.read (Ieee.single.word false r)).sum (Ieee.single.read (Ieee.single.word false q)) = some d ∧ d.isNaN = false := by
    rcases ok_cases o1 with ⟨_, e⟩ | ⟨_, e⟩ <;> rcases ok_cases o2 with ⟨_, f⟩ | ⟨_, f⟩ <;> rw [e, f]
    · exact ⟨_, rfl, rfl⟩
    · exact ⟨_, rfl, rfl⟩
    · exact ⟨_, rfl, rfl⟩
    · rw [neg_word _ _ hr, neg_word _ _ hq]
      exact ⟨.infinity false, rfl, rfl⟩
  obtain ⟨d, h1, h2⟩ := key
  have : Ieee.single.add (Ieee.single.word false r) (Ieee.single.word false q) = some (Ieee.single.write d) := by unfold Format.add; rw [h1]; rfl
  have e : fadd (Ieee.single.word false r) (Ieee.single.word false q) = Ieee.single.write d := by unfold fadd; rw [this]; rfl
  exact ⟨by rw [e]; exact this, by rw [e]; exact ok_write h2⟩

/-! float64(x) of a float32. -/
theorem inf_double : Ieee.double.infRung = 9218868437227405312 := by decide
theorem sign_double : Ieee.double.signWeight = 9223372036854775808 := by decide
theorem bin_double : Ieee.double.binade = 4503599627370496 := by decide
theorem least_double : Ieee.double.leastPlace = -1074 := by decide

theorem mod_double (s : Bool) (r : Nat) (h : r ≤ 9218868437227405312) : Ieee.double.word s r % 9223372036854775808 = r := by
  unfold Format.word
  rw [sign_double]
  split <;> omega

theorem double_word (s : Bool) (r : Nat) (h : r ≤ 9218868437227405312) : (Ieee.double.read (Ieee.double.word s r)).isNaN = false ∧ (r < 9218868437227405312 → (Ieee.double.read (Ieee.double.word s r)).isInfinity = false) := by
  unfold Format.read
  rw [bin_double, inf_double, sign_double, mod_double s r h]
  simp only
  by_cases h1 : r < 4503599627370496
  · rw [if_pos h1]; exact ⟨rfl, fun _ => rfl⟩
  · rw [if_neg h1]
    by_cases h2 : r < 9218868437227405312
    · rw [if_pos h2]; exact ⟨rfl, fun _ => rfl⟩
    · rw [if_neg h2, if_pos (by omega)]; exact ⟨rfl, fun e => absurd e h2⟩

theorem double_near (s : Bool) (m : Nat) (e : Int) (hm : m ≤ 16777215) (he : e ≤ 104) : ∃ r, Ieee.double.nearest s m e = Ieee.double.word s r ∧ r < 9218868437227405312 := by
  unfold Format.nearest
  split
  · exact ⟨0, rfl, by decide⟩
  · rename_i h0
    refine ⟨_, rfl, ?_⟩
    rw [inf_double, bin_double, least_double]
    have hlog : m.log2 < 24 := (Nat.log2_lt h0).2 (Nat.lt_of_le_of_lt hm (by decide))
    have hfb : (Ieee.double.fractionBits : Int) = 52 := rfl
    rw [hfb]
    generalize hl : max (e + (m.log2 : Int) - 52) (-1074) = l
    have hl2 : l ≤ 75 := by omega
    have hl3 : -1074 ≤ l := by omega
    have hk : Toward.even.cut s (m <<< (e - l).toNat) (l - e).toNat ≤ 9007199254740992 := by
      have : Toward.even.cut s (m <<< (e - l).toNat) (l - e).toNat ≤ Toward.even.cut false (2 ^ 53) 0 := by
        apply cut_mono
        rw [Nat.shiftLeft_eq, Nat.pow_zero, Nat.mul_one, ← Nat.pow_add]
        have hlt : m < 2 ^ (m.log2 + 1) := Nat.lt_log2_self
        exact Nat.le_trans (Nat.mul_le_mul_right _ (Nat.le_of_lt hlt)) (by rw [← Nat.pow_add]; exact Nat.pow_le_pow_right (by decide) (by omega))
      rw [cut_zero] at this
      exact this
    omega

theorem conv_ok {v : Nat} (h : okV v) : ∃ r, floatToFloatBits .f32 v .f64 = some r ∧ (FloatKind.f64.format.order r r != some .eq) = false := by
  have ord : ∀ d : Nat, (Ieee.double.read d).isNaN = false → (FloatKind.f64.format.order d d != some .eq) = false := by
    intro d hd
    have : FloatKind.f64.format.order d d = some .eq := by
      show (Ieee.double.read d).order (Ieee.double.read d) = _
      cases hr : Ieee.double.read d with
      | number s m i => simp [Datum.order]
      | infinity s => simp [Datum.order]
      | nan s t => rw [hr] at hd; cases hd
    rw [this]; rfl
  unfold floatToFloatBits
  rw [if_neg (by decide)]
  rcases ok_cases h with ⟨q, e⟩ | ⟨q, e⟩
  · obtain ⟨m, e', hr, _, h1, h2, h3⟩ := read_num v q
    have hd : FloatKind.f32.decode v = .number (neg v) m e' := hr
    rw [hd]
    obtain ⟨r, hn, hlt⟩ := double_near (neg v) m e' h3 h2
    have he : FloatKind.f64.encode (.number (neg v) m e') = Ieee.double.word (neg v) r := hn
    have hw := double_word (neg v) r (by omega)
    simp only [he]
    have hi : (FloatKind.f64.decode (Ieee.double.word (neg v) r)).isInfinity = false := hw.2 hlt
    rw [hi]
    exact ⟨_, rfl, ord _ hw.1⟩
  · have hd : FloatKind.f32.decode v = .infinity (neg v) := e
    rw [hd]
    have he : FloatKind.f64.encode (.infinity (neg v)) = Ieee.double.word (neg v) 9218868437227405312 := by
      show Ieee.double.word (neg v) Ieee.double.infRung = _
      rw [inf_double]
    refine ⟨_, rfl, ?_⟩
    rw [he]
    exact ord _ (double_word (neg v) _ (Nat.le_refl _)).1
end Go.Proofs.YtlfmfhmbkpnjbabGreatDoor
