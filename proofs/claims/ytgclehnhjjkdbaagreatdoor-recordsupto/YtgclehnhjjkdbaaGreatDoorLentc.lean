import Derived.Test.YtgclehnhjjkdbaaGreatDoorLawp
import Derived.Test.YtgclehnhjjkdbaaGreatDoorPurePart
namespace Go.Proofs.YtgclehnhjjkdbaaGreatDoor
open Go.RowKit

def markC (k : Int) : Cmd := { kind := -1000 - k, id := 0, team := 0, x := 0, y := 0, n := 7 }
theorem size_cmd : (Tryz.prog.info? 39).map (·.size) = some 6 := by kernel_rfl

set_option maxHeartbeats 400000 in
theorem badCommand_c (k : Int) (w : World) (hk : 0 ≤ k ∧ k ≤ 4611686018427387904) : Calls Tryz.prog 30 #[.int .i64 k] w fun e w' => e = .returned (.agg #[.int .i64 (-1000 - k), .int .i64 0, .int .i64 0, .float .f32 0, .float .f32 0, .int .i64 7]) ∧ Kept (fun _ => False) w w' := by
  have hsf := store_float Tryz.prog
  have hw : IntKind.i64.wrap (-1000 - k) = -1000 - k := wrap_id _ (by omega)
  go_enter Tryz.func30, Tryz.ntmps30
  go_wp2
  refine bodyPost_ret (v := .agg #[.int .i64 (-1000 - k), .int .i64 0, .int .i64 0, .float .f32 0, .float .f32 0, .int .i64 7]) (by simp [results, Tryz.results30, go_sem]) rfl ?_
  exact ⟨rfl, Kept.alloc w _⟩

theorem makeAllC (n : Nat) (hn : n ≤ 4000000) : ∃ cur0 : List Value, cur0.length = n * 6 ∧ ∀ w : World, (Instr.makeSlice 34 (.int .i64 (n : Int)) (.int .i64 (n : Int))).run Tryz.prog w = .ok (.slice (some ⟨w.heap.size, 0, none⟩) n n) (w.alloc (.cells cur0.toArray 39)) := by
  obtain ⟨i0, hi, hz0, hz1, hz2⟩ := info_parts info_cmd
  refine ⟨(madeCells (Value.agg #[.int .i64 0, .int .i64 0, .int .i64 0, .float .f32 0, .float .f32 0, .int .i64 0]).cells (n * 6)).toList, ?_, fun w => ?_⟩
  · rw [Array.length_toList, size_madeCells]
  · have := run_make (P := Tryz.prog) w 34 39 i0 _ Tryz.underlying34 hi hz0 .i64 .i64 (n : Int) (n : Int) (by omega) (by omega) (by rw [hz2]; omega) (by omega)
    rw [hz1, Int.toNat_natCast] at this
    exact this

/-- The commands that are lent: with eight marks behind them. -/
def lentC (L : List Cmd) : List Cmd := L ++ List.replicate 8 (markC 0)
theorem lentC_length (L : List Cmd) : (lentC L).length = L.length + 8 := by simp [lentC]
theorem lentC_in (L : List Cmd) (i : Nat) (h : i < L.length) (h' : i < (lentC L).length) : (lentC L)[i] = L[i] := by
  simp only [lentC]
  exact List.getElem_append_left h
theorem lentC_out (L : List Cmd) (i : Nat) (h : L.length ≤ i) (h' : i < (lentC L).length) : (lentC L)[i] = markC 0 := by
  simp only [lentC]
  rw [List.getElem_append_right h, List.getElem_replicate]

structure LentCAt (wr : World) (g : Nat) (L : List Cmd) (i : Nat) (cu : List Value) : Prop where
  blk : wr.heap[g]? = some (.cells cu.toArray 39 (0, 0))
  len : cu.length = (L.length + 8) * 6
  row : cu.take (i * 6) = rowC ((lentC L).take i)

theorem LentCAt.more {wr w' : World} {g : Nat} {L : List Cmd} {i : Nat} {cu : List Value} (h : LentCAt wr g L i cu) (hi : L.length ≤ i) (hi2 : i < L.length + 8) (hw : w'.heap[g]? = some (.cells (splice cu (i * 6) (rowC [markC 0])).toArray 39 (0, 0))) : LentCAt w' g L (i + 1) (splice cu (i * 6) (rowC [markC 0])) := by
  have h7 : (rowC [markC 0]).length = 6 := rfl
  have hl := lentC_length L
  have hg : (lentC L)[i]'(by omega) = markC 0 := lentC_out L i hi (by omega)
  refine ⟨hw, by rw [length_splice _ _ _ (by rw [h.len, h7]; omega), h.len], ?_⟩
  rw [List.take_succ_eq_append_getElem (by omega), hg, rowC_append]
  unfold splice
  rw [← List.append_assoc, h.row, show (i + 1) * 6 = (rowC ((lentC L).take i) ++ rowC [markC 0]).length from by rw [← rowC_append, rowC_length, List.length_append, List.length_take, hl, show min i (L.length + 8) = i from by omega]; rfl, List.take_left]

theorem six_old {w : World} {g : Nat} {cur : List Value} {T : TypeId} (h : w.heap[g]? = some (.cells cur.toArray T (0, 0))) (o : Nat) (ho : o + 6 ≤ cur.length) : ∃ u0 u1 u2 u3 u4 u5,
    w.cell? ⟨g, o, none⟩ = some u0 ∧ w.cell? ⟨g, o + 1, none⟩ = some u1 ∧ w.cell? ⟨g, o + 2, none⟩ = some u2 ∧ w.cell? ⟨g, o + 3, none⟩ = some u3 ∧ w.cell? ⟨g, o + 4, none⟩ = some u4 ∧ w.cell? ⟨g, o + 5, none⟩ = some u5 := by
  have c : ∀ j, (hj : j < cur.length) → w.cell? ⟨g, j, none⟩ = some cur[j] := fun j hj => by rw [cell_block h]; simp [hj]
  exact ⟨_, _, _, _, _, _, c _ (by omega), c _ (by omega), c _ (by omega), c _ (by omega), c _ (by omega), c _ (by omega)⟩
theorem store6 {w : World} {g : Nat} {cur : List Value} {T : TypeId} (h : w.heap[g]? = some (.cells cur.toArray T (0, 0))) (o : Nat) (m : Cmd) (ho : o + 6 ≤ cur.length) :
    ((((((w.setCell ⟨g, o, none⟩ (.int .i64 m.kind)).setCell ⟨g, o + 1, none⟩ (.int .i64 m.id)).setCell ⟨g, o + 2, none⟩ (.int .i64 m.team)).setCell ⟨g, o + 3, none⟩ (.float .f32 m.x)).setCell ⟨g, o + 4, none⟩ (.float .f32 m.y)).setCell ⟨g, o + 5, none⟩ (.int .i64 m.n)).heap[g]? = some (.cells (splice cur o (rowC [m])).toArray T (0, 0)) ∧
    Kept (fun k => k = g) w ((((((w.setCell ⟨g, o, none⟩ (.int .i64 m.kind)).setCell ⟨g, o + 1, none⟩ (.int .i64 m.id)).setCell ⟨g, o + 2, none⟩ (.int .i64 m.team)).setCell ⟨g, o + 3, none⟩ (.float .f32 m.x)).setCell ⟨g, o + 4, none⟩ (.float .f32 m.y)).setCell ⟨g, o + 5, none⟩ (.int .i64 m.n)) :=
  setCells_row g T (rowC [m]) o cur w h ho

theorem ReadsC.calm {w w' : World} {p : Option Addr} {L : List Cmd} (h : ReadsC w p L) (hk : Kept (fun _ => False) w w') : ReadsC w' p L := h.keep hk (fun _ _ _ _ e => e)

set_option maxHeartbeats 2000000 in
set_option maxRecDepth 100000 in
theorem lentC_c (p : Option Addr) (cap : Nat) (L : List Cmd) (w : World) (hl : L.length ≤ 2000000) (h : ReadsC w p L) :
    Calls Tryz.prog 20 #[.slice p L.length cap] w fun e w' => e = .returned (.slice (some ⟨w.heap.size, 0, none⟩) (L.length + 8) (L.length + 8)) ∧ w'.heap[w.heap.size]? = some (.cells (rowC (lentC L)).toArray 39 (0, 0)) ∧ Kept (fun _ => False) w w' := by
  obtain ⟨i0, hi, hz0, hz1, hz2⟩ := info_parts info_cmd
  obtain ⟨cur0, hc0, hmk⟩ := makeAllC (L.length + 8) (by omega)
  have hmk' : ∀ w : World, (Instr.makeSlice 34 (.int .i64 ((L.length : Int) + 8)) (.int .i64 ((L.length : Int) + 8))).run Tryz.prog w = .ok (.slice (some ⟨w.heap.size, 0, none⟩) (L.length + 8) (L.length + 8)) (w.alloc (.cells cur0.toArray 39)) := fun w => hmk w
  have hsf := store_float Tryz.prog
  have HR := hide h
  clear h hmk
  have S1 : Hid (0 < L.length → some (⟨w.heap.size, 0, none⟩ : Addr) = some ⟨w.heap.size, 0, none⟩ ∧ ∃ ad, p = some ad ∧ ∀ j v, (rowC L)[j]? = some v → (w.alloc (.cells cur0.toArray 39)).cell? (ad.add j) = some v) := fun hpos => by
    obtain ⟨b, off, h1, h2, h3⟩ := (HR.out.calm (Kept.alloc w (.cells cur0.toArray 39))) (by intro e; simp [e] at hpos)
    exact ⟨rfl, ⟨b, off, none⟩, h1, fun j v hv => by rw [addr_add2]; exact h3 j v hv⟩
  have S2 : Hid (Nat.min L.length (L.length + 8) = L.length) := by show min _ _ = _; omega
  go_enter Tryz.func20, Tryz.ntmps20
  go_wp2_with (refine wpList_copy_any _ rfl (.tmp 9) (.tmp 10) 34 34 rfl 39 6 Tryz.underlying34 size_cmd (some ⟨w.heap.size, 0, none⟩) p (L.length + 8) (L.length + 8) L.length cap (by simp [Act.eval]) (by simp [Act.eval]) w.heap.size 0 cur0 39 (heap_alloc_new w _) L.length S2.out (rowC L) (rowC_length L) S1.out (by rw [rowC_length, hc0]; omega) (rowC_one L) ?_)
  intro w1 HG1 HK1
  have K1 : Hid (Kept (fun _ => False) w w1) := (Kept.alloc w _).join HK1.out (fun _ _ e => e) (fun j hj e => by omega)
  have L1 : Hid (LentCAt w1 w.heap.size L L.length (splice cur0 0 (rowC L))) := by
    refine ⟨HG1.out, by rw [length_splice _ _ _ (by rw [rowC_length, hc0]; omega), hc0], ?_⟩
    unfold splice lentC
    rw [List.take_zero, List.nil_append, ← rowC_length, List.take_left, List.take_left' rfl]
  clear HG1 HK1 hmk' S1 S2
  have hw0 : w.heap.size < w1.heap.size := heap_lt L1.out.blk
  go_wp2
  go_loopw [4] (fun a wr => ∃ i : Nat, ∃ cu : List Value, L.length ≤ i ∧ i ≤ L.length + 8 ∧ a = .int .i64 i ∧ Hid (LentCAt wr w.heap.size L i cu) ∧ Hid (Kept (fun _ => False) w wr)) (fun a _ => L.length + 8 - (intOf a).toNat)
  case atStart => exact ⟨L.length, _, Nat.le_refl _, by omega, rfl, L1, K1⟩
  case round =>
    obtain ⟨i, cu, hil, hi8, rfl, HL, HK⟩ := hrel
    clear L1 K1
    by_cases hlt : i < L.length + 8
    · have hb1 : (0 : Int) ≤ (i : Int) := by omega
      have hb2 : (i : Int) < (L.length : Int) + 8 := by omega
      have hb3 : (i : Int) < ((L.length + 8 : Nat) : Int) := by omega
      go_wp2_with fail
      refine (badCommand_c 0 _ (by decide)).mono ?_
      rintro e w2 ⟨rfl, q2⟩
      have K2 := hide (HK.out.calm2 q2)
      have B2 := hide (show w2.heap[w.heap.size]? = some (.cells cu.toArray 39 (0, 0)) by rw [q2.block _ (heap_lt HL.out.blk) (fun e => e)]; exact HL.out.blk)
      have hal : i * 6 + 6 ≤ cu.length := by rw [HL.out.len]; omega
      obtain ⟨u0, u1, u2, u3, u4, u5, f0, f1, f2, f3, f4, f5⟩ := six_old B2.out (i * 6) hal
      have ffz : ∀ j, w2.frozen? ⟨w.heap.size, j, none⟩ = false := fun j => by simp [World.frozen?, B2.out]
      have ST := hide (store6 B2.out (i * 6) (markC 0) hal)
      clear q2
      go_wp2
      go_roundw
      case rel => exact ⟨i + 1, _, by omega, by omega, by go_num, HL.out.more hil hlt ST.out.1, K2.out.join ST.out.2 (fun _ _ e => e) (fun j hj e => by omega)⟩
      case measure => simp [intOf]; omega
    · obtain rfl : i = L.length + 8 := by omega
      have HF : Hid (cu = rowC (lentC L)) := by
        show _ = _
        have h1 := HL.out.row
        rw [List.take_of_length_le (by rw [HL.out.len]; omega), List.take_of_length_le (by rw [lentC_length]; omega)] at h1
        exact h1
      go_wp2
      go_ret
      refine ⟨rfl, ?_, HK.out⟩
      rw [← HF.out]; exact HL.out.blk

set_option maxHeartbeats 4000000 in
set_option maxRecDepth 100000 in
theorem keptC_c (p q : Option Addr) (cap capq : Nat) (L : List Cmd) (w : World) (hl : L.length ≤ 2000000) (h : ReadsC w q L) (ho : ReadsC w p (lentC L)) :
    Calls Tryz.prog 24 #[.slice p (L.length + 8) cap, .slice q L.length capq] w fun e w' => e = .returned (.bool true) ∧ Kept (fun _ => False) w w' := by
  have hsf := store_float Tryz.prog
  have HR := hide h
  have HO := hide ho
  clear h ho
  have hll := lentC_length L
  go_enter Tryz.func24, Tryz.ntmps24
  go_wp2
  go_loopw [5] (fun a wr => ∃ i : Nat, i ≤ L.length + 8 ∧ a = .int .i64 i ∧ Hid (Kept (fun _ => False) w wr)) (fun a _ => L.length + 8 - (intOf a).toNat)
  case atStart => exact ⟨0, Nat.zero_le _, rfl, Kept.refl _ _⟩
  case round =>
    obtain ⟨i, hil, rfl, HK⟩ := hrel
    by_cases hlt : i < L.length + 8
    · have hb1 : (0 : Int) ≤ (i : Int) := by omega
      have hb2 : (i : Int) < (L.length : Int) + 8 := by omega
      have hb3 : (i : Int) < ((L.length + 8 : Nat) : Int) := by omega
      have hlt' : i < (lentC L).length := by omega
      go_wp2_with fail
      refine (badCommand_c 0 _ (by decide)).mono ?_
      rintro e w2 ⟨rfl, q2⟩
      have K2 := hide (HK.out.calm2 q2)
      clear q2
      by_cases hin : i < L.length
      · have hb4 : (i : Int) < (L.length : Int) := by omega
        have hg : (lentC L)[i] = L[i] := lentC_in L i hin hlt'
        obtain ⟨b, off, hp, hbs, c0, c1, c2, c3, c4, c5⟩ := (HR.out.calm K2.out).at i hin
        obtain ⟨b', off', hp', hbs', d0, d1, d2, d3, d4, d5⟩ := (HO.out.calm K2.out).at i hlt'
        rw [hg] at d0 d1 d2 d3 d4 d5
        subst hp
        subst hp'
        clear hg
        generalize L[i] = m at *
        have KN := hide ((Kept.alloc w2 (.cells #[.int .i64 m.kind, .int .i64 m.id, .int .i64 m.team, .float .f32 m.x, .float .f32 m.y, .int .i64 m.n] 39)).calm2 (Kept.alloc _ (.cells #[.int .i64 m.kind, .int .i64 m.id, .int .i64 m.team, .float .f32 m.x, .float .f32 m.y, .int .i64 m.n] 39)))
        have n0 : (m.kind != m.kind) = false := by simp
        have n1 : (m.id != m.id) = false := by simp
        have n2 : (m.team != m.team) = false := by simp
        have n3 : (m.n != m.n) = false := by simp
        go_wp2_with fail
        refine (like_self m.x _).mono ?_
        rintro e w3 ⟨rfl, rfl⟩
        go_wp2_with fail
        refine (like_self m.y _).mono ?_
        rintro e w3 ⟨rfl, rfl⟩
        go_wp2
        go_roundw
        case rel => exact ⟨i + 1, by omega, by go_num, K2.out.calm2 KN.out⟩
        case measure => simp [intOf]; omega
      · have hb4 : ¬ (i : Int) < (L.length : Int) := by omega
        have hg : (lentC L)[i] = markC 0 := lentC_out L i (by omega) hlt'
        obtain ⟨b', off', hp', hbs', d0, d1, d2, d3, d4, d5⟩ := (HO.out.calm K2.out).at i hlt'
        rw [hg] at d0 d1 d2 d3 d4 d5
        simp only [markC, Int.sub_zero] at d0 d1 d2 d3 d4 d5
        subst hp'
        clear hg
        have KN := hide ((Kept.alloc w2 (.cells #[.int .i64 (-1000), .int .i64 0, .int .i64 0, .float .f32 0, .float .f32 0, .int .i64 7] 39)).calm2 (Kept.alloc _ (.cells #[.int .i64 (-1000), .int .i64 0, .int .i64 0, .float .f32 0, .float .f32 0, .int .i64 7] 39)))
        go_wp2_with fail
        refine (like_self 0 _).mono ?_
        rintro e w3 ⟨rfl, rfl⟩
        go_wp2_with fail
        refine (like_self 0 _).mono ?_
        rintro e w3 ⟨rfl, rfl⟩
        go_wp2
        go_roundw
        case rel => exact ⟨i + 1, by omega, by go_num, K2.out.calm2 KN.out⟩
        case measure => simp [intOf]; omega
    · go_wp2
      go_ret
      exact ⟨rfl, HK.out⟩
end Go.Proofs.YtgclehnhjjkdbaaGreatDoor
