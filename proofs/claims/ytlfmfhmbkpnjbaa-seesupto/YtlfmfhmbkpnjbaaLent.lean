import Derived.Test.YtlfmfhmbkpnjbaaLawent
namespace Go.Proofs.Ytlfmfhmbkpnjbaa
open Go.RowKit

theorem makeAll (n : Nat) (hn : n ≤ 4000000) : ∃ cur0 : List Value, cur0.length = n * 7 ∧ ∀ w : World, (Instr.makeSlice 38 (.int .i64 (n : Int)) (.int .i64 (n : Int))).run Try.prog w = .ok (.slice (some ⟨w.heap.size, 0, none⟩) n n) (w.alloc (.cells cur0.toArray 57)) := by
  obtain ⟨i0, hi, hz0, hz1, hz2⟩ := info_parts info_mob
  refine ⟨(madeCells (Value.agg #[.int .i64 0, .int .i64 0, .float .f32 0, .float .f32 0, .float .f32 0, .float .f32 0, .int .i64 0]).cells (n * 7)).toList, ?_, fun w => ?_⟩
  · rw [Array.length_toList, size_madeCells]
  · have := run_make (P := Try.prog) w 38 57 i0 _ Try.underlying38 hi hz0 .i64 .i64 (n : Int) (n : Int) (by omega) (by omega) (by rw [hz2]; omega) (by omega)
    rw [hz1, Int.toNat_natCast] at this
    exact this

/-- The list that is lent: with eight marks behind it. -/
def lentL (L : List Mob) : List Mob := L ++ List.replicate 8 (markM 0)
theorem lentL_length (L : List Mob) : (lentL L).length = L.length + 8 := by simp [lentL]

theorem lentL_in (L : List Mob) (i : Nat) (h : i < L.length) (h' : i < (lentL L).length) : (lentL L)[i] = L[i] := by
  simp only [lentL]
  exact List.getElem_append_left h
theorem lentL_out (L : List Mob) (i : Nat) (h : L.length ≤ i) (h' : i < (lentL L).length) : (lentL L)[i] = markM 0 := by
  simp only [lentL]
  rw [List.getElem_append_right h, List.getElem_replicate]

structure LentAt (wr : World) (g : Nat) (L : List Mob) (i : Nat) (cu : List Value) : Prop where
  blk : wr.heap[g]? = some (.cells cu.toArray 57 (0, 0))
  len : cu.length = (L.length + 8) * 7
  row : cu.take (i * 7) = rowM ((lentL L).take i)

theorem LentAt.more {wr w' : World} {g : Nat} {L : List Mob} {i : Nat} {cu : List Value} (h : LentAt wr g L i cu) (hi : L.length ≤ i) (hi2 : i < L.length + 8) (hw : w'.heap[g]? = some (.cells (splice cu (i * 7) (rowM [markM 0])).toArray 57 (0, 0))) : LentAt w' g L (i + 1) (splice cu (i * 7) (rowM [markM 0])) := by
  have h7 : (rowM [markM 0]).length = 7 := rfl
  have hl := lentL_length L
  have hg : (lentL L)[i]'(by omega) = markM 0 := lentL_out L i hi (by omega)
  refine ⟨hw, by rw [length_splice _ _ _ (by rw [h.len, h7]; omega), h.len], ?_⟩
  rw [List.take_succ_eq_append_getElem (by omega), hg, rowM_append]
  unfold splice
  rw [← List.append_assoc, h.row, show (i + 1) * 7 = (rowM ((lentL L).take i) ++ rowM [markM 0]).length from by rw [← rowM_append, rowM_length, List.length_append, List.length_take, hl, show min i (L.length + 8) = i from by omega]; rfl, List.take_left]

set_option maxHeartbeats 2000000 in
set_option maxRecDepth 100000 in
theorem lent_c (p : Option Addr) (cap : Nat) (L : List Mob) (w : World) (hl : L.length ≤ 2000000) (h : Reads w p L) :
    Calls Try.prog 15 #[.slice p L.length cap] w fun e w' => e = .returned (.slice (some ⟨w.heap.size, 0, none⟩) (L.length + 8) (L.length + 8)) ∧ w'.heap[w.heap.size]? = some (.cells (rowM (lentL L)).toArray 57 (0, 0)) ∧ Kept (fun _ => False) w w' := by
  obtain ⟨i0, hi, hz0, hz1, hz2⟩ := info_parts info_mob
  obtain ⟨cur0, hc0, hmk⟩ := makeAll (L.length + 8) (by omega)
  have hmk' : ∀ w : World, (Instr.makeSlice 38 (.int .i64 ((L.length : Int) + 8)) (.int .i64 ((L.length : Int) + 8))).run Try.prog w = .ok (.slice (some ⟨w.heap.size, 0, none⟩) (L.length + 8) (L.length + 8)) (w.alloc (.cells cur0.toArray 57)) := fun w => hmk w
  have hsf := store_float Try.prog
  have HR := hide h
  clear h hmk
  have S1 : Hid (0 < L.length → some (⟨w.heap.size, 0, none⟩ : Addr) = some ⟨w.heap.size, 0, none⟩ ∧ ∃ ad, p = some ad ∧ ∀ j v, (rowM L)[j]? = some v → (w.alloc (.cells cur0.toArray 57)).cell? (ad.add j) = some v) := fun hpos => by
    obtain ⟨b, off, h1, h2, h3⟩ := (HR.out.calm (Kept.alloc w (.cells cur0.toArray 57))) (by intro e; simp [e] at hpos)
    exact ⟨rfl, ⟨b, off, none⟩, h1, fun j v hv => by rw [addr_add2]; exact h3 j v hv⟩
  have S2 : Hid (Nat.min L.length (L.length + 8) = L.length) := by show min _ _ = _; omega
  go_enter Try.func15, Try.ntmps15
  go_wp2_with (refine wpList_copy_any _ rfl (.tmp 9) (.tmp 10) 38 38 rfl 57 7 Try.underlying38 size_mob (some ⟨w.heap.size, 0, none⟩) p (L.length + 8) (L.length + 8) L.length cap (by simp [Act.eval]) (by simp [Act.eval]) w.heap.size 0 cur0 57 (heap_alloc_new w _) L.length S2.out (rowM L) (rowM_length L) S1.out (by rw [rowM_length, hc0]; omega) (rowM_one L) ?_)
  intro w1 HG1 HK1
  have K1 : Hid (Kept (fun _ => False) w w1) := (Kept.alloc w _).join HK1.out (fun _ _ e => e) (fun j hj e => by omega)
  have L1 : Hid (LentAt w1 w.heap.size L L.length (splice cur0 0 (rowM L))) := by
    refine ⟨HG1.out, by rw [length_splice _ _ _ (by rw [rowM_length, hc0]; omega), hc0], ?_⟩
    unfold splice lentL
    rw [List.take_zero, List.nil_append, ← rowM_length, List.take_left, List.take_left' rfl]
  clear HG1 HK1 hmk' S1 S2
  have hw0 : w.heap.size < w1.heap.size := heap_lt L1.out.blk
  go_wp2
  go_loopw [4] (fun a wr => ∃ i : Nat, ∃ cu : List Value, L.length ≤ i ∧ i ≤ L.length + 8 ∧ a = .int .i64 i ∧ Hid (LentAt wr w.heap.size L i cu) ∧ Hid (Kept (fun _ => False) w wr)) (fun a _ => L.length + 8 - (intOf a).toNat)
  case atStart => exact ⟨L.length, _, Nat.le_refl _, by omega, rfl, L1, K1⟩
  case round =>
    obtain ⟨i, cu, hil, hi8, rfl, HL, HK⟩ := hrel
    clear L1 K1
    by_cases hlt : i < L.length + 8
    · have hb1 : (0 : Int) ≤ (i : Int) := by omega
      have hb2 : (i : Int) < (L.length : Int) + 8 := by omega
      have hb3 : (i : Int) < ((L.length + 8 : Nat) : Int) := by omega
      go_wp2_with fail
      refine (badEntity_c 0 _ (by decide)).mono ?_
      rintro e w2 ⟨rfl, q2⟩
      have K2 := hide (HK.out.calm2 q2)
      have B2 := hide (show w2.heap[w.heap.size]? = some (.cells cu.toArray 57 (0, 0)) by rw [q2.block _ (heap_lt HL.out.blk) (fun e => e)]; exact HL.out.blk)
      have hal : i * 7 + 7 ≤ cu.length := by rw [HL.out.len]; omega
      obtain ⟨u0, u1, u2, u3, u4, u5, u6, f0, f1, f2, f3, f4, f5, f6⟩ := seven_old B2.out (i * 7) hal
      have ffz : ∀ j, w2.frozen? ⟨w.heap.size, j, none⟩ = false := fun j => by simp [World.frozen?, B2.out]
      have ST := hide (store7 B2.out (i * 7) (markM 0) hal)
      clear q2
      go_wp2
      go_roundw
      case rel => exact ⟨i + 1, _, by omega, by omega, by go_num, HL.out.more hil hlt ST.out.1, K2.out.join ST.out.2 (fun _ _ e => e) (fun j hj e => by omega)⟩
      case measure => simp [intOf]; omega
    · obtain rfl : i = L.length + 8 := by omega
      have HF : Hid (cu = rowM (lentL L)) := by
        show _ = _
        have h1 := HL.out.row
        rw [List.take_of_length_le (by rw [HL.out.len]; omega), List.take_of_length_le (by rw [lentL_length]; omega)] at h1
        exact h1
      go_wp2
      go_ret
      refine ⟨rfl, ?_, HK.out⟩
      rw [← HF.out]; exact HL.out.blk

set_option maxHeartbeats 4000000 in
set_option maxRecDepth 100000 in
theorem kept_c (p q : Option Addr) (cap capq : Nat) (L : List Mob) (w : World) (hl : L.length ≤ 2000000) (h : Reads w q L) (ho : Reads w p (lentL L)) :
    Calls Try.prog 20 #[.slice p (L.length + 8) cap, .slice q L.length capq] w fun e w' => e = .returned (.bool true) ∧ Kept (fun _ => False) w w' := by
  have hsf := store_float Try.prog
  have HR := hide h
  have HO := hide ho
  clear h ho
  have hll := lentL_length L
  go_enter Try.func20, Try.ntmps20
  go_wp2
  go_loopw [5] (fun a wr => ∃ i : Nat, i ≤ L.length + 8 ∧ a = .int .i64 i ∧ Hid (Kept (fun _ => False) w wr)) (fun a _ => L.length + 8 - (intOf a).toNat)
  case atStart => exact ⟨0, Nat.zero_le _, rfl, Kept.refl _ _⟩
  case round =>
    obtain ⟨i, hil, rfl, HK⟩ := hrel
    by_cases hlt : i < L.length + 8
    · have hb1 : (0 : Int) ≤ (i : Int) := by omega
      have hb2 : (i : Int) < (L.length : Int) + 8 := by omega
      have hb3 : (i : Int) < ((L.length + 8 : Nat) : Int) := by omega
      have hlt' : i < (lentL L).length := by omega
      go_wp2_with fail
      refine (badEntity_c 0 _ (by decide)).mono ?_
      rintro e w2 ⟨rfl, q2⟩
      have K2 := hide (HK.out.calm2 q2)
      clear q2
      by_cases hin : i < L.length
      · have hb4 : (i : Int) < (L.length : Int) := by omega
        have hg : (lentL L)[i] = L[i] := lentL_in L i hin hlt'
        obtain ⟨b, off, hp, hbs, c0, c1, c2, c3, c4, c5, c6⟩ := (HR.out.calm K2.out).at i hin
        obtain ⟨b', off', hp', hbs', d0, d1, d2, d3, d4, d5, d6⟩ := (HO.out.calm K2.out).at i hlt'
        rw [hg] at d0 d1 d2 d3 d4 d5 d6
        subst hp
        subst hp'
        have KN := hide (Kept.alloc w2 (.cells #[.int .i64 L[i].id, .int .i64 L[i].team, .float .f32 L[i].x, .float .f32 L[i].y, .float .f32 L[i].vx, .float .f32 L[i].vy, .int .i64 L[i].health] 57))
        have HN := hide (heap_alloc_new w2 (.cells #[.int .i64 L[i].id, .int .i64 L[i].team, .float .f32 L[i].x, .float .f32 L[i].y, .float .f32 L[i].vx, .float .f32 L[i].vy, .int .i64 L[i].health] 57))
        have CE : Hid (∀ w', Kept (fun _ => False) w2 w' → w'.cell? ⟨b', off' + i * 7, none⟩ = some (.int .i64 L[i].id) ∧ w'.cell? ⟨b', off' + i * 7 + 1, none⟩ = some (.int .i64 L[i].team) ∧ w'.cell? ⟨b', off' + i * 7 + 2, none⟩ = some (.float .f32 L[i].x) ∧ w'.cell? ⟨b', off' + i * 7 + 3, none⟩ = some (.float .f32 L[i].y) ∧ w'.cell? ⟨b', off' + i * 7 + 4, none⟩ = some (.float .f32 L[i].vx) ∧ w'.cell? ⟨b', off' + i * 7 + 5, none⟩ = some (.float .f32 L[i].vy) ∧ w'.cell? ⟨b', off' + i * 7 + 6, none⟩ = some (.int .i64 L[i].health)) := fun w' hk => by
          refine ⟨?_, ?_, ?_, ?_, ?_, ?_, ?_⟩
          all_goals rw [cell_keep hk hbs' (fun e => e)]; assumption
        clear d0 d1 d2 d3 d4 d5 d6 hg
        go_wp2
        obtain ⟨n0, n1, n2, n3, n4, n5, n6⟩ := seven_cells HN.out
        obtain ⟨s1, s2, s3, s4, s5, s6, s7⟩ := CE.out _ KN.out
        clear c0 c1 c2 c3 c4 c5 c6
        generalize w2.alloc (.cells #[.int .i64 L[i].id, .int .i64 L[i].team, .float .f32 L[i].x, .float .f32 L[i].y, .float .f32 L[i].vx, .float .f32 L[i].vy, .int .i64 L[i].health] 57) = wa at *
        generalize L[i] = m at *
        go_region_held3 (fun w' => w'.cell? ⟨b', off' + i * 7, none⟩ = some (.int .i64 m.id) ∧ w'.cell? ⟨b', off' + i * 7 + 1, none⟩ = some (.int .i64 m.team) ∧ w'.cell? ⟨b', off' + i * 7 + 2, none⟩ = some (.float .f32 m.x) ∧ w'.cell? ⟨b', off' + i * 7 + 3, none⟩ = some (.float .f32 m.y) ∧ w'.cell? ⟨b', off' + i * 7 + 4, none⟩ = some (.float .f32 m.vx) ∧ w'.cell? ⟨b', off' + i * 7 + 5, none⟩ = some (.float .f32 m.vy) ∧ w'.cell? ⟨b', off' + i * 7 + 6, none⟩ = some (.int .i64 m.health) ∧ w'.cell? ⟨w2.heap.size, 0, none⟩ = some (.int .i64 m.id) ∧ w'.cell? ⟨w2.heap.size, 1, none⟩ = some (.int .i64 m.team) ∧ w'.cell? ⟨w2.heap.size, 2, none⟩ = some (.float .f32 m.x) ∧ w'.cell? ⟨w2.heap.size, 3, none⟩ = some (.float .f32 m.y) ∧ w'.cell? ⟨w2.heap.size, 4, none⟩ = some (.float .f32 m.vx) ∧ w'.cell? ⟨w2.heap.size, 5, none⟩ = some (.float .f32 m.vy) ∧ w'.cell? ⟨w2.heap.size, 6, none⟩ = some (.int .i64 m.health)) (go_keep)
          ((go_at_call 56; refine (sameEntity_self m _).mono ?_; rintro e w4 ⟨rfl, q4⟩; have K4 := hide (KN.out.calm2 ((Kept.drew wa).calm2 q4)); have HN4 := hide (show w4.heap[w2.heap.size]? = some (.cells #[.int .i64 m.id, .int .i64 m.team, .float .f32 m.x, .float .f32 m.y, .float .f32 m.vx, .float .f32 m.vy, .int .i64 m.health] 57 (0, 0)) by rw [((Kept.drew wa).calm2 q4).block _ (heap_lt HN.out) (fun e => e)]; exact HN.out); obtain ⟨u0, u1, u2, u3, u4, u5, u6⟩ := seven_cells HN4.out; obtain ⟨v1, v2, v3, v4, v5, v6, v7⟩ := CE.out w4 K4.out; clear q4))
        clear s1 s2 s3 s4 s5 s6 s7 n0 n1 n2 n3 n4 n5 n6 v1 v2 v3 v4 v5 v6 v7 u0 u1 u2 u3 u4 u5 u6
        go_wp2
        go_roundw
        case rel => exact ⟨i + 1, by omega, by go_num, K2.out.calm2 K4.out⟩
        case measure => simp [intOf]; omega
      · have hb4 : ¬ (i : Int) < (L.length : Int) := by omega
        have hg : (lentL L)[i] = markM 0 := lentL_out L i (by omega) hlt'
        obtain ⟨b', off', hp', hbs', d0, d1, d2, d3, d4, d5, d6⟩ := (HO.out.calm K2.out).at i hlt'
        rw [hg] at d0 d1 d2 d3 d4 d5 d6
        subst hp'
        have KN := hide (Kept.alloc w2 (.cells #[.int .i64 (-1000), .int .i64 0, .float .f32 0, .float .f32 0, .float .f32 0, .float .f32 0, .int .i64 7] 57))
        have HN := hide (heap_alloc_new w2 (.cells #[.int .i64 (-1000), .int .i64 0, .float .f32 0, .float .f32 0, .float .f32 0, .float .f32 0, .int .i64 7] 57))
        have CE : Hid (∀ w', Kept (fun _ => False) w2 w' → w'.cell? ⟨b', off' + i * 7, none⟩ = some (.int .i64 (markM 0).id) ∧ w'.cell? ⟨b', off' + i * 7 + 1, none⟩ = some (.int .i64 (markM 0).team) ∧ w'.cell? ⟨b', off' + i * 7 + 2, none⟩ = some (.float .f32 (markM 0).x) ∧ w'.cell? ⟨b', off' + i * 7 + 3, none⟩ = some (.float .f32 (markM 0).y) ∧ w'.cell? ⟨b', off' + i * 7 + 4, none⟩ = some (.float .f32 (markM 0).vx) ∧ w'.cell? ⟨b', off' + i * 7 + 5, none⟩ = some (.float .f32 (markM 0).vy) ∧ w'.cell? ⟨b', off' + i * 7 + 6, none⟩ = some (.int .i64 (markM 0).health)) := fun w' hk => by
          refine ⟨?_, ?_, ?_, ?_, ?_, ?_, ?_⟩
          all_goals rw [cell_keep hk hbs' (fun e => e)]; assumption
        clear d0 d1 d2 d3 d4 d5 d6 hg
        go_wp2
        obtain ⟨n0, n1, n2, n3, n4, n5, n6⟩ := seven_cells HN.out
        obtain ⟨s1, s2, s3, s4, s5, s6, s7⟩ := CE.out _ KN.out
        simp only [markM, Int.sub_zero] at s1 s2 s3 s4 s5 s6 s7
        generalize w2.alloc (.cells #[.int .i64 (-1000), .int .i64 0, .float .f32 0, .float .f32 0, .float .f32 0, .float .f32 0, .int .i64 7] 57) = wa at *
        go_region_held3 (fun w' => w'.cell? ⟨b', off' + i * 7, none⟩ = some (.int .i64 (-1000)) ∧ w'.cell? ⟨b', off' + i * 7 + 1, none⟩ = some (.int .i64 0) ∧ w'.cell? ⟨b', off' + i * 7 + 2, none⟩ = some (.float .f32 0) ∧ w'.cell? ⟨b', off' + i * 7 + 3, none⟩ = some (.float .f32 0) ∧ w'.cell? ⟨b', off' + i * 7 + 4, none⟩ = some (.float .f32 0) ∧ w'.cell? ⟨b', off' + i * 7 + 5, none⟩ = some (.float .f32 0) ∧ w'.cell? ⟨b', off' + i * 7 + 6, none⟩ = some (.int .i64 7) ∧ w'.cell? ⟨w2.heap.size, 0, none⟩ = some (.int .i64 (-1000)) ∧ w'.cell? ⟨w2.heap.size, 1, none⟩ = some (.int .i64 0) ∧ w'.cell? ⟨w2.heap.size, 2, none⟩ = some (.float .f32 0) ∧ w'.cell? ⟨w2.heap.size, 3, none⟩ = some (.float .f32 0) ∧ w'.cell? ⟨w2.heap.size, 4, none⟩ = some (.float .f32 0) ∧ w'.cell? ⟨w2.heap.size, 5, none⟩ = some (.float .f32 0) ∧ w'.cell? ⟨w2.heap.size, 6, none⟩ = some (.int .i64 7)) (go_keep)
          ((go_at_call 56; refine (sameEntity_self (markM 0) _).mono ?_; rintro e w4 ⟨rfl, q4⟩; have K4 := hide (KN.out.calm2 ((Kept.drew wa).calm2 q4)); have HN4 := hide (show w4.heap[w2.heap.size]? = some (.cells #[.int .i64 (-1000), .int .i64 0, .float .f32 0, .float .f32 0, .float .f32 0, .float .f32 0, .int .i64 7] 57 (0, 0)) by rw [((Kept.drew wa).calm2 q4).block _ (heap_lt HN.out) (fun e => e)]; exact HN.out); obtain ⟨u0, u1, u2, u3, u4, u5, u6⟩ := seven_cells HN4.out; obtain ⟨v1, v2, v3, v4, v5, v6, v7⟩ := CE.out w4 K4.out; simp only [markM, Int.sub_zero] at v1 v2 v3 v4 v5 v6 v7; clear q4))
        clear s1 s2 s3 s4 s5 s6 s7 n0 n1 n2 n3 n4 n5 n6 v1 v2 v3 v4 v5 v6 v7 u0 u1 u2 u3 u4 u5 u6
        go_wp2
        go_roundw
        case rel => exact ⟨i + 1, by omega, by go_num, K2.out.calm2 K4.out⟩
        case measure => simp [intOf]; omega
    · go_wp2
      go_ret
      exact ⟨rfl, HK.out⟩
end Go.Proofs.Ytlfmfhmbkpnjbaa
