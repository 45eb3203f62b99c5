import Derived.Test.YtlfmfhmbkpnjbaaStep
namespace Go.Proofs.Ytlfmfhmbkpnjbaa
open Go.RowKit

theorem make32 : ∃ cur0 : List Value, cur0.length = 224 ∧ ∀ w : World, (Instr.makeSlice 38 (.int .i64 0) (.int .i64 32)).run Try.prog w = .ok (.slice (some ⟨w.heap.size, 0, none⟩) 0 32) (w.alloc (.cells cur0.toArray 57)) := by
  obtain ⟨i0, hi, hz0, hz1, hz2⟩ := info_parts info_mob
  refine ⟨(madeCells (Value.agg #[.int .i64 0, .int .i64 0, .float .f32 0, .float .f32 0, .float .f32 0, .float .f32 0, .int .i64 0]).cells (32 * 7)).toList, ?_, fun w => ?_⟩
  · rw [Array.length_toList, size_madeCells]
  · have := run_make (P := Try.prog) w 38 57 i0 _ Try.underlying38 hi hz0 .i64 .i64 0 32 (by decide) (by decide) (by rw [hz2]; decide) (by decide)
    rw [hz1] at this
    exact this

theorem worldB_fine {t : Int} {L : List Mob} (h : worldB t L = true) : 0 ≤ t ∧ t ≤ 500 ∧ Fine 0 L := by
  simp only [worldB, decide_eq_true_eq] at h
  refine ⟨h.1, h.2.1, of_rises h.2.2.rises, fun m hm => ?_⟩
  obtain ⟨j, hj, rfl⟩ := List.getElem_of_mem hm
  have := (h.2.2 j hj hj).1
  simp only [mobB, Bool.and_eq_true, decide_eq_true_eq] at this
  exact ⟨this.1.1.1.1.1.1, this.1.1.1.1.1.2, this.1.1.1.1.2, (fin_num this.1.1.1.2).ok, (fin_num this.1.1.2).ok, by omega, this.2⟩

theorem fold_fine {k : Nat} (cs : List Cmd) (L : List Mob) (h : Fine k L) : Fine (k + cs.length) (cs.foldl doM L) := by
  induction cs generalizing k L with
  | nil => exact h
  | cons c r ih =>
    have := ih (doM L c) (doM_fine c h)
    simp only [List.foldl_cons, List.length_cons]
    rw [show k + (r.length + 1) = k + 1 + r.length from by omega]
    exact this

theorem fold_take (cs : List Cmd) (L : List Mob) (i : Nat) (hi : i < cs.length) : (cs.take (i + 1)).foldl doM L = doM ((cs.take i).foldl doM L) cs[i] := by
  rw [List.take_succ_eq_append_getElem hi, List.foldl_append]; rfl

/-- The list while its entities move. -/
def half (M : List Mob) (i : Nat) : List Mob := (M.take i).map moveM ++ M.drop i
theorem half_length (M : List Mob) (i : Nat) : (half M i).length = M.length := by simp [half]; omega
theorem half_at (M : List Mob) (i : Nat) (hi : i < M.length) : (half M i)[i]'(by rw [half_length]; exact hi) = M[i] := by
  simp only [half]
  rw [List.getElem_append_right (by simp; omega)]
  simp [show i - min i M.length = 0 by omega]
theorem half_set (M : List Mob) (i : Nat) (hi : i < M.length) : (half M i).set i (moveM M[i]) = half M (i + 1) := by
  unfold half
  rw [List.set_append_right _ _ (by simp; omega), List.take_succ_eq_append_getElem hi, List.map_append, List.append_assoc]
  congr 1
  rw [show i - ((M.take i).map moveM).length = 0 from by simp; omega, List.drop_eq_getElem_cons hi]
  rfl
theorem half_all (M : List Mob) : half M M.length = M.map moveM := by simp [half]

theorem keep_fine {k : Nat} {L : List Mob} (h : Fine k L) : Fine k (keepL L) :=
  ⟨h.rises.sublist (List.filter_sublist.map _), fun m hm => h.mob m (List.mem_filter.1 hm).1⟩

set_option maxHeartbeats 4000000 in
set_option maxRecDepth 100000 in
theorem step_ok (t : Int) (p pc : Option Addr) (cap capc : Nat) (L : List Mob) (cs : List Cmd) (w : World) (hl : (L.length : Int) ≤ 4611686018427387903) (h : Reads w p L) (hp : p = none → cap = 0) (hc : ReadsC w pc cs) (hb : worldB t L = true) (ht : t ≠ 500) (hn : cs.length ≤ 64) :
    Calls Try.prog 17 #[.agg #[.int .i64 t, .slice p L.length cap], .slice pc cs.length capc] w fun e w' =>
      ∃ g cur, w.heap.size ≤ g ∧ e = .returned (.tuple #[.agg #[.int .i64 (t + 1), .slice (some ⟨g, 0, none⟩) (stepL cs L).length 32], .int .i64 0]) ∧ EntAt w' g (stepL cs L) cur ∧ Kept (fun _ => False) w w' := by
  obtain ⟨i0, hi, hz0, hz1, hz2⟩ := info_parts info_mob
  obtain ⟨cur0, hc0, hmk⟩ := make32
  obtain ⟨ht0, ht1, hF⟩ := worldB_fine hb
  have hsh := hF.short
  have HF := hide hF
  have HR := hide h
  have HC := hide hc
  have HP := hide hp
  have hsf := store_float Try.prog
  have ht' : (t == 500) = false := by simp [ht]
  have hn' : ¬ (64 : Int) < (cs.length : Int) := by omega
  have hn'' : (cs.length : Int) ≤ 64 := by omega
  have htw : IntKind.i64.wrap (t + 1) = t + 1 := wrap_id _ (by omega)
  clear h hc hp ht hF
  have LT := hide (laid_two w t (.slice p L.length cap))
  go_enter Try.func17, Try.ntmps17
  go_wp2_with fail
  refine (isWorld_c t p cap L _ (by omega) (HR.out.calm LT.out.1)).mono ?_
  rw [hb]
  rintro e w1 ⟨rfl, q1⟩
  have K1 := hide (LT.out.1.calm2 q1)
  have A1 : Hid (w1.heap[w.heap.size]? = some (.cells #[.int .i64 t, .slice p L.length cap] 40 (0, 0))) := by show _ = _; rw [q1.block _ (heap_lt LT.out.2.1) (fun e => e)]; exact LT.out.2.1
  have B1 : Hid (w1.heap[w.heap.size + 1]? = some (.cells #[.int .i64 0, .slice none 0 0] 40 (0, 0))) := by show _ = _; rw [q1.block _ (heap_lt LT.out.2.2) (fun e => e)]; exact LT.out.2.2
  obtain ⟨a0, a1, -, -⟩ := two_cells A1.out
  have hw1 := heap_lt B1.out
  have hw0 := heap_lt A1.out
  clear q1 LT
  go_wp2
  have S2 : Hid (∀ ad, p = some ad → ∀ j u, (rowM L)[j]? = some u → (w1.alloc (.cells cur0.toArray 57)).cell? (ad.add j) = some u) := fun ad had j u hu => by
    have hne : L ≠ [] := by intro e; subst e; simp [rowM] at hu
    obtain ⟨b, off, h1, h2, h3⟩ := (HR.out.calm (K1.out.calm2 (Kept.alloc w1 (.cells cur0.toArray 57)))) hne
    rw [had] at h1
    obtain rfl : ad = ⟨b, off, none⟩ := by simpa using h1
    rw [addr_add2]; exact h3 j u hu
  have S3 : Hid (p = none → L.length = 0) := fun e => by
    by_cases hne : L = []
    · rw [hne]; rfl
    · obtain ⟨b, off, h1, _⟩ := HR.out hne
      rw [e] at h1; cases h1
  go_region_law (refine step_append_any rfl (.tmp 23) (.tmp 25) 38 rfl 57 i0 7 Try.underlying38 hi hz1 w1.heap.size 0 32 cur0 (heap_alloc_new w1 _) (by simp [Act.eval]) p L.length cap (by simp [Act.eval]) HP.out (rowM L) (rowM_length L) S3.out S2.out (rowM_one L) (by omega) (by omega) (by decide) hc0 (by rw [rowM_length, hc0]; omega) ?_; intro w2 HG2 HK2)
  all_goals
    have KA := hide ((Kept.alloc w1 (.cells cur0.toArray 57)).calm2 (Kept.drew _))
    have E2 : Hid (EntAt w2 w1.heap.size L (splice cur0 (0 * 7) (rowM L))) := ⟨HG2.out, by rw [length_splice _ _ _ (by rw [rowM_length, hc0]; omega), hc0], by
      unfold splice
      rw [Nat.zero_mul, List.take_zero, List.nil_append, ← rowM_length, List.take_left], hsh⟩
    have K2 : Hid (Kept (fun _ => False) w w2) := (K1.out.calm2 KA.out).join HK2.out (fun _ _ e => e) (fun j hj e => by omega)
    have A2 : Hid (w2.heap[w.heap.size]? = some (.cells #[.int .i64 t, .slice p L.length cap] 40 (0, 0))) := by
      show _ = _
      rw [HK2.out.block _ (Nat.lt_of_lt_of_le hw0 KA.out.size) (by omega), KA.out.block _ hw0 (fun e => e)]; exact A1.out
    have B2 : Hid (w2.heap[w.heap.size + 1]? = some (.cells #[.int .i64 0, .slice none 0 0] 40 (0, 0))) := by
      show _ = _
      rw [HK2.out.block _ (Nat.lt_of_lt_of_le hw1 KA.out.size) (by omega), KA.out.block _ hw1 (fun e => e)]; exact B1.out
    clear HG2 HK2 S2 S3 hmk a0 a1 A1 B1 K1 KA
    generalize w1.heap.size = g at *
    go_wp2
    go_loopw [29, 6] (fun a s wr => ∃ i : Nat, ∃ cu : List Value, i ≤ cs.length ∧ a = .int .i64 i ∧ s = .slice (some ⟨g, 0, none⟩) ((cs.take i).foldl doM L).length 32 ∧ Hid (EntAt wr g ((cs.take i).foldl doM L) cu) ∧ Hid (Kept (fun k => k = g) w2 wr)) (fun a _ _ => cs.length - (intOf a).toNat)
    case atStart => exact ⟨0, _, Nat.zero_le _, rfl, rfl, E2, Kept.refl _ _⟩
    case round =>
      obtain ⟨i, cu, hil, rfl, rfl, HE, HK⟩ := hrel
      clear E2
      by_cases hlt : i < cs.length
      · have HKW : Hid (Kept (fun k => k = g) w wr) := K2.out.join HK.out (fun _ _ e => e.elim) (fun _ _ e => e)
        obtain ⟨b, off, rfl, hb', c0, c1, c2, c3, c4, c5⟩ := (HC.out.keep HKW.out (fun b off hpc hb e => by omega)).at i hlt
        have hFi := fold_fine (cs.take i) L HF.out
        rw [List.length_take, show 0 + min i cs.length = i from by omega] at hFi
        have HFi := hide hFi
        have HT := hide (fold_take cs L i hlt)
        clear hFi
        generalize (cs.take i).foldl doM L = Li at *
        have hb1 : (0 : Int) ≤ (i : Int) := by omega
        have hb2 : (i : Int) < (cs.length : Int) := by omega
        have KA := hide (Kept.alloc wr (.cells #[.int .i64 cs[i].kind, .int .i64 cs[i].id, .int .i64 cs[i].team, .float .f32 cs[i].x, .float .f32 cs[i].y, .int .i64 cs[i].n] 99))
        go_wp2_with fail
        refine (commandOf_c cs[i] _).mono ?_
        rintro e w4 ⟨rfl, q4⟩
        have K4 := hide (KA.out.calm2 q4)
        clear q4 c0 c1 c2 c3 c4 c5 KA
        generalize hcv : ifaceOf cs[i] = cv at *
        have HCV := hide hcv
        clear hcv
        go_wp2_with fail
        rw [← HCV.out]
        refine (do_c cs[i] i g Li cu _ (by omega) HFi.out (HE.out.calm K4.out)).mono ?_
        rintro e w5 ⟨rfl, ⟨cu5, q5⟩, k5⟩
        have Q5 := hide q5
        have K5 := hide (((HK.out.join K4.out (R := fun k => k = g) (fun _ _ e => e) (fun _ _ e => e.elim))).join k5 (fun _ _ e => e) (fun _ _ e => e))
        clear q5 k5
        go_wp2
        go_roundw
        case rel => exact ⟨i + 1, cu5, by omega, by go_num, by rw [HT.out], by rw [HT.out]; exact Q5, K5⟩
        case measure => simp [intOf]; omega
      · obtain rfl : i = cs.length := by omega
        rw [List.take_length] at HE
        rw [List.take_length]
        have hFi := keep_fine (fold_fine cs L HF.out)
        have HFi := hide hFi
        clear hFi
        go_wp2_with fail
        refine (deleteFunc_c g _ cu _ HE.out).mono ?_
        rintro e w4 ⟨rfl, ⟨cu4, q4⟩, k4⟩
        have HS : Hid (stepL cs L = (keepL (cs.foldl doM L)).map moveM) := rfl
        generalize keepL (cs.foldl doM L) = M at *
        have Q4 := hide q4
        have hMl := q4.short
        have K4 := hide (HK.out.join k4 (R := fun k => k = g) (fun _ _ e => e) (fun _ _ e => e))
        clear q4 k4 HE HK
        go_wp2
        go_loopw [42] (fun a wr => ∃ i : Nat, ∃ cu : List Value, i ≤ M.length ∧ a = .int .i64 i ∧ Hid (EntAt wr g (half M i) cu) ∧ Hid (Kept (fun k => k = g) w2 wr)) (fun a _ => M.length - (intOf a).toNat)
        case atStart => exact ⟨0, cu4, Nat.zero_le _, rfl, Q4, K4⟩
        case round =>
          obtain ⟨i, cu, hil, rfl, HE, HK⟩ := hrel
          clear Q4 K4
          by_cases hlt : i < M.length
          · have hm := HFi.out.mob M[i] (List.getElem_mem hlt)
            have hlt' : i < (half M i).length := by rw [half_length]; exact hlt
            have hat := half_at M i hlt
            have MV := hide (move_c g i (half M i) cu wr hlt' HE.out (by rw [hat]; exact hm.px) (by rw [hat]; exact hm.py) (by rw [hat]; exact hm.vx) (by rw [hat]; exact hm.vy))
            have HH : Hid ((half M i).set i (moveM (half M i)[i]) = half M (i + 1)) := by show _ = _; rw [hat]; exact half_set M i hlt
            have hb1 : (0 : Int) ≤ (i : Int) := by omega
            have hb2 : (i : Int) < (M.length : Int) := by omega
            clear hm hat
            go_wp2_with fail
            refine MV.out.mono ?_
            rw [HH.out]
            rintro e w6 ⟨rfl, ⟨cu6, q6⟩, k6⟩
            have Q6 := hide q6
            have K6 := hide (HK.out.join k6 (R := fun k => k = g) (fun _ _ e => e) (fun _ _ e => e))
            clear q6 k6 MV
            go_wp2
            go_roundw
            case rel => exact ⟨i + 1, cu6, by omega, by go_num, Q6, K6⟩
            case measure => simp [intOf]; omega
          · obtain rfl : i = M.length := by omega
            have EF : Hid (EntAt wr g (stepL cs L) cu) := by rw [HS.out, ← half_all]; exact HE.out
            have HLN : Hid (M.length = (stepL cs L).length) := by show _ = _; rw [HS.out, List.length_map]
            have AF : Hid (wr.heap[w.heap.size]? = some (.cells #[.int .i64 t, .slice p L.length cap] 40 (0, 0))) := by show _ = _; rw [HK.out.block _ (heap_lt A2.out) (by omega)]; exact A2.out
            have BF : Hid (wr.heap[w.heap.size + 1]? = some (.cells #[.int .i64 0, .slice none 0 0] 40 (0, 0))) := by show _ = _; rw [HK.out.block _ (heap_lt B2.out) (by omega)]; exact B2.out
            have KF : Hid (Kept (fun _ => False) w wr) := K2.out.join HK.out (fun _ _ e => e) (fun j hj e => by omega)
            obtain ⟨a0, a1, -, -⟩ := two_cells AF.out
            obtain ⟨c0, c1, f0, f1⟩ := two_cells BF.out
            obtain ⟨d0, d1, -, -⟩ := two_cells (two_sets BF.out (.int .i64 (t + 1)) (.slice (some ⟨g, 0, none⟩) M.length 32))
            clear HE HK
            go_wp2
            refine bodyPost_ret (v := .tuple #[.agg #[.int .i64 (t + 1), .slice (some ⟨g, 0, none⟩) M.length 32], .int .i64 0]) (by simp [results, Try.results17, go_sem, d0, d1]) rfl ?_
            refine ⟨g, cu, by omega, by rw [HLN.out], ?_, two_kept KF.out (by omega) _ _⟩
            have kk : Kept (fun k => k = w.heap.size + 1) wr ((wr.setCell ⟨w.heap.size + 1, 0, none⟩ (.int .i64 (t + 1))).setCell ⟨w.heap.size + 1, 1, none⟩ (.slice (some ⟨g, 0, none⟩) M.length 32)) := (Kept.setCell wr _ _).join (Kept.setCell _ _ _) (fun _ _ e => e) (fun _ _ e => e)
            exact EF.out.keep kk (by omega)
end Go.Proofs.Ytlfmfhmbkpnjbaa
