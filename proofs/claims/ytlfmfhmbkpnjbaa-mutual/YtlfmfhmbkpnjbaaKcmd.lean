import Derived.Test.YtlfmfhmbkpnjbaaCmdp
import Derived.Test.YtlfmfhmbkpnjbaaPickkeep
namespace Go.Proofs.Ytlfmfhmbkpnjbaa
open Go.RowKit

set_option maxHeartbeats 400000 in
theorem raw_c (p : Option Addr) (n cap i : Nat) (w : World) (h : RI w p n) :
    Calls Try.prog 94 #[.slice p n cap, .int .i64 i] w fun e w' => ∃ r, I64 r ∧ e = .returned (.int .i64 r) ∧ w' = w := by
  by_cases hi : i < n
  · obtain ⟨b, off, rfl, _, h3⟩ := h (by omega)
    obtain ⟨z, q1, q2⟩ := h3 i hi
    have Q1 := hide q1
    clear h3 h q1
    have hb1 : (0 : Int) ≤ (i : Int) := by omega
    have hb2 : (i : Int) < (n : Int) := by omega
    go_enter Try.func94, Try.ntmps94
    go_wp2
    go_ret
    exact ⟨z, Q1.out, rfl, rfl⟩
  · clear h
    go_enter Try.func94, Try.ntmps94
    go_wp2
    go_ret
    exact ⟨0, by unfold I64; omega, rfl, rfl⟩

theorem pickn_c (c M : Int) (m : Nat) (w : World) (h : -9223372036854775808 ≤ c ∧ c ≤ 9223372036854775807) (hM : M = m) (hm : 0 < m) (hm2 : m ≤ 1000000000) :
    Calls Try.prog 25 #[.int .i64 c, .int .i64 M] w fun e w' => ∃ k : Nat, k < m ∧ e = .returned (.int .i64 k) ∧ w' = w :=
  (pick_keep c M m w h.1 h.2 hM hm hm2).mono fun _ _ ⟨h1, h2⟩ => ⟨_, pickN_lt_keep c m hm, h1, h2⟩

set_option maxHeartbeats 2000000 in
set_option maxRecDepth 100000 in
theorem command_c (p : Option Addr) (n cap i : Nat) (w : World) (hi : i ≤ 1000) (h : RI w p n) :
    Calls Try.prog 85 #[.slice p n cap, .int .i64 i] w fun e w' => ∃ c : Cmd, e = .returned (.agg #[.int .i64 c.kind, .int .i64 c.id, .int .i64 c.team, .float .f32 c.x, .float .f32 c.y, .int .i64 c.n]) ∧ Kept (fun _ => False) w w' := by
  have H := hide h
  have hsf := store_float Try.prog
  have K0 := hide (Kept.alloc w (.cells #[.int .i64 0, .int .i64 0, .int .i64 0, .float .f32 0, .float .f32 0, .int .i64 0] 99))
  clear h
  go_enter Try.func85, Try.ntmps85
  go_wp2_with fail
  refine (raw_c p n cap i _ (H.out.calm K0.out)).mono ?_
  rintro e w1 ⟨a, ha, rfl, rfl⟩
  have d0 : -9223372036854775808 ≤ a ∧ a ≤ 9223372036854775807 := ha
  have d4 : -9223372036854775808 ≤ a.tdiv 4 ∧ a.tdiv 4 ≤ 9223372036854775807 := i64_tdiv ha 4 (by decide)
  have d24 : -9223372036854775808 ≤ a.tdiv 24 ∧ a.tdiv 24 ≤ 9223372036854775807 := i64_tdiv ha 24 (by decide)
  have d48 : -9223372036854775808 ≤ a.tdiv 48 ∧ a.tdiv 48 ≤ 9223372036854775807 := i64_tdiv ha 48 (by decide)
  have d7 : -9223372036854775808 ≤ a.tdiv 7 ∧ a.tdiv 7 ≤ 9223372036854775807 := i64_tdiv ha 7 (by decide)
  go_wp2_with fail
  refine (pickn_c a 4 4 _ d0 rfl (by decide) (by decide)).mono ?_
  rintro e w1 ⟨k1, lk1, rfl, rfl⟩
  go_wp2_with fail
  refine (pickn_c (a.tdiv 4) 6 6 _ d4 rfl (by decide) (by decide)).mono ?_
  rintro e w1 ⟨k2, lk2, rfl, rfl⟩
  go_wp2_with fail
  refine (pickn_c (a.tdiv 24) 2 2 _ d24 rfl (by decide) (by decide)).mono ?_
  rintro e w1 ⟨k3, lk3, rfl, rfl⟩
  go_wp2_with fail
  refine (pickn_c (a.tdiv 48) 40 40 _ d48 rfl (by decide) (by decide)).mono ?_
  rintro e w1 ⟨k4, lk4, rfl, rfl⟩
  have K1 := hide (K0.out.calm2 (Kept.alloc _ (.cells #[.int .i64 (1 + (k1 : Int)), .int .i64 (k2 : Int), .int .i64 (k3 : Int), .float .f32 0, .float .f32 0, .int .i64 (1 + (k4 : Int))] 99)))
  clear d4 d24 d48
  go_wp2_with fail
  rw [show ((i : Int) + 1) = ((i + 1 : Nat) : Int) from rfl]
  refine (raw_c p n cap (i + 1) _ (H.out.calm K1.out)).mono ?_
  rintro e w1 ⟨a1, ha1, rfl, rfl⟩
  have d1 : -9223372036854775808 ≤ a1 ∧ a1 ≤ 9223372036854775807 := ha1
  go_wp2_with fail
  refine (pickn_c a1 201 201 _ d1 rfl (by decide) (by decide)).mono ?_
  rintro e w1 ⟨k5, l5, rfl, rfl⟩
  have hx := ok_int ((k5 : Int) - 100)
  go_wp2_with fail
  generalize floatOfInt .f32 ((k5 : Int) - 100) = x5 at *
  rw [show ((i : Int) + 2) = ((i + 2 : Nat) : Int) from rfl]
  refine (raw_c p n cap (i + 2) _ (H.out.calm (K0.out.calm2 (Kept.alloc _ _)))).mono ?_
  rintro e w1 ⟨a2, ha2, rfl, rfl⟩
  have d2 : -9223372036854775808 ≤ a2 ∧ a2 ≤ 9223372036854775807 := ha2
  go_wp2_with fail
  refine (pickn_c a2 201 201 _ d2 rfl (by decide) (by decide)).mono ?_
  rintro e w1 ⟨k6, l6, rfl, rfl⟩
  have hy := ok_int ((k6 : Int) - 100)
  go_wp2_with fail
  generalize floatOfInt .f32 ((k6 : Int) - 100) = y5 at *
  refine (pickn_c (a.tdiv 7) 5 5 _ d7 rfl (by decide) (by decide)).mono ?_
  rintro e w1 ⟨k7, l7, rfl, rfl⟩
  have r1 : ∀ w, (binOp .mul 54 (.float .f32 x5) (.float .f32 1092616192)).run Try.prog w = .ok (.float .f32 (fmul x5 1092616192)) w := fun w => run_float_arith w .mul _ .f32 _ _ _ (fmul_ok hx ten_pos).1
  have r2 : ∀ w, (binOp .mul 54 (.float .f32 y5) (.float .f32 1092616192)).run Try.prog w = .ok (.float .f32 (fmul y5 1092616192)) w := fun w => run_float_arith w .mul _ .f32 _ _ _ (fmul_ok hy ten_pos).1
  clear hx hy d1 d2 d7 K1
  by_cases h7 : k7 = 0
  · subst h7
    go_wp2
    refine bodyPost_ret (v := .agg #[.int .i64 (1 + (k1 : Int)), .int .i64 (k2 : Int), .int .i64 (k3 : Int), .float .f32 (fmul x5 1092616192), .float .f32 (fmul y5 1092616192), .int .i64 (1 + (k4 : Int))]) (by simp [results, Try.results85, go_sem]) rfl ?_
    exact ⟨⟨1 + (k1 : Int), k2, k3, (fmul x5 1092616192), (fmul y5 1092616192), 1 + (k4 : Int)⟩, rfl, (Kept.alloc w _).calm2 (Kept.alloc _ _)⟩
  · have h7' : ((k7 : Int) == 0) = false := by simp; omega
    go_wp2
    refine bodyPost_ret (v := .agg #[.int .i64 (1 + (k1 : Int)), .int .i64 (k2 : Int), .int .i64 (k3 : Int), .float .f32 x5, .float .f32 y5, .int .i64 (1 + (k4 : Int))]) (by simp [results, Try.results85, go_sem]) rfl ?_
    exact ⟨⟨1 + (k1 : Int), k2, k3, x5, y5, 1 + (k4 : Int)⟩, rfl, (Kept.alloc w _).calm2 (Kept.alloc _ _)⟩

set_option maxHeartbeats 2000000 in
set_option maxRecDepth 100000 in
theorem commands_c (q : Option Addr) (n capq : Nat) (w : World) (hn : (n : Int) ≤ 9223372036854775807) (h : RI w q n) :
    Calls Try.prog 65 #[.slice q n capq] w fun e w' => ∃ p cap, ∃ cs : List Cmd, cs.length ≤ 64 ∧ e = .returned (.slice p cs.length cap) ∧ w'.ownsRow w.heap.size 99 6 (.slice p cs.length cap) cs.length (rowC cs) ∧ Kept (fun _ => False) w w' := by
  obtain ⟨i0, hi, hz0, hz1, hz2⟩ := info_parts info_cmd
  have H := hide h
  have hsf := store_float Try.prog
  clear h
  go_enter Try.func65, Try.ntmps65
  go_wp2
  go_loopw [3, 4] (fun s t wr => ∃ p cap, ∃ cs : List Cmd, cs.length ≤ 64 ∧ s = .slice p cs.length cap ∧ t = .int .i64 ((3 * cs.length : Nat) : Int) ∧ Hid (wr.ownsRow w.heap.size 99 6 (.slice p cs.length cap) cs.length (rowC cs)) ∧ Hid (Kept (fun _ => False) w wr)) (fun _ t _ => 1000 - (intOf t).toNat)
  case atStart => exact ⟨none, 0, [], by decide, rfl, rfl, ⟨rfl, Or.inl ⟨rfl, rfl⟩⟩, Kept.refl _ _⟩
  case round =>
    obtain ⟨p, cap, cs, hcs, rfl, rfl, HO, HK⟩ := hrel
    generalize hk : 3 * cs.length = k at *
    by_cases hlt : k < n
    · have hb2 : ((k : Nat) : Int) < (n : Int) := by omega
      by_cases h64 : cs.length < 64
      · have hb3 : ((cs.length : Nat) : Int) < 64 := by omega
        go_wp2_with fail
        refine (command_c q n capq k _ (by omega) (H.out.calm HK.out)).mono ?_
        rintro e w1 ⟨c, rfl, q1⟩
        have K1 := hide (HK.out.calm2 q1)
        have O1 := hide (owns_block HO.out (fun g hg => by exact q1.block g (owns_lt HO.out g hg) (fun e => e)))
        have hbase := (HK.out.calm2 q1).size
        clear q1
        go_wp2_with (at_builtin; refine wpList_append_at _ rfl (.tmp 20) (.tmp 22) 43 rfl w.heap.size 99 i0 (.agg #[.int .i64 0, .int .i64 0, .int .i64 0, .float .f32 0, .float .f32 0, .int .i64 0]) 6 40 Try.underlying43 hi hz0 hz1 hz2 rfl (by decide) _ _ _ rfl ((O1.out.alloc _).alloc _) ⟨w1.heap.size + 1, 0, none⟩ 1 1 (rowC [c]) rfl rfl ?c1 (rowC_one [c]) (by decide) ?c3 ?c4 ?c5 ?_)
        case c1 => exact new_cells (w1.alloc (.cells #[.int .i64 c.kind, .int .i64 c.id, .int .i64 c.team, .float .f32 c.x, .float .f32 c.y, .int .i64 c.n] 99)) (rowC [c]) 99 (w1.heap.size + 1) (by simp)
        case c3 => unfold maxLen; omega
        case c4 => omega
        case c5 => simp; omega
        intro g cap' w2 hown hgr
        have O2 : Hid (w2.ownsRow w.heap.size 99 6 (.slice (some ⟨g, 0, none⟩) (cs ++ [c]).length cap') (cs ++ [c]).length (rowC (cs ++ [c]))) := by
          rw [rowC_append, List.length_append]; exact hown
        have K2 : Hid (Kept (fun _ => False) w w2) := by
          refine ((K1.out.calm2 (Kept.alloc w1 _)).calm2 (Kept.alloc _ _)).join (Kept.of_grown hgr) (fun _ _ e => e) (fun j hj e => ?_)
          have := (O1.out.lt j e.symm).1
          omega
        clear hown hgr O1 HO HK K1
        go_wp2
        go_roundw
        case rel => exact ⟨some ⟨g, 0, none⟩, cap', cs ++ [c], by simp; omega, by simp, by simp; omega, O2, K2⟩
        case measure => simp [intOf]; omega
      · have hb3 : ¬ ((cs.length : Nat) : Int) < 64 := by omega
        go_wp2
        go_ret
        exact ⟨p, cap, cs, hcs, rfl, HO.out, HK.out⟩
    · have hb2 : ¬ ((k : Nat) : Int) < (n : Int) := by omega
      go_wp2
      go_ret
      exact ⟨p, cap, cs, hcs, rfl, HO.out, HK.out⟩
end Go.Proofs.Ytlfmfhmbkpnjbaa
