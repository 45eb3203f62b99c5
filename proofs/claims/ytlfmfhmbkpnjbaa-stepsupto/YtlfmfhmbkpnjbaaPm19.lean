import Derived.Test.YtlfmfhmbkpnjbaaPm17
import Derived.Test.YtlfmfhmbkpnjbaaPm9
import Derived.Test.YtlfmfhmbkpnjbaaPm18
import Derived.Deep.Slices
import Derived.ProofKit
import Derived.OpenShut
import Derived.ShutString
import Derived.ChangeOld
import Derived.Below
namespace Go.Proofs.Ytlfmfhmbkpnjbaa
open Go.RowKit

set_option maxHeartbeats 400000 in
theorem raw_c (p : Option Addr) (n cap i : Nat) (w : World) (h : RI w p n) :
    Calls Try.prog 94 #[.slice p n cap, .int .i64 i] w fun e w' => ∃ r, I64 r ∧ e = .returned (.int .i64 r) ∧ w' = w := by
  by_cases hi : i < n
  · obtain ⟨b, off, rfl, _, h3⟩ := h (by omega)
    obtain ⟨z, q1, q2⟩ := h3 i hi
    have Q1 := hide q1
    clear h3 h q1
    have hb1 : (0 : Int) ≤ (i : Int) := by omega
    have hb2 : (i : Int) < (n : Int) := by omega
    go_enter Try.func94, Try.ntmps94
    go_wp2
    go_ret
    exact ⟨z, Q1.out, rfl, rfl⟩
  · clear h
    go_enter Try.func94, Try.ntmps94
    go_wp2
    go_ret
    exact ⟨0, by unfold I64; omega, rfl, rfl⟩

theorem pickn_c (c M : Int) (m : Nat) (w : World) (h : -9223372036854775808 ≤ c ∧ c ≤ 9223372036854775807) (hM : M = m) (hm : 0 < m) (hm2 : m ≤ 1000000000) :
    Calls Try.prog 25 #[.int .i64 c, .int .i64 M] w fun e w' => ∃ k : Nat, k < m ∧ e = .returned (.int .i64 k) ∧ w' = w :=
  (pick_keep c M m w h.1 h.2 hM hm hm2).mono fun _ _ ⟨h1, h2⟩ => ⟨_, pickN_lt_keep c m hm, h1, h2⟩

set_option maxHeartbeats 2000000 in
set_option maxRecDepth 100000 in
theorem command_c (p : Option Addr) (n cap i : Nat) (w : World) (hi : i ≤ 1000) (h : RI w p n) :
    Calls Try.prog 85 #[.slice p n cap, .int .i64 i] w fun e w' => ∃ c : Cmd, e = .returned (.agg #[.int .i64 c.kind, .int .i64 c.id, .int .i64 c.team, .float .f32 c.x, .float .f32 c.y, .int .i64 c.n]) ∧ Kept (fun _ => False) w w' := by
  have H := hide h
  have hsf := store_float Try.prog
  have K0 := hide (Kept.alloc w (.cells #[.int .i64 0, .int .i64 0, .int .i64 0, .float .f32 0, .float .f32 0, .int .i64 0] 99))
  clear h
  go_enter Try.func85, Try.ntmps85
  go_wp2_with fail
  refine (raw_c p n cap i _ (H.out.calm K0.out)).mono ?_
  rintro e w1 ⟨a, ha, rfl, rfl⟩
  have d0 : -9223372036854775808 ≤ a ∧ a ≤ 9223372036854775807 := ha
  have d4 : -9223372036854775808 ≤ a.tdiv 4 ∧ a.tdiv 4 ≤ 9223372036854775807 := i64_tdiv ha 4 (by decide)
  have d24 : -9223372036854775808 ≤ a.tdiv 24 ∧ a.tdiv 24 ≤ 9223372036854775807 := i64_tdiv ha 24 (by decide)
  have d48 : -9223372036854775808 ≤ a.tdiv 48 ∧ a.tdiv 48 ≤ 9223372036854775807 := i64_tdiv ha 48 (by decide)
  have d7 : -9223372036854775808 ≤ a.tdiv 7 ∧ a.tdiv 7 ≤ 9223372036854775807 := i64_tdiv ha 7 (by decide)
  go_wp2_with fail
  refine (pickn_c a 4 4 _ d0 rfl (by decide) (by decide)).mono ?_
  rintro e w1 ⟨k1, lk1, rfl, rfl⟩
  go_wp2_with fail
  refine (pickn_c (a.tdiv 4) 6 6 _ d4 rfl (by decide) (by decide)).mono ?_
  rintro e w1 ⟨k2, lk2, rfl, rfl⟩
  go_wp2_with fail
  refine (pickn_c (a.tdiv 24) 2 2 _ d24 rfl (by decide) (by decide)).mono ?_
  rintro e w1 ⟨k3, lk3, rfl, rfl⟩
  go_wp2_with fail
  refine (pickn_c (a.tdiv 48) 40 40 _ d48 rfl (by decide) (by decide)).mono ?_
  rintro e w1 ⟨k4, lk4, rfl, rfl⟩
  have K1 := hide (K0.out.calm2 (Kept.alloc _ (.cells #[.int .i64 (1 + (k1 : Int)), .int .i64 (k2 : Int), .int .i64 (k3 : Int), .float .f32 0, .float .f32 0, .int .i64 (1 + (k4 : Int))] 99)))
  clear d4 d24 d48
  go_wp2_with fail
  rw [show ((i : Int) + 1) = ((i + 1 : Nat) : Int) from rfl]
  refine (raw_c p n cap (i + 1) _ (H.out.calm K1.out)).mono ?_
  rintro e w1 ⟨a1, ha1, rfl, rfl⟩
  have d1 : -9223372036854775808 ≤ a1 ∧ a1 ≤ 9223372036854775807 := ha1
  go_wp2_with fail
  refine (pickn_c a1 201 201 _ d1 rfl (by decide) (by decide)).mono ?_
  rintro e w1 ⟨k5, l5, rfl, rfl⟩
  have hx := ok_int ((k5 : Int) - 100)
  go_wp2_with fail
  generalize floatOfInt .f32 ((k5 : Int) - 100) = x5 at *
  rw [show ((i : Int) + 2) = ((i + 2 : Nat) : Int) from rfl]
  refine (raw_c p n cap (i + 2) _ (H.out.calm (K0.out.calm2 (Kept.alloc _ _)))).mono ?_
  rintro e w1 ⟨a2, ha2, rfl, rfl⟩
  have d2 : -9223372036854775808 ≤ a2 ∧ a2 ≤ 9223372036854775807 := ha2
  go_wp2_with fail
  refine (pickn_c a2 201 201 _ d2 rfl (by decide) (by decide)).mono ?_
  rintro e w1 ⟨k6, l6, rfl, rfl⟩
  have hy := ok_int ((k6 : Int) - 100)
  go_wp2_with fail
  generalize floatOfInt .f32 ((k6 : Int) - 100) = y5 at *
  refine (pickn_c (a.tdiv 7) 5 5 _ d7 rfl (by decide) (by decide)).mono ?_
  rintro e w1 ⟨k7, l7, rfl, rfl⟩
  have r1 : ∀ w, (binOp .mul 54 (.float .f32 x5) (.float .f32 1092616192)).run Try.prog w = .ok (.float .f32 (fmul x5 1092616192)) w := fun w => run_float_arith w .mul _ .f32 _ _ _ (fmul_ok hx ten_pos).1
  have r2 : ∀ w, (binOp .mul 54 (.float .f32 y5) (.float .f32 1092616192)).run Try.prog w = .ok (.float .f32 (fmul y5 1092616192)) w := fun w => run_float_arith w .mul _ .f32 _ _ _ (fmul_ok hy ten_pos).1
  clear hx hy d1 d2 d7 K1
  by_cases h7 : k7 = 0
  · subst h7
    go_wp2
    refine bodyPost_ret (v := .agg #[.int .i64 (1 + (k1 : Int)), .int .i64 (k2 : Int), .int .i64 (k3 : Int), .float .f32 (fmul x5 1092616192), .float .f32 (fmul y5 1092616192), .int .i64 (1 + (k4 : Int))]) (by simp [results, Try.results85, go_sem]) rfl ?_
    exact ⟨⟨1 + (k1 : Int), k2, k3, (fmul x5 1092616192), (fmul y5 1092616192), 1 + (k4 : Int)⟩, rfl, (Kept.alloc w _).calm2 (Kept.alloc _ _)⟩
  · have h7' : ((k7 : Int) == 0) = false := by simp; omega
    go_wp2
    refine bodyPost_ret (v := .agg #[.int .i64 (1 + (k1 : Int)), .int .i64 (k2 : Int), .int .i64 (k3 : Int), .float .f32 x5, .float .f32 y5, .int .i64 (1 + (k4 : Int))]) (by simp [results, Try.results85, go_sem]) rfl ?_
    exact ⟨⟨1 + (k1 : Int), k2, k3, x5, y5, 1 + (k4 : Int)⟩, rfl, (Kept.alloc w _).calm2 (Kept.alloc _ _)⟩

set_option maxHeartbeats 2000000 in
set_option maxRecDepth 100000 in
theorem commands_c (q : Option Addr) (n capq : Nat) (w : World) (hn : (n : Int) ≤ 9223372036854775807) (h : RI w q n) :
    Calls Try.prog 65 #[.slice q n capq] w fun e w' => ∃ p cap, ∃ cs : List Cmd, cs.length ≤ 64 ∧ e = .returned (.slice p cs.length cap) ∧ w'.ownsRow w.heap.size 99 6 (.slice p cs.length cap) cs.length (rowC cs) ∧ Kept (fun _ => False) w w' := by
  obtain ⟨i0, hi, hz0, hz1, hz2⟩ := info_parts info_cmd
  have H := hide h
  have hsf := store_float Try.prog
  clear h
  go_enter Try.func65, Try.ntmps65
  go_wp2
  go_loopw [3, 4] (fun s t wr => ∃ p cap, ∃ cs : List Cmd, cs.length ≤ 64 ∧ s = .slice p cs.length cap ∧ t = .int .i64 ((3 * cs.length : Nat) : Int) ∧ Hid (wr.ownsRow w.heap.size 99 6 (.slice p cs.length cap) cs.length (rowC cs)) ∧ Hid (Kept (fun _ => False) w wr)) (fun _ t _ => 1000 - (intOf t).toNat)
  case atStart => exact ⟨none, 0, [], by decide, rfl, rfl, ⟨rfl, Or.inl ⟨rfl, rfl⟩⟩, Kept.refl _ _⟩
  case round =>
    obtain ⟨p, cap, cs, hcs, rfl, rfl, HO, HK⟩ := hrel
    generalize hk : 3 * cs.length = k at *
    by_cases hlt : k < n
    · have hb2 : ((k : Nat) : Int) < (n : Int) := by omega
      by_cases h64 : cs.length < 64
      · have hb3 : ((cs.length : Nat) : Int) < 64 := by omega
        go_wp2_with fail
        refine (command_c q n capq k _ (by omega) (H.out.calm HK.out)).mono ?_
        rintro e w1 ⟨c, rfl, q1⟩
        have K1 := hide (HK.out.calm2 q1)
        have O1 := hide (owns_block HO.out (fun g hg => by exact q1.block g (owns_lt HO.out g hg) (fun e => e)))
        have hbase := (HK.out.calm2 q1).size
        clear q1
        go_wp2_with (at_builtin; refine wpList_append_at _ rfl (.tmp 20) (.tmp 22) 43 rfl w.heap.size 99 i0 (.agg #[.int .i64 0, .int .i64 0, .int .i64 0, .float .f32 0, .float .f32 0, .int .i64 0]) 6 40 Try.underlying43 hi hz0 hz1 hz2 rfl (by decide) _ _ _ rfl ((O1.out.alloc _).alloc _) ⟨w1.heap.size + 1, 0, none⟩ 1 1 (rowC [c]) rfl rfl ?c1 (rowC_one [c]) (by decide) ?c3 ?c4 ?c5 ?_)
        case c1 => exact new_cells (w1.alloc (.cells #[.int .i64 c.kind, .int .i64 c.id, .int .i64 c.team, .float .f32 c.x, .float .f32 c.y, .int .i64 c.n] 99)) (rowC [c]) 99 (w1.heap.size + 1) (by simp)
        case c3 => unfold maxLen; omega
        case c4 => omega
        case c5 => simp; omega
        intro g cap' w2 hown hgr
        have O2 : Hid (w2.ownsRow w.heap.size 99 6 (.slice (some ⟨g, 0, none⟩) (cs ++ [c]).length cap') (cs ++ [c]).length (rowC (cs ++ [c]))) := by
          rw [rowC_append, List.length_append]; exact hown
        have K2 : Hid (Kept (fun _ => False) w w2) := by
          refine ((K1.out.calm2 (Kept.alloc w1 _)).calm2 (Kept.alloc _ _)).join (Kept.of_grown hgr) (fun _ _ e => e) (fun j hj e => ?_)
          have := (O1.out.lt j e.symm).1
          omega
        clear hown hgr O1 HO HK K1
        go_wp2
        go_roundw
        case rel => exact ⟨some ⟨g, 0, none⟩, cap', cs ++ [c], by simp; omega, by simp, by simp; omega, O2, K2⟩
        case measure => simp [intOf]; omega
      · have hb3 : ¬ ((cs.length : Nat) : Int) < 64 := by omega
        go_wp2
        go_ret
        exact ⟨p, cap, cs, hcs, rfl, HO.out, HK.out⟩
    · have hb2 : ¬ ((k : Nat) : Int) < (n : Int) := by omega
      go_wp2
      go_ret
      exact ⟨p, cap, cs, hcs, rfl, HO.out, HK.out⟩
end Go.Proofs.Ytlfmfhmbkpnjbaa

namespace Go.Proofs.Ytlfmfhmbkpnjbaa
open Go.RowKit

set_option maxHeartbeats 4000000 in
set_option maxRecDepth 100000 in
theorem played_c (q : Option Addr) (n capq : Nat) (w : World) (hn : (n : Int) ≤ 9223372036854775807) (h : RT w q n) :
    Calls Try.prog 30 #[.slice q n capq] w fun e w' => ∃ g cap WS, 1 ≤ WS.length ∧ WS.length ≤ 61 ∧ e = .returned (.slice (some ⟨g, 0, none⟩) WS.length cap) ∧ Run w w' WS (some ⟨g, 0, none⟩) cap := by
  obtain ⟨i0, hi, hz0, hz1, hz2⟩ := info_parts info_world
  have H := hide h
  have hsf := store_float Try.prog
  clear h
  have K0 := hide (Kept.alloc w (.cells (rowC [c7]).toArray 99))
  have RC : Hid (ReadsC (w.alloc (.cells (rowC [c7]).toArray 99)) (some ⟨w.heap.size, 0, none⟩) [c7]) := fun _ => ⟨w.heap.size, 0, rfl, by simp, fun j u hu => by
    rw [Nat.zero_add, cell_block (heap_alloc_new w _)]; simpa using hu⟩
  go_enter Try.func30, Try.ntmps30
  go_wp2_with fail
  refine (step_ok 0 none (some ⟨w.heap.size, 0, none⟩) 0 1 [] [c7] _ (by decide) (fun e => absurd rfl e) (fun _ => rfl) RC.out worldB_zero (by decide) (by decide)).mono ?_
  rw [step7]
  rintro e w1 ⟨g1, cu1, hg1, rfl, q1, k1⟩
  have K1 := hide (K0.out.calm2 k1)
  have E1 := hide q1
  obtain ⟨c0, -⟩ := q1.at 0 (by decide)
  have hgs := heap_lt q1.blk
  have c0' : w1.cell? ⟨g1, 0, none⟩ = some (.int .i64 7) := c0
  clear q1 k1 c0 RC
  go_wp2
  have KA := hide (((Kept.alloc w1 (.cells #[.int .i64 1, .slice (some ⟨g1, 0, none⟩) 1 32] 40)).calm2 (Kept.alloc _ (.cells #[.int .i64 0, .slice none 0 0] 40))).calm2 (Kept.alloc _ (.cells #[.int .i64 0, .slice none 0 0] 40)))
  have hw1 := K1.out.size
  have B0 : Hid ((((w1.alloc (.cells #[.int .i64 1, .slice (some ⟨g1, 0, none⟩) 1 32] 40)).alloc (.cells #[.int .i64 0, .slice none 0 0] 40)).alloc (.cells #[.int .i64 0, .slice none 0 0] 40)).heap[w1.heap.size + 2]? = some (.cells #[.int .i64 0, .slice none 0 0] 40 (0, 0))) := by
    have q := heap_alloc_new ((w1.alloc (.cells #[.int .i64 1, .slice (some ⟨g1, 0, none⟩) 1 32] 40)).alloc (.cells #[.int .i64 0, .slice none 0 0] 40)) (.cells #[.int .i64 0, .slice none 0 0] 40)
    rw [show ((w1.alloc (.cells #[.int .i64 1, .slice (some ⟨g1, 0, none⟩) 1 32] 40)).alloc (.cells #[.int .i64 0, .slice none 0 0] 40)).heap.size = w1.heap.size + 2 from by simp] at q
    exact q
  have R0 : Hid (Run w (((w1.alloc (.cells #[.int .i64 1, .slice (some ⟨g1, 0, none⟩) 1 32] 40)).alloc (.cells #[.int .i64 0, .slice none 0 0] 40)).alloc (.cells #[.int .i64 0, .slice none 0 0] 40)) [⟨0, none, 0, []⟩] (some ⟨w1.heap.size + 1, 0, none⟩) 1) := by
    refine ⟨?_, ?_, ?_, K1.out.calm2 KA.out⟩
    · exact (owns_new (w1.alloc (.cells #[.int .i64 1, .slice (some ⟨g1, 0, none⟩) 1 32] 40)) w.heap.size 40 2 1 (rowW [⟨0, none, 0, []⟩]) (w1.heap.size + 1) (by simp) (by simp; omega) (by decide) rfl).alloc _
    · intro d hd
      obtain rfl : d = ⟨0, none, 0, []⟩ := by simpa using hd
      exact ⟨fun e => absurd rfl e, fun _ => rfl, (fun b off e => by cases e), worldB_zero⟩
    · intro k hk
      obtain rfl : k = 0 := by simpa using hk
      rfl
  have hB6 : w.heap.size ≤ w1.heap.size + 2 ∧ w1.heap.size + 1 ≠ w1.heap.size + 2 := ⟨by omega, by omega⟩
  obtain ⟨hb6, hgb⟩ := hB6
  clear KA hw1
  generalize ((w1.alloc (.cells #[.int .i64 1, .slice (some ⟨g1, 0, none⟩) 1 32] 40)).alloc (.cells #[.int .i64 0, .slice none 0 0] 40)).alloc (.cells #[.int .i64 0, .slice none 0 0] 40) = W2 at *
  generalize w1.heap.size + 2 = B6 at *
  generalize w1.heap.size + 1 = g0 at *
  go_loopw [5, 7] (fun s t wr => ∃ i g cap : Nat, ∃ WS : List Wd, ∃ d : Wd, WS.length = i + 1 ∧ i ≤ 60 ∧ s = .slice (some ⟨g, 0, none⟩) (i + 1) cap ∧ t = .int .i64 i ∧ d ∈ WS ∧ d.t = (i : Int) ∧ g ≠ B6 ∧ Hid (Run w wr WS (some ⟨g, 0, none⟩) cap) ∧ Hid (wr.heap[B6]? = some (.cells #[.int .i64 d.t, .slice d.p d.L.length d.cap] 40 (0, 0)))) (fun _ t _ => 60 - (intOf t).toNat)
  case atStart => exact ⟨0, g0, 1, [⟨0, none, 0, []⟩], ⟨0, none, 0, []⟩, rfl, by decide, rfl, rfl, by simp, rfl, hgb, R0, B0⟩
  case round =>
    obtain ⟨i, g, cap, WS, d, hWS, hi60, rfl, rfl, hd, hdt, hgB, HR, HB⟩ := hrel
    clear R0 B0
    by_cases hlt : i < n
    · have hb2 : (i : Int) < (n : Int) := by omega
      by_cases h60 : i < 60
      · have hb3 : (i : Int) < 60 := by omega
        have hb1 : (0 : Int) ≤ (i : Int) := by omega
        obtain ⟨bt, offt, rfl, hbt, hall⟩ := (H.out.calm HR.out.kept) (by omega)
        obtain ⟨pj, nj, cj, t1, hnj, hRI⟩ := hall i hlt
        have HI := hide hRI
        have HOK := hide (HR.out.ok d hd)
        have hdl := HOK.out.short
        have hws := HR.out.kept.size
        have hB6r := heap_lt HB.out
        obtain ⟨b0, b1, -, -⟩ := two_cells HB.out
        have CE : Hid (∀ w', Kept (fun _ => False) wr w' → w'.cell? ⟨B6, 0, none⟩ = some (.int .i64 d.t) ∧ w'.cell? ⟨B6, 1, none⟩ = some (.slice d.p d.L.length d.cap) ∧ w'.cell? ⟨bt, offt + i, none⟩ = some (.slice pj nj cj)) := fun w' hk =>
          ⟨by rw [cell_keep hk (heap_lt HB.out) (fun e => e)]; exact b0, by rw [cell_keep hk (heap_lt HB.out) (fun e => e)]; exact b1, by rw [cell_keep hk hbt (fun e => e)]; exact t1⟩
        have hd500 : d.t ≠ 500 := by omega
        have HDT := hide hdt
        clear hall hRI hdt
        go_wp2
        go_region_held3 (fun w' => w'.cell? ⟨B6, 0, none⟩ = some (.int .i64 d.t) ∧ w'.cell? ⟨B6, 1, none⟩ = some (.slice d.p d.L.length d.cap) ∧ w'.cell? ⟨bt, offt + i, none⟩ = some (.slice pj nj cj)) (go_keep)
          (first
            | (go_at_call 65; refine (commands_c pj nj cj _ hnj (HI.out.calm (Kept.drew wr))).mono ?_; rintro e w3 ⟨pc, capc, cs, hcs, rfl, oc, kc⟩; have K3 := hide ((Kept.drew wr).calm2 kc); obtain ⟨e0, e1, e2⟩ := CE.out w3 K3.out; have OC := hide (owns_readsC oc); clear oc kc)
            | (go_at_call 65; refine (commands_c pj nj cj _ hnj (HI.out.calm ((Kept.drew wr).calm2 (Kept.alloc _ (.cells #[.int .i64 0, .slice none 0 0] 40))))).mono ?_; rintro e w3 ⟨pc, capc, cs, hcs, rfl, oc, kc⟩; have K3 := hide (((Kept.drew wr).calm2 (Kept.alloc _ (.cells #[.int .i64 0, .slice none 0 0] 40))).calm2 kc); obtain ⟨e0, e1, e2⟩ := CE.out w3 K3.out; have OC := hide (owns_readsC oc); have T8 : Hid (w3.heap[wr.heap.size]? = some (.cells #[.int .i64 0, .slice none 0 0] 40 (0, 0))) := new_calm (w := wr.drew) kc; clear oc kc)
            | (go_at_call 17; have TT := T8.out; refine (step_ok d.t d.p pc d.cap capc d.L cs w3 (by omega) (HOK.out.reads.calm K3.out) HOK.out.nil OC.out.1 HOK.out.good hd500 hcs).mono ?_; rintro e w4 ⟨g4, cu4, hg4, rfl, q4, k4⟩; have K4 := hide (K3.out.calm2 k4); have E4 := hide q4; have hg4' := Nat.le_trans K3.out.size hg4; obtain ⟨f0, f1, f2⟩ := CE.out w4 K4.out; have T8a : Hid (w4.heap[wr.heap.size]? = some (.cells #[.int .i64 0, .slice none 0 0] 40 (0, 0))) := (by show _ = _; rw [k4.block _ (heap_lt TT) (fun e => e)]; exact TT); obtain ⟨j0, j1, j2, j3⟩ := two_cells T8a.out; have m1 : B6 ≠ wr.heap.size := Nat.ne_of_lt hB6r; have m2 : bt ≠ wr.heap.size := Nat.ne_of_lt hbt; have m3 := m1.symm; have m4 := m2.symm; clear k4 q4 hg4 TT)
            | (go_at_call 17; refine (step_ok d.t d.p pc d.cap capc d.L cs w3 (by omega) (HOK.out.reads.calm K3.out) HOK.out.nil OC.out.1 HOK.out.good hd500 hcs).mono ?_; rintro e w4 ⟨g4, cu4, hg4, rfl, q4, k4⟩; have K4 := hide (K3.out.calm2 k4); have E4 := hide q4; have hg4' := Nat.le_trans K3.out.size hg4; obtain ⟨f0, f1, f2⟩ := CE.out w4 K4.out; clear k4 q4 hg4)
            | (go_at_call 17; refine (step_ok d.t d.p pc d.cap capc d.L cs (w3.alloc (.cells #[.int .i64 0, .slice none 0 0] 40)) (by omega) (HOK.out.reads.calm (K3.out.calm2 (Kept.alloc _ _))) HOK.out.nil (OC.out.1.keep (Kept.alloc w3 (.cells #[.int .i64 0, .slice none 0 0] 40)) (fun _ _ _ _ e => e)) HOK.out.good hd500 hcs).mono ?_; rintro e w4 ⟨g4, cu4, hg4, rfl, q4, k4⟩; have K4 := hide ((K3.out.calm2 (Kept.alloc w3 (.cells #[.int .i64 0, .slice none 0 0] 40))).calm2 k4); have E4 := hide q4; have hg4' := Nat.le_trans (K3.out.calm2 (Kept.alloc w3 (.cells #[.int .i64 0, .slice none 0 0] 40))).size hg4; obtain ⟨f0, f1, f2⟩ := CE.out w4 K4.out; have T8b : Hid (w4.heap[w3.heap.size]? = some (.cells #[.int .i64 0, .slice none 0 0] 40 (0, 0))) := new_calm k4; obtain ⟨j0, j1, j2, j3⟩ := two_cells T8b.out; have m1 : B6 ≠ w3.heap.size := Nat.ne_of_lt (Nat.lt_of_lt_of_le hB6r K3.out.size); have m2 : bt ≠ w3.heap.size := Nat.ne_of_lt (Nat.lt_of_lt_of_le hbt K3.out.size); have m3 := m1.symm; have m4 := m2.symm; clear k4 q4 hg4))
        · obtain ⟨k5, t5, e5⟩ := after_new K4.out E4.out (.int .i64 (d.t + 1)) (.slice (some ⟨g4, 0, none⟩) (stepL cs d.L).length 32)
          have hb8 : wr.heap.size ≤ w4.heap.size := by have := K4.out.size; have := K3.out.size; omega
          generalize (w4.alloc (.cells #[.int .i64 (d.t + 1), .slice (some ⟨g4, 0, none⟩) (stepL cs d.L).length 32] 40)) = w5 at *
          generalize w4.heap.size = b8 at *
          have K5 := hide k5
          have T5 := hide t5
          have E5 := hide e5
          have HG := hide (worldB_next cs HOK.out.good hd500)
          have O5 : Hid (w5.ownsRow 0 40 2 (.slice (some ⟨g, 0, none⟩) (i + 1) cap) (i + 1) (rowW WS)) := by
            have := HR.out.own
            rw [hWS] at this
            exact owns_base (owns_block this (fun j hj => k5.block j (owns_lt this j hj) (fun e => e)))
          have B5 : Hid (w5.heap[B6]? = some (.cells #[.int .i64 d.t, .slice d.p d.L.length d.cap] 40 (0, 0))) := by show _ = _; rw [k5.block _ (heap_lt HB.out) (fun e => e)]; exact HB.out
          have hLs : (stepL cs d.L).length ≤ 32 := (worldB_fine HG.out).2.2.short
          generalize hM : stepL cs d.L = M at *
          obtain ⟨x0, x1, -, -⟩ := two_cells t5
          obtain ⟨y0, y1, z0, z1⟩ := two_cells B5.out
          have hB58 : B6 ≠ b8 := by omega
          have hB85 := hB58.symm
          have hB6s := heap_lt B5.out
          have S6 := hide (two_sets B5.out (.int .i64 (d.t + 1)) (.slice (some ⟨g4, 0, none⟩) M.length 32))
          obtain ⟨v0, v1, -, -⟩ := two_cells S6.out
          have K6 : Hid (Kept (fun j => j = B6 ∨ j = g) w5 ((w5.setCell ⟨B6, 0, none⟩ (.int .i64 (d.t + 1))).setCell ⟨B6, 1, none⟩ (.slice (some ⟨g4, 0, none⟩) M.length 32))) := (Kept.setCell w5 _ _).join (Kept.setCell _ _ _) (fun _ _ e => Or.inl e) (fun _ _ e => Or.inl e)
          have O6 : Hid (((w5.setCell ⟨B6, 0, none⟩ (.int .i64 (d.t + 1))).setCell ⟨B6, 1, none⟩ (.slice (some ⟨g4, 0, none⟩) M.length 32)).ownsRow 0 40 2 (.slice (some ⟨g, 0, none⟩) (i + 1) cap) (i + 1) (rowW WS)) := by
            refine owns_block O5.out (fun j hj => ?_)
            obtain rfl : g = j := by simpa [Value.ownBlock] using hj
            exact ((Kept.setCell w5 ⟨B6, 0, none⟩ _).join (Kept.setCell _ ⟨B6, 1, none⟩ _) (R := fun j => j = B6) (fun _ _ e => e) (fun _ _ e => e)).block _ (owns_lt O5.out _ rfl) hgB
          have s6 : ((w5.setCell ⟨B6, 0, none⟩ (.int .i64 (d.t + 1))).setCell ⟨B6, 1, none⟩ (.slice (some ⟨g4, 0, none⟩) M.length 32)).heap.size = w5.heap.size := by simp [World.setCell]
          clear k5 t5 e5 b0 b1 t1 CE f0 f1 f2
          go_wp2_with (at_builtin; refine wpList_append_mine _ rfl (.tmp 59) (.tmp 61) 68 rfl 40 i0 (.agg #[.int .i64 0, .slice none 0 0]) 2 32 Try.underlying68 hi hz0 hz1 hz2 rfl (by decide) _ _ _ rfl (O6.out.alloc _) ⟨_, 0, none⟩ 1 1 [.int .i64 (d.t + 1), .slice (some ⟨g4, 0, none⟩) M.length 32] rfl rfl ?c1 ?c2 (by decide) ?c4 ?c5 ?_)
          case c1 => exact new_cells _ [.int .i64 (d.t + 1), .slice (some ⟨g4, 0, none⟩) M.length 32] 40 _ s6.symm
          case c2 => intro u hu; simp only [List.mem_cons, List.not_mem_nil, or_false] at hu; rcases hu with rfl | rfl <;> rfl
          case c4 => unfold maxLen; omega
          case c5 => omega
          intro g7 cap7 w7 hown hgr hg7
          have R7 : Hid (Run w w7 (WS ++ [⟨d.t + 1, some ⟨g4, 0, none⟩, 32, M⟩]) (some ⟨g7, 0, none⟩) cap7) := by
            refine Run.more HR.out K5.out ?_ ?_ (K6.out.join ((Kept.alloc _ _).join (Kept.of_grown hgr) (R := fun j => j = B6 ∨ j = g) (fun _ _ e => e.elim) (fun j _ e => Or.inr (by simpa [Value.ownBlock] using e))) (fun _ _ e => e) (fun _ _ e => e)) (typ_blk B5.out) hb6 ?_ ?_
            · exact ⟨E5.out.reads, (fun e => by cases e), (fun b off e => by simp only [Option.some.injEq, Addr.mk.injEq] at e; obtain ⟨rfl, _⟩ := e; exact typ_blk E5.out.blk), HG.out⟩
            · rw [hWS]; show d.t + 1 = _; have := HDT.out; omega
            · rw [hWS]; exact hown
            · rcases hg7 with q | q
              · left; have : g = g7 := by simpa [Value.ownBlock] using q
                exact this.symm
              · right; omega
          have B7 : Hid (w7.heap[B6]? = some (.cells #[.int .i64 (d.t + 1), .slice (some ⟨g4, 0, none⟩) M.length 32] 40 (0, 0))) := by
            show _ = _
            rw [hgr.block B6 (by simp [World.setCell]; omega) (by simp [Value.ownBlock]; omega), Below.heap_alloc _ _ _ (by rw [s6]; exact hB6s)]
            exact S6.out
          have N7 : g7 ≠ B6 := by
            rcases hg7 with q | q
            · have : g = g7 := by simpa [Value.ownBlock] using q
              omega
            · omega
          have HD7 := HDT.out
          clear hown hgr hg7 S6 K6 O6 O5 s6 x0 x1 y0 y1 z0 z1 v0 v1
          go_wp2
          go_roundw
          case rel => exact ⟨i + 1, g7, cap7, WS ++ [⟨d.t + 1, some ⟨g4, 0, none⟩, 32, M⟩], ⟨d.t + 1, some ⟨g4, 0, none⟩, 32, M⟩, by simp; omega, by omega, rfl, by go_num, by simp, by show d.t + 1 = _; omega, N7, R7, B7⟩
          case measure => simp [intOf]; omega
        · obtain ⟨k5, t5, e5⟩ := after_set K4.out K3.out.size T8b.out E4.out (.int .i64 (d.t + 1)) (.slice (some ⟨g4, 0, none⟩) (stepL cs d.L).length 32)
          have hb8 : wr.heap.size ≤ w3.heap.size := by have := K4.out.size; have := K3.out.size; omega
          generalize ((w4.setCell ⟨w3.heap.size, 0, none⟩ (.int .i64 (d.t + 1))).setCell ⟨w3.heap.size, 1, none⟩ (.slice (some ⟨g4, 0, none⟩) (stepL cs d.L).length 32)) = w5 at *
          generalize w3.heap.size = b8 at *
          have K5 := hide k5
          have T5 := hide t5
          have E5 := hide e5
          have HG := hide (worldB_next cs HOK.out.good hd500)
          have O5 : Hid (w5.ownsRow 0 40 2 (.slice (some ⟨g, 0, none⟩) (i + 1) cap) (i + 1) (rowW WS)) := by
            have := HR.out.own
            rw [hWS] at this
            exact owns_base (owns_block this (fun j hj => k5.block j (owns_lt this j hj) (fun e => e)))
          have B5 : Hid (w5.heap[B6]? = some (.cells #[.int .i64 d.t, .slice d.p d.L.length d.cap] 40 (0, 0))) := by show _ = _; rw [k5.block _ (heap_lt HB.out) (fun e => e)]; exact HB.out
          have hLs : (stepL cs d.L).length ≤ 32 := (worldB_fine HG.out).2.2.short
          generalize hM : stepL cs d.L = M at *
          obtain ⟨x0, x1, -, -⟩ := two_cells t5
          obtain ⟨y0, y1, z0, z1⟩ := two_cells B5.out
          have hB58 : B6 ≠ b8 := by omega
          have hB85 := hB58.symm
          have hB6s := heap_lt B5.out
          have S6 := hide (two_sets B5.out (.int .i64 (d.t + 1)) (.slice (some ⟨g4, 0, none⟩) M.length 32))
          obtain ⟨v0, v1, -, -⟩ := two_cells S6.out
          have K6 : Hid (Kept (fun j => j = B6 ∨ j = g) w5 ((w5.setCell ⟨B6, 0, none⟩ (.int .i64 (d.t + 1))).setCell ⟨B6, 1, none⟩ (.slice (some ⟨g4, 0, none⟩) M.length 32))) := (Kept.setCell w5 _ _).join (Kept.setCell _ _ _) (fun _ _ e => Or.inl e) (fun _ _ e => Or.inl e)
          have O6 : Hid (((w5.setCell ⟨B6, 0, none⟩ (.int .i64 (d.t + 1))).setCell ⟨B6, 1, none⟩ (.slice (some ⟨g4, 0, none⟩) M.length 32)).ownsRow 0 40 2 (.slice (some ⟨g, 0, none⟩) (i + 1) cap) (i + 1) (rowW WS)) := by
            refine owns_block O5.out (fun j hj => ?_)
            obtain rfl : g = j := by simpa [Value.ownBlock] using hj
            exact ((Kept.setCell w5 ⟨B6, 0, none⟩ _).join (Kept.setCell _ ⟨B6, 1, none⟩ _) (R := fun j => j = B6) (fun _ _ e => e) (fun _ _ e => e)).block _ (owns_lt O5.out _ rfl) hgB
          have s6 : ((w5.setCell ⟨B6, 0, none⟩ (.int .i64 (d.t + 1))).setCell ⟨B6, 1, none⟩ (.slice (some ⟨g4, 0, none⟩) M.length 32)).heap.size = w5.heap.size := by simp [World.setCell]
          clear k5 t5 e5 b0 b1 t1 CE f0 f1 f2
          go_wp2_with (at_builtin; refine wpList_append_mine _ rfl (.tmp 59) (.tmp 61) 68 rfl 40 i0 (.agg #[.int .i64 0, .slice none 0 0]) 2 32 Try.underlying68 hi hz0 hz1 hz2 rfl (by decide) _ _ _ rfl (O6.out.alloc _) ⟨_, 0, none⟩ 1 1 [.int .i64 (d.t + 1), .slice (some ⟨g4, 0, none⟩) M.length 32] rfl rfl ?c1 ?c2 (by decide) ?c4 ?c5 ?_)
          case c1 => exact new_cells _ [.int .i64 (d.t + 1), .slice (some ⟨g4, 0, none⟩) M.length 32] 40 _ s6.symm
          case c2 => intro u hu; simp only [List.mem_cons, List.not_mem_nil, or_false] at hu; rcases hu with rfl | rfl <;> rfl
          case c4 => unfold maxLen; omega
          case c5 => omega
          intro g7 cap7 w7 hown hgr hg7
          have R7 : Hid (Run w w7 (WS ++ [⟨d.t + 1, some ⟨g4, 0, none⟩, 32, M⟩]) (some ⟨g7, 0, none⟩) cap7) := by
            refine Run.more HR.out K5.out ?_ ?_ (K6.out.join ((Kept.alloc _ _).join (Kept.of_grown hgr) (R := fun j => j = B6 ∨ j = g) (fun _ _ e => e.elim) (fun j _ e => Or.inr (by simpa [Value.ownBlock] using e))) (fun _ _ e => e) (fun _ _ e => e)) (typ_blk B5.out) hb6 ?_ ?_
            · exact ⟨E5.out.reads, (fun e => by cases e), (fun b off e => by simp only [Option.some.injEq, Addr.mk.injEq] at e; obtain ⟨rfl, _⟩ := e; exact typ_blk E5.out.blk), HG.out⟩
            · rw [hWS]; show d.t + 1 = _; have := HDT.out; omega
            · rw [hWS]; exact hown
            · rcases hg7 with q | q
              · left; have : g = g7 := by simpa [Value.ownBlock] using q
                exact this.symm
              · right; omega
          have B7 : Hid (w7.heap[B6]? = some (.cells #[.int .i64 (d.t + 1), .slice (some ⟨g4, 0, none⟩) M.length 32] 40 (0, 0))) := by
            show _ = _
            rw [hgr.block B6 (by simp [World.setCell]; omega) (by simp [Value.ownBlock]; omega), Below.heap_alloc _ _ _ (by rw [s6]; exact hB6s)]
            exact S6.out
          have N7 : g7 ≠ B6 := by
            rcases hg7 with q | q
            · have : g = g7 := by simpa [Value.ownBlock] using q
              omega
            · omega
          have HD7 := HDT.out
          clear hown hgr hg7 S6 K6 O6 O5 s6 x0 x1 y0 y1 z0 z1 v0 v1
          go_wp2
          go_roundw
          case rel => exact ⟨i + 1, g7, cap7, WS ++ [⟨d.t + 1, some ⟨g4, 0, none⟩, 32, M⟩], ⟨d.t + 1, some ⟨g4, 0, none⟩, 32, M⟩, by simp; omega, by omega, rfl, by go_num, by simp, by show d.t + 1 = _; omega, N7, R7, B7⟩
          case measure => simp [intOf]; omega
        · obtain ⟨k5, t5, e5⟩ := after_set K4.out (Nat.le_refl _) T8a.out E4.out (.int .i64 (d.t + 1)) (.slice (some ⟨g4, 0, none⟩) (stepL cs d.L).length 32)
          have hb8 := Nat.le_refl wr.heap.size
          generalize ((w4.setCell ⟨wr.heap.size, 0, none⟩ (.int .i64 (d.t + 1))).setCell ⟨wr.heap.size, 1, none⟩ (.slice (some ⟨g4, 0, none⟩) (stepL cs d.L).length 32)) = w5 at *
          generalize wr.heap.size = b8 at *
          have K5 := hide k5
          have T5 := hide t5
          have E5 := hide e5
          have HG := hide (worldB_next cs HOK.out.good hd500)
          have O5 : Hid (w5.ownsRow 0 40 2 (.slice (some ⟨g, 0, none⟩) (i + 1) cap) (i + 1) (rowW WS)) := by
            have := HR.out.own
            rw [hWS] at this
            exact owns_base (owns_block this (fun j hj => k5.block j (owns_lt this j hj) (fun e => e)))
          have B5 : Hid (w5.heap[B6]? = some (.cells #[.int .i64 d.t, .slice d.p d.L.length d.cap] 40 (0, 0))) := by show _ = _; rw [k5.block _ (heap_lt HB.out) (fun e => e)]; exact HB.out
          have hLs : (stepL cs d.L).length ≤ 32 := (worldB_fine HG.out).2.2.short
          generalize hM : stepL cs d.L = M at *
          obtain ⟨x0, x1, -, -⟩ := two_cells t5
          obtain ⟨y0, y1, z0, z1⟩ := two_cells B5.out
          have hB58 : B6 ≠ b8 := by omega
          have hB85 := hB58.symm
          have hB6s := heap_lt B5.out
          have S6 := hide (two_sets B5.out (.int .i64 (d.t + 1)) (.slice (some ⟨g4, 0, none⟩) M.length 32))
          obtain ⟨v0, v1, -, -⟩ := two_cells S6.out
          have K6 : Hid (Kept (fun j => j = B6 ∨ j = g) w5 ((w5.setCell ⟨B6, 0, none⟩ (.int .i64 (d.t + 1))).setCell ⟨B6, 1, none⟩ (.slice (some ⟨g4, 0, none⟩) M.length 32))) := (Kept.setCell w5 _ _).join (Kept.setCell _ _ _) (fun _ _ e => Or.inl e) (fun _ _ e => Or.inl e)
          have O6 : Hid (((w5.setCell ⟨B6, 0, none⟩ (.int .i64 (d.t + 1))).setCell ⟨B6, 1, none⟩ (.slice (some ⟨g4, 0, none⟩) M.length 32)).ownsRow 0 40 2 (.slice (some ⟨g, 0, none⟩) (i + 1) cap) (i + 1) (rowW WS)) := by
            refine owns_block O5.out (fun j hj => ?_)
            obtain rfl : g = j := by simpa [Value.ownBlock] using hj
            exact ((Kept.setCell w5 ⟨B6, 0, none⟩ _).join (Kept.setCell _ ⟨B6, 1, none⟩ _) (R := fun j => j = B6) (fun _ _ e => e) (fun _ _ e => e)).block _ (owns_lt O5.out _ rfl) hgB
          have s6 : ((w5.setCell ⟨B6, 0, none⟩ (.int .i64 (d.t + 1))).setCell ⟨B6, 1, none⟩ (.slice (some ⟨g4, 0, none⟩) M.length 32)).heap.size = w5.heap.size := by simp [World.setCell]
          clear k5 t5 e5 b0 b1 t1 CE f0 f1 f2
          go_wp2_with (at_builtin; refine wpList_append_mine _ rfl (.tmp 59) (.tmp 61) 68 rfl 40 i0 (.agg #[.int .i64 0, .slice none 0 0]) 2 32 Try.underlying68 hi hz0 hz1 hz2 rfl (by decide) _ _ _ rfl (O6.out.alloc _) ⟨_, 0, none⟩ 1 1 [.int .i64 (d.t + 1), .slice (some ⟨g4, 0, none⟩) M.length 32] rfl rfl ?c1 ?c2 (by decide) ?c4 ?c5 ?_)
          case c1 => exact new_cells _ [.int .i64 (d.t + 1), .slice (some ⟨g4, 0, none⟩) M.length 32] 40 _ s6.symm
          case c2 => intro u hu; simp only [List.mem_cons, List.not_mem_nil, or_false] at hu; rcases hu with rfl | rfl <;> rfl
          case c4 => unfold maxLen; omega
          case c5 => omega
          intro g7 cap7 w7 hown hgr hg7
          have R7 : Hid (Run w w7 (WS ++ [⟨d.t + 1, some ⟨g4, 0, none⟩, 32, M⟩]) (some ⟨g7, 0, none⟩) cap7) := by
            refine Run.more HR.out K5.out ?_ ?_ (K6.out.join ((Kept.alloc _ _).join (Kept.of_grown hgr) (R := fun j => j = B6 ∨ j = g) (fun _ _ e => e.elim) (fun j _ e => Or.inr (by simpa [Value.ownBlock] using e))) (fun _ _ e => e) (fun _ _ e => e)) (typ_blk B5.out) hb6 ?_ ?_
            · exact ⟨E5.out.reads, (fun e => by cases e), (fun b off e => by simp only [Option.some.injEq, Addr.mk.injEq] at e; obtain ⟨rfl, _⟩ := e; exact typ_blk E5.out.blk), HG.out⟩
            · rw [hWS]; show d.t + 1 = _; have := HDT.out; omega
            · rw [hWS]; exact hown
            · rcases hg7 with q | q
              · left; have : g = g7 := by simpa [Value.ownBlock] using q
                exact this.symm
              · right; omega
          have B7 : Hid (w7.heap[B6]? = some (.cells #[.int .i64 (d.t + 1), .slice (some ⟨g4, 0, none⟩) M.length 32] 40 (0, 0))) := by
            show _ = _
            rw [hgr.block B6 (by simp [World.setCell]; omega) (by simp [Value.ownBlock]; omega), Below.heap_alloc _ _ _ (by rw [s6]; exact hB6s)]
            exact S6.out
          have N7 : g7 ≠ B6 := by
            rcases hg7 with q | q
            · have : g = g7 := by simpa [Value.ownBlock] using q
              omega
            · omega
          have HD7 := HDT.out
          clear hown hgr hg7 S6 K6 O6 O5 s6 x0 x1 y0 y1 z0 z1 v0 v1
          go_wp2
          go_roundw
          case rel => exact ⟨i + 1, g7, cap7, WS ++ [⟨d.t + 1, some ⟨g4, 0, none⟩, 32, M⟩], ⟨d.t + 1, some ⟨g4, 0, none⟩, 32, M⟩, by simp; omega, by omega, rfl, by go_num, by simp, by show d.t + 1 = _; omega, N7, R7, B7⟩
          case measure => simp [intOf]; omega
      · have hb3 : ¬ (i : Int) < 60 := by omega
        have HX := hide (show (i + 1) = WS.length by omega)
        go_wp2
        go_ret
        exact ⟨g, cap, WS, by omega, by omega, by rw [← HX.out]; rfl, HR.out⟩
    · have hb2 : ¬ (i : Int) < (n : Int) := by omega
      have HX := hide (show (i + 1) = WS.length by omega)
      go_wp2
      go_ret
      exact ⟨g, cap, WS, by omega, by omega, by rw [← HX.out]; rfl, HR.out⟩
end Go.Proofs.Ytlfmfhmbkpnjbaa

namespace Go.Proofs.Ytlfmfhmbkpnjbaa.ticks
open Go.ChangeShapes Go.WideShapes Go.ChangeAt Go.RowKit Go.Deep
set_option linter.unusedVariables false

theorem own : ownKnob Try.prog.godebug = none := by kernel_rfl
theorem laidOut : laidOutB Try.prog = true := by kernel_rfl
theorem cellsL : Try.prog.cellsOf 53 = 1 := by kernel_rfl

theorem inner {H : Type} {enc : TypeId × Value → H} {W : World} {spare : Nat → Bool} {held : Bool} {n : Nat} {cs : List Value} {x : DataW H × List MemPlace} (h : DataW.trod enc Try.prog W 0 spare held n 53 cs = some x) :
    ∃ p l c, cs = [.slice p l c] ∧ ((l : Nat) : Int) ≤ 9223372036854775807 ∧ RI W p l := by
  rcases open_ints Try.underlying53 Try.underlying3 (by kernel_rfl) h with ⟨hcs, _⟩ | ⟨x, l, c, zs, hcs, _, hl, hm, hz, _, hcell, hwz⟩
  · exact ⟨none, 0, 0, hcs, by decide, fun e => absurd e (by decide)⟩
  · refine ⟨some x, l, c, hcs, by unfold maxLen at hm; omega, fun hpos => ?_⟩
    have hz' : l ≤ zs.length := by rw [hz]; split <;> omega
    obtain ⟨b, off, spot⟩ := x
    have h0 := hcell 0 (by omega)
    have e : (⟨b, off, spot⟩ : Addr).add 0 = ⟨b, off, spot⟩ := by simp [Addr.add]
    rw [e] at h0
    obtain rfl := World.cell?_spot h0
    refine ⟨b, off, rfl, World.block_lt_of_cell? (w := W) (a := ⟨b, off, none⟩) h0, fun j hj => ?_⟩
    have hj' := hcell j (by omega)
    rw [addr_add2] at hj'
    refine ⟨_, ?_, hj'⟩
    have := range_i64 hwz j
    exact this

theorem open_ticks {H : Type} {enc : TypeId × Value → H} {W : World} {a0 : Option Addr} {len0 cap0 : Nat} {d0 : DataW H} {p0 : List MemPlace} (h0 : DataW.Trod enc Try.prog W 0 (fun _ => true) true 25 (.slice a0 len0 cap0) d0 p0) :
    ((len0 : Nat) : Int) ≤ 9223372036854775807 ∧ RT W a0 len0 := by
  obtain ⟨fuel, hf⟩ := h0
  rcases open_slice Try.underlying25 hf with ⟨hcs, _⟩ | ⟨a, len, cap, m, n, D, Pl, hcs, _, hl, hcm, hmm, hx, hel⟩
  · simp [Value.cells] at hcs
    obtain ⟨rfl, rfl, rfl⟩ := hcs
    exact ⟨by decide, fun e => absurd e (by decide)⟩
  · simp [Value.cells] at hcs
    obtain ⟨rfl, rfl, rfl⟩ := hcs
    rw [cellsL] at hel
    have hlm : len0 ≤ m := by rw [hmm]; split <;> omega
    refine ⟨by unfold maxLen at hcm; omega, fun hpos => ?_⟩
    have cell : ∀ j, j < len0 → ∃ p l c, W.cell? (a.add j) = some (.slice p l c) ∧ ((l : Nat) : Int) ≤ 9223372036854775807 ∧ RI W p l := by
      intro j hj
      obtain ⟨cs', h1, h2⟩ := hel j (by omega)
      obtain ⟨p, l, c, rfl, q1, q2⟩ := inner h2
      have h3 := (World.cells?_some h1).2.2 0 (by omega)
      rw [Nat.mul_one] at h3
      have e : (a.add j).add 0 = a.add j := by simp [Addr.add]
      rw [e] at h3
      exact ⟨p, l, c, h3, q1, q2⟩
    obtain ⟨b, off, spot⟩ := a
    obtain ⟨p, l, c, h3, _⟩ := cell 0 hpos
    have e : (⟨b, off, spot⟩ : Addr).add 0 = ⟨b, off, spot⟩ := by simp [Addr.add]
    rw [e] at h3
    obtain rfl := World.cell?_spot h3
    refine ⟨b, off, rfl, World.block_lt_of_cell? (w := W) (a := ⟨b, off, none⟩) h3, fun j hj => ?_⟩
    obtain ⟨p, l, c, h4, h5, h6⟩ := cell j hj
    rw [addr_add2] at h4
    exact ⟨p, l, c, h4, h5, h6⟩
end Go.Proofs.Ytlfmfhmbkpnjbaa.ticks
