import Derived.Test.YtgclehnhjjkdbaaDoorStepok
import Derived.Test.YtgclehnhjjkdbaaDoorPickkeep
namespace Go.Proofs.YtgclehnhjjkdbaaDoor
open Go.RowKit

def I64 (z : Int) : Prop := -9223372036854775808 ≤ z ∧ z ≤ 9223372036854775807

/-- A list of raw numbers. -/
def RI (w : World) (p : Option Addr) (n : Nat) : Prop :=
  0 < n → ∃ b off, p = some ⟨b, off, none⟩ ∧ b < w.heap.size ∧ ∀ j, j < n → ∃ z, I64 z ∧ w.cell? ⟨b, off + j, none⟩ = some (.int .i64 z)
theorem RI.keep {w w' : World} {S : Nat → Prop} {p : Option Addr} {n : Nat} (h : RI w p n) (hk : Kept S w w') (hS : ∀ b, b < w.heap.size → ¬ S b) : RI w' p n := by
  intro hn
  obtain ⟨b, off, h1, h2, h3⟩ := h hn
  refine ⟨b, off, h1, Nat.lt_of_lt_of_le h2 hk.size, fun j hj => ?_⟩
  obtain ⟨z, q1, q2⟩ := h3 j hj
  exact ⟨z, q1, by rw [cell_keep hk h2 (hS b h2)]; exact q2⟩
theorem RI.calm {w w' : World} {p : Option Addr} {n : Nat} (h : RI w p n) (hk : Kept (fun _ => False) w w') : RI w' p n := h.keep hk (fun _ _ e => e)

theorem i64_tdiv {z : Int} (h : I64 z) (k : Int) (hk : 0 < k) : I64 (z.tdiv k) := by
  unfold I64 at *
  by_cases h0 : 0 ≤ z
  · rw [Int.tdiv_eq_ediv_of_nonneg h0]
    have h1 := Int.ediv_nonneg h0 (Int.le_of_lt hk)
    have h2 := Int.ediv_le_self k h0
    omega
  · obtain ⟨y, rfl⟩ : ∃ y, z = -y := ⟨-z, by omega⟩
    rw [Int.neg_tdiv, Int.tdiv_eq_ediv_of_nonneg (by omega)]
    have h1 := Int.ediv_nonneg (show 0 ≤ y by omega) (Int.le_of_lt hk)
    have h2 := Int.ediv_le_self k (show 0 ≤ y by omega)
    omega

set_option maxHeartbeats 400000 in
theorem raw_c (p : Option Addr) (n cap i : Nat) (w : World) (h : RI w p n) :
    Calls Tryd.prog 27 #[.slice p n cap, .int .i64 i] w fun e w' => ∃ r, I64 r ∧ e = .returned (.int .i64 r) ∧ w' = w := by
  by_cases hi : i < n
  · obtain ⟨b, off, rfl, _, h3⟩ := h (by omega)
    obtain ⟨z, q1, q2⟩ := h3 i hi
    have Q1 := hide q1
    clear h3 h q1
    have hb1 : (0 : Int) ≤ (i : Int) := by omega
    have hb2 : (i : Int) < (n : Int) := by omega
    go_enter Tryd.func27, Tryd.ntmps27
    go_wp2
    go_ret
    exact ⟨z, Q1.out, rfl, rfl⟩
  · clear h
    go_enter Tryd.func27, Tryd.ntmps27
    go_wp2
    go_ret
    exact ⟨0, by unfold I64; omega, rfl, rfl⟩

theorem ten_pos : isPos 1092616192 := ⟨false, 10485760, -20, by decide, by decide⟩
theorem ok_int (n : Int) : okV (floatOfInt .f32 n) := ok_nearest _ _ _

theorem six_cells {w : World} {c : Nat} {a b d e f g : Value} {T : TypeId} (h : w.heap[c]? = some (.cells #[a, b, d, e, f, g] T (0, 0))) : w.cell? ⟨c, 0, none⟩ = some a ∧ w.cell? ⟨c, 1, none⟩ = some b ∧ w.cell? ⟨c, 2, none⟩ = some d ∧ w.cell? ⟨c, 3, none⟩ = some e ∧ w.cell? ⟨c, 4, none⟩ = some f ∧ w.cell? ⟨c, 5, none⟩ = some g := by
  refine ⟨?_, ?_, ?_, ?_, ?_, ?_⟩ <;> rw [cell_block h] <;> rfl

theorem pickn_c (c M : Int) (m : Nat) (w : World) (h : -9223372036854775808 ≤ c ∧ c ≤ 9223372036854775807) (hM : M = m) (hm : 0 < m) (hm2 : m ≤ 1000000000) :
    Calls Tryd.prog 7 #[.int .i64 c, .int .i64 M] w fun e w' => ∃ k : Nat, k < m ∧ e = .returned (.int .i64 k) ∧ w' = w :=
  (pick_keep c M m w h.1 h.2 hM hm hm2).mono fun _ _ ⟨h1, h2⟩ => ⟨_, pickN_lt_keep c m hm, h1, h2⟩

set_option maxHeartbeats 2000000 in
set_option maxRecDepth 100000 in
theorem command_c (p : Option Addr) (n cap i : Nat) (w : World) (hi : i ≤ 1000) (h : RI w p n) :
    Calls Tryd.prog 15 #[.slice p n cap, .int .i64 i] w fun e w' => ∃ c : Cmd, e = .returned (.agg #[.int .i64 c.kind, .int .i64 c.id, .int .i64 c.team, .float .f32 c.x, .float .f32 c.y, .int .i64 c.n]) ∧ Kept (fun _ => False) w w' := by
  have H := hide h
  have hsf := store_float Tryd.prog
  have K0 := hide (Kept.alloc w (.cells #[.int .i64 0, .int .i64 0, .int .i64 0, .float .f32 0, .float .f32 0, .int .i64 0] 58))
  clear h
  go_enter Tryd.func15, Tryd.ntmps15
  go_wp2_with fail
  refine (raw_c p n cap i _ (H.out.calm K0.out)).mono ?_
  rintro e w1 ⟨a, ha, rfl, rfl⟩
  have d0 : -9223372036854775808 ≤ a ∧ a ≤ 9223372036854775807 := ha
  have d4 : -9223372036854775808 ≤ a.tdiv 4 ∧ a.tdiv 4 ≤ 9223372036854775807 := i64_tdiv ha 4 (by decide)
  have d24 : -9223372036854775808 ≤ a.tdiv 24 ∧ a.tdiv 24 ≤ 9223372036854775807 := i64_tdiv ha 24 (by decide)
  have d48 : -9223372036854775808 ≤ a.tdiv 48 ∧ a.tdiv 48 ≤ 9223372036854775807 := i64_tdiv ha 48 (by decide)
  have d7 : -9223372036854775808 ≤ a.tdiv 7 ∧ a.tdiv 7 ≤ 9223372036854775807 := i64_tdiv ha 7 (by decide)
  go_wp2_with fail
  refine (pickn_c a 4 4 _ d0 rfl (by decide) (by decide)).mono ?_
  rintro e w1 ⟨k1, lk1, rfl, rfl⟩
  go_wp2_with fail
  refine (pickn_c (a.tdiv 4) 6 6 _ d4 rfl (by decide) (by decide)).mono ?_
  rintro e w1 ⟨k2, lk2, rfl, rfl⟩
  go_wp2_with fail
  refine (pickn_c (a.tdiv 24) 2 2 _ d24 rfl (by decide) (by decide)).mono ?_
  rintro e w1 ⟨k3, lk3, rfl, rfl⟩
  go_wp2_with fail
  refine (pickn_c (a.tdiv 48) 40 40 _ d48 rfl (by decide) (by decide)).mono ?_
  rintro e w1 ⟨k4, lk4, rfl, rfl⟩
  have K1 := hide (K0.out.calm2 (Kept.alloc _ (.cells #[.int .i64 (1 + (k1 : Int)), .int .i64 (k2 : Int), .int .i64 (k3 : Int), .float .f32 0, .float .f32 0, .int .i64 (1 + (k4 : Int))] 58)))
  clear d4 d24 d48
  go_wp2_with fail
  rw [show ((i : Int) + 1) = ((i + 1 : Nat) : Int) from rfl]
  refine (raw_c p n cap (i + 1) _ (H.out.calm K1.out)).mono ?_
  rintro e w1 ⟨a1, ha1, rfl, rfl⟩
  have d1 : -9223372036854775808 ≤ a1 ∧ a1 ≤ 9223372036854775807 := ha1
  go_wp2_with fail
  refine (pickn_c a1 201 201 _ d1 rfl (by decide) (by decide)).mono ?_
  rintro e w1 ⟨k5, l5, rfl, rfl⟩
  have hx := ok_int ((k5 : Int) - 100)
  go_wp2_with fail
  generalize floatOfInt .f32 ((k5 : Int) - 100) = x5 at *
  rw [show ((i : Int) + 2) = ((i + 2 : Nat) : Int) from rfl]
  refine (raw_c p n cap (i + 2) _ (H.out.calm (K0.out.calm2 (Kept.alloc _ _)))).mono ?_
  rintro e w1 ⟨a2, ha2, rfl, rfl⟩
  have d2 : -9223372036854775808 ≤ a2 ∧ a2 ≤ 9223372036854775807 := ha2
  go_wp2_with fail
  refine (pickn_c a2 201 201 _ d2 rfl (by decide) (by decide)).mono ?_
  rintro e w1 ⟨k6, l6, rfl, rfl⟩
  have hy := ok_int ((k6 : Int) - 100)
  go_wp2_with fail
  generalize floatOfInt .f32 ((k6 : Int) - 100) = y5 at *
  refine (pickn_c (a.tdiv 7) 5 5 _ d7 rfl (by decide) (by decide)).mono ?_
  rintro e w1 ⟨k7, l7, rfl, rfl⟩
  have r1 : ∀ w, (binOp .mul 43 (.float .f32 x5) (.float .f32 1092616192)).run Tryd.prog w = .ok (.float .f32 (fmul x5 1092616192)) w := fun w => run_float_arith w .mul _ .f32 _ _ _ (fmul_ok hx ten_pos).1
  have r2 : ∀ w, (binOp .mul 43 (.float .f32 y5) (.float .f32 1092616192)).run Tryd.prog w = .ok (.float .f32 (fmul y5 1092616192)) w := fun w => run_float_arith w .mul _ .f32 _ _ _ (fmul_ok hy ten_pos).1
  clear hx hy d1 d2 d7 K1
  by_cases h7 : k7 = 0
  · subst h7
    go_wp2
    refine bodyPost_ret (v := .agg #[.int .i64 (1 + (k1 : Int)), .int .i64 (k2 : Int), .int .i64 (k3 : Int), .float .f32 (fmul x5 1092616192), .float .f32 (fmul y5 1092616192), .int .i64 (1 + (k4 : Int))]) (by simp [results, Tryd.results15, go_sem]) rfl ?_
    exact ⟨⟨1 + (k1 : Int), k2, k3, (fmul x5 1092616192), (fmul y5 1092616192), 1 + (k4 : Int)⟩, rfl, (Kept.alloc w _).calm2 (Kept.alloc _ _)⟩
  · have h7' : ((k7 : Int) == 0) = false := by simp; omega
    go_wp2
    refine bodyPost_ret (v := .agg #[.int .i64 (1 + (k1 : Int)), .int .i64 (k2 : Int), .int .i64 (k3 : Int), .float .f32 x5, .float .f32 y5, .int .i64 (1 + (k4 : Int))]) (by simp [results, Tryd.results15, go_sem]) rfl ?_
    exact ⟨⟨1 + (k1 : Int), k2, k3, x5, y5, 1 + (k4 : Int)⟩, rfl, (Kept.alloc w _).calm2 (Kept.alloc _ _)⟩

theorem info_cmd : (Tryd.prog.info? 58).map (fun i => (i.zero, i.size, i.bytes)) = some (some (.agg #[.int .i64 0, .int .i64 0, .int .i64 0, .float .f32 0, .float .f32 0, .int .i64 0]), 6, 40) := by kernel_rfl

theorem owns_readsC {w : World} {base : Nat} {p : Option Addr} {cap : Nat} {cs : List Cmd} (h : w.ownsRow base 58 6 (.slice p cs.length cap) cs.length (rowC cs)) : ReadsC w p cs ∧ (p = none → cap = 0) ∧ (∀ b off, p = some ⟨b, off, none⟩ → base ≤ b ∧ b < w.heap.size) := by
  have h' := h
  rcases h.2 with ⟨e, h0⟩ | ⟨g, cp, cur, e, hb, hh, _⟩
  · simp only [Value.slice.injEq] at e
    obtain ⟨rfl, _, rfl⟩ := e
    exact ⟨fun hne => absurd (List.eq_nil_of_length_eq_zero h0) hne, fun _ => rfl, fun b off e => by cases e⟩
  · simp only [Value.slice.injEq] at e
    obtain ⟨rfl, _, rfl⟩ := e
    refine ⟨fun _ => ⟨g, 0, rfl, heap_lt hh, fun j u hu => ?_⟩, (fun e => by cases e), fun b off e => ?_⟩
    · have := h'.cells (g := g) rfl j u hu
      rw [addr_add2] at this; exact this
    · simp only [Option.some.injEq, Addr.mk.injEq] at e
      obtain ⟨rfl, _⟩ := e
      exact ⟨hb, heap_lt hh⟩

set_option maxHeartbeats 2000000 in
set_option maxRecDepth 100000 in
theorem commands_c (q : Option Addr) (n capq : Nat) (w : World) (hn : (n : Int) ≤ 9223372036854775807) (h : RI w q n) :
    Calls Tryd.prog 9 #[.slice q n capq] w fun e w' => ∃ p cap, ∃ cs : List Cmd, cs.length ≤ 64 ∧ e = .returned (.slice p cs.length cap) ∧ w'.ownsRow w.heap.size 58 6 (.slice p cs.length cap) cs.length (rowC cs) ∧ Kept (fun _ => False) w w' := by
  obtain ⟨i0, hi, hz0, hz1, hz2⟩ := info_parts info_cmd
  have H := hide h
  have hsf := store_float Tryd.prog
  clear h
  go_enter Tryd.func9, Tryd.ntmps9
  go_wp2
  go_loopw [3, 4] (fun s t wr => ∃ p cap, ∃ cs : List Cmd, cs.length ≤ 64 ∧ s = .slice p cs.length cap ∧ t = .int .i64 ((3 * cs.length : Nat) : Int) ∧ Hid (wr.ownsRow w.heap.size 58 6 (.slice p cs.length cap) cs.length (rowC cs)) ∧ Hid (Kept (fun _ => False) w wr)) (fun _ t _ => 1000 - (intOf t).toNat)
  case atStart => exact ⟨none, 0, [], by decide, rfl, rfl, ⟨rfl, Or.inl ⟨rfl, rfl⟩⟩, Kept.refl _ _⟩
  case round =>
    obtain ⟨p, cap, cs, hcs, rfl, rfl, HO, HK⟩ := hrel
    generalize hk : 3 * cs.length = k at *
    by_cases hlt : k < n
    · have hb2 : ((k : Nat) : Int) < (n : Int) := by omega
      by_cases h64 : cs.length < 64
      · have hb3 : ((cs.length : Nat) : Int) < 64 := by omega
        go_wp2_with fail
        refine (command_c q n capq k _ (by omega) (H.out.calm HK.out)).mono ?_
        rintro e w1 ⟨c, rfl, q1⟩
        have K1 := hide (HK.out.calm2 q1)
        have O1 := hide (owns_block HO.out (fun g hg => by exact q1.block g (owns_lt HO.out g hg) (fun e => e)))
        have hbase := (HK.out.calm2 q1).size
        clear q1
        go_wp2_with (at_builtin; refine wpList_append_at _ rfl (.tmp 20) (.tmp 22) 38 rfl w.heap.size 58 i0 (.agg #[.int .i64 0, .int .i64 0, .int .i64 0, .float .f32 0, .float .f32 0, .int .i64 0]) 6 40 Tryd.underlying38 hi hz0 hz1 hz2 rfl (by decide) _ _ _ rfl ((O1.out.alloc _).alloc _) ⟨w1.heap.size + 1, 0, none⟩ 1 1 (rowC [c]) rfl rfl ?c1 (rowC_one [c]) (by decide) ?c3 ?c4 ?c5 ?_)
        case c1 => exact new_cells (w1.alloc (.cells #[.int .i64 c.kind, .int .i64 c.id, .int .i64 c.team, .float .f32 c.x, .float .f32 c.y, .int .i64 c.n] 58)) (rowC [c]) 58 (w1.heap.size + 1) (by simp)
        case c3 => unfold maxLen; omega
        case c4 => omega
        case c5 => simp; omega
        intro g cap' w2 hown hgr
        have O2 : Hid (w2.ownsRow w.heap.size 58 6 (.slice (some ⟨g, 0, none⟩) (cs ++ [c]).length cap') (cs ++ [c]).length (rowC (cs ++ [c]))) := by
          rw [rowC_append, List.length_append]; exact hown
        have K2 : Hid (Kept (fun _ => False) w w2) := by
          refine ((K1.out.calm2 (Kept.alloc w1 _)).calm2 (Kept.alloc _ _)).join (Kept.of_grown hgr) (fun _ _ e => e) (fun j hj e => ?_)
          have := (O1.out.lt j e.symm).1
          omega
        clear hown hgr O1 HO HK K1
        go_wp2
        go_roundw
        case rel => exact ⟨some ⟨g, 0, none⟩, cap', cs ++ [c], by simp; omega, by simp, by simp; omega, O2, K2⟩
        case measure => simp [intOf]; omega
      · have hb3 : ¬ ((cs.length : Nat) : Int) < 64 := by omega
        go_wp2
        go_ret
        exact ⟨p, cap, cs, hcs, rfl, HO.out, HK.out⟩
    · have hb2 : ¬ ((k : Nat) : Int) < (n : Int) := by omega
      go_wp2
      go_ret
      exact ⟨p, cap, cs, hcs, rfl, HO.out, HK.out⟩
end Go.Proofs.YtgclehnhjjkdbaaDoor
