import Derived.Test.YtgclehnhjjkdbaaDoorRecd
namespace Go.Proofs.YtgclehnhjjkdbaaDoor
open Go.RowKit

/-- A list of raw numbers, just these. -/
def RZ (w : World) (p : Option Addr) (zs : List Int) : Prop :=
  zs ≠ [] → ∃ b off, p = some ⟨b, off, none⟩ ∧ b < w.heap.size ∧ ∀ j z, zs[j]? = some z → I64 z ∧ w.cell? ⟨b, off + j, none⟩ = some (.int .i64 z)
theorem RZ.keep {w w' : World} {S : Nat → Prop} {p : Option Addr} {zs : List Int} (h : RZ w p zs) (hk : Kept S w w') (hS : ∀ b, b < w.heap.size → ¬ S b) : RZ w' p zs := by
  intro hn
  obtain ⟨b, off, h1, h2, h3⟩ := h hn
  refine ⟨b, off, h1, Nat.lt_of_lt_of_le h2 hk.size, fun j z hj => ?_⟩
  obtain ⟨q1, q2⟩ := h3 j z hj
  exact ⟨q1, by rw [cell_keep hk h2 (hS b h2)]; exact q2⟩
theorem RZ.calm {w w' : World} {p : Option Addr} {zs : List Int} (h : RZ w p zs) (hk : Kept (fun _ => False) w w') : RZ w' p zs := h.keep hk (fun _ _ e => e)

def rawZ (zs : List Int) (i : Nat) : Int := zs.getD i 0
theorem rawZ_i64 {w : World} {p : Option Addr} {zs : List Int} (h : RZ w p zs) (i : Nat) : I64 (rawZ zs i) := by
  unfold rawZ
  by_cases hi : i < zs.length
  · obtain ⟨b, off, _, _, h3⟩ := h (by intro e; subst e; simp at hi)
    have := (h3 i zs[i] (by simp [hi])).1
    simpa [List.getD, hi] using this
  · simp only [List.getD, List.getElem?_eq_none (show zs.length ≤ i by omega), Option.getD_none]
    unfold I64; omega

set_option maxHeartbeats 400000 in
theorem raw_e (p : Option Addr) (zs : List Int) (cap i : Nat) (w : World) (h : RZ w p zs) :
    Calls Tryd.prog 27 #[.slice p zs.length cap, .int .i64 i] w fun e w' => e = .returned (.int .i64 (rawZ zs i)) ∧ w' = w := by
  by_cases hi : i < zs.length
  · obtain ⟨b, off, rfl, _, h3⟩ := h (by intro e; subst e; simp at hi)
    obtain ⟨-, q2⟩ := h3 i zs[i] (by simp [hi])
    have HZ : Hid (rawZ zs i = zs[i]) := by show _ = _; simp [rawZ, List.getD, hi]
    clear h3 h
    have hb1 : (0 : Int) ≤ (i : Int) := by omega
    have hb2 : (i : Int) < (zs.length : Int) := by omega
    go_enter Tryd.func27, Tryd.ntmps27
    go_wp2
    go_ret
    exact ⟨ret1 (by rw [HZ.out]; rfl), rfl⟩
  · have HZ : Hid (rawZ zs i = 0) := by show _ = _; simp only [rawZ, List.getD, List.getElem?_eq_none (show zs.length ≤ i by omega), Option.getD_none]
    clear h
    go_enter Tryd.func27, Tryd.ntmps27
    go_wp2
    go_ret
    exact ⟨ret1 (by rw [HZ.out]; rfl), rfl⟩

theorem picke_c (c M : Int) (m : Nat) (w : World) (h : -9223372036854775808 ≤ c ∧ c ≤ 9223372036854775807) (hM : M = m) (hm : 0 < m) (hm2 : m ≤ 1000000000) :
    Calls Tryd.prog 7 #[.int .i64 c, .int .i64 M] w fun e w' => e = .returned (.int .i64 (pickN_keep c m)) ∧ w' = w := pick_keep c M m w h.1 h.2 hM hm hm2

/-- A command out of raw numbers. -/
def wayOf (z : Int) : Nat := floatOfInt .f32 ((pickN_keep z 201 : Int) - 100)
noncomputable def cmdOf (zs : List Int) (i : Nat) : Cmd :=
  if pickN_keep ((rawZ zs i).tdiv 7) 5 = 0 then { kind := 1 + (pickN_keep (rawZ zs i) 4 : Int), id := pickN_keep ((rawZ zs i).tdiv 4) 6, team := pickN_keep ((rawZ zs i).tdiv 24) 2, x := fmul (wayOf (rawZ zs (i + 1))) 1092616192, y := fmul (wayOf (rawZ zs (i + 2))) 1092616192, n := 1 + (pickN_keep ((rawZ zs i).tdiv 48) 40 : Int) }
  else { kind := 1 + (pickN_keep (rawZ zs i) 4 : Int), id := pickN_keep ((rawZ zs i).tdiv 4) 6, team := pickN_keep ((rawZ zs i).tdiv 24) 2, x := wayOf (rawZ zs (i + 1)), y := wayOf (rawZ zs (i + 2)), n := 1 + (pickN_keep ((rawZ zs i).tdiv 48) 40 : Int) }
noncomputable def cmdsOf (zs : List Int) : List Cmd := (List.range (min 64 ((zs.length + 2) / 3))).map (fun k => cmdOf zs (3 * k))

set_option maxHeartbeats 2000000 in
set_option maxRecDepth 100000 in
theorem command_e (p : Option Addr) (zs : List Int) (cap i : Nat) (w : World) (hi : i ≤ 1000) (h : RZ w p zs) :
    Calls Tryd.prog 15 #[.slice p zs.length cap, .int .i64 i] w fun e w' => e = .returned (.agg #[.int .i64 (cmdOf zs i).kind, .int .i64 (cmdOf zs i).id, .int .i64 (cmdOf zs i).team, .float .f32 (cmdOf zs i).x, .float .f32 (cmdOf zs i).y, .int .i64 (cmdOf zs i).n]) ∧ Kept (fun _ => False) w w' := by
  have H := hide h
  have hsf := store_float Tryd.prog
  have K0 := hide (Kept.alloc w (.cells #[.int .i64 0, .int .i64 0, .int .i64 0, .float .f32 0, .float .f32 0, .int .i64 0] 58))
  clear h
  go_enter Tryd.func15, Tryd.ntmps15
  go_wp2_with fail
  refine (raw_e p zs cap i _ (H.out.calm K0.out)).mono ?_
  rintro e w1 ⟨rfl, rfl⟩
  have ha := rawZ_i64 H.out i
  have hi1 := rawZ_i64 H.out (i + 1)
  have hi2 := rawZ_i64 H.out (i + 2)
  have HCO : Hid (cmdOf zs i = cmdOf zs i) := rfl
  unfold cmdOf wayOf at HCO
  generalize hza : rawZ zs i = a at *
  generalize hz1 : rawZ zs (i + 1) = a1 at *
  generalize hz2 : rawZ zs (i + 2) = a2 at *
  have HZA := hide hza
  have HZ1 := hide hz1
  have HZ2 := hide hz2
  clear hza hz1 hz2 HCO
  have d0 : -9223372036854775808 ≤ a ∧ a ≤ 9223372036854775807 := ha
  have d4 : -9223372036854775808 ≤ a.tdiv 4 ∧ a.tdiv 4 ≤ 9223372036854775807 := i64_tdiv ha 4 (by decide)
  have d24 : -9223372036854775808 ≤ a.tdiv 24 ∧ a.tdiv 24 ≤ 9223372036854775807 := i64_tdiv ha 24 (by decide)
  have d48 : -9223372036854775808 ≤ a.tdiv 48 ∧ a.tdiv 48 ≤ 9223372036854775807 := i64_tdiv ha 48 (by decide)
  have d7 : -9223372036854775808 ≤ a.tdiv 7 ∧ a.tdiv 7 ≤ 9223372036854775807 := i64_tdiv ha 7 (by decide)
  go_wp2_with fail
  refine (picke_c a 4 4 _ d0 rfl (by decide) (by decide)).mono ?_
  rintro e w1 ⟨rfl, rfl⟩
  have lk1 := pickN_lt_keep a 4 (by decide)
  generalize hp1 : pickN_keep a 4 = k1 at *
  have HP1 := hide hp1
  clear hp1
  go_wp2_with fail
  refine (picke_c (a.tdiv 4) 6 6 _ d4 rfl (by decide) (by decide)).mono ?_
  rintro e w1 ⟨rfl, rfl⟩
  have lk2 := pickN_lt_keep (a.tdiv 4) 6 (by decide)
  generalize hp2 : pickN_keep (a.tdiv 4) 6 = k2 at *
  have HP2 := hide hp2
  clear hp2
  go_wp2_with fail
  refine (picke_c (a.tdiv 24) 2 2 _ d24 rfl (by decide) (by decide)).mono ?_
  rintro e w1 ⟨rfl, rfl⟩
  have lk3 := pickN_lt_keep (a.tdiv 24) 2 (by decide)
  generalize hp3 : pickN_keep (a.tdiv 24) 2 = k3 at *
  have HP3 := hide hp3
  clear hp3
  go_wp2_with fail
  refine (picke_c (a.tdiv 48) 40 40 _ d48 rfl (by decide) (by decide)).mono ?_
  rintro e w1 ⟨rfl, rfl⟩
  have lk4 := pickN_lt_keep (a.tdiv 48) 40 (by decide)
  generalize hp4 : pickN_keep (a.tdiv 48) 40 = k4 at *
  have HP4 := hide hp4
  clear hp4
  have K1 := hide (K0.out.calm2 (Kept.alloc _ (.cells #[.int .i64 (1 + (k1 : Int)), .int .i64 (k2 : Int), .int .i64 (k3 : Int), .float .f32 0, .float .f32 0, .int .i64 (1 + (k4 : Int))] 58)))
  clear d4 d24 d48
  go_wp2_with fail
  rw [show ((i : Int) + 1) = ((i + 1 : Nat) : Int) from rfl]
  refine (raw_e p zs cap (i + 1) _ (H.out.calm K1.out)).mono ?_
  rintro e w1 ⟨rfl, rfl⟩
  rw [HZ1.out]
  have d1 : -9223372036854775808 ≤ a1 ∧ a1 ≤ 9223372036854775807 := hi1
  go_wp2_with fail
  refine (picke_c a1 201 201 _ d1 rfl (by decide) (by decide)).mono ?_
  rintro e w1 ⟨rfl, rfl⟩
  have l5 := pickN_lt_keep a1 201 (by decide)
  generalize hp5 : pickN_keep a1 201 = k5 at *
  have HP5 := hide hp5
  clear hp5
  have hx := ok_int ((k5 : Int) - 100)
  go_wp2_with fail
  generalize hx5 : floatOfInt .f32 ((k5 : Int) - 100) = x5 at *
  have HX5 := hide hx5
  clear hx5
  rw [show ((i : Int) + 2) = ((i + 2 : Nat) : Int) from rfl]
  refine (raw_e p zs cap (i + 2) _ (H.out.calm (K0.out.calm2 (Kept.alloc _ _)))).mono ?_
  rintro e w1 ⟨rfl, rfl⟩
  rw [HZ2.out]
  have d2 : -9223372036854775808 ≤ a2 ∧ a2 ≤ 9223372036854775807 := hi2
  go_wp2_with fail
  refine (picke_c a2 201 201 _ d2 rfl (by decide) (by decide)).mono ?_
  rintro e w1 ⟨rfl, rfl⟩
  have l6 := pickN_lt_keep a2 201 (by decide)
  generalize hp6 : pickN_keep a2 201 = k6 at *
  have HP6 := hide hp6
  clear hp6
  have hy := ok_int ((k6 : Int) - 100)
  go_wp2_with fail
  generalize hy5 : floatOfInt .f32 ((k6 : Int) - 100) = y5 at *
  have HY5 := hide hy5
  clear hy5
  refine (picke_c (a.tdiv 7) 5 5 _ d7 rfl (by decide) (by decide)).mono ?_
  rintro e w1 ⟨rfl, rfl⟩
  have l7 := pickN_lt_keep (a.tdiv 7) 5 (by decide)
  generalize hp7 : pickN_keep (a.tdiv 7) 5 = k7 at *
  have HP7 := hide hp7
  clear hp7
  have r1 : ∀ w, (binOp .mul 43 (.float .f32 x5) (.float .f32 1092616192)).run Tryd.prog w = .ok (.float .f32 (fmul x5 1092616192)) w := fun w => run_float_arith w .mul _ .f32 _ _ _ (fmul_ok hx ten_pos).1
  have r2 : ∀ w, (binOp .mul 43 (.float .f32 y5) (.float .f32 1092616192)).run Tryd.prog w = .ok (.float .f32 (fmul y5 1092616192)) w := fun w => run_float_arith w .mul _ .f32 _ _ _ (fmul_ok hy ten_pos).1
  clear hx hy d1 d2 d7 K1
  by_cases h7 : k7 = 0
  · have HC : Hid (cmdOf zs i = ⟨1 + (k1 : Int), k2, k3, (fmul x5 1092616192), (fmul y5 1092616192), 1 + (k4 : Int)⟩) := by
      show _ = _
      unfold cmdOf wayOf
      rw [HZA.out, HZ1.out, HZ2.out, HP1.out, HP2.out, HP3.out, HP4.out, HP5.out, HP6.out, HP7.out, HX5.out, HY5.out, if_pos h7]
    have h7' : ((k7 : Int) == 0) = true := by simp [h7]
    go_wp2
    refine bodyPost_ret (v := .agg #[.int .i64 (1 + (k1 : Int)), .int .i64 (k2 : Int), .int .i64 (k3 : Int), .float .f32 (fmul x5 1092616192), .float .f32 (fmul y5 1092616192), .int .i64 (1 + (k4 : Int))]) (by simp [results, Tryd.results15, go_sem]) rfl ?_
    rw [HC.out]
    exact ⟨rfl, (Kept.alloc w _).calm2 (Kept.alloc _ _)⟩
  · have HC : Hid (cmdOf zs i = ⟨1 + (k1 : Int), k2, k3, x5, y5, 1 + (k4 : Int)⟩) := by
      show _ = _
      unfold cmdOf wayOf
      rw [HZA.out, HZ1.out, HZ2.out, HP1.out, HP2.out, HP3.out, HP4.out, HP5.out, HP6.out, HP7.out, HX5.out, HY5.out, if_neg h7]
    have h7' : ((k7 : Int) == 0) = false := by simp; omega
    go_wp2
    refine bodyPost_ret (v := .agg #[.int .i64 (1 + (k1 : Int)), .int .i64 (k2 : Int), .int .i64 (k3 : Int), .float .f32 x5, .float .f32 y5, .int .i64 (1 + (k4 : Int))]) (by simp [results, Tryd.results15, go_sem]) rfl ?_
    rw [HC.out]
    exact ⟨rfl, (Kept.alloc w _).calm2 (Kept.alloc _ _)⟩

set_option maxHeartbeats 2000000 in
set_option maxRecDepth 100000 in
theorem commands_e (q : Option Addr) (zs : List Int) (capq : Nat) (w : World) (hn : (zs.length : Int) ≤ 9223372036854775807) (h : RZ w q zs) :
    Calls Tryd.prog 9 #[.slice q zs.length capq] w fun e w' => ∃ p cap, e = .returned (.slice p (cmdsOf zs).length cap) ∧ w'.ownsRow w.heap.size 58 6 (.slice p (cmdsOf zs).length cap) (cmdsOf zs).length (rowC (cmdsOf zs)) ∧ Kept (fun _ => False) w w' := by
  obtain ⟨i0, hi, hz0, hz1, hz2⟩ := info_parts info_cmd
  have H := hide h
  have hsf := store_float Tryd.prog
  clear h
  go_enter Tryd.func9, Tryd.ntmps9
  go_wp2
  go_loopw [3, 4] (fun s t wr => ∃ p cap, ∃ cs : List Cmd, cs.length ≤ 64 ∧ (cs.length = 0 ∨ 3 * (cs.length - 1) < zs.length) ∧ Hid (cs = (List.range cs.length).map (fun k => cmdOf zs (3 * k))) ∧ s = .slice p cs.length cap ∧ t = .int .i64 ((3 * cs.length : Nat) : Int) ∧ Hid (wr.ownsRow w.heap.size 58 6 (.slice p cs.length cap) cs.length (rowC cs)) ∧ Hid (Kept (fun _ => False) w wr)) (fun _ t _ => 1000 - (intOf t).toNat)
  case atStart => exact ⟨none, 0, [], by decide, Or.inl rfl, rfl, rfl, rfl, ⟨rfl, Or.inl ⟨rfl, rfl⟩⟩, Kept.refl _ _⟩
  case round =>
    obtain ⟨p, cap, cs, hcs, hcl, HCS, rfl, rfl, HO, HK⟩ := hrel
    have HEND : Hid (¬ (3 * cs.length < zs.length ∧ cs.length < 64) → cs = cmdsOf zs) := fun hne => by
      unfold cmdsOf
      rw [show min 64 ((zs.length + 2) / 3) = cs.length from by omega]
      exact HCS.out
    have HNX : Hid (3 * cs.length < zs.length ∧ cs.length < 64 → (cs ++ [cmdOf zs (3 * cs.length)]) = (List.range (cs.length + 1)).map (fun k => cmdOf zs (3 * k))) := fun _ => by
      rw [List.range_succ, List.map_append, ← HCS.out]; rfl
    generalize hk : 3 * cs.length = k at *
    by_cases hlt : k < zs.length
    · have hb2 : ((k : Nat) : Int) < (zs.length : Int) := by omega
      by_cases h64 : cs.length < 64
      · have hb3 : ((cs.length : Nat) : Int) < 64 := by omega
        go_wp2_with fail
        refine (command_e q zs capq k _ (by omega) (H.out.calm HK.out)).mono ?_
        rintro e w1 ⟨rfl, q1⟩
        generalize hcE : cmdOf zs k = c at *
        have HCE := hide hcE
        clear hcE
        have K1 := hide (HK.out.calm2 q1)
        have O1 := hide (owns_block HO.out (fun g hg => by exact q1.block g (owns_lt HO.out g hg) (fun e => e)))
        have hbase := (HK.out.calm2 q1).size
        clear q1
        go_wp2_with (at_builtin; refine wpList_append_at _ rfl (.tmp 20) (.tmp 22) 38 rfl w.heap.size 58 i0 (.agg #[.int .i64 0, .int .i64 0, .int .i64 0, .float .f32 0, .float .f32 0, .int .i64 0]) 6 40 Tryd.underlying38 hi hz0 hz1 hz2 rfl (by decide) _ _ _ rfl ((O1.out.alloc _).alloc _) ⟨w1.heap.size + 1, 0, none⟩ 1 1 (rowC [c]) rfl rfl ?c1 (rowC_one [c]) (by decide) ?c3 ?c4 ?c5 ?_)
        case c1 => exact new_cells (w1.alloc (.cells #[.int .i64 c.kind, .int .i64 c.id, .int .i64 c.team, .float .f32 c.x, .float .f32 c.y, .int .i64 c.n] 58)) (rowC [c]) 58 (w1.heap.size + 1) (by simp)
        case c3 => unfold maxLen; omega
        case c4 => omega
        case c5 => simp; omega
        intro g cap' w2 hown hgr
        have O2 : Hid (w2.ownsRow w.heap.size 58 6 (.slice (some ⟨g, 0, none⟩) (cs ++ [c]).length cap') (cs ++ [c]).length (rowC (cs ++ [c]))) := by
          rw [rowC_append, List.length_append]; exact hown
        have K2 : Hid (Kept (fun _ => False) w w2) := by
          refine ((K1.out.calm2 (Kept.alloc w1 _)).calm2 (Kept.alloc _ _)).join (Kept.of_grown hgr) (fun _ _ e => e) (fun j hj e => ?_)
          have := (O1.out.lt j e.symm).1
          omega
        clear hown hgr O1 HO HK K1
        go_wp2
        go_roundw
        case rel =>
          refine ⟨some ⟨g, 0, none⟩, cap', cs ++ [c], by simp; omega, Or.inr (by simp; omega), ?_, by simp, by simp; omega, O2, K2⟩
          show _ = _
          have := HNX.out ⟨by omega, h64⟩
          rw [List.length_append, List.length_singleton]
          exact this
        case measure => simp [intOf]; omega
      · have hb3 : ¬ ((cs.length : Nat) : Int) < 64 := by omega
        go_wp2
        go_ret
        rw [← HEND.out (by omega)]
        exact ⟨p, cap, rfl, HO.out, HK.out⟩
    · have hb2 : ¬ ((k : Nat) : Int) < (zs.length : Int) := by omega
      go_wp2
      go_ret
      rw [← HEND.out (by omega)]
      exact ⟨p, cap, rfl, HO.out, HK.out⟩
end Go.Proofs.YtgclehnhjjkdbaaDoor
