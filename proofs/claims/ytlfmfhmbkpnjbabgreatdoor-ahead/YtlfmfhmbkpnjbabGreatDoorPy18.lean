import Derived.Test.YtlfmfhmbkpnjbabGreatDoorPy17
import Derived.Test.YtlfmfhmbkpnjbabGreatDoorPy8
import Derived.Laws.StructEq
import Derived.BigQuiet
import Derived.Deep.QuietTactic
import Derived.Test.YtlfmfhmbkpnjbabGreatDoorPy11
namespace Go.Proofs.YtlfmfhmbkpnjbabGreatDoor
open Go.RowKit

/-- A list of raw numbers, just these. -/
def RZ (w : World) (p : Option Addr) (zs : List Int) : Prop :=
  zs ≠ [] → ∃ b off, p = some ⟨b, off, none⟩ ∧ b < w.heap.size ∧ ∀ j z, zs[j]? = some z → I64 z ∧ w.cell? ⟨b, off + j, none⟩ = some (.int .i64 z)
theorem RZ.keep {w w' : World} {S : Nat → Prop} {p : Option Addr} {zs : List Int} (h : RZ w p zs) (hk : Kept S w w') (hS : ∀ b, b < w.heap.size → ¬ S b) : RZ w' p zs := by
  intro hn
  obtain ⟨b, off, h1, h2, h3⟩ := h hn
  refine ⟨b, off, h1, Nat.lt_of_lt_of_le h2 hk.size, fun j z hj => ?_⟩
  obtain ⟨q1, q2⟩ := h3 j z hj
  exact ⟨q1, by rw [cell_keep hk h2 (hS b h2)]; exact q2⟩
theorem RZ.calm {w w' : World} {p : Option Addr} {zs : List Int} (h : RZ w p zs) (hk : Kept (fun _ => False) w w') : RZ w' p zs := h.keep hk (fun _ _ e => e)

def rawZ (zs : List Int) (i : Nat) : Int := zs.getD i 0
theorem rawZ_i64 {w : World} {p : Option Addr} {zs : List Int} (h : RZ w p zs) (i : Nat) : I64 (rawZ zs i) := by
  unfold rawZ
  by_cases hi : i < zs.length
  · obtain ⟨b, off, _, _, h3⟩ := h (by intro e; subst e; simp at hi)
    have := (h3 i zs[i] (by simp [hi])).1
    simpa [List.getD, hi] using this
  · simp only [List.getD, List.getElem?_eq_none (show zs.length ≤ i by omega), Option.getD_none]
    unfold I64; omega

set_option maxHeartbeats 400000 in
theorem raw_e (p : Option Addr) (zs : List Int) (cap i : Nat) (w : World) (h : RZ w p zs) :
    Calls Tryz.prog 58 #[.slice p zs.length cap, .int .i64 i] w fun e w' => e = .returned (.int .i64 (rawZ zs i)) ∧ w' = w := by
  by_cases hi : i < zs.length
  · obtain ⟨b, off, rfl, _, h3⟩ := h (by intro e; subst e; simp at hi)
    obtain ⟨-, q2⟩ := h3 i zs[i] (by simp [hi])
    have HZ : Hid (rawZ zs i = zs[i]) := by show _ = _; simp [rawZ, List.getD, hi]
    clear h3 h
    have hb1 : (0 : Int) ≤ (i : Int) := by omega
    have hb2 : (i : Int) < (zs.length : Int) := by omega
    go_enter Tryz.func58, Tryz.ntmps58
    go_wp2
    go_ret
    exact ⟨ret1 (by rw [HZ.out]; rfl), rfl⟩
  · have HZ : Hid (rawZ zs i = 0) := by show _ = _; simp only [rawZ, List.getD, List.getElem?_eq_none (show zs.length ≤ i by omega), Option.getD_none]
    clear h
    go_enter Tryz.func58, Tryz.ntmps58
    go_wp2
    go_ret
    exact ⟨ret1 (by rw [HZ.out]; rfl), rfl⟩

theorem picke_c (c M : Int) (m : Nat) (w : World) (h : -9223372036854775808 ≤ c ∧ c ≤ 9223372036854775807) (hM : M = m) (hm : 0 < m) (hm2 : m ≤ 1000000000) :
    Calls Tryz.prog 13 #[.int .i64 c, .int .i64 M] w fun e w' => e = .returned (.int .i64 (pickN_keep c m)) ∧ w' = w := pick_keep c M m w h.1 h.2 hM hm hm2

/-- A command out of raw numbers. -/
def wayOf (z : Int) : Nat := floatOfInt .f32 ((pickN_keep z 201 : Int) - 100)
noncomputable def cmdOf (zs : List Int) (i : Nat) : Cmd :=
  if pickN_keep ((rawZ zs i).tdiv 7) 5 = 0 then { kind := 1 + (pickN_keep (rawZ zs i) 4 : Int), id := pickN_keep ((rawZ zs i).tdiv 4) 6, team := pickN_keep ((rawZ zs i).tdiv 24) 2, x := fmul (wayOf (rawZ zs (i + 1))) 1092616192, y := fmul (wayOf (rawZ zs (i + 2))) 1092616192, n := 1 + (pickN_keep ((rawZ zs i).tdiv 48) 40 : Int) }
  else { kind := 1 + (pickN_keep (rawZ zs i) 4 : Int), id := pickN_keep ((rawZ zs i).tdiv 4) 6, team := pickN_keep ((rawZ zs i).tdiv 24) 2, x := wayOf (rawZ zs (i + 1)), y := wayOf (rawZ zs (i + 2)), n := 1 + (pickN_keep ((rawZ zs i).tdiv 48) 40 : Int) }
noncomputable def cmdsOf (zs : List Int) : List Cmd := (List.range (min 64 ((zs.length + 2) / 3))).map (fun k => cmdOf zs (3 * k))

set_option maxHeartbeats 2000000 in
set_option maxRecDepth 100000 in
theorem command_e (p : Option Addr) (zs : List Int) (cap i : Nat) (w : World) (hi : i ≤ 1000) (h : RZ w p zs) :
    Calls Tryz.prog 31 #[.slice p zs.length cap, .int .i64 i] w fun e w' => e = .returned (.agg #[.int .i64 (cmdOf zs i).kind, .int .i64 (cmdOf zs i).id, .int .i64 (cmdOf zs i).team, .float .f32 (cmdOf zs i).x, .float .f32 (cmdOf zs i).y, .int .i64 (cmdOf zs i).n]) ∧ Kept (fun _ => False) w w' := by
  have H := hide h
  have hsf := store_float Tryz.prog
  have K0 := hide (Kept.alloc w (.cells #[.int .i64 0, .int .i64 0, .int .i64 0, .float .f32 0, .float .f32 0, .int .i64 0] 90))
  clear h
  go_enter Tryz.func31, Tryz.ntmps31
  go_wp2_with fail
  refine (raw_e p zs cap i _ (H.out.calm K0.out)).mono ?_
  rintro e w1 ⟨rfl, rfl⟩
  have ha := rawZ_i64 H.out i
  have hi1 := rawZ_i64 H.out (i + 1)
  have hi2 := rawZ_i64 H.out (i + 2)
  have HCO : Hid (cmdOf zs i = cmdOf zs i) := rfl
  unfold cmdOf wayOf at HCO
  generalize hza : rawZ zs i = a at *
  generalize hz1 : rawZ zs (i + 1) = a1 at *
  generalize hz2 : rawZ zs (i + 2) = a2 at *
  have HZA := hide hza
  have HZ1 := hide hz1
  have HZ2 := hide hz2
  clear hza hz1 hz2 HCO
  have d0 : -9223372036854775808 ≤ a ∧ a ≤ 9223372036854775807 := ha
  have d4 : -9223372036854775808 ≤ a.tdiv 4 ∧ a.tdiv 4 ≤ 9223372036854775807 := i64_tdiv ha 4 (by decide)
  have d24 : -9223372036854775808 ≤ a.tdiv 24 ∧ a.tdiv 24 ≤ 9223372036854775807 := i64_tdiv ha 24 (by decide)
  have d48 : -9223372036854775808 ≤ a.tdiv 48 ∧ a.tdiv 48 ≤ 9223372036854775807 := i64_tdiv ha 48 (by decide)
  have d7 : -9223372036854775808 ≤ a.tdiv 7 ∧ a.tdiv 7 ≤ 9223372036854775807 := i64_tdiv ha 7 (by decide)
  go_wp2_with fail
  refine (picke_c a 4 4 _ d0 rfl (by decide) (by decide)).mono ?_
  rintro e w1 ⟨rfl, rfl⟩
  have lk1 := pickN_lt_keep a 4 (by decide)
  generalize hp1 : pickN_keep a 4 = k1 at *
  have HP1 := hide hp1
  clear hp1
  go_wp2_with fail
  refine (picke_c (a.tdiv 4) 6 6 _ d4 rfl (by decide) (by decide)).mono ?_
  rintro e w1 ⟨rfl, rfl⟩
  have lk2 := pickN_lt_keep (a.tdiv 4) 6 (by decide)
  generalize hp2 : pickN_keep (a.tdiv 4) 6 = k2 at *
  have HP2 := hide hp2
  clear hp2
  go_wp2_with fail
  refine (picke_c (a.tdiv 24) 2 2 _ d24 rfl (by decide) (by decide)).mono ?_
  rintro e w1 ⟨rfl, rfl⟩
  have lk3 := pickN_lt_keep (a.tdiv 24) 2 (by decide)
  generalize hp3 : pickN_keep (a.tdiv 24) 2 = k3 at *
  have HP3 := hide hp3
  clear hp3
  go_wp2_with fail
  refine (picke_c (a.tdiv 48) 40 40 _ d48 rfl (by decide) (by decide)).mono ?_
  rintro e w1 ⟨rfl, rfl⟩
  have lk4 := pickN_lt_keep (a.tdiv 48) 40 (by decide)
  generalize hp4 : pickN_keep (a.tdiv 48) 40 = k4 at *
  have HP4 := hide hp4
  clear hp4
  have K1 := hide (K0.out.calm2 (Kept.alloc _ (.cells #[.int .i64 (1 + (k1 : Int)), .int .i64 (k2 : Int), .int .i64 (k3 : Int), .float .f32 0, .float .f32 0, .int .i64 (1 + (k4 : Int))] 90)))
  clear d4 d24 d48
  go_wp2_with fail
  rw [show ((i : Int) + 1) = ((i + 1 : Nat) : Int) from rfl]
  refine (raw_e p zs cap (i + 1) _ (H.out.calm K1.out)).mono ?_
  rintro e w1 ⟨rfl, rfl⟩
  rw [HZ1.out]
  have d1 : -9223372036854775808 ≤ a1 ∧ a1 ≤ 9223372036854775807 := hi1
  go_wp2_with fail
  refine (picke_c a1 201 201 _ d1 rfl (by decide) (by decide)).mono ?_
  rintro e w1 ⟨rfl, rfl⟩
  have l5 := pickN_lt_keep a1 201 (by decide)
  generalize hp5 : pickN_keep a1 201 = k5 at *
  have HP5 := hide hp5
  clear hp5
  have hx := ok_int ((k5 : Int) - 100)
  go_wp2_with fail
  generalize hx5 : floatOfInt .f32 ((k5 : Int) - 100) = x5 at *
  have HX5 := hide hx5
  clear hx5
  rw [show ((i : Int) + 2) = ((i + 2 : Nat) : Int) from rfl]
  refine (raw_e p zs cap (i + 2) _ (H.out.calm (K0.out.calm2 (Kept.alloc _ _)))).mono ?_
  rintro e w1 ⟨rfl, rfl⟩
  rw [HZ2.out]
  have d2 : -9223372036854775808 ≤ a2 ∧ a2 ≤ 9223372036854775807 := hi2
  go_wp2_with fail
  refine (picke_c a2 201 201 _ d2 rfl (by decide) (by decide)).mono ?_
  rintro e w1 ⟨rfl, rfl⟩
  have l6 := pickN_lt_keep a2 201 (by decide)
  generalize hp6 : pickN_keep a2 201 = k6 at *
  have HP6 := hide hp6
  clear hp6
  have hy := ok_int ((k6 : Int) - 100)
  go_wp2_with fail
  generalize hy5 : floatOfInt .f32 ((k6 : Int) - 100) = y5 at *
  have HY5 := hide hy5
  clear hy5
  refine (picke_c (a.tdiv 7) 5 5 _ d7 rfl (by decide) (by decide)).mono ?_
  rintro e w1 ⟨rfl, rfl⟩
  have l7 := pickN_lt_keep (a.tdiv 7) 5 (by decide)
  generalize hp7 : pickN_keep (a.tdiv 7) 5 = k7 at *
  have HP7 := hide hp7
  clear hp7
  have r1 : ∀ w, (binOp .mul 61 (.float .f32 x5) (.float .f32 1092616192)).run Tryz.prog w = .ok (.float .f32 (fmul x5 1092616192)) w := fun w => run_float_arith w .mul _ .f32 _ _ _ (fmul_ok hx ten_pos).1
  have r2 : ∀ w, (binOp .mul 61 (.float .f32 y5) (.float .f32 1092616192)).run Tryz.prog w = .ok (.float .f32 (fmul y5 1092616192)) w := fun w => run_float_arith w .mul _ .f32 _ _ _ (fmul_ok hy ten_pos).1
  clear hx hy d1 d2 d7 K1
  by_cases h7 : k7 = 0
  · have HC : Hid (cmdOf zs i = ⟨1 + (k1 : Int), k2, k3, (fmul x5 1092616192), (fmul y5 1092616192), 1 + (k4 : Int)⟩) := by
      show _ = _
      unfold cmdOf wayOf
      rw [HZA.out, HZ1.out, HZ2.out, HP1.out, HP2.out, HP3.out, HP4.out, HP5.out, HP6.out, HP7.out, HX5.out, HY5.out, if_pos h7]
    have h7' : ((k7 : Int) == 0) = true := by simp [h7]
    go_wp2
    refine bodyPost_ret (v := .agg #[.int .i64 (1 + (k1 : Int)), .int .i64 (k2 : Int), .int .i64 (k3 : Int), .float .f32 (fmul x5 1092616192), .float .f32 (fmul y5 1092616192), .int .i64 (1 + (k4 : Int))]) (by simp [results, Tryz.results31, go_sem]) rfl ?_
    rw [HC.out]
    exact ⟨rfl, (Kept.alloc w _).calm2 (Kept.alloc _ _)⟩
  · have HC : Hid (cmdOf zs i = ⟨1 + (k1 : Int), k2, k3, x5, y5, 1 + (k4 : Int)⟩) := by
      show _ = _
      unfold cmdOf wayOf
      rw [HZA.out, HZ1.out, HZ2.out, HP1.out, HP2.out, HP3.out, HP4.out, HP5.out, HP6.out, HP7.out, HX5.out, HY5.out, if_neg h7]
    have h7' : ((k7 : Int) == 0) = false := by simp; omega
    go_wp2
    refine bodyPost_ret (v := .agg #[.int .i64 (1 + (k1 : Int)), .int .i64 (k2 : Int), .int .i64 (k3 : Int), .float .f32 x5, .float .f32 y5, .int .i64 (1 + (k4 : Int))]) (by simp [results, Tryz.results31, go_sem]) rfl ?_
    rw [HC.out]
    exact ⟨rfl, (Kept.alloc w _).calm2 (Kept.alloc _ _)⟩

set_option maxHeartbeats 2000000 in
set_option maxRecDepth 100000 in
theorem commands_e (q : Option Addr) (zs : List Int) (capq : Nat) (w : World) (hn : (zs.length : Int) ≤ 9223372036854775807) (h : RZ w q zs) :
    Calls Tryz.prog 15 #[.slice q zs.length capq] w fun e w' => ∃ p cap, e = .returned (.slice p (cmdsOf zs).length cap) ∧ w'.ownsRow w.heap.size 90 6 (.slice p (cmdsOf zs).length cap) (cmdsOf zs).length (rowC (cmdsOf zs)) ∧ Kept (fun _ => False) w w' := by
  obtain ⟨i0, hi, hz0, hz1, hz2⟩ := info_parts info_cmd
  have H := hide h
  have hsf := store_float Tryz.prog
  clear h
  go_enter Tryz.func15, Tryz.ntmps15
  go_wp2
  go_loopw [3, 4] (fun s t wr => ∃ p cap, ∃ cs : List Cmd, cs.length ≤ 64 ∧ (cs.length = 0 ∨ 3 * (cs.length - 1) < zs.length) ∧ Hid (cs = (List.range cs.length).map (fun k => cmdOf zs (3 * k))) ∧ s = .slice p cs.length cap ∧ t = .int .i64 ((3 * cs.length : Nat) : Int) ∧ Hid (wr.ownsRow w.heap.size 90 6 (.slice p cs.length cap) cs.length (rowC cs)) ∧ Hid (Kept (fun _ => False) w wr)) (fun _ t _ => 1000 - (intOf t).toNat)
  case atStart => exact ⟨none, 0, [], by decide, Or.inl rfl, rfl, rfl, rfl, ⟨rfl, Or.inl ⟨rfl, rfl⟩⟩, Kept.refl _ _⟩
  case round =>
    obtain ⟨p, cap, cs, hcs, hcl, HCS, rfl, rfl, HO, HK⟩ := hrel
    have HEND : Hid (¬ (3 * cs.length < zs.length ∧ cs.length < 64) → cs = cmdsOf zs) := fun hne => by
      unfold cmdsOf
      rw [show min 64 ((zs.length + 2) / 3) = cs.length from by omega]
      exact HCS.out
    have HNX : Hid (3 * cs.length < zs.length ∧ cs.length < 64 → (cs ++ [cmdOf zs (3 * cs.length)]) = (List.range (cs.length + 1)).map (fun k => cmdOf zs (3 * k))) := fun _ => by
      rw [List.range_succ, List.map_append, ← HCS.out]; rfl
    generalize hk : 3 * cs.length = k at *
    by_cases hlt : k < zs.length
    · have hb2 : ((k : Nat) : Int) < (zs.length : Int) := by omega
      by_cases h64 : cs.length < 64
      · have hb3 : ((cs.length : Nat) : Int) < 64 := by omega
        go_wp2_with fail
        refine (command_e q zs capq k _ (by omega) (H.out.calm HK.out)).mono ?_
        rintro e w1 ⟨rfl, q1⟩
        generalize hcE : cmdOf zs k = c at *
        have HCE := hide hcE
        clear hcE
        have K1 := hide (HK.out.calm2 q1)
        have O1 := hide (owns_block HO.out (fun g hg => by exact q1.block g (owns_lt HO.out g hg) (fun e => e)))
        have hbase := (HK.out.calm2 q1).size
        clear q1
        go_wp2_with (at_builtin; refine wpList_append_at _ rfl (.tmp 20) (.tmp 22) 54 rfl w.heap.size 90 i0 (.agg #[.int .i64 0, .int .i64 0, .int .i64 0, .float .f32 0, .float .f32 0, .int .i64 0]) 6 40 Tryz.underlying54 hi hz0 hz1 hz2 rfl (by decide) _ _ _ rfl ((O1.out.alloc _).alloc _) ⟨w1.heap.size + 1, 0, none⟩ 1 1 (rowC [c]) rfl rfl ?c1 (rowC_one [c]) (by decide) ?c3 ?c4 ?c5 ?_)
        case c1 => exact new_cells (w1.alloc (.cells #[.int .i64 c.kind, .int .i64 c.id, .int .i64 c.team, .float .f32 c.x, .float .f32 c.y, .int .i64 c.n] 90)) (rowC [c]) 90 (w1.heap.size + 1) (by simp)
        case c3 => unfold maxLen; omega
        case c4 => omega
        case c5 => simp; omega
        intro g cap' w2 hown hgr
        have O2 : Hid (w2.ownsRow w.heap.size 90 6 (.slice (some ⟨g, 0, none⟩) (cs ++ [c]).length cap') (cs ++ [c]).length (rowC (cs ++ [c]))) := by
          rw [rowC_append, List.length_append]; exact hown
        have K2 : Hid (Kept (fun _ => False) w w2) := by
          refine ((K1.out.calm2 (Kept.alloc w1 _)).calm2 (Kept.alloc _ _)).join (Kept.of_grown hgr) (fun _ _ e => e) (fun j hj e => ?_)
          have := (O1.out.lt j e.symm).1
          omega
        clear hown hgr O1 HO HK K1
        go_wp2
        go_roundw
        case rel =>
          refine ⟨some ⟨g, 0, none⟩, cap', cs ++ [c], by simp; omega, Or.inr (by simp; omega), ?_, by simp, by simp; omega, O2, K2⟩
          show _ = _
          have := HNX.out ⟨by omega, h64⟩
          rw [List.length_append, List.length_singleton]
          exact this
        case measure => simp [intOf]; omega
      · have hb3 : ¬ ((cs.length : Nat) : Int) < 64 := by omega
        go_wp2
        go_ret
        rw [← HEND.out (by omega)]
        exact ⟨p, cap, rfl, HO.out, HK.out⟩
    · have hb2 : ¬ ((k : Nat) : Int) < (zs.length : Int) := by omega
      go_wp2
      go_ret
      rw [← HEND.out (by omega)]
      exact ⟨p, cap, rfl, HO.out, HK.out⟩
end Go.Proofs.YtlfmfhmbkpnjbabGreatDoor

namespace Go.Proofs.YtlfmfhmbkpnjbabGreatDoor
open Go.RowKit

def feq (x y : Nat) : Bool := Op.floatEq .f32 x y
/-- The program's own equality of two entities. -/
def eqM (e m : Mob) : Bool := if e.id == m.id then (if e.team == m.team then (if feq e.x m.x then (if feq e.y m.y then (if feq e.vx m.vx then (if feq e.vy m.vy then e.health == m.health else false) else false) else false) else false) else false) else false

theorem part_int (xs : Array Value) (o : Nat) (v : Value) (h : xs[o]? = some v) (w : World) : (part 3 xs o).run Tryz.prog w = .ok v w := by
  simp [part, isAgg, run_underlying Tryz.underlying3, h]
theorem part_f32 (xs : Array Value) (o : Nat) (v : Value) (h : xs[o]? = some v) (w : World) : (part 61 xs o).run Tryz.prog w = .ok v w := by
  simp [part, isAgg, run_underlying Tryz.underlying61, h]
theorem eq_f32 (d : Nat) (x y : Nat) (w : World) : (Op.equalIn (d + 1) 61 (.float .f32 x) (.float .f32 y)).run Tryz.prog w = .ok (feq x y) w := by
  simp [Op.equalIn, run_underlying Tryz.underlying61, feq]
theorem eq_int (d : Nat) (x y : Int) (w : World) : (Op.equalIn (d + 1) 3 (.int .i64 x) (.int .i64 y)).run Tryz.prog w = .ok (x == y) w := run_equalIn_int w d 3 .i64 .i64 x y Tryz.underlying3
theorem eqF_cons (d : Nat) (xs ys : Array Value) (f : Field) (fs : List Field) (a b : Value) (r : Bool) (w : World) (hn : (f.name ≠ "_") = True) (h1 : (part f.type xs f.offset).run Tryz.prog w = .ok a w) (h2 : (part f.type ys f.offset).run Tryz.prog w = .ok b w) (h3 : (Op.equalIn d f.type a b).run Tryz.prog w = .ok r w) :
    (Op.eqFields d xs ys (f :: fs)).run Tryz.prog w = if r then (Op.eqFields d xs ys fs).run Tryz.prog w else .ok false w := by
  simp only [Op.eqFields, hn, if_true, Sem.run_bind, h1, h2, h3, Result.andThen_ok]
  cases r
  · simp
  · simp

set_option maxRecDepth 100000 in
theorem eql_mob (e m : Mob) (w : World) : (binOp .eql 63 (.agg #[.int .i64 e.id, .int .i64 e.team, .float .f32 e.x, .float .f32 e.y, .float .f32 e.vx, .float .f32 e.vy, .int .i64 e.health]) (.agg #[.int .i64 m.id, .int .i64 m.team, .float .f32 m.x, .float .f32 m.y, .float .f32 m.vx, .float .f32 m.vy, .int .i64 m.health])).run Tryz.prog w = .ok (.bool (eqM e m)) w := by
  rw [run_eql_struct, run_equalIn_agg w 9999 63 _ _ (by kernel_rfl) (by kernel_rfl)]
  rw [show (Tryz.prog.fieldsOf 63).toList = [{ name := "ID", type := 3, offset := 0, embedded := false, tag := "", pkgPath := "", byteOffset := 0 }, { name := "Team", type := 3, offset := 1, embedded := false, tag := "", pkgPath := "", byteOffset := 8 }, { name := "X", type := 61, offset := 2, embedded := false, tag := "", pkgPath := "", byteOffset := 16 }, { name := "Y", type := 61, offset := 3, embedded := false, tag := "", pkgPath := "", byteOffset := 20 }, { name := "VX", type := 61, offset := 4, embedded := false, tag := "", pkgPath := "", byteOffset := 24 }, { name := "VY", type := 61, offset := 5, embedded := false, tag := "", pkgPath := "", byteOffset := 28 }, { name := "Health", type := 3, offset := 6, embedded := false, tag := "", pkgPath := "", byteOffset := 32 }] from by kernel_rfl]
  rw [eqF_cons 9999 #[.int .i64 e.id, .int .i64 e.team, .float .f32 e.x, .float .f32 e.y, .float .f32 e.vx, .float .f32 e.vy, .int .i64 e.health] #[.int .i64 m.id, .int .i64 m.team, .float .f32 m.x, .float .f32 m.y, .float .f32 m.vx, .float .f32 m.vy, .int .i64 m.health] { name := "ID", type := 3, offset := 0, embedded := false, tag := "", pkgPath := "", byteOffset := 0 } [{ name := "Team", type := 3, offset := 1, embedded := false, tag := "", pkgPath := "", byteOffset := 8 }, { name := "X", type := 61, offset := 2, embedded := false, tag := "", pkgPath := "", byteOffset := 16 }, { name := "Y", type := 61, offset := 3, embedded := false, tag := "", pkgPath := "", byteOffset := 20 }, { name := "VX", type := 61, offset := 4, embedded := false, tag := "", pkgPath := "", byteOffset := 24 }, { name := "VY", type := 61, offset := 5, embedded := false, tag := "", pkgPath := "", byteOffset := 28 }, { name := "Health", type := 3, offset := 6, embedded := false, tag := "", pkgPath := "", byteOffset := 32 }] (.int .i64 e.id) (.int .i64 m.id) (e.id == m.id) w (by simp) (part_int #[.int .i64 e.id, .int .i64 e.team, .float .f32 e.x, .float .f32 e.y, .float .f32 e.vx, .float .f32 e.vy, .int .i64 e.health] 0 (.int .i64 e.id) rfl w) (part_int #[.int .i64 m.id, .int .i64 m.team, .float .f32 m.x, .float .f32 m.y, .float .f32 m.vx, .float .f32 m.vy, .int .i64 m.health] 0 (.int .i64 m.id) rfl w) (eq_int 9998 e.id m.id w)]
  rw [eqF_cons 9999 #[.int .i64 e.id, .int .i64 e.team, .float .f32 e.x, .float .f32 e.y, .float .f32 e.vx, .float .f32 e.vy, .int .i64 e.health] #[.int .i64 m.id, .int .i64 m.team, .float .f32 m.x, .float .f32 m.y, .float .f32 m.vx, .float .f32 m.vy, .int .i64 m.health] { name := "Team", type := 3, offset := 1, embedded := false, tag := "", pkgPath := "", byteOffset := 8 } [{ name := "X", type := 61, offset := 2, embedded := false, tag := "", pkgPath := "", byteOffset := 16 }, { name := "Y", type := 61, offset := 3, embedded := false, tag := "", pkgPath := "", byteOffset := 20 }, { name := "VX", type := 61, offset := 4, embedded := false, tag := "", pkgPath := "", byteOffset := 24 }, { name := "VY", type := 61, offset := 5, embedded := false, tag := "", pkgPath := "", byteOffset := 28 }, { name := "Health", type := 3, offset := 6, embedded := false, tag := "", pkgPath := "", byteOffset := 32 }] (.int .i64 e.team) (.int .i64 m.team) (e.team == m.team) w (by simp) (part_int #[.int .i64 e.id, .int .i64 e.team, .float .f32 e.x, .float .f32 e.y, .float .f32 e.vx, .float .f32 e.vy, .int .i64 e.health] 1 (.int .i64 e.team) rfl w) (part_int #[.int .i64 m.id, .int .i64 m.team, .float .f32 m.x, .float .f32 m.y, .float .f32 m.vx, .float .f32 m.vy, .int .i64 m.health] 1 (.int .i64 m.team) rfl w) (eq_int 9998 e.team m.team w)]
  rw [eqF_cons 9999 #[.int .i64 e.id, .int .i64 e.team, .float .f32 e.x, .float .f32 e.y, .float .f32 e.vx, .float .f32 e.vy, .int .i64 e.health] #[.int .i64 m.id, .int .i64 m.team, .float .f32 m.x, .float .f32 m.y, .float .f32 m.vx, .float .f32 m.vy, .int .i64 m.health] { name := "X", type := 61, offset := 2, embedded := false, tag := "", pkgPath := "", byteOffset := 16 } [{ name := "Y", type := 61, offset := 3, embedded := false, tag := "", pkgPath := "", byteOffset := 20 }, { name := "VX", type := 61, offset := 4, embedded := false, tag := "", pkgPath := "", byteOffset := 24 }, { name := "VY", type := 61, offset := 5, embedded := false, tag := "", pkgPath := "", byteOffset := 28 }, { name := "Health", type := 3, offset := 6, embedded := false, tag := "", pkgPath := "", byteOffset := 32 }] (.float .f32 e.x) (.float .f32 m.x) (feq e.x m.x) w (by simp) (part_f32 #[.int .i64 e.id, .int .i64 e.team, .float .f32 e.x, .float .f32 e.y, .float .f32 e.vx, .float .f32 e.vy, .int .i64 e.health] 2 (.float .f32 e.x) rfl w) (part_f32 #[.int .i64 m.id, .int .i64 m.team, .float .f32 m.x, .float .f32 m.y, .float .f32 m.vx, .float .f32 m.vy, .int .i64 m.health] 2 (.float .f32 m.x) rfl w) (eq_f32 9998 e.x m.x w)]
  rw [eqF_cons 9999 #[.int .i64 e.id, .int .i64 e.team, .float .f32 e.x, .float .f32 e.y, .float .f32 e.vx, .float .f32 e.vy, .int .i64 e.health] #[.int .i64 m.id, .int .i64 m.team, .float .f32 m.x, .float .f32 m.y, .float .f32 m.vx, .float .f32 m.vy, .int .i64 m.health] { name := "Y", type := 61, offset := 3, embedded := false, tag := "", pkgPath := "", byteOffset := 20 } [{ name := "VX", type := 61, offset := 4, embedded := false, tag := "", pkgPath := "", byteOffset := 24 }, { name := "VY", type := 61, offset := 5, embedded := false, tag := "", pkgPath := "", byteOffset := 28 }, { name := "Health", type := 3, offset := 6, embedded := false, tag := "", pkgPath := "", byteOffset := 32 }] (.float .f32 e.y) (.float .f32 m.y) (feq e.y m.y) w (by simp) (part_f32 #[.int .i64 e.id, .int .i64 e.team, .float .f32 e.x, .float .f32 e.y, .float .f32 e.vx, .float .f32 e.vy, .int .i64 e.health] 3 (.float .f32 e.y) rfl w) (part_f32 #[.int .i64 m.id, .int .i64 m.team, .float .f32 m.x, .float .f32 m.y, .float .f32 m.vx, .float .f32 m.vy, .int .i64 m.health] 3 (.float .f32 m.y) rfl w) (eq_f32 9998 e.y m.y w)]
  rw [eqF_cons 9999 #[.int .i64 e.id, .int .i64 e.team, .float .f32 e.x, .float .f32 e.y, .float .f32 e.vx, .float .f32 e.vy, .int .i64 e.health] #[.int .i64 m.id, .int .i64 m.team, .float .f32 m.x, .float .f32 m.y, .float .f32 m.vx, .float .f32 m.vy, .int .i64 m.health] { name := "VX", type := 61, offset := 4, embedded := false, tag := "", pkgPath := "", byteOffset := 24 } [{ name := "VY", type := 61, offset := 5, embedded := false, tag := "", pkgPath := "", byteOffset := 28 }, { name := "Health", type := 3, offset := 6, embedded := false, tag := "", pkgPath := "", byteOffset := 32 }] (.float .f32 e.vx) (.float .f32 m.vx) (feq e.vx m.vx) w (by simp) (part_f32 #[.int .i64 e.id, .int .i64 e.team, .float .f32 e.x, .float .f32 e.y, .float .f32 e.vx, .float .f32 e.vy, .int .i64 e.health] 4 (.float .f32 e.vx) rfl w) (part_f32 #[.int .i64 m.id, .int .i64 m.team, .float .f32 m.x, .float .f32 m.y, .float .f32 m.vx, .float .f32 m.vy, .int .i64 m.health] 4 (.float .f32 m.vx) rfl w) (eq_f32 9998 e.vx m.vx w)]
  rw [eqF_cons 9999 #[.int .i64 e.id, .int .i64 e.team, .float .f32 e.x, .float .f32 e.y, .float .f32 e.vx, .float .f32 e.vy, .int .i64 e.health] #[.int .i64 m.id, .int .i64 m.team, .float .f32 m.x, .float .f32 m.y, .float .f32 m.vx, .float .f32 m.vy, .int .i64 m.health] { name := "VY", type := 61, offset := 5, embedded := false, tag := "", pkgPath := "", byteOffset := 28 } [{ name := "Health", type := 3, offset := 6, embedded := false, tag := "", pkgPath := "", byteOffset := 32 }] (.float .f32 e.vy) (.float .f32 m.vy) (feq e.vy m.vy) w (by simp) (part_f32 #[.int .i64 e.id, .int .i64 e.team, .float .f32 e.x, .float .f32 e.y, .float .f32 e.vx, .float .f32 e.vy, .int .i64 e.health] 5 (.float .f32 e.vy) rfl w) (part_f32 #[.int .i64 m.id, .int .i64 m.team, .float .f32 m.x, .float .f32 m.y, .float .f32 m.vx, .float .f32 m.vy, .int .i64 m.health] 5 (.float .f32 m.vy) rfl w) (eq_f32 9998 e.vy m.vy w)]
  rw [eqF_cons 9999 #[.int .i64 e.id, .int .i64 e.team, .float .f32 e.x, .float .f32 e.y, .float .f32 e.vx, .float .f32 e.vy, .int .i64 e.health] #[.int .i64 m.id, .int .i64 m.team, .float .f32 m.x, .float .f32 m.y, .float .f32 m.vx, .float .f32 m.vy, .int .i64 m.health] { name := "Health", type := 3, offset := 6, embedded := false, tag := "", pkgPath := "", byteOffset := 32 } [] (.int .i64 e.health) (.int .i64 m.health) (e.health == m.health) w (by simp) (part_int #[.int .i64 e.id, .int .i64 e.team, .float .f32 e.x, .float .f32 e.y, .float .f32 e.vx, .float .f32 e.vy, .int .i64 e.health] 6 (.int .i64 e.health) rfl w) (part_int #[.int .i64 m.id, .int .i64 m.team, .float .f32 m.x, .float .f32 m.y, .float .f32 m.vx, .float .f32 m.vy, .int .i64 m.health] 6 (.int .i64 m.health) rfl w) (eq_int 9998 e.health m.health w)]
  have hnil : (Op.eqFields 9999 #[.int .i64 e.id, .int .i64 e.team, .float .f32 e.x, .float .f32 e.y, .float .f32 e.vx, .float .f32 e.vy, .int .i64 e.health] #[.int .i64 m.id, .int .i64 m.team, .float .f32 m.x, .float .f32 m.y, .float .f32 m.vx, .float .f32 m.vy, .int .i64 m.health] []).run Tryz.prog w = .ok true w := by simp [Op.eqFields]
  rw [hnil]
  unfold eqM
  cases (e.id == m.id)
  · rfl
  cases (e.team == m.team)
  · rfl
  cases feq e.x m.x
  · rfl
  cases feq e.y m.y
  · rfl
  cases feq e.vx m.vx
  · rfl
  cases feq e.vy m.vy
  · rfl
  cases (e.health == m.health)
  · rfl
  · rfl
set_option maxRecDepth 100000 in
theorem neq_mob (e m : Mob) (w : World) : (binOp .neq 63 (.agg #[.int .i64 e.id, .int .i64 e.team, .float .f32 e.x, .float .f32 e.y, .float .f32 e.vx, .float .f32 e.vy, .int .i64 e.health]) (.agg #[.int .i64 m.id, .int .i64 m.team, .float .f32 m.x, .float .f32 m.y, .float .f32 m.vx, .float .f32 m.vy, .int .i64 m.health])).run Tryz.prog w = .ok (.bool (!eqM e m)) w := by
  have h := eql_mob e m w
  rw [run_eql_struct] at h
  rw [run_neq_struct]
  cases hr : Sem.run Tryz.prog (Op.equalIn 10000 63 (.agg #[.int .i64 e.id, .int .i64 e.team, .float .f32 e.x, .float .f32 e.y, .float .f32 e.vx, .float .f32 e.vy, .int .i64 e.health]) (.agg #[.int .i64 m.id, .int .i64 m.team, .float .f32 m.x, .float .f32 m.y, .float .f32 m.vx, .float .f32 m.vy, .int .i64 m.health])) w with
  | ok b w' =>
    rw [hr] at h
    simp only [Result.andThen_ok, Result.ok.injEq, Value.bool.injEq] at h ⊢
    rw [h.1, h.2]; exact ⟨rfl, rfl⟩
  | halt x w' => rw [hr] at h; simp [Result.andThen] at h

theorem feq_self {v : Nat} (h : okV v) : feq v v = true := by
  have h1 : FloatKind.f32.format.order v v = some .eq := by
    unfold okV at h
    show (Ieee.single.read v).order (Ieee.single.read v) = _
    cases hr : Ieee.single.read v with
    | number s m i => simp [Ieee.Datum.order]
    | infinity s => simp [Ieee.Datum.order]
    | nan s t => rw [hr] at h; cases h
  show Op.floatEq .f32 v v = true
  unfold Op.floatEq
  rw [h1]; rfl
theorem okV_of {v : Nat} (h : isNum v) : okV v := by obtain ⟨s, m, e, hr⟩ := h; unfold okV; rw [hr]; rfl
theorem fine_eq {k : Nat} {m : Mob} (h : FineM k m) : eqM m m = true := by
  have h1 := feq_self (okV_of h.px)
  have h2 := feq_self (okV_of h.py)
  have h3 := feq_self h.vx
  have h4 := feq_self h.vy
  simp [eqM, h1, h2, h3, h4]

end Go.Proofs.YtlfmfhmbkpnjbabGreatDoor

namespace Go.Proofs.YtlfmfhmbkpnjbabGreatDoor
open Go.RowKit

set_option maxHeartbeats 2000000 in
set_option maxRecDepth 100000 in
theorem same_k (t t' : Int) (p p' : Option Addr) (cap cap' : Nat) (X X' : List Mob) (w : World) (h : Reads w p X) (h' : Reads w p' X') (hl : X.length ≤ 32) :
    Calls Tryz.prog 9 #[.agg #[.int .i64 t, .slice p X.length cap], .agg #[.int .i64 t', .slice p' X'.length cap']] w fun e w' => ∃ b, e = .returned (.bool b) ∧ (t = t' → X = X' → (∀ m ∈ X, eqM m m = true) → b = true) ∧ Kept (fun _ => False) w w' := by
  have HR := hide h
  have HR' := hide h'
  clear h h'
  have K0 := hide ((Kept.alloc w (.cells #[.int .i64 t, .slice p X.length cap] 34)).calm2 (Kept.alloc _ (.cells #[.int .i64 t', .slice p' X'.length cap'] 34)))
  have A0 : Hid (((w.alloc (.cells #[.int .i64 t, .slice p X.length cap] 34)).alloc (.cells #[.int .i64 t', .slice p' X'.length cap'] 34)).heap[w.heap.size]? = some (.cells #[.int .i64 t, .slice p X.length cap] 34 (0, 0))) := by
    show _ = _
    rw [(Kept.alloc (w.alloc (.cells #[.int .i64 t, .slice p X.length cap] 34)) (.cells #[.int .i64 t', .slice p' X'.length cap'] 34)).block _ (by simp) (fun e => e)]; exact heap_alloc_new w (.cells #[.int .i64 t, .slice p X.length cap] 34)
  have B0 : Hid (((w.alloc (.cells #[.int .i64 t, .slice p X.length cap] 34)).alloc (.cells #[.int .i64 t', .slice p' X'.length cap'] 34)).heap[w.heap.size + 1]? = some (.cells #[.int .i64 t', .slice p' X'.length cap'] 34 (0, 0))) := by
    have q := heap_alloc_new (w.alloc (.cells #[.int .i64 t, .slice p X.length cap] 34)) (.cells #[.int .i64 t', .slice p' X'.length cap'] 34)
    rw [show (w.alloc (.cells #[.int .i64 t, .slice p X.length cap] 34)).heap.size = w.heap.size + 1 from by simp] at q
    exact q
  by_cases ht : t = t'
  · subst ht
    have n0 : (t != t) = false := by simp
    by_cases hx : X.length = X'.length
    · have n1 : ((X.length : Int) != (X'.length : Int)) = false := by simp [hx]
      have HXL := hide hx
      clear hx
      go_enter Tryz.func9, Tryz.ntmps9
      go_wp2
      generalize (w.alloc (.cells #[.int .i64 t, .slice p X.length cap] 34)).alloc (.cells #[.int .i64 t, .slice p' X'.length cap'] 34) = W at *
      go_loopw [5] (fun a wr => ∃ i : Nat, i ≤ X.length ∧ a = .int .i64 i ∧ Hid (Kept (fun _ => False) W wr)) (fun a _ => X.length - (intOf a).toNat)
      case atStart => exact ⟨0, Nat.zero_le _, rfl, Kept.refl _ _⟩
      case round =>
        obtain ⟨i, hil, rfl, HK⟩ := hrel
        have AR : Hid (wr.heap[w.heap.size]? = some (.cells #[.int .i64 t, .slice p X.length cap] 34 (0, 0))) := by show _ = _; rw [HK.out.block _ (heap_lt A0.out) (fun e => e)]; exact A0.out
        have BR : Hid (wr.heap[w.heap.size + 1]? = some (.cells #[.int .i64 t, .slice p' X'.length cap'] 34 (0, 0))) := by show _ = _; rw [HK.out.block _ (heap_lt B0.out) (fun e => e)]; exact B0.out
        obtain ⟨a0, a1, -, -⟩ := two_cells AR.out
        obtain ⟨b0, b1, -, -⟩ := two_cells BR.out
        have KW := hide (K0.out.calm2 HK.out)
        by_cases hlt : i < X.length
        · have hlt' : i < X'.length := by have := HXL.out; omega
          obtain ⟨b, off, hp, hb, c0, c1, c2, c3, c4, c5, c6⟩ := (HR.out.calm KW.out).at i hlt
          obtain ⟨b', off', hp', hb', d0, d1, d2, d3, d4, d5, d6⟩ := (HR'.out.calm KW.out).at i hlt'
          have hne := neq_mob X[i] X'[i]
          have hb1 : (0 : Int) ≤ (i : Int) := by omega
          have hb2 : (i : Int) < (X.length : Int) := by omega
          have hb3 : (i : Int) < (X'.length : Int) := by omega
          subst hp
          subst hp'
          cases hq : eqM X[i] X'[i]
          · rw [hq] at hne
            have HF : Hid (X = X' → (∀ m ∈ X, eqM m m = true) → False) := fun e hm => by
              have h2 := hm X[i] (List.getElem_mem hlt)
              have h3 : X[i] = X'[i] := by simp [e]
              rw [← h3, h2] at hq
              cases hq
            clear hq
            go_wp2
            go_quiet (fail)
            go_wp2
            go_ret
            exact ⟨false, rfl, fun _ e hm => (HF.out e hm).elim, KW.out.calm2 (Kept.drewN _ _)⟩
          · rw [hq] at hne
            clear hq
            go_wp2
            go_quiet (fail)
            go_wp2
            go_roundw
            case rel => exact ⟨i + 1, by omega, by go_num, HK.out.calm2 (Kept.drewN _ _)⟩
            case measure => simp [intOf]; omega
        · go_wp2
          go_ret
          exact ⟨true, rfl, fun _ _ _ => rfl, KW.out⟩
    · have n1 : ((X.length : Int) != (X'.length : Int)) = true := by simp; omega
      go_enter Tryz.func9, Tryz.ntmps9
      go_wp2
      go_ret
      exact ⟨false, rfl, fun _ e _ => absurd (by rw [e]) hx, K0.out⟩
  · have n0 : (t != t') = true := by simp [ht]
    go_enter Tryz.func9, Tryz.ntmps9
    go_wp2
    go_ret
    exact ⟨false, rfl, fun e _ _ => absurd e ht, K0.out⟩
end Go.Proofs.YtlfmfhmbkpnjbabGreatDoor

namespace Go.Proofs.YtlfmfhmbkpnjbabGreatDoor
open Go.RowKit

/-- The ticks that came in, just these. -/
def RTZ (w : World) (q : Option Addr) (zss : List (List Int)) : Prop :=
  zss ≠ [] → ∃ b off, q = some ⟨b, off, none⟩ ∧ b < w.heap.size ∧ ∀ j zs, zss[j]? = some zs → ∃ pj cj, w.cell? ⟨b, off + j, none⟩ = some (.slice pj zs.length cj) ∧ ((zs.length : Nat) : Int) ≤ 9223372036854775807 ∧ RZ w pj zs
theorem RTZ.calm {w w' : World} {q : Option Addr} {zss : List (List Int)} (h : RTZ w q zss) (hk : Kept (fun _ => False) w w') : RTZ w' q zss := by
  intro hn
  obtain ⟨b, off, h1, h2, h3⟩ := h hn
  refine ⟨b, off, h1, Nat.lt_of_lt_of_le h2 hk.size, fun j zs hj => ?_⟩
  obtain ⟨pj, cj, q1, q2, q3⟩ := h3 j zs hj
  exact ⟨pj, cj, by rw [cell_keep hk h2 (fun e => e)]; exact q1, q2, q3.calm hk⟩

/-- The entities behind k ticks; the file behind k ticks. -/
noncomputable def mobsAt (css : List (List Cmd)) : Nat → List Mob
  | 0 => []
  | k + 1 => stepL (css.getD k []) (mobsAt css k)
noncomputable def fileAt (ev : Int) (css : List (List Cmd)) : Nat → List UInt8
  | 0 => lineL (firstW ev)
  | k + 1 => fileAt ev css k ++ lineL (tickW (css.getD k []) ((k : Int) + 1) (mobsAt css (k + 1)) ev)

theorem mobsAt_world (css : List (List Cmd)) (k : Nat) (hk : k ≤ 400) : worldB (k : Int) (mobsAt css k) = true := by
  induction k with
  | zero => exact worldB_true 0 [] ⟨by decide, by decide⟩ (fun j hj _ => absurd hj (Nat.not_lt_zero _))
  | succ n ih =>
    have := worldB_next (css.getD n []) (ih (by omega)) (by omega)
    rw [show ((n + 1 : Nat) : Int) = (n : Int) + 1 from rfl]
    exact this

theorem pick_small (c : Int) (m : Nat) (hm : 0 < m) (h2 : m ≤ 1000) : -9223372036854775808 ≤ (pickN_keep c m : Int) ∧ (pickN_keep c m : Int) ≤ 9223372036854775807 := by
  have := pickN_lt_keep c m hm
  omega
theorem cmdOf_int (zs : List Int) (i : Nat) : IntC (cmdOf zs i) := by
  have h1 := pickN_lt_keep (rawZ zs i) 4 (by decide)
  have h2 := pickN_lt_keep ((rawZ zs i).tdiv 4) 6 (by decide)
  have h3 := pickN_lt_keep ((rawZ zs i).tdiv 24) 2 (by decide)
  have h4 := pickN_lt_keep ((rawZ zs i).tdiv 48) 40 (by decide)
  unfold cmdOf
  split <;> constructor <;> dsimp only <;> omega
theorem cmdsOf_int (zs : List Int) : ∀ c ∈ cmdsOf zs, IntC c := by
  intro c hc
  simp only [cmdsOf, List.mem_map] at hc
  obtain ⟨k, _, rfl⟩ := hc
  exact cmdOf_int zs _
theorem cmdsOf_few (zs : List Int) : (cmdsOf zs).length ≤ 64 := by simp [cmdsOf]; omega
theorem mob_int {t : Int} {L : List Mob} (h : worldB t L = true) : ∀ m ∈ L, IntM m := by
  intro m hm
  have hf := (worldB_fine h).2.2.mob m hm
  have h1 := idB_in hf.id
  have h2 : m.team = 0 ∨ m.team = 1 := by have := hf.team; simpa [teamB] using this
  have h3 := hf.low
  have h4 := hf.high
  exact ⟨by omega, by omega, by omega⟩
theorem mob_same {t : Int} {L : List Mob} (h : worldB t L = true) : ∀ m ∈ L, eqM m m = true := fun m hm => fine_eq ((worldB_fine h).2.2.mob m hm)

theorem file_short (ev : Int) (css : List (List Cmd)) (k : Nat) (hk : k ≤ 60) (he : 1 ≤ ev ∧ ev ≤ 64) (h : ∀ cs ∈ css, cs.length ≤ 64 ∧ ∀ c ∈ cs, IntC c) : (fileAt ev css k).length ≤ 1000 + k * 15001 := by
  induction k with
  | zero =>
    have h1 := first_small ev he
    have h2 : (⟨(lineL (firstW ev)).toArray⟩ : ByteArray).size = (lineL (firstW ev)).length := by show (lineL (firstW ev)).toArray.size = _; simp
    have h3 := join_short (firstW ev) (by
      intro x hx
      simp only [firstW, List.mem_cons, List.not_mem_nil, or_false] at hx
      rcases hx with rfl | rfl
      · show (6 : Nat) ≤ 24; decide
      · exact itoaW_short ev (by omega))
    have h4 : (firstW ev).length = 2 := rfl
    rw [h4] at h3
    show (lineL (firstW ev)).length ≤ _
    unfold lineL
    simp only [List.length_append, List.length_cons, List.length_nil]
    omega
  | succ n ih =>
    have hw := mobsAt_world css (n + 1) (by omega)
    have hc : (css.getD n []).length ≤ 64 ∧ ∀ c ∈ css.getD n [], IntC c := by
      by_cases hn : n < css.length
      · rw [show css.getD n [] = css[n] from by simp [List.getD, hn]]
        exact h _ (List.getElem_mem hn)
      · rw [show css.getD n [] = [] from by simp [List.getD, List.getElem?_eq_none (show css.length ≤ n by omega)]]
        exact ⟨by simp, fun c hc => by cases hc⟩
    have := tick_short (css.getD n []) ((n : Int) + 1) (mobsAt css (n + 1)) ev hc.1 (worldB_fine hw).2.2.short hc.2 (mob_int hw)
    have := ih (by omega)
    show (fileAt ev css n ++ _).length ≤ _
    rw [List.length_append]
    omega
theorem file_pos (ev : Int) (css : List (List Cmd)) (k : Nat) : fileAt ev css k ≠ [] := by
  induction k with
  | zero => show lineL (firstW ev) ≠ []; unfold lineL; simp
  | succ n ih =>
    show fileAt ev css n ++ _ ≠ []
    simp [ih]

theorem Run.cells {w wr : World} {WS : List Wd} {g cap : Nat} (R : Run w wr WS (some ⟨g, 0, none⟩) cap) (i : Nat) (hi : i < WS.length) :
    g < wr.heap.size ∧ wr.cell? ⟨g, i * 2, none⟩ = some (.int .i64 WS[i].t) ∧ wr.cell? ⟨g, i * 2 + 1, none⟩ = some (.slice WS[i].p WS[i].L.length WS[i].cap) := by
  have h := fun j u hu => R.own.cells (g := g) rfl j u hu
  obtain ⟨r0, r1⟩ := rowW_get WS i hi
  have h0 := h _ _ r0
  have h1 := h _ _ r1
  rw [addr_add2, Nat.zero_add] at h0 h1
  exact ⟨(R.own.lt g rfl).2, h0, h1⟩
/-- What lies untouched. -/
theorem Run.keep {w wr w' : World} {S : Nat → Prop} {WS : List Wd} {g cap : Nat} (R : Run w wr WS (some ⟨g, 0, none⟩) cap) (k : Kept S wr w') (h1 : ∀ j, typ wr j 34 → ¬ S j) (h2 : ∀ j, typ wr j 63 → ¬ S j) (h3 : ∀ j, S j → w.heap.size ≤ j) : Run w w' WS (some ⟨g, 0, none⟩) cap :=
  ⟨owns_block R.own (fun j hj => k.block j (owns_lt R.own j hj) (h1 j (typ_own R.own j hj))), fun d hd => (R.ok d hd).keep k h2, R.tick, R.kept.join k (fun _ _ e => e) (fun j hj e => by have := h3 j e; omega)⟩
end Go.Proofs.YtlfmfhmbkpnjbabGreatDoor
