import Derived.Test.YtlfmfhmbkpnjbaaCmds
namespace Go.Proofs.Ytlfmfhmbkpnjbaa
open Go.RowKit

theorem four_cells {w : World} {c : Nat} {a b d e : Value} {T : TypeId} (h : w.heap[c]? = some (.cells #[a, b, d, e] T (0, 0))) : w.cell? ⟨c, 0, none⟩ = some a ∧ w.cell? ⟨c, 1, none⟩ = some b ∧ w.cell? ⟨c, 2, none⟩ = some d ∧ w.cell? ⟨c, 3, none⟩ = some e := by
  refine ⟨?_, ?_, ?_, ?_⟩ <;> rw [cell_block h] <;> rfl
theorem tri_cells {w : World} {c : Nat} {a b d : Value} {T : TypeId} (h : w.heap[c]? = some (.cells #[a, b, d] T (0, 0))) : w.cell? ⟨c, 0, none⟩ = some a ∧ w.cell? ⟨c, 1, none⟩ = some b ∧ w.cell? ⟨c, 2, none⟩ = some d := by
  refine ⟨?_, ?_, ?_⟩ <;> rw [cell_block h] <;> rfl
theorem new_calm {w w' : World} {o : Obj} (hk : Kept (fun _ => False) (w.alloc o) w') : w'.heap[w.heap.size]? = some o := new_kept hk (fun e => e)

set_option maxHeartbeats 1000000 in
set_option maxRecDepth 100000 in
theorem do_push_no (i : Int) (x y : Nat) (g : Nat) (L : List Mob) (cur : List Value) (w : World) (hb : pushB x y = false) (h : EntAt w g L cur) :
    Calls Try.prog 48 #[.iface 147 (.agg #[.int .i64 i, .float .f32 x, .float .f32 y]), .slice (some ⟨g, 0, none⟩) L.length 32] w (DoPost w g L) := by
  have H := hide h
  clear h
  go_enter Try.func48, Try.ntmps48
  go_wp2_with fail
  refine (pushIn_c _ _ _ _).mono ?_
  rintro e w1 ⟨rfl, q1⟩
  have K1 := hide q1
  clear q1
  go_wp2
  go_ret
  exact ⟨rfl, ⟨cur, H.out.calm K1.out⟩, K1.out.mono (fun _ _ e => e.elim)⟩

set_option maxHeartbeats 1000000 in
set_option maxRecDepth 100000 in
theorem do_hit_no (i n : Int) (g : Nat) (L : List Mob) (cur : List Value) (w : World) (hb : hitB n = false) (h : EntAt w g L cur) :
    Calls Try.prog 48 #[.iface 149 (.agg #[.int .i64 i, .int .i64 n]), .slice (some ⟨g, 0, none⟩) L.length 32] w (DoPost w g L) := by
  have H := hide h
  clear h
  go_enter Try.func48, Try.ntmps48
  go_wp2_with fail
  refine (hitIn_c _ _ _).mono ?_
  rintro e w1 ⟨rfl, q1⟩
  have K1 := hide q1
  clear q1
  go_wp2
  go_ret
  exact ⟨rfl, ⟨cur, H.out.calm K1.out⟩, K1.out.mono (fun _ _ e => e.elim)⟩

set_option maxHeartbeats 2000000 in
set_option maxRecDepth 100000 in
theorem do_push_none (i : Int) (x y : Nat) (g : Nat) (L : List Mob) (cur : List Value) (w : World) (hb : pushB x y = true) (hf : findB L i = false) (hr : Rises L) (h : EntAt w g L cur) :
    Calls Try.prog 48 #[.iface 147 (.agg #[.int .i64 i, .float .f32 x, .float .f32 y]), .slice (some ⟨g, 0, none⟩) L.length 32] w (DoPost w g (L)) := by
  have H := hide h
  have HR := hide hr
  have hsh := h.short
  clear h hr
  have hsf := store_float Try.prog
  have as_psh := as_ps
  have as_pph := as_pp
  go_enter Try.func48, Try.ntmps48
  go_wp2_with fail
  refine (pushIn_c _ _ _ _).mono ?_
  rintro e w1 ⟨rfl, q1⟩
  have K1 := hide q1
  clear q1
  go_wp2_with fail
  refine (find_c (some ⟨g, 0, none⟩) 32 i L _ (by omega) HR.out (H.out.reads.calm (K1.out.calm2 (Kept.alloc _ _)))).mono ?_
  rintro e w2 ⟨rfl, q2⟩
  have HB := hide (new_calm q2)
  have K2 := hide ((K1.out.calm2 (Kept.alloc _ _)).calm2 q2)
  have H2 := hide (H.out.calm K2.out)
  clear q2 as_psh as_pph
  go_wp2
  go_ret
  exact ⟨rfl, ⟨cur, H2.out⟩, K2.out.mono (fun _ _ e => e.elim)⟩

set_option maxHeartbeats 2000000 in
set_option maxRecDepth 100000 in
theorem do_hit_none (i n : Int) (g : Nat) (L : List Mob) (cur : List Value) (w : World) (hb : hitB n = true) (hf : findB L i = false) (hr : Rises L) (h : EntAt w g L cur) :
    Calls Try.prog 48 #[.iface 149 (.agg #[.int .i64 i, .int .i64 n]), .slice (some ⟨g, 0, none⟩) L.length 32] w (DoPost w g (L)) := by
  have H := hide h
  have HR := hide hr
  have hsh := h.short
  clear h hr
  have hsf := store_float Try.prog
  have as_hsh := as_hs
  have as_hph := as_hp
  have as_hhh := as_hh
  go_enter Try.func48, Try.ntmps48
  go_wp2_with fail
  refine (hitIn_c _ _ _).mono ?_
  rintro e w1 ⟨rfl, q1⟩
  have K1 := hide q1
  clear q1
  go_wp2_with fail
  refine (find_c (some ⟨g, 0, none⟩) 32 i L _ (by omega) HR.out (H.out.reads.calm (K1.out.calm2 (Kept.alloc _ _)))).mono ?_
  rintro e w2 ⟨rfl, q2⟩
  have HB := hide (new_calm q2)
  have K2 := hide ((K1.out.calm2 (Kept.alloc _ _)).calm2 q2)
  have H2 := hide (H.out.calm K2.out)
  clear q2 as_hsh as_hph as_hhh
  go_wp2
  go_ret
  exact ⟨rfl, ⟨cur, H2.out⟩, K2.out.mono (fun _ _ e => e.elim)⟩

set_option maxHeartbeats 2000000 in
set_option maxRecDepth 100000 in
theorem do_leave_none (i : Int) (g : Nat) (L : List Mob) (cur : List Value) (w : World) (hf : findB L i = false) (hr : Rises L) (h : EntAt w g L cur) :
    Calls Try.prog 48 #[.iface 151 (.agg #[.int .i64 i]), .slice (some ⟨g, 0, none⟩) L.length 32] w (DoPost w g (L)) := by
  have H := hide h
  have HR := hide hr
  have hsh := h.short
  clear h hr
  have hsf := store_float Try.prog
  have as_lsh := as_ls
  have as_lph := as_lp
  have as_lhh := as_lh
  have as_llh := as_ll
  go_enter Try.func48, Try.ntmps48
  go_wp2_with fail
  refine (leaveIn_c _ _).mono ?_
  rintro e w1 ⟨rfl, q1⟩
  have K1 := hide q1
  clear q1
  go_wp2_with fail
  refine (find_c (some ⟨g, 0, none⟩) 32 i L _ (by omega) HR.out (H.out.reads.calm (K1.out.calm2 (Kept.alloc _ _)))).mono ?_
  rintro e w2 ⟨rfl, q2⟩
  have HB := hide (new_calm q2)
  have K2 := hide ((K1.out.calm2 (Kept.alloc _ _)).calm2 q2)
  have H2 := hide (H.out.calm K2.out)
  clear q2 as_lsh as_lph as_lhh as_llh
  go_wp2
  go_ret
  exact ⟨rfl, ⟨cur, H2.out⟩, K2.out.mono (fun _ _ e => e.elim)⟩

set_option maxHeartbeats 2000000 in
set_option maxRecDepth 100000 in
theorem do_spawn_new (i t : Int) (x y : Nat) (g : Nat) (L : List Mob) (cur : List Value) (w : World) (hb : spawnB i t x y = true) (hf : findB L i = false) (hroom : L.length < 32) (hle : findI L i ≤ L.length) (hr : Rises L) (h : EntAt w g L cur) :
    Calls Try.prog 48 #[.iface 143 (.agg #[.int .i64 i, .int .i64 t, .float .f32 x, .float .f32 y]), .slice (some ⟨g, 0, none⟩) L.length 32] w (DoPost w g (L.take (findI L i) ++ newM i t x y :: L.drop (findI L i))) := by
  have H := hide h
  have HR := hide hr
  have hsh := h.short
  clear h hr
  have hsf := store_float Try.prog
  have as_ssh := as_ss
  go_enter Try.func48, Try.ntmps48
  go_wp2_with fail
  refine (spawnIn_c _ _ _ _ _).mono ?_
  rintro e w1 ⟨rfl, q1⟩
  have K1 := hide q1
  clear q1
  go_wp2_with fail
  refine (find_c (some ⟨g, 0, none⟩) 32 i L _ (by omega) HR.out (H.out.reads.calm (K1.out.calm2 (Kept.alloc _ _)))).mono ?_
  rintro e w2 ⟨rfl, q2⟩
  have HB := hide (new_calm q2)
  have K2 := hide ((K1.out.calm2 (Kept.alloc _ _)).calm2 q2)
  have H2 := hide (H.out.calm K2.out)
  clear q2 as_ssh
  obtain ⟨s0, s1, s2, s3⟩ := four_cells HB.out
  generalize findI L i = q at *
  go_wp2_with fail
  refine (entity_c i t x y _).mono ?_
  rintro e w3 ⟨rfl, q3⟩
  have K3 := hide ((K2.out.calm2 q3).calm2 (Kept.alloc w3 (.cells (rowM [newM i t x y]).toArray 57)))
  have HV := hide (heap_alloc_new w3 (.cells (rowM [newM i t x y]).toArray 57))
  have HN : Hid (w3.heap.size ≠ g) := by
    show _ ≠ _
    have h1 := heap_lt H2.out.blk
    have h2 := q3.size
    omega
  clear q3 s0 s1 s2 s3 HB
  go_wp2_with fail
  refine (insert_c g w3.heap.size q (newM i t x y) L cur _ hroom hle HN.out (H.out.calm K3.out) HV.out).mono ?_
  rintro e w4 ⟨rfl, q4, k4⟩
  have K4 := hide (And.intro q4 (K3.out.join k4 (R := fun k => k = g) (fun _ _ e => e.elim) (fun _ _ e => e)))
  clear q4 k4
  go_wp2
  go_ret
  refine ⟨ret1 ?_, K4.out.1, K4.out.2⟩
  have : (L.take q ++ newM i t x y :: L.drop q).length = L.length + 1 := by simp; omega
  rw [this]; rfl

set_option maxHeartbeats 2000000 in
set_option maxRecDepth 100000 in
theorem do_leave_there (i : Int) (g : Nat) (L : List Mob) (cur : List Value) (w : World) (hf : findB L i = true) (q : Nat) (hq : findI L i = q) (hql : q < L.length) (hr : Rises L) (h : EntAt w g L cur) :
    Calls Try.prog 48 #[.iface 151 (.agg #[.int .i64 i]), .slice (some ⟨g, 0, none⟩) L.length 32] w (DoPost w g (L.take q ++ L.drop (q + 1))) := by
  have H := hide h
  have HR := hide hr
  have hsh := h.short
  clear h hr
  have hsf := store_float Try.prog
  have as_lsh := as_ls
  have as_lph := as_lp
  have as_lhh := as_lh
  have as_llh := as_ll
  have a1 : IntKind.i64.wrap ((q : Int) + 1) = (q : Int) + 1 := wrap_id _ (by omega)
  go_enter Try.func48, Try.ntmps48
  go_wp2_with fail
  refine (leaveIn_c _ _).mono ?_
  rintro e w1 ⟨rfl, q1⟩
  have K1 := hide q1
  clear q1
  go_wp2_with fail
  refine (find_c (some ⟨g, 0, none⟩) 32 i L _ (by omega) HR.out (H.out.reads.calm (K1.out.calm2 (Kept.alloc _ _)))).mono ?_
  rintro e w2 ⟨rfl, q2⟩
  have HB := hide (new_calm q2)
  have K2 := hide ((K1.out.calm2 (Kept.alloc _ _)).calm2 q2)
  have H2 := hide (H.out.calm K2.out)
  clear q2 as_lsh as_lph as_lhh as_llh
  rw [hq]
  clear HB
  go_wp2_with fail
  refine (delete_c g q L cur _ hql H2.out).mono ?_
  rintro e w4 ⟨rfl, q4, k4⟩
  have K4 := hide (And.intro q4 (K2.out.join k4 (R := fun k => k = g) (fun _ _ e => e.elim) (fun _ _ e => e)))
  clear q4 k4
  go_wp2
  go_ret
  refine ⟨ret1 ?_, K4.out.1, K4.out.2⟩
  have : (L.take q ++ L.drop (q + 1)).length = L.length - 1 := by simp; omega
  rw [this]; rfl

set_option maxHeartbeats 2000000 in
set_option maxRecDepth 100000 in
theorem do_hit_there (i n : Int) (g : Nat) (L : List Mob) (cur : List Value) (w : World) (hb : hitB n = true) (hf : findB L i = true) (q : Nat) (hq : findI L i = q) (hql : q < L.length) (hin : -9223372036854775808 ≤ L[q].health - n ∧ L[q].health - n ≤ 9223372036854775807) (hr : Rises L) (h : EntAt w g L cur) :
    Calls Try.prog 48 #[.iface 149 (.agg #[.int .i64 i, .int .i64 n]), .slice (some ⟨g, 0, none⟩) L.length 32] w (DoPost w g (L.set q { L[q] with health := L[q].health - n })) := by
  have H := hide h
  have HR := hide hr
  have hsh := h.short
  clear h hr
  have hsf := store_float Try.prog
  have as_hsh := as_hs
  have as_hph := as_hp
  have as_hhh := as_hh
  have a1 : IntKind.i64.wrap (L[q].health - n) = L[q].health - n := wrap_id _ hin
  have a2 : (0 : Int) ≤ (q : Int) := by omega
  have a3 : (q : Int) < (L.length : Int) := by omega
  clear hin
  go_enter Try.func48, Try.ntmps48
  go_wp2_with fail
  refine (hitIn_c _ _ _).mono ?_
  rintro e w1 ⟨rfl, q1⟩
  have K1 := hide q1
  clear q1
  go_wp2_with fail
  refine (find_c (some ⟨g, 0, none⟩) 32 i L _ (by omega) HR.out (H.out.reads.calm (K1.out.calm2 (Kept.alloc _ _)))).mono ?_
  rintro e w2 ⟨rfl, q2⟩
  have HB := hide (new_calm q2)
  have K2 := hide ((K1.out.calm2 (Kept.alloc _ _)).calm2 q2)
  have H2 := hide (H.out.calm K2.out)
  clear q2 as_hsh as_hph as_hhh
  rw [hq]
  obtain ⟨s0, s1⟩ : w2.cell? ⟨w1.heap.size, 0, none⟩ = some (.int .i64 i) ∧ w2.cell? ⟨w1.heap.size, 1, none⟩ = some (.int .i64 n) := ⟨(two_cells HB.out).1, (two_cells HB.out).2.1⟩
  obtain ⟨c0, c1, c2, c3, c4, c5, c6⟩ := H2.out.at q hql
  have f6 := H2.out.warm (q * 7 + 6)
  clear HB c0 c1 c2 c3 c4 c5
  have HF : Hid (EntAt (w2.setCell ⟨g, q * 7 + 6, none⟩ (.int .i64 (L[q].health - n))) g (L.set q { L[q] with health := L[q].health - n }) (cur.set (q * 7 + 6) (.int .i64 (L[q].health - n)))) :=
    H2.out.store (q * 7 + 6) (.int .i64 (L[q].health - n)) (by simp) (sethealth L q hql _)
  go_wp2
  go_region
  all_goals
    go_wp2
    go_ret
    refine ⟨ret1 ?_, ⟨_, HF.out.calm (Kept.drew _)⟩, ((K2.out.join (Kept.setCell w2 _ _) (R := fun k => k = g) (fun _ _ e => e.elim) (fun _ _ e => e))).join (Kept.drew _) (fun _ _ e => e) (fun _ _ e => e.elim)⟩
    rw [List.length_set]; rfl

set_option maxHeartbeats 2000000 in
set_option maxRecDepth 100000 in
theorem do_push_there (i : Int) (x y : Nat) (g : Nat) (L : List Mob) (cur : List Value) (w : World) (hb : pushB x y = true) (hf : findB L i = true) (q : Nat) (hq : findI L i = q) (hql : q < L.length) (hx : isNum x) (hy : isNum y) (hvx : okV L[q].vx) (hvy : okV L[q].vy) (hr : Rises L) (h : EntAt w g L cur) :
    Calls Try.prog 48 #[.iface 147 (.agg #[.int .i64 i, .float .f32 x, .float .f32 y]), .slice (some ⟨g, 0, none⟩) L.length 32] w (DoPost w g (L.set q { L[q] with vx := fadd L[q].vx x, vy := fadd L[q].vy y })) := by
  have H := hide h
  have HR := hide hr
  have hsh := h.short
  clear h hr
  have hsf := store_float Try.prog
  have as_psh := as_ps
  have as_pph := as_pp
  have r1 : ∀ w, (binOp .add 54 (.float .f32 L[q].vx) (.float .f32 x)).run Try.prog w = .ok (.float .f32 (fadd L[q].vx x)) w := fun w => run_float_arith w .add _ .f32 _ _ _ (fadd_ok' hx hvx).1
  have r2 : ∀ w, (binOp .add 54 (.float .f32 L[q].vy) (.float .f32 y)).run Try.prog w = .ok (.float .f32 (fadd L[q].vy y)) w := fun w => run_float_arith w .add _ .f32 _ _ _ (fadd_ok' hy hvy).1
  have a2 : (0 : Int) ≤ (q : Int) := by omega
  have a3 : (q : Int) < (L.length : Int) := by omega
  go_enter Try.func48, Try.ntmps48
  go_wp2_with fail
  refine (pushIn_c _ _ _ _).mono ?_
  rintro e w1 ⟨rfl, q1⟩
  have K1 := hide q1
  clear q1
  go_wp2_with fail
  refine (find_c (some ⟨g, 0, none⟩) 32 i L _ (by omega) HR.out (H.out.reads.calm (K1.out.calm2 (Kept.alloc _ _)))).mono ?_
  rintro e w2 ⟨rfl, q2⟩
  have HB := hide (new_calm q2)
  have K2 := hide ((K1.out.calm2 (Kept.alloc _ _)).calm2 q2)
  have H2 := hide (H.out.calm K2.out)
  clear q2 as_psh as_pph
  rw [hq]
  obtain ⟨s0, s1, s2⟩ := tri_cells HB.out
  obtain ⟨c0, c1, c2, c3, c4, c5, c6⟩ := H2.out.at q hql
  have f4 := H2.out.warm (q * 7 + 4)
  clear c0 c1 c2 c3 c5 c6
  have HF : Hid (EntAt (w2.setCell ⟨g, q * 7 + 4, none⟩ (.float .f32 (fadd L[q].vx x))).drew g (L.set q { L[q] with vx := fadd L[q].vx x }) (cur.set (q * 7 + 4) (.float .f32 (fadd L[q].vx x)))) :=
    (H2.out.store (q * 7 + 4) (.float .f32 (fadd L[q].vx x)) (by simp) (setvx L q hql _)).calm (Kept.drew _)
  have HK : Hid (Kept (fun k => k = g) w2 (w2.setCell ⟨g, q * 7 + 4, none⟩ (.float .f32 (fadd L[q].vx x))).drew) := (Kept.setCell w2 _ _).join (Kept.drew _) (fun _ _ e => e) (fun _ _ e => e.elim)
  have hgw : Hid (w1.heap.size ≠ g) := by
    show _ ≠ _
    have h1 := heap_lt H.out.blk
    have h2 := K1.out.size
    omega
  go_wp2
  go_region
  all_goals
    clear c4 f4 s0 s1 s2
    generalize (w2.setCell ⟨g, q * 7 + 4, none⟩ (.float .f32 (fadd L[q].vx x))).drew = w3 at *
    obtain ⟨s0, s1, s2⟩ := tri_cells (show w3.heap[w1.heap.size]? = some (.cells #[.int .i64 i, .float .f32 x, .float .f32 y] 147 (0, 0)) by rw [HK.out.block _ (heap_lt HB.out) hgw.out]; exact HB.out)
    have hql1 : q < (L.set q { L[q] with vx := fadd L[q].vx x }).length := by simpa using hql
    obtain ⟨c0, c1, c2, c3, c4, c5, c6⟩ := HF.out.at q hql1
    have f5 := HF.out.warm (q * 7 + 5)
    have HG := hide (HF.out.store (q * 7 + 5) (.float .f32 (fadd L[q].vy y)) (by simp) (setvy _ q hql1 _))
    simp only [List.getElem_set_self] at c5
    clear c0 c1 c2 c3 c4 c6 HB
    go_wp2
    go_region
    all_goals
      go_wp2
      go_ret
      refine ⟨ret1 ?_, ?_, (((K2.out.join HK.out (R := fun k => k = g) (fun _ _ e => e.elim) (fun _ _ e => e))).join (Kept.setCell w3 _ _) (fun _ _ e => e) (fun _ _ e => e)).join (Kept.drew _) (fun _ _ e => e) (fun _ _ e => e.elim)⟩
      · rw [List.length_set]; rfl
      · have q := HG.out
        simp only [List.getElem_set_self, List.set_set] at q
        exact ⟨_, q.calm (Kept.drew _)⟩

end Go.Proofs.Ytlfmfhmbkpnjbaa
