import Derived.Test.YtlfmfhmbkpnjbaaGreatDoorAl18
import Derived.Test.YtlfmfhmbkpnjbaaGreatDoorAl16
import Derived.Test.YtlfmfhmbkpnjbaaGreatDoorAl9
import Derived.Test.YtlfmfhmbkpnjbaaGreatDoorAl1
import Derived.Test.YtlfmfhmbkpnjbaaGreatDoorRows
namespace Go.Proofs.YtlfmfhmbkpnjbaaGreatDoor
open Go.RowKit

/-- A command, done by the document. -/
theorem rdone_c (base k : Nat) (p : Option Addr) (cap : Nat) (L : List Mob) (c : Cmd) (w : World) (hk : k ≤ 64) (hF : Fine k L) (h : OwnE w base p cap L) (hbase : base ≤ w.heap.size) :
    Calls Tryz.prog 89 #[.slice p L.length cap, .agg #[.int .i64 c.kind, .int .i64 c.id, .int .i64 c.team, .float .f32 c.x, .float .f32 c.y, .int .i64 c.n]] w (DoneP w base p (doM L c)) := by
  have hsh := hF.short
  have hrs := rises_of hF.rises
  have hl : L.length ≤ 100 := by omega
  unfold doM
  split
  · rename_i k1
    split
    · rename_i q; exact done_put base p cap L c w hl h hbase hrs k1 q.2 q.1
    · rename_i q; exact done_noput base p cap L c w hl h hbase hrs k1 q
  · rename_i k1
    cases hf : findB L c.id
    · have e := done_none base p cap L c w hl h hbase hrs k1 hf
      simp only [Bool.false_eq_true, and_false, if_false]
      split
      · exact e
      · split
        · exact e
        · split <;> exact e
    · simp only [and_true, if_true]
      have hql := findB_lt hf
      have hm := hF.mob L[findI L c.id] (List.getElem_mem hql)
      split
      · rename_i k2
        split
        · rename_i q
          rw [setAt_eq _ _ _ hql]
          exact done_push base p cap L c w hl h hbase hrs k2 hf q hql hm.vx hm.vy
        · rename_i q; exact done_nopush base p cap L c w hl h hbase hrs k2 hf (by simpa using q)
      · rename_i k2
        split
        · rename_i k3
          split
          · rename_i q
            rw [setAt_eq _ _ _ hql]
            exact done_hit base p cap L c w hl h hbase hrs k3 hf q hql ⟨by have := hm.low; omega, hm.high⟩
          · rename_i q; exact done_nohit base p cap L c w hl h hbase hrs k3 hf (by simpa using q)
        · rename_i k3
          split
          · rename_i k4; exact done_leave base p cap L c w hl h hbase hrs k4 hf
          · rename_i k4; exact done_other base p cap L c w hl h hbase hrs k1 k2 k3 k4 hf

set_option maxHeartbeats 4000000 in
set_option maxRecDepth 100000 in
theorem rstep_bad (t : Int) (p pc : Option Addr) (cap n capc : Nat) (L : List Mob) (w : World) (hl : (L.length : Int) ≤ 4611686018427387903) (h : Reads w p L) (hb : worldB t L = false) :
    Calls Tryz.prog 58 #[.agg #[.int .i64 t, .slice p L.length cap], .slice pc n capc] w fun e w' =>
      e = .returned (.tuple #[.agg #[.int .i64 0, .slice none 0 0], .int .i64 2]) ∧ Kept (fun _ => False) w w' := by
  have HR := hide h
  clear h
  have LT := hide (laid_two w t (.slice p L.length cap))
  go_enter Tryz.func58, Tryz.ntmps58
  go_wp2_with fail
  refine (worldOK_c t p cap L _ (by omega) (HR.out.calm LT.out.1)).mono ?_
  rw [hb]
  rintro e w1 ⟨rfl, q1⟩
  have K1 := hide (LT.out.1.calm2 q1)
  have A1 : Hid (w1.heap[w.heap.size]? = some (.cells #[.int .i64 t, .slice p L.length cap] 38 (0, 0))) := by show _ = _; rw [q1.block _ (heap_lt LT.out.2.1) (fun e => e)]; exact LT.out.2.1
  have B1 : Hid (w1.heap[w.heap.size + 1]? = some (.cells #[.int .i64 0, .slice none 0 0] 38 (0, 0))) := by show _ = _; rw [q1.block _ (heap_lt LT.out.2.2) (fun e => e)]; exact LT.out.2.2
  clear q1 LT
  obtain ⟨a0, a1, -, -⟩ := two_cells A1.out
  obtain ⟨c0, c1, f0, f1⟩ := two_cells B1.out
  obtain ⟨d0, d1, -, -⟩ := two_cells (two_sets B1.out (.int .i64 0) (.slice none 0 0))
  go_wp2
  refine bodyPost_ret (v := .tuple #[.agg #[.int .i64 0, .slice none 0 0], .int .i64 2]) (by simp [results, Tryz.results58, go_sem, d0, d1]) rfl ?_
  exact ⟨rfl, two_kept K1.out (by omega) _ _⟩

set_option maxHeartbeats 4000000 in
set_option maxRecDepth 100000 in
theorem rstep_last (p pc : Option Addr) (cap n capc : Nat) (L : List Mob) (w : World) (hl : (L.length : Int) ≤ 4611686018427387903) (h : Reads w p L) (hb : worldB 500 L = true) :
    Calls Tryz.prog 58 #[.agg #[.int .i64 500, .slice p L.length cap], .slice pc n capc] w fun e w' =>
      e = .returned (.tuple #[.agg #[.int .i64 0, .slice none 0 0], .int .i64 2]) ∧ Kept (fun _ => False) w w' := by
  have HR := hide h
  clear h
  have LT := hide (laid_two w 500 (.slice p L.length cap))
  go_enter Tryz.func58, Tryz.ntmps58
  go_wp2_with fail
  refine (worldOK_c 500 p cap L _ (by omega) (HR.out.calm LT.out.1)).mono ?_
  rw [hb]
  rintro e w1 ⟨rfl, q1⟩
  have K1 := hide (LT.out.1.calm2 q1)
  have A1 : Hid (w1.heap[w.heap.size]? = some (.cells #[.int .i64 500, .slice p L.length cap] 38 (0, 0))) := by show _ = _; rw [q1.block _ (heap_lt LT.out.2.1) (fun e => e)]; exact LT.out.2.1
  have B1 : Hid (w1.heap[w.heap.size + 1]? = some (.cells #[.int .i64 0, .slice none 0 0] 38 (0, 0))) := by show _ = _; rw [q1.block _ (heap_lt LT.out.2.2) (fun e => e)]; exact LT.out.2.2
  clear q1 LT
  obtain ⟨a0, a1, -, -⟩ := two_cells A1.out
  obtain ⟨c0, c1, f0, f1⟩ := two_cells B1.out
  obtain ⟨d0, d1, -, -⟩ := two_cells (two_sets B1.out (.int .i64 0) (.slice none 0 0))
  go_wp2
  refine bodyPost_ret (v := .tuple #[.agg #[.int .i64 0, .slice none 0 0], .int .i64 2]) (by simp [results, Tryz.results58, go_sem, d0, d1]) rfl ?_
  exact ⟨rfl, two_kept K1.out (by omega) _ _⟩

set_option maxHeartbeats 4000000 in
set_option maxRecDepth 100000 in
theorem rstep_many (t : Int) (p pc : Option Addr) (cap n capc : Nat) (L : List Mob) (w : World) (hl : (L.length : Int) ≤ 4611686018427387903) (h : Reads w p L) (hb : worldB t L = true) (ht : t ≠ 500) (hn : 64 < n) :
    Calls Tryz.prog 58 #[.agg #[.int .i64 t, .slice p L.length cap], .slice pc n capc] w fun e w' =>
      e = .returned (.tuple #[.agg #[.int .i64 0, .slice none 0 0], .int .i64 1]) ∧ Kept (fun _ => False) w w' := by
  have HR := hide h
  clear h
  have ht' : (t == 500) = false := by simp [ht]
  have hn' : (64 : Int) < (n : Int) := by omega
  have LT := hide (laid_two w t (.slice p L.length cap))
  go_enter Tryz.func58, Tryz.ntmps58
  go_wp2_with fail
  refine (worldOK_c t p cap L _ (by omega) (HR.out.calm LT.out.1)).mono ?_
  rw [hb]
  rintro e w1 ⟨rfl, q1⟩
  have K1 := hide (LT.out.1.calm2 q1)
  have A1 : Hid (w1.heap[w.heap.size]? = some (.cells #[.int .i64 t, .slice p L.length cap] 38 (0, 0))) := by show _ = _; rw [q1.block _ (heap_lt LT.out.2.1) (fun e => e)]; exact LT.out.2.1
  have B1 : Hid (w1.heap[w.heap.size + 1]? = some (.cells #[.int .i64 0, .slice none 0 0] 38 (0, 0))) := by show _ = _; rw [q1.block _ (heap_lt LT.out.2.2) (fun e => e)]; exact LT.out.2.2
  clear q1 LT
  obtain ⟨a0, a1, -, -⟩ := two_cells A1.out
  obtain ⟨c0, c1, f0, f1⟩ := two_cells B1.out
  obtain ⟨d0, d1, -, -⟩ := two_cells (two_sets B1.out (.int .i64 0) (.slice none 0 0))
  go_wp2
  refine bodyPost_ret (v := .tuple #[.agg #[.int .i64 0, .slice none 0 0], .int .i64 1]) (by simp [results, Tryz.results58, go_sem, d0, d1]) rfl ?_
  exact ⟨rfl, two_kept K1.out (by omega) _ _⟩

theorem take_step (M : List Mob) (i : Nat) (hi : i < M.length) : (keepL (M.take (i + 1))).map moveM = (keepL (M.take i)).map moveM ++ (if liveB M[i] = true then [moveM M[i]] else []) := by
  rw [take_keep M i hi, List.map_append]
  congr 1
  split <;> rfl

theorem seven_two {w : World} {c : Nat} {a b d e f g k : Value} {T : TypeId} (h : w.heap[c]? = some (.cells #[a, b, d, e, f, g, k] T (0, 0))) (u v : Value) :
    ((w.setCell ⟨c, 2, none⟩ u).setCell ⟨c, 4, none⟩ v).heap[c]? = some (.cells #[a, b, u, e, v, g, k] T (0, 0)) ∧ ((w.setCell ⟨c, 3, none⟩ u).setCell ⟨c, 5, none⟩ v).heap[c]? = some (.cells #[a, b, d, u, f, v, k] T (0, 0)) := by
  have one : ∀ (w : World) (xs : Array Value) (j : Nat) (u : Value), w.heap[c]? = some (.cells xs T (0, 0)) → (w.setCell ⟨c, j, none⟩ u).heap[c]? = some (.cells (xs.setIfInBounds j u) T (0, 0)) := fun w xs j u h => by
    rw [setCell_eq_setRow w c j _ T (0, 0) u h]
    exact setRow_heap w c xs (xs.setIfInBounds j u) T (0, 0) h
  exact ⟨one _ _ 4 v (one _ _ 2 u h), one _ _ 5 v (one _ _ 3 u h)⟩
theorem kept_two (w : World) (c i j : Nat) (u v : Value) : Kept (fun k => k = c) w ((w.setCell ⟨c, i, none⟩ u).setCell ⟨c, j, none⟩ v) := (Kept.setCell w _ u).join (Kept.setCell _ _ v) (fun _ _ e => e) (fun _ _ e => e)

set_option maxHeartbeats 8000000 in
set_option maxRecDepth 100000 in
theorem rstep_ok (t : Int) (p pc : Option Addr) (cap capc : Nat) (L : List Mob) (cs : List Cmd) (w : World) (h : Reads w p L) (hp : p = none → cap = 0) (hc : ReadsC w pc cs) (hb : worldB t L = true) (ht : t ≠ 500) (hn : cs.length ≤ 64) :
    Calls Tryz.prog 58 #[.agg #[.int .i64 t, .slice p L.length cap], .slice pc cs.length capc] w fun e w' =>
      ∃ q cq, e = .returned (.tuple #[.agg #[.int .i64 (t + 1), .slice q (stepL cs L).length cq], .int .i64 0]) ∧ OwnE w' w.heap.size q cq (stepL cs L) ∧ Kept (fun _ => False) w w' := by
  obtain ⟨ht0, ht1, hF⟩ := worldB_fine hb
  have hsh := hF.short
  have HF := hide hF
  have HR := hide h
  have HC := hide hc
  have HP := hide hp
  have hsf := store_float Tryz.prog
  have ht' : (t == 500) = false := by simp [ht]
  have hn' : ¬ (64 : Int) < (cs.length : Int) := by omega
  have htw : IntKind.i64.wrap (t + 1) = t + 1 := wrap_id _ (by omega)
  clear h hc hp ht hF
  have LT := hide (laid_two w t (.slice p L.length cap))
  go_enter Tryz.func58, Tryz.ntmps58
  go_wp2_with fail
  refine (worldOK_c t p cap L _ (by omega) (HR.out.calm LT.out.1)).mono ?_
  rw [hb]
  rintro e w1 ⟨rfl, q1⟩
  have K1 := hide (LT.out.1.calm2 q1)
  have A1 : Hid (w1.heap[w.heap.size]? = some (.cells #[.int .i64 t, .slice p L.length cap] 38 (0, 0))) := by show _ = _; rw [q1.block _ (heap_lt LT.out.2.1) (fun e => e)]; exact LT.out.2.1
  have B1 : Hid (w1.heap[w.heap.size + 1]? = some (.cells #[.int .i64 0, .slice none 0 0] 38 (0, 0))) := by show _ = _; rw [q1.block _ (heap_lt LT.out.2.2) (fun e => e)]; exact LT.out.2.2
  clear q1 LT
  obtain ⟨a0, a1, -, -⟩ := two_cells A1.out
  go_wp2_with (at_builtin; refine wpList_append_list _ rfl (.tmp 26) (.tmp 28) rfl w1.heap.size none 0 [] rfl (OwnE.nil _ _) p cap L rfl HP.out (HR.out.calm K1.out) (by simp; omega) (Nat.le_refl _) ?_)
  intro p0 cp0 w2 R0 HR0 O2 HK2
  have hR0 : L = R0 := by simpa using HR0.out.symm
  subst hR0
  have K12 : Hid (Kept (fun _ => False) w1 w2) := HK2.out.mono (fun _ _ e => by obtain ⟨_, e⟩ := e; cases e)
  clear HR0 HK2 a0 a1
  go_wp2
  go_loopw [7, 8] (fun s a wr => ∃ i : Nat, ∃ p' cap', i ≤ cs.length ∧ a = .int .i64 i ∧ s = .slice p' ((cs.take i).foldl doM L).length cap' ∧ Hid (OwnE wr w1.heap.size p' cap' ((cs.take i).foldl doM L)) ∧ Hid (Kept (fun _ => False) w1 wr)) (fun _ a _ => cs.length - (intOf a).toNat)
  case atStart => exact ⟨0, p0, cp0, Nat.zero_le _, rfl, rfl, O2, K12⟩
  case round =>
    obtain ⟨i, p', cap', hil, rfl, rfl, HE, HK⟩ := hrel
    clear O2 K12
    have HKW := hide (K1.out.calm2 HK.out)
    have hsz1 := HK.out.size
    by_cases hlt : i < cs.length
    · obtain ⟨b, off, rfl, hb', c0, c1, c2, c3, c4, c5⟩ := (HC.out.calm HKW.out).at i hlt
      have hFi := fold_fine (cs.take i) L HF.out
      rw [List.length_take, show 0 + min i cs.length = i from by omega] at hFi
      have HFi := hide hFi
      have HT := hide (fold_take cs L i hlt)
      clear hFi
      generalize (cs.take i).foldl doM L = Li at *
      have hb1 : (0 : Int) ≤ (i : Int) := by omega
      have hb2 : (i : Int) < (cs.length : Int) := by omega
      go_wp2_with fail
      refine (rdone_c w1.heap.size i p' cap' Li cs[i] wr (by omega) HFi.out HE.out hsz1).mono ?_
      rintro e w3 ⟨p3, cp3, rfl, o3, k3⟩
      have O3 := hide o3
      have K3 : Hid (Kept (fun _ => False) w1 w3) := HK.out.join k3 (fun _ _ e => e) (fun j hj e => by have := (HE.out.lt j e).1; omega)
      clear o3 k3 c0 c1 c2 c3 c4 c5
      go_wp2
      go_roundw
      case rel => exact ⟨i + 1, p3, cp3, by omega, by go_num, by rw [HT.out], by rw [HT.out]; exact O3, K3⟩
      case measure => simp [intOf]; omega
    · obtain rfl : i = cs.length := by omega
      rw [List.take_length] at HE
      rw [List.take_length]
      have hFM := fold_fine cs L HF.out
      have HFM := hide hFM
      have hMl := hFM.short
      clear hFM
      have HSL : Hid (stepL cs L = (keepL (cs.foldl doM L)).map moveM) := rfl
      generalize cs.foldl doM L = M at *
      have A2 : Hid (wr.heap[w.heap.size]? = some (.cells #[.int .i64 t, .slice p L.length cap] 38 (0, 0))) := by show _ = _; rw [HK.out.block _ (heap_lt A1.out) (fun e => e)]; exact A1.out
      have B2 : Hid (wr.heap[w.heap.size + 1]? = some (.cells #[.int .i64 0, .slice none 0 0] 38 (0, 0))) := by show _ = _; rw [HK.out.block _ (heap_lt B1.out) (fun e => e)]; exact B1.out
      obtain ⟨a0, a1, -, -⟩ := two_cells A2.out
      have KO := hide (Kept.alloc wr (.cells #[.int .i64 (t + 1), .slice none 0 0] 38))
      have HOB := hide (heap_alloc_new wr (.cells #[.int .i64 (t + 1), .slice none 0 0] 38))
      go_wp2
      clear a0 a1
      generalize wr.alloc (.cells #[.int .i64 (t + 1), .slice none 0 0] 38) = W at *
      have hWB := heap_lt B2.out
      have hWo := heap_lt HOB.out
      generalize hob : wr.heap.size = ob at *
      have HM : Hid (OwnE W w1.heap.size p' cap' M) := HE.out.calm KO.out
      have KW := hide (HKW.out.calm2 KO.out)
      have B3 : Hid (W.heap[w.heap.size + 1]? = some (.cells #[.int .i64 0, .slice none 0 0] 38 (0, 0))) := by show _ = _; rw [KO.out.block _ (by omega) (fun e => e)]; exact B2.out
      have hMo : Hid (∀ j, HB p' j → j < ob) := fun j hj => by have := (HE.out.lt j hj).2; omega
      clear HE A2 B2 KO HK A1 B1
      go_loopw [10] (fun a wr => ∃ i : Nat, ∃ q cq, ∃ X : List Mob, i ≤ M.length ∧ a = .int .i64 i ∧ Hid (X = (keepL (M.take i)).map moveM) ∧ Hid (wr.heap[ob]? = some (.cells #[.int .i64 (t + 1), .slice q X.length cq] 38 (0, 0))) ∧ Hid (OwnE wr W.heap.size q cq X) ∧ Hid (Kept (fun k => k = ob) W wr)) (fun a _ => M.length - (intOf a).toNat)
      case atStart => exact ⟨0, none, 0, [], Nat.zero_le _, rfl, rfl, HOB, OwnE.nil _ _, Kept.refl _ _⟩
      case round =>
        clear HOB
        obtain ⟨i, q, cq, X, hil, rfl, HX, HO, HE, HK⟩ := hrel
        have hXl : X.length ≤ 32 := by rw [HX.out, List.length_map]; exact Nat.le_trans (List.length_filter_le _ _) (by rw [List.length_take]; omega)
        have hsR := HK.out.size
        by_cases hlt : i < M.length
        · have HMr : Hid (OwnE wr w1.heap.size p' cap' M) := HM.out.keep HK.out (fun j hj e => by have := hMo.out j hj; omega)
          obtain ⟨b, off, rfl, hbs, c0, c1, c2, c3, c4, c5, c6⟩ := HMr.out.reads.at i hlt
          have hm := HFM.out.mob M[i] (List.getElem_mem hlt)
          have HTS := hide (take_step M i hlt)
          have hb1 : (0 : Int) ≤ (i : Int) := by omega
          have hb2 : (i : Int) < (M.length : Int) := by omega
          have KN := hide (Kept.alloc wr (.cells #[.int .i64 M[i].id, .int .i64 M[i].team, .float .f32 M[i].x, .float .f32 M[i].y, .float .f32 M[i].vx, .float .f32 M[i].vy, .int .i64 M[i].health] 83))
          have HN := hide (heap_alloc_new wr (.cells #[.int .i64 M[i].id, .int .i64 M[i].team, .float .f32 M[i].x, .float .f32 M[i].y, .float .f32 M[i].vx, .float .f32 M[i].vy, .int .i64 M[i].health] 83))
          have hor := heap_lt HO.out
          cases hlv : liveB M[i]
          · rw [hlv] at HTS
            simp only [Bool.false_eq_true, if_false, List.append_nil] at HTS
            have hle : M[i].health ≤ 0 := by simpa [liveB] using hlv
            go_wp2
            go_roundw
            case rel =>
              refine ⟨i + 1, q, cq, X, by omega, by go_num, (by show _ = _; rw [HTS.out]; exact HX.out), ?_, ?_, ?_⟩
              · show _ = _
                rw [KN.out.block _ hor (fun e => e)]; exact HO.out
              · exact HE.out.calm KN.out
              · exact HK.out.join KN.out (fun _ _ e => e) (fun _ _ e => e.elim)
            case measure => simp [intOf]; omega
          · rw [hlv] at HTS
            simp only [if_true] at HTS
            have hle : ¬ M[i].health ≤ 0 := by simpa [liveB] using hlv
            have MX := fun w => rmove_c M[i].x M[i].vx w hm.px hm.vx
            have MY := fun w => rmove_c M[i].y M[i].vy w hm.py hm.vy
            obtain ⟨n0, n1, n2, n3, n4, n5, n6⟩ := seven_cells HN.out
            clear hm hlv
            generalize M[i] = mi at *
            obtain ⟨o0, o1, fo0, fo1⟩ := two_cells HO.out
            go_wp2_with fail
            refine (MX _).mono ?_
            rintro e w4 ⟨rfl, rfl⟩
            have H2 := hide (seven_two HN.out (.float .f32 (movedF mi.x mi.vx).1) (.float .f32 (movedF mi.x mi.vx).2)).1
            generalize wr.alloc (.cells #[.int .i64 mi.id, .int .i64 mi.team, .float .f32 mi.x, .float .f32 mi.y, .float .f32 mi.vx, .float .f32 mi.vy, .int .i64 mi.health] 83) = wa at *
            have ffz : ∀ j, wa.frozen? ⟨wr.heap.size, j, none⟩ = false := fun j => by simp [World.frozen?, HN.out]
            go_wp2_with fail
            refine (MY _).mono ?_
            rintro e w4 ⟨rfl, rfl⟩
            have K2 := hide (kept_two wa wr.heap.size 2 4 (.float .f32 (movedF mi.x mi.vx).1) (.float .f32 (movedF mi.x mi.vx).2))
            have H3 := hide (seven_two H2.out (.float .f32 (movedF mi.y mi.vy).1) (.float .f32 (movedF mi.y mi.vy).2)).2
            clear n0 n1 n2 n3 n4 n5 n6 ffz MX MY
            generalize (wa.setCell ⟨wr.heap.size, 2, none⟩ (.float .f32 (movedF mi.x mi.vx).1)).setCell ⟨wr.heap.size, 4, none⟩ (.float .f32 (movedF mi.x mi.vx).2) = wb at *
            have ffz : ∀ j, wb.frozen? ⟨wr.heap.size, j, none⟩ = false := fun j => by simp [World.frozen?, H2.out]
            obtain ⟨n0, n1, n2, n3, n4, n5, n6⟩ := seven_cells H2.out
            obtain ⟨z0, z1, z2, z3, z4, z5, z6⟩ := seven_cells H3.out
            have Kb : Hid (Kept (fun _ => False) wr wb) := KN.out.join K2.out (fun _ _ e => e) (fun j hj e => by omega)
            have Kc : Hid (Kept (fun _ => False) wr ((wb.setCell ⟨wr.heap.size, 3, none⟩ (.float .f32 (movedF mi.y mi.vy).1)).setCell ⟨wr.heap.size, 5, none⟩ (.float .f32 (movedF mi.y mi.vy).2))) := Kb.out.join (kept_two wb wr.heap.size 3 5 _ _) (fun _ _ e => e) (fun j hj e => by omega)
            have HOc : Hid (((wb.setCell ⟨wr.heap.size, 3, none⟩ (.float .f32 (movedF mi.y mi.vy).1)).setCell ⟨wr.heap.size, 5, none⟩ (.float .f32 (movedF mi.y mi.vy).2)).heap[ob]? = some (.cells #[.int .i64 (t + 1), .slice q X.length cq] 38 (0, 0))) := by show _ = _; rw [Kc.out.block _ hor (fun e => e)]; exact HO.out
            clear o0 o1 fo0 fo1
            obtain ⟨o0, o1, fo0, fo1⟩ := two_cells HOc.out
            have RN : Hid (Reads (((wb.setCell ⟨wr.heap.size, 3, none⟩ (.float .f32 (movedF mi.y mi.vy).1)).setCell ⟨wr.heap.size, 5, none⟩ (.float .f32 (movedF mi.y mi.vy).2)).alloc (.cells #[.int .i64 mi.id, .int .i64 mi.team, .float .f32 (movedF mi.x mi.vx).1, .float .f32 (movedF mi.y mi.vy).1, .float .f32 (movedF mi.x mi.vx).2, .float .f32 (movedF mi.y mi.vy).2, .int .i64 mi.health] 83)) (some ⟨wb.heap.size, 0, none⟩) [moveM mi]) := by
              have h1 : ((wb.setCell ⟨wr.heap.size, 3, none⟩ (.float .f32 (movedF mi.y mi.vy).1)).setCell ⟨wr.heap.size, 5, none⟩ (.float .f32 (movedF mi.y mi.vy).2)).heap.size = wb.heap.size := by simp
              have h2 := block_reads (M := [moveM mi]) (heap_alloc_new ((wb.setCell ⟨wr.heap.size, 3, none⟩ (.float .f32 (movedF mi.y mi.vy).1)).setCell ⟨wr.heap.size, 5, none⟩ (.float .f32 (movedF mi.y mi.vy).2)) (.cells (rowM [moveM mi]).toArray 83))
              rw [h1] at h2
              exact h2
            have hsw := Kb.out.size
            go_wp2_with (at_builtin; refine wpList_append_list _ rfl (.tmp 80) (.tmp 82) rfl W.heap.size q cq X rfl (HE.out.calm (Kc.out.calm2 (Kept.alloc _ _))) (some ⟨wb.heap.size, 0, none⟩) 1 [moveM mi] rfl (fun e => by cases e) RN.out (by simp; omega) (by simp; omega) ?_)
            intro q2 cq2 w5 X2 HX2 O5 HK5
            have K5 : Hid (Kept (HB q) wr w5) := (Kc.out.calm2 (Kept.alloc _ _)).join HK5.out (fun _ _ e => e.elim) (fun _ _ e => e)
            have HO5 : Hid (w5.heap[ob]? = some (.cells #[.int .i64 (t + 1), .slice q X.length cq] 38 (0, 0))) := by show _ = _; rw [K5.out.block _ hor (fun e => by have := (HE.out.lt _ e).1; omega)]; exact HO.out
            clear o0 o1 fo0 fo1 n0 n1 n2 n3 n4 n5 n6 z0 z1 z2 z3 z4 z5 z6 ffz RN Kc HOc HK5
            obtain ⟨o0, o1, fo0, fo1⟩ := two_cells HO5.out
            have hX2 : Hid (X2 = (keepL (M.take (i + 1))).map moveM) := by show _ = _; rw [HX2.out, HTS.out, HX.out]
            go_wp2
            go_roundw
            case rel =>
              refine ⟨i + 1, q2, cq2, X2, by omega, by go_num, hX2, two_set HO5.out _, ?_, ?_⟩
              · exact O5.out.keep (Kept.setCell w5 _ _) (fun j hj e => by have e' : j = ob := e; have := (O5.out.lt j hj).1; omega)
              · exact (HK.out.join K5.out (R := fun k => k = ob) (fun _ _ e => e) (fun j hj e => by have := (HE.out.lt j e).1; omega)).join (Kept.setCell w5 _ _) (fun _ _ e => e) (fun _ _ e => e)
            case measure => simp [intOf]; omega
        · obtain rfl : i = M.length := by omega
          rw [List.take_length] at HX
          have HXS : Hid (X = stepL cs L) := by show _ = _; rw [HX.out, HSL.out]
          have BF : Hid (wr.heap[w.heap.size + 1]? = some (.cells #[.int .i64 0, .slice none 0 0] 38 (0, 0))) := by show _ = _; rw [HK.out.block _ (heap_lt B3.out) (by omega)]; exact B3.out
          have KF : Hid (Kept (fun _ => False) w wr) := KW.out.join HK.out (fun _ _ e => e) (fun j hj e => by omega)
          obtain ⟨c0, c1, f0, f1⟩ := two_cells BF.out
          obtain ⟨o0, o1, -, -⟩ := two_cells HO.out
          obtain ⟨d0, d1, -, -⟩ := two_cells (two_sets BF.out (.int .i64 (t + 1)) (.slice q X.length cq))
          go_wp2
          refine bodyPost_ret (v := .tuple #[.agg #[.int .i64 (t + 1), .slice q X.length cq], .int .i64 0]) (by simp [results, Tryz.results58, go_sem, d0, d1]) rfl ?_
          rw [← HXS.out]
          refine ⟨q, cq, rfl, ?_, two_kept KF.out (by omega) _ _⟩
          exact (HE.out.keep (sets_kept wr (w.heap.size + 1) _ _) (fun j hj e => by have := (HE.out.lt j hj).1; omega)).low (by omega)
end Go.Proofs.YtlfmfhmbkpnjbaaGreatDoor

namespace Go.Proofs.YtlfmfhmbkpnjbaaGreatDoor
open Go.RowKit

/-- What a step answers: tick, entities, error. -/
noncomputable def stepR (t : Int) (L : List Mob) (cs : List Cmd) : Sn :=
  if worldB t L = false then ⟨0, [], 2⟩ else if t = 500 then ⟨0, [], 2⟩ else if 64 < cs.length then ⟨0, [], 1⟩ else ⟨t + 1, stepL cs L, 0⟩

theorem stepR_small (t : Int) (L : List Mob) (cs : List Cmd) : (stepR t L cs).X.length ≤ 32 ∧ ∀ m ∈ (stepR t L cs).X, eqM m m = true := by
  unfold stepR
  split
  · exact ⟨Nat.zero_le _, fun m hm => by cases hm⟩
  · rename_i hb
    have hb : worldB t L = true := by simpa using hb
    split
    · exact ⟨Nat.zero_le _, fun m hm => by cases hm⟩
    · rename_i ht
      split
      · exact ⟨Nat.zero_le _, fun m hm => by cases hm⟩
      · have h2 := worldB_next cs hb ht
        refine ⟨(worldB_fine h2).2.2.short, fun m hm => ?_⟩
        exact fine_eq ((worldB_fine h2).2.2.mob m hm)

/-- Where the answer is OK, it is a world's list again, and no longer than it was, or than a world's is. -/
theorem stepR_len (t : Int) (L : List Mob) (cs : List Cmd) : (stepR t L cs).X.length ≤ 32 := (stepR_small t L cs).1

theorem step_any (t : Int) (p pc : Option Addr) (cap capc : Nat) (L : List Mob) (cs : List Cmd) (w : World) (hl : (L.length : Int) ≤ 4611686018427387903) (h : Reads w p L) (hp : p = none → cap = 0) (hc : ReadsC w pc cs) :
    Calls Tryz.prog 23 #[.agg #[.int .i64 t, .slice p L.length cap], .slice pc cs.length capc] w fun e w' =>
      ∃ q cq, e = .returned (.tuple #[.agg #[.int .i64 (stepR t L cs).t, .slice q (stepR t L cs).X.length cq], .int .i64 (stepR t L cs).e]) ∧ Raw w' q (stepR t L cs).X.length cq ∧ Reads w' q (stepR t L cs).X ∧ (∀ j, HB q j → w.heap.size ≤ j) ∧ Kept (fun _ => False) w w' := by
  have none_ok : ∀ w' : World, Raw w' none 0 0 ∧ Reads w' none [] ∧ (∀ j, HB none j → w.heap.size ≤ j) := fun w' => ⟨Or.inl ⟨rfl, rfl, rfl⟩, fun h => absurd rfl h, fun j hj => by obtain ⟨_, e⟩ := hj; cases e⟩
  unfold stepR
  split
  · rename_i hb
    refine (step_bad t p pc cap cs.length capc L w hl h hb).mono ?_
    rintro e w' ⟨rfl, hk⟩
    exact ⟨none, 0, rfl, (none_ok w').1, (none_ok w').2.1, (none_ok w').2.2, hk⟩
  · rename_i hb
    have hb : worldB t L = true := by simpa using hb
    split
    · rename_i ht
      subst ht
      refine (step_last p pc cap cs.length capc L w hl h hb).mono ?_
      rintro e w' ⟨rfl, hk⟩
      exact ⟨none, 0, rfl, (none_ok w').1, (none_ok w').2.1, (none_ok w').2.2, hk⟩
    · rename_i ht
      split
      · rename_i hn
        refine (step_many t p pc cap cs.length capc L w hl h hb ht hn).mono ?_
        rintro e w' ⟨rfl, hk⟩
        exact ⟨none, 0, rfl, (none_ok w').1, (none_ok w').2.1, (none_ok w').2.2, hk⟩
      · rename_i hn
        refine (step_ok t p pc cap capc L cs w hl h hp hc hb ht (by omega)).mono ?_
        rintro e w' ⟨g, cur, hg, rfl, hr, hk⟩
        exact ⟨some ⟨g, 0, none⟩, 32, rfl, Or.inr ⟨g, cur, rfl, hr.blk, hr.len, hr.short⟩, hr.reads, fun j hj => by obtain ⟨_, e⟩ := hj; cases e; exact hg, hk⟩

theorem rstep_any (t : Int) (p pc : Option Addr) (cap capc : Nat) (L : List Mob) (cs : List Cmd) (w : World) (hl : (L.length : Int) ≤ 4611686018427387903) (h : Reads w p L) (hp : p = none → cap = 0) (hc : ReadsC w pc cs) :
    Calls Tryz.prog 58 #[.agg #[.int .i64 t, .slice p L.length cap], .slice pc cs.length capc] w fun e w' =>
      ∃ q cq, e = .returned (.tuple #[.agg #[.int .i64 (stepR t L cs).t, .slice q (stepR t L cs).X.length cq], .int .i64 (stepR t L cs).e]) ∧ OwnE w' w.heap.size q cq (stepR t L cs).X ∧ Kept (fun _ => False) w w' := by
  unfold stepR
  split
  · rename_i hb
    refine (rstep_bad t p pc cap cs.length capc L w hl h hb).mono ?_
    rintro e w' ⟨rfl, hk⟩
    exact ⟨none, 0, rfl, OwnE.nil _ _, hk⟩
  · rename_i hb
    have hb : worldB t L = true := by simpa using hb
    split
    · rename_i ht
      subst ht
      refine (rstep_last p pc cap cs.length capc L w hl h hb).mono ?_
      rintro e w' ⟨rfl, hk⟩
      exact ⟨none, 0, rfl, OwnE.nil _ _, hk⟩
    · rename_i ht
      split
      · rename_i hn
        refine (rstep_many t p pc cap cs.length capc L w hl h hb ht hn).mono ?_
        rintro e w' ⟨rfl, hk⟩
        exact ⟨none, 0, rfl, OwnE.nil _ _, hk⟩
      · rename_i hn
        exact rstep_ok t p pc cap capc L cs w h hp hc hb ht (by omega)

/-- The document's second example. -/
def k1 : Cmd := { kind := 1, id := 3, team := 0, x := 1092616192, y := 1148829696, n := 0 }
def k2 : Cmd := { kind := 2, id := 3, team := 0, x := 1082130432, y := 1073741824, n := 0 }
def km : Mob := { id := 3, team := 0, x := 1096810496, y := 1148846080, vx := 1077936128, vy := 3208642560, health := 100 }

theorem known_step : stepR 0 [] [k1, k2] = ⟨1, [km], 0⟩ := by
  unfold stepR
  rw [if_neg (by rw [worldB_true 0 [] ⟨by decide, by decide⟩ (fun j hj _ => absurd hj (Nat.not_lt_zero _))]; decide), if_neg (by decide), if_neg (by decide)]
  congr 1
end Go.Proofs.YtlfmfhmbkpnjbaaGreatDoor

namespace Go.Proofs.YtlfmfhmbkpnjbaaGreatDoor
open Go.RowKit

theorem worldB_int {t : Int} {L : List Mob} (h : worldB t L = true) : ∀ m ∈ L, IntM m := by
  intro m hm
  have hf := (worldB_fine h).2.2.mob m hm
  have h1 := idB_in hf.id
  have h2 : m.team = 0 ∨ m.team = 1 := by have := hf.team; simpa [teamB] using this
  have h3 := hf.low
  have h4 := hf.high
  exact ⟨by omega, by omega, by omega⟩

set_option maxHeartbeats 2000000 in
set_option maxRecDepth 100000 in
theorem record_err (rb : Nat) (ev t : Int) (p : Option Addr) (cap : Nat) (L : List Mob) (ad buf : Value) (s : List UInt8) (pc : Option Addr) (capc n : Nat) (er : Int) (w : World)
    (hrec : Rec w rb (.int .i64 ev) (.int .i64 t) (.slice p L.length cap) ad buf s) (her : (er != 0) = true)
    (hst : ∀ w', Kept (fun _ => False) w w' → Calls Tryz.prog 23 #[.agg #[.int .i64 t, .slice p L.length cap], .slice pc n capc] w' fun e w'' => e = .returned (.tuple #[.agg #[.int .i64 0, .slice none 0 0], .int .i64 er]) ∧ Kept (fun _ => False) w' w'') :
    Calls Tryz.prog 22 #[.pointer (some ⟨rb, 0, none⟩), .slice pc n capc] w fun e w' => e = .returned (.tuple #[.agg #[.int .i64 0, .slice none 0 0], .int .i64 er]) ∧ Kept (fun _ => False) w w' := by
  have HREC := hide hrec
  have hrbl := heap_lt hrec.blk
  have HS := hide hst
  clear hrec hst
  have K0 := hide (Kept.alloc w (.cells #[.int .i64 0, .slice none 0 0] 38))
  have HA := hide (heap_alloc_new w (.cells #[.int .i64 0, .slice none 0 0] 38))
  obtain ⟨d0, d1, d2, d3, d4, df⟩ := five_cells (HREC.out.calm K0.out).blk
  go_enter Tryz.func22, Tryz.ntmps22
  go_wp2_with fail
  generalize w.alloc (.cells #[.int .i64 0, .slice none 0 0] 38) = wa at *
  refine (HS.out wa K0.out).mono ?_
  rintro e w1 ⟨rfl, k1⟩
  have K1 := hide (K0.out.calm2 k1)
  have A1 : Hid (w1.heap[w.heap.size]? = some (.cells #[.int .i64 0, .slice none 0 0] 38 (0, 0))) := by show _ = _; rw [k1.block _ (heap_lt HA.out) (fun e => e)]; exact HA.out
  clear k1 d0 d1 d2 d3 d4 df
  obtain ⟨c0, c1, f0, f1⟩ := two_cells A1.out
  have hza := heap_lt A1.out
  have S1 := hide (two_sets A1.out (.int .i64 0) (.slice none 0 0))
  have S2 : Hid ((((w1.setCell ⟨w.heap.size, 0, none⟩ (.int .i64 0)).setCell ⟨w.heap.size, 1, none⟩ (.slice none 0 0)).alloc (.cells #[.int .i64 0, .slice none 0 0] 38)).heap[w.heap.size]? = some (.cells #[.int .i64 0, .slice none 0 0] 38 (0, 0))) := by
    show _ = _
    rw [(Kept.alloc ((w1.setCell ⟨w.heap.size, 0, none⟩ (.int .i64 0)).setCell ⟨w.heap.size, 1, none⟩ (.slice none 0 0)) (.cells #[.int .i64 0, .slice none 0 0] 38)).block _ (heap_lt S1.out) (fun e => e)]; exact S1.out
  obtain ⟨e0, e1, -, -⟩ := two_cells S2.out
  go_wp2
  refine bodyPost_ret (v := .tuple #[.agg #[.int .i64 0, .slice none 0 0], .int .i64 er]) (by simp [results, Tryz.results22, go_sem, e0, e1]) rfl ?_
  exact ⟨rfl, (two_kept K1.out (Nat.le_refl _) _ _).calm2 (Kept.alloc _ _)⟩

theorem newRec_err (ev : Int) (w : World) (he : ¬ (1 ≤ ev ∧ ev ≤ 64)) :
    Calls Tryz.prog 19 #[.int .i64 ev] w fun e w' => e = .returned (.tuple #[.pointer none, .int .i64 1]) ∧ w' = w := by
  by_cases h1 : ev < 1
  · go_enter Tryz.func19, Tryz.ntmps19
    go_wp2
    go_ret2
    exact ⟨rfl, rfl⟩
  · have h2 : (64 : Int) < ev := by omega
    go_enter Tryz.func19, Tryz.ntmps19
    go_wp2
    go_ret2
    exact ⟨rfl, rfl⟩
end Go.Proofs.YtlfmfhmbkpnjbaaGreatDoor

namespace Go.Proofs.YtlfmfhmbkpnjbaaGreatDoor
open Go.RowKit

/-- The ticks that came in. -/
def RT (w : World) (q : Option Addr) (n : Nat) : Prop :=
  0 < n → ∃ b off, q = some ⟨b, off, none⟩ ∧ b < w.heap.size ∧ ∀ j, j < n → ∃ pj nj cj, w.cell? ⟨b, off + j, none⟩ = some (.slice pj nj cj) ∧ ((nj : Nat) : Int) ≤ 9223372036854775807 ∧ RI w pj nj
theorem RT.calm {w w' : World} {q : Option Addr} {n : Nat} (h : RT w q n) (hk : Kept (fun _ => False) w w') : RT w' q n := by
  intro hn
  obtain ⟨b, off, h1, h2, h3⟩ := h hn
  refine ⟨b, off, h1, Nat.lt_of_lt_of_le h2 hk.size, fun j hj => ?_⟩
  obtain ⟨pj, nj, cj, q1, q2, q3⟩ := h3 j hj
  exact ⟨pj, nj, cj, by rw [cell_keep hk h2 (fun e => e)]; exact q1, q2, q3.calm hk⟩

/-- A world that was played. -/
structure Wd where
  t : Int
  p : Option Addr
  cap : Nat
  L : List Mob
def rowW : List Wd → List Value
  | [] => []
  | d :: r => .int .i64 d.t :: .slice d.p d.L.length d.cap :: rowW r
theorem rowW_length (L : List Wd) : (rowW L).length = L.length * 2 := by
  induction L with
  | nil => rfl
  | cons p r ih => simp only [rowW, List.length_cons, ih]; omega
theorem rowW_append (L M : List Wd) : rowW (L ++ M) = rowW L ++ rowW M := by
  induction L with
  | nil => rfl
  | cons p r ih => simp [rowW, ih]
theorem rowW_get (L : List Wd) (j : Nat) (h : j < L.length) : (rowW L)[j * 2]? = some (.int .i64 L[j].t) ∧ (rowW L)[j * 2 + 1]? = some (.slice L[j].p L[j].L.length L[j].cap) := by
  induction L generalizing j with
  | nil => simp at h
  | cons p r ih =>
    cases j with
    | zero => simp [rowW]
    | succ m =>
      have := ih m (by simpa using h)
      rw [show (m + 1) * 2 = m * 2 + 1 + 1 from by omega]
      simpa [rowW, Nat.add_assoc] using this
theorem rowW_one (L : List Wd) : ∀ u ∈ rowW L, u.oneCell' = true := by
  induction L with
  | nil => simp [rowW]
  | cons p r ih =>
    intro u hu
    simp only [rowW, List.mem_cons] at hu
    rcases hu with rfl | rfl | h
    · rfl
    · rfl
    · exact ih u h

structure Wd.Ok (w : World) (d : Wd) : Prop where
  reads : Reads w d.p d.L
  nil : d.p = none → d.cap = 0
  typ : ∀ b off, d.p = some ⟨b, off, none⟩ → typ w b 83
  good : worldB d.t d.L = true

theorem Wd.Ok.keep {w w' : World} {S : Nat → Prop} {d : Wd} (h : d.Ok w) (hk : Kept S w w') (hS : ∀ j, Go.Proofs.YtlfmfhmbkpnjbaaGreatDoor.typ w j 83 → ¬ S j) : d.Ok w' :=
  ⟨h.reads.keep hk (fun b off e => hS b (h.typ b off e)), h.nil, fun b off e => typ_keep (h.typ b off e) hk (hS b (h.typ b off e)), h.good⟩

theorem Wd.Ok.short {w : World} {d : Wd} (h : d.Ok w) : d.L.length ≤ 32 := (worldB_fine h.good).2.2.short

theorem info_world : (Tryz.prog.info? 38).map (fun i => (i.zero, i.size, i.bytes)) = some (some (.agg #[.int .i64 0, .slice none 0 0]), 2, 32) := by kernel_rfl

def c7 : Cmd := ⟨1, 7, 0, 1065353216, 1073741824, 0⟩
theorem step7 : stepL [c7] [] = [moveM (newM 7 0 1065353216 1073741824)] := by
  have h1 : spawnB 7 0 1065353216 1073741824 = true := by decide
  have h2 : findB [] 7 = false := findB_out (by simp [findI])
  simp [stepL, doM, c7, h1, h2, findI, keepL, liveB, newM]

/-- All that was played, and where it lies. -/
structure Run (w wr : World) (WS : List Wd) (p : Option Addr) (cap : Nat) : Prop where
  own : wr.ownsRow w.heap.size 38 2 (.slice p WS.length cap) WS.length (rowW WS)
  ok : ∀ d ∈ WS, d.Ok wr
  tick : ∀ k (h : k < WS.length), WS[k].t = k
  kept : Kept (fun _ => False) w wr

theorem after_set {wr w4 : World} {g4 b8 : Nat} {M : List Mob} {cu : List Value} (k : Kept (fun _ => False) wr w4) (hb : wr.heap.size ≤ b8) (h : w4.heap[b8]? = some (.cells #[.int .i64 0, .slice none 0 0] 38 (0, 0))) (e : EntAt w4 g4 M cu) (u v : Value) :
    Kept (fun _ => False) wr ((w4.setCell ⟨b8, 0, none⟩ u).setCell ⟨b8, 1, none⟩ v) ∧ ((w4.setCell ⟨b8, 0, none⟩ u).setCell ⟨b8, 1, none⟩ v).heap[b8]? = some (.cells #[u, v] 38 (0, 0)) ∧ EntAt ((w4.setCell ⟨b8, 0, none⟩ u).setCell ⟨b8, 1, none⟩ v) g4 M cu := by
  have kk : Kept (fun k => k = b8) w4 ((w4.setCell ⟨b8, 0, none⟩ u).setCell ⟨b8, 1, none⟩ v) := (Kept.setCell w4 _ u).join (Kept.setCell _ _ v) (fun _ _ e => e) (fun _ _ e => e)
  exact ⟨two_kept k hb u v, two_sets h u v, e.keep kk (typ_ne (typ_blk e.blk) (typ_blk h) (by decide))⟩
theorem after_new {wr w4 : World} {g4 : Nat} {M : List Mob} {cu : List Value} (k : Kept (fun _ => False) wr w4) (e : EntAt w4 g4 M cu) (u v : Value) :
    Kept (fun _ => False) wr (w4.alloc (.cells #[u, v] 38)) ∧ (w4.alloc (.cells #[u, v] 38)).heap[w4.heap.size]? = some (.cells #[u, v] 38 (0, 0)) ∧ EntAt (w4.alloc (.cells #[u, v] 38)) g4 M cu :=
  ⟨k.calm2 (Kept.alloc _ _), heap_alloc_new _ _, e.calm (Kept.alloc _ _)⟩

theorem owns_up {w : World} {base : Nat} {e : TypeId} {size g n cap : Nat} {xs : List Value} (h : w.ownsRow 0 e size (.slice (some ⟨g, 0, none⟩) n cap) n xs) (hg : base ≤ g) : w.ownsRow base e size (.slice (some ⟨g, 0, none⟩) n cap) n xs := by
  refine ⟨h.1, ?_⟩
  rcases h.2 with ⟨e, _⟩ | ⟨g', cp, cur, e, _, r⟩
  · cases e
  · simp only [Value.slice.injEq, Option.some.injEq, Addr.mk.injEq] at e
    obtain ⟨⟨rfl, _⟩, _, rfl⟩ := e
    exact Or.inr ⟨g, cap, cur, rfl, hg, r⟩

/-- One more world. -/
theorem Run.more {w wr w5 w7 : World} {WS : List Wd} {g cap g' cap' B6 : Nat} {d : Wd} (R : Run w wr WS (some ⟨g, 0, none⟩) cap) (k5 : Kept (fun _ => False) wr w5) (hd : d.Ok w5) (ht : d.t = WS.length)
    (k7 : Kept (fun j => j = B6 ∨ j = g) w5 w7) (hB : typ w5 B6 38) (hb6 : w.heap.size ≤ B6) (own : w7.ownsRow 0 38 2 (.slice (some ⟨g', 0, none⟩) (WS.length + 1) cap') (WS.length + 1) (rowW WS ++ rowW [d])) (hg' : g' = g ∨ w5.heap.size ≤ g') :
    Run w w7 (WS ++ [d]) (some ⟨g', 0, none⟩) cap' := by
  have tg : typ w5 g 38 := typ_keep (typ_own R.own g rfl) k5 (fun e => e)
  have hgw := (R.own.lt g rfl).1
  have hS : ∀ j, typ w5 j 83 → ¬ (j = B6 ∨ j = g) := by
    rintro j hj (rfl | rfl)
    · exact typ_ne hj hB (by decide) rfl
    · exact typ_ne hj tg (by decide) rfl
  have s5 := k5.size
  have s0 := R.kept.size
  refine ⟨?_, ?_, ?_, ?_⟩
  · rw [List.length_append, rowW_append]
    exact owns_up own (by rcases hg' with rfl | h <;> omega)
  · intro x hx
    rcases List.mem_append.1 hx with hx | hx
    · exact ((R.ok x hx).keep k5 (fun _ _ e => e)).keep k7 hS
    · obtain rfl : x = d := by simpa using hx
      exact hd.keep k7 hS
  · intro k hk
    rw [List.length_append] at hk
    by_cases hlt : k < WS.length
    · rw [List.getElem_append_left hlt]; exact R.tick k hlt
    · rw [List.getElem_append_right (by omega)]
      obtain rfl : k = WS.length := by simp at hk; omega
      simpa using ht
  · refine (R.kept.calm2 k5).join k7 (fun _ _ e => e) (fun j hj e => ?_)
    rcases e with rfl | rfl <;> omega

end Go.Proofs.YtlfmfhmbkpnjbaaGreatDoor

namespace Go.Proofs.YtlfmfhmbkpnjbaaGreatDoor
open Go.RowKit
/-- Which of m things a raw number speaks of. -/
def pickN_law (c : Int) (m : Nat) : Nat := ((if c < 0 then -(c + 1) else c).tmod m).toNat

theorem pickN_lt_law (c : Int) (m : Nat) (hm : 0 < m) : pickN_law c m < m := by
  have h0 : 0 ≤ (if c < 0 then -(c + 1) else c) := by split <;> omega
  have h1 := Int.tmod_lt_of_pos (if c < 0 then -(c + 1) else c) (show (0 : Int) < m by omega)
  have h2 := Int.tmod_nonneg (m : Int) h0
  unfold pickN_law
  omega

theorem pickN_cast_law (c : Int) (m : Nat) : ((pickN_law c m : Nat) : Int) = (if c < 0 then -(c + 1) else c).tmod m := by
  have h0 : 0 ≤ (if c < 0 then -(c + 1) else c) := by split <;> omega
  have h2 := Int.tmod_nonneg (m : Int) h0
  unfold pickN_law
  omega

set_option maxHeartbeats 400000 in
theorem pick_law (c M : Int) (m : Nat) (w : World) (h1 : -9223372036854775808 ≤ c) (h2 : c ≤ 9223372036854775807) (hM : M = m) (hm : 0 < m) (hm2 : m ≤ 1000000000) :
    Calls Tryz.prog 30 #[.int .i64 c, .int .i64 M] w fun e w' => e = .returned (.int .i64 (pickN_law c m)) ∧ w' = w := by
  subst hM
  have hp := hide (pickN_cast_law c m)
  have hm0 : ((m : Int) == 0) = false := by simp; omega
  by_cases hc : c < 0
  · go_enter Tryz.func30, Tryz.ntmps30
    go_wp2
    go_ret
    refine ⟨ret1 ?_, rfl⟩
    show Value.int .i64 (-((c + 1).tmod m)) = _
    rw [hp.out, if_pos hc, Int.neg_tmod]
  · go_enter Tryz.func30, Tryz.ntmps30
    go_wp2
    go_ret
    refine ⟨ret1 ?_, rfl⟩
    show Value.int .i64 (c % m) = _
    rw [hp.out, if_neg (by omega), Int.tmod_eq_emod_of_nonneg hc]
end Go.Proofs.YtlfmfhmbkpnjbaaGreatDoor
