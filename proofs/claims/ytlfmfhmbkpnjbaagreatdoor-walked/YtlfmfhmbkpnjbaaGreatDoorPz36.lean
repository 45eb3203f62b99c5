import Derived.Test.YtlfmfhmbkpnjbaaGreatDoorPz35
namespace Go.Proofs.YtlfmfhmbkpnjbaaGreatDoor
open Go.RowKit

set_option maxHeartbeats 1000000 in
set_option maxRecDepth 100000 in
theorem move_bad (F : Nat → Prop) (pb : Nat) (m : Mt) (k : Nat) (d : PD) (b : Int) (w : World) (hb : b < -(k : Int) ∨ (m.cmds.length : Int) - (k : Int) < b) (h : PL w F pb m k d) :
    Calls Tryz.prog 15 #[.pointer (some ⟨pb, 0, none⟩), .int .i64 b] w fun e w' => e = .returned (.tuple #[.agg #[.int .i64 0, .slice none 0 0], .int .i64 4]) ∧ Kept (fun _ => False) w w' := by
  have hlen := h.ok.len
  have hk := h.at_
  have HA := hide (h.calm (Kept.alloc w (.cells #[.int .i64 0, .slice none 0 0] 38)))
  have hw1 : IntKind.i64.wrap (-(k : Int)) = -(k : Int) := wrap_id _ (by omega)
  have hw2 : IntKind.i64.wrap ((m.cmds.length : Int) - (k : Int)) = (m.cmds.length : Int) - (k : Int) := wrap_id _ (by omega)
  clear h
  go_enter Tryz.func15, Tryz.ntmps15
  go_wp2_with fail
  obtain ⟨wA, hwA⟩ : ∃ wA, w.alloc (.cells #[.int .i64 0, .slice none 0 0] 38) = wA := ⟨_, rfl⟩
  rw [hwA] at HA ⊢
  have KA : Hid (Kept (fun _ => False) w wA ∧ wA.heap[w.heap.size]? = some (.cells #[.int .i64 0, .slice none 0 0] 38 (0, 0))) := by rw [← hwA]; exact ⟨Kept.alloc _ _, heap_alloc_new w _⟩
  have HP := hide (fun n => ticks_c F pb m k d (wA.drewN n) (HA.out.calm (Kept.drewN _ n)))
  clear hwA
  obtain ⟨⟨a0, a1, a2, a3, a4⟩, -⟩ := five_all HA.out.blk
  obtain ⟨r0, r1, z0, z1⟩ := two_cells KA.out.2
  have fin : Hid (∀ n, (wA.drewN n).cell? ⟨w.heap.size, 0, none⟩ = some (.int .i64 0) ∧ (wA.drewN n).cell? ⟨w.heap.size, 1, none⟩ = some (.slice none 0 0) ∧ (wA.drewN n).frozen? ⟨w.heap.size, 0, none⟩ = false ∧ (wA.drewN n).frozen? ⟨w.heap.size, 1, none⟩ = false) := fun n => two_cells (show (wA.drewN n).heap[w.heap.size]? = _ by rw [drewN_heap]; exact KA.out.2)
  have SB : Hid (∀ n, (((wA.drewN n).setCell ⟨w.heap.size, 0, none⟩ (.int .i64 0)).setCell ⟨w.heap.size, 1, none⟩ (.slice none 0 0)).heap[w.heap.size]? = some (.cells #[.int .i64 0, .slice none 0 0] 38 (0, 0))) := fun n => two_sets (show (wA.drewN n).heap[w.heap.size]? = some (.cells #[.int .i64 0, .slice none 0 0] 38 (0, 0)) by rw [drewN_heap]; exact KA.out.2) _ _
  have KB : Hid (∀ n, Kept (fun _ => False) w (((wA.drewN n).setCell ⟨w.heap.size, 0, none⟩ (.int .i64 0)).setCell ⟨w.heap.size, 1, none⟩ (.slice none 0 0))) := fun n => (KA.out.1.calm2 (Kept.drewN wA n)).join (two_sets_kept (wA.drewN n) w.heap.size _ _) (fun _ _ e => e) (fun j hj e => by omega)
  by_cases h0 : b < -(k : Int)
  · go_quiet ((go_at_call 11; exact Calls.quiet_of_same (HP.out _)))
    obtain ⟨s0, s1, t0, t1⟩ := fin.out nq
    go_wp2
    obtain ⟨e0, e1, -, -⟩ := two_cells (SB.out nq)
    refine bodyPost_ret (v := .tuple #[.agg #[.int .i64 0, .slice none 0 0], .int .i64 4]) (by simp [results, Tryz.results15, go_sem, e0, e1]) rfl ?_
    exact ⟨rfl, KB.out nq⟩
  · have h1 : (m.cmds.length : Int) - (k : Int) < b := by omega
    clear hb
    go_quiet ((go_at_call 11; exact Calls.quiet_of_same (HP.out _)))
    obtain ⟨s0, s1, t0, t1⟩ := fin.out nq
    go_wp2
    obtain ⟨e0, e1, -, -⟩ := two_cells (SB.out nq)
    refine bodyPost_ret (v := .tuple #[.agg #[.int .i64 0, .slice none 0 0], .int .i64 4]) (by simp [results, Tryz.results15, go_sem, e0, e1]) rfl ?_
    exact ⟨rfl, KB.out nq⟩

set_option maxHeartbeats 1000000 in
set_option maxRecDepth 100000 in
theorem move_ok (F : Nat → Prop) (pb : Nat) (m : Mt) (k t : Nat) (d : PD) (b : Int) (w : World) (hb : (k : Int) + b = (t : Int)) (ht : t ≤ m.cmds.length) (h : PL w F pb m k d) :
    Calls Tryz.prog 15 #[.pointer (some ⟨pb, 0, none⟩), .int .i64 b] w (SeekPost F pb m t d w) := by
  have hlen := h.ok.len
  have hk := h.at_
  have HA := hide (h.calm (Kept.alloc w (.cells #[.int .i64 0, .slice none 0 0] 38)))
  have HFw : Hid (∀ j, F j → j < w.heap.size) := fun j hj => h.lt j hj
  have HFT : Hid (∀ j, (j = pb ∨ Foot d.c d.r j) → j < w.heap.size) := fun j hj => h.lt j (h.wf j hj)
  have hw1 : IntKind.i64.wrap (-(k : Int)) = -(k : Int) := wrap_id _ (by omega)
  have hw2 : IntKind.i64.wrap ((m.cmds.length : Int) - (k : Int)) = (m.cmds.length : Int) - (k : Int) := wrap_id _ (by omega)
  have hw3 : IntKind.i64.wrap ((k : Int) + b) = (t : Int) := by rw [hb]; exact wrap_id _ (by omega)
  have h0 : ¬ b < -(k : Int) := by omega
  have h1 : ¬ (m.cmds.length : Int) - (k : Int) < b := by omega
  clear h hb
  go_enter Tryz.func15, Tryz.ntmps15
  go_wp2_with fail
  obtain ⟨wA, hwA⟩ : ∃ wA, w.alloc (.cells #[.int .i64 0, .slice none 0 0] 38) = wA := ⟨_, rfl⟩
  rw [hwA] at HA ⊢
  have KA : Hid (Kept (fun _ => False) w wA ∧ wA.heap[w.heap.size]? = some (.cells #[.int .i64 0, .slice none 0 0] 38 (0, 0))) := by rw [← hwA]; exact ⟨Kept.alloc _ _, heap_alloc_new w _⟩
  have HP := hide (fun n => ticks_c F pb m k d (wA.drewN n) (HA.out.calm (Kept.drewN _ n)))
  clear hwA
  obtain ⟨⟨a0, a1, a2, a3, a4⟩, -⟩ := five_all HA.out.blk
  go_quiet ((go_at_call 11; exact Calls.quiet_of_same (HP.out _)))
  have HN := hide (HA.out.calm (Kept.drewN wA nq))
  have BN : Hid ((wA.drewN nq).heap[w.heap.size]? = some (.cells #[.int .i64 0, .slice none 0 0] 38 (0, 0))) := by rw [drewN_heap]; exact KA.out.2
  have KN := hide (KA.out.1.calm2 (Kept.drewN wA nq))
  clear HP a0 a1 a2 a3 a4
  generalize wA.drewN nq = wN at *
  obtain ⟨⟨a0, a1, a2, a3, a4⟩, -⟩ := five_all HN.out.blk
  go_wp2_with fail
  refine (seek_c F pb m k d t wN ht HN.out).mono ?_
  rintro e w1 ⟨N, q, cq, d', rfl, hN1, hN2, fr, pl, kk⟩
  have hbn := heap_lt BN.out
  have B1 : Hid (w1.heap[w.heap.size]? = some (.cells #[.int .i64 0, .slice none 0 0] 38 (0, 0))) := by show _ = _; rw [kk.block _ hbn (fun e => by have := HFT.out _ e; omega)]; exact BN.out
  obtain ⟨r0, r1, z0, z1⟩ := two_cells B1.out
  have SS := hide (two_sets B1.out (.int .i64 (t : Int)) (.slice q (m.at t).length cq))
  have KS := hide (two_sets_kept w1 w.heap.size (.int .i64 (t : Int)) (.slice q (m.at t).length cq))
  have FF := hide (And.intro fr (And.intro pl kk))
  clear fr pl kk
  go_wp2
  obtain ⟨e0, e1, -, -⟩ := two_cells SS.out
  refine bodyPost_ret (v := .tuple #[.agg #[.int .i64 (t : Int), .slice q (m.at t).length cq], .int .i64 0]) (by simp [results, Tryz.results15, go_sem, e0, e1]) rfl ?_
  obtain ⟨fr, pl, kk⟩ := FF.out
  have h5 := KN.out.size
  have h6 := KS.out.size
  refine ⟨N, q, cq, d', rfl, by omega, by omega, fr.keep KS.out (fun j off e ej => by have := (fr.new j off e).1; omega), ?_, (KN.out.join kk (R := fun j => j = pb ∨ Foot d.c d.r j) (fun _ _ e => e.elim) (fun _ _ e => e)).join KS.out (fun _ _ e => e) (fun j hj e => by omega)⟩
  refine (pl.keep KS.out (fun j hj e => by subst e; rcases hj with hj | hj; have := HFw.out _ hj; omega; omega)).grow (fun j e => ?_) (fun j e => ?_)
  · rcases e with e | e
    · exact Or.inl e
    · exact Or.inr (by omega)
  · rcases e with e | e
    · have := HFw.out j e; omega
    · omega
end Go.Proofs.YtlfmfhmbkpnjbaaGreatDoor
