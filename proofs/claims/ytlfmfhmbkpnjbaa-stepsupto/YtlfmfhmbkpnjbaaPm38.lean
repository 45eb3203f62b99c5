import Derived.Test.YtlfmfhmbkpnjbaaPm37
import Derived.Test.YtlfmfhmbkpnjbaaPm33
namespace Go.Proofs.Ytlfmfhmbkpnjbaa
open Go.RowKit

/-- Ticks: lists of commands. -/
def RTC (w : World) (q : Option Addr) (n : Nat) : Prop :=
  0 < n → ∃ b off, q = some ⟨b, off, none⟩ ∧ b < w.heap.size ∧ ∀ i, i < n → ∃ pc capc, ∃ cs : List Cmd, w.cell? ⟨b, off + i, none⟩ = some (.slice pc cs.length capc) ∧ cs.length ≤ 1048576 ∧ ReadsC w pc cs

theorem BookE.keep {w w' : World} {S : Nat → Prop} {bk : Nat} {ev : Value} {Q : List Els} (h : BookE w bk ev Q) (k : Kept S w w') (h1 : ¬ S bk) (h2 : ∀ j, ev.ownBlock = some j → ¬ S j) (h3 : ∀ j, typ w j 57 → ¬ S j) : BookE w' bk ev Q :=
  ⟨by rw [k.block _ (heap_lt h.blk) h1]; exact h.blk, owns_block h.own (fun j hj => k.block j (owns_lt h.own j hj) (h2 j hj)), fun i hi => (h.rows i hi).keep k (fun b off e => h3 b (h.here i hi b ⟨off, e⟩)), fun i hi j hj => typ_keep (h.here i hi j hj) k (h3 j (h.here i hi j hj)), h.short, h.four⟩

theorem BookE.still {w w' : World} {bk : Nat} {ev : Value} {Q : List Els} (h : BookE w bk ev Q) (k : Kept (fun _ => False) w w') : BookE w' bk ev Q := h.keep k (fun e => e) (fun _ _ e => e) (fun _ _ e => e)

theorem laid_bk (w : World) : Kept (fun _ => False) w (w.alloc (.cells #[.slice none 0 0, .slice none 0 0] 27)) ∧
    (w.alloc (.cells #[.slice none 0 0, .slice none 0 0] 27)).heap[w.heap.size]? = some (.cells #[.slice none 0 0, .slice none 0 0] 27 (0, 0)) ∧ (w.alloc (.cells #[.slice none 0 0, .slice none 0 0] 27)).heap.size = w.heap.size + 1 :=
  ⟨Kept.alloc w _, heap_alloc_new w _, by simp⟩

set_option maxHeartbeats 8000000 in
set_option maxRecDepth 100000 in
theorem steps_walk (t0 : Int) (p0 : Option Addr) (cap0 : Nat) (L0 : List Mob) (qi : Option Addr) (n capi : Nat) (w : World) (hL0 : L0.length ≤ 1048576) (hn : n ≤ 1048576) (h : Reads w p0 L0) (hp0 : p0 = none → cap0 = 0) (hI : RTC w qi n) :
    Calls Try.prog 4 #[.agg #[.int .i64 t0, .slice p0 L0.length cap0], .slice qi n capi] w fun e w' => e = .returned (.bool true) ∧ Below w.heap.size w w' := by
  have hsf := store_float Try.prog
  have HR0 := hide h
  have HI := hide hI
  have HP0 := hide hp0
  clear h hI hp0
  have KB := hide (Kept.alloc w (.cells #[.int .i64 t0, .slice p0 L0.length cap0] 40))
  have AB := hide (heap_alloc_new w (.cells #[.int .i64 t0, .slice p0 L0.length cap0] 40))
  go_enter Try.func4, Try.ntmps4
  go_wp2_with fail
  generalize w.alloc (.cells #[.int .i64 t0, .slice p0 L0.length cap0] 40) = wc at *
  refine (known_c wc).mono ?_
  rintro e w1 ⟨rfl, k1⟩
  have K1 := hide (KB.out.calm2 k1)
  have A1 : Hid (w1.heap[w.heap.size]? = some (.cells #[.int .i64 t0, .slice p0 L0.length cap0] 40 (0, 0))) := by show _ = _; rw [k1.block _ (heap_lt AB.out) (fun e => e)]; exact AB.out
  clear k1 KB AB
  have LM := hide (laid_bk w1)
  go_wp2
  generalize w1.alloc (.cells #[.slice none 0 0, .slice none 0 0] 27) = W at *
  have hw1 := K1.out.size
  have KW := hide (K1.out.calm2 LM.out.1)
  have BW := hide LM.out.2.1
  have hWs : w1.heap.size + 1 ≤ W.heap.size := Nat.le_of_eq LM.out.2.2.symm
  have hA1 := heap_lt A1.out
  have AW : Hid (W.heap[w.heap.size]? = some (.cells #[.int .i64 t0, .slice p0 L0.length cap0] 40 (0, 0))) := by show _ = _; rw [LM.out.1.block _ hA1 (fun e => e)]; exact A1.out
  clear LM K1 A1
  generalize hbk : w1.heap.size = bk at *
  have hw0 : w.heap.size < bk := hA1
  have HRW : Hid (Reads W p0 L0) := HR0.out.calm KW.out
  have HP1 : Hid (L0 ≠ [] → ∀ j, HB p0 j → j < w.heap.size) := fun hne j hj => by
    obtain ⟨b, off, e, hb, _⟩ := HR0.out hne
    obtain ⟨o2, e2⟩ := hj
    rw [e] at e2
    cases e2; exact hb
  have hKWs := KW.out.size
  generalize hw0' : w.heap.size = w0 at *
  clear HR0
  go_loopw [7] (fun a wr => ∃ i : Nat, ∃ ev : Value, ∃ Q : List Els, ∃ (t : Int) (p : Option Addr) (cap : Nat) (L : List Mob), i ≤ n ∧ a = .int .i64 i ∧ Q.length = 4 * i ∧ L.length ≤ 1048576 ∧ Hid (p = none → cap = 0) ∧ Hid (BookE wr bk ev Q) ∧ Hid (∀ j, ev.ownBlock = some j → W.heap.size ≤ j) ∧ Hid (wr.heap[w0]? = some (.cells #[.int .i64 t, .slice p L.length cap] 40 (0, 0))) ∧ Hid (Reads wr p L) ∧ Hid (L ≠ [] → ∀ j, HB p j → j < wr.heap.size ∧ j ≠ w0 ∧ j ≠ bk ∧ ev.ownBlock ≠ some j) ∧ Hid (Kept (fun _ => False) w wr) ∧ W.heap.size ≤ wr.heap.size) (fun a _ => n - (intOf a).toNat)
  case atStart => exact ⟨0, .slice none 0 0, [], t0, p0, cap0, L0, Nat.zero_le _, rfl, rfl, hL0, HP0, ⟨BW.out, ⟨rfl, Or.inl ⟨rfl, rfl⟩⟩, fun i h => absurd h (Nat.not_lt_zero _), fun i h => absurd h (Nat.not_lt_zero _), fun i h => absurd h (Nat.not_lt_zero _), rfl⟩, (fun j e => by cases e), AW, HRW, (fun hne j hj => by have := HP1.out hne j hj; exact ⟨by omega, by omega, by omega, fun e => by cases e⟩), KW, Nat.le_refl _⟩
  case round =>
    obtain ⟨i, ev, Q, t, p, cap, L, hil, rfl, hQl, hLl, HP, HB1, HEV, HWB, HR, HPJ, HKW, hWr⟩ := hrel
    clear BW AW HRW HP1
    have hbkr := heap_lt HB1.out.blk
    by_cases hlt : i < n
    · obtain ⟨ib, io, hqi, hib, hz⟩ := HI.out (by omega)
      obtain ⟨pc, capc, cs, hzc, hcl, hrc⟩ := hz i hlt
      have HC : Hid (ReadsC wr pc cs) := hrc.calm HKW.out
      clear hz hrc
      subst hqi
      have hA0 := heap_lt HWB.out
      have hibr : ib < wr.heap.size := by have := HKW.out.size; omega
      have CE : Hid (∀ w', Kept (fun j => j = bk ∨ ev.ownBlock = some j) wr w' → w'.cell? ⟨w0, 0, none⟩ = some (.int .i64 t) ∧ w'.cell? ⟨w0, 1, none⟩ = some (.slice p L.length cap) ∧ w'.cell? ⟨ib, io + i, none⟩ = some (.slice pc cs.length capc)) := fun w' hk => by
        have hb := two_cells HWB.out
        have hnS : ∀ j, j < bk → ¬ (j = bk ∨ ev.ownBlock = some j) := fun j hj e => by
          rcases e with e | e
          · omega
          · have := HEV.out j e; omega
        have e1 := cell_keep (o := 0) hk hA0 (hnS _ hw0)
        have e2 := cell_keep (o := 1) hk hA0 (hnS _ hw0)
        have e3 := cell_keep (o := io + i) hk hibr (hnS _ (by omega))
        have e4 := cell_keep (o := io + i) HKW.out (by omega) (fun e => e)
        exact ⟨by rw [e1]; exact hb.1, by rw [e2]; exact hb.2.1, by rw [e3, e4]; exact hzc⟩
      have CF : Hid (∀ w', Kept (fun _ => False) wr w' → w'.cell? ⟨w0, 0, none⟩ = some (.int .i64 t) ∧ w'.cell? ⟨w0, 1, none⟩ = some (.slice p L.length cap) ∧ w'.cell? ⟨ib, io + i, none⟩ = some (.slice pc cs.length capc)) := fun w' hk => CE.out w' (hk.mono (fun _ _ e => e.elim))
      have hi1 : (0 : Int) ≤ (i : Int) := by omega
      have hi2 : (i : Int) < (n : Int) := by omega
      clear hzc
      obtain ⟨c0, c1, c2⟩ := CF.out wr (Kept.refl _ _)
      go_wp2_with fail
      refine (lent_c p cap L wr (by omega) HR.out).mono ?_
      rintro e wk0 ⟨rfl, hO, kl⟩
      have KL0 := hide kl
      have OL := hide hO
      have hO0 := heap_lt hO
      clear kl hO c0 c1 c2
      generalize hOn : wr.heap.size = O at *
      obtain ⟨c0, c1, c2⟩ := CF.out wk0 KL0.out
      go_wp2_with fail
      refine (lentC_c pc capc cs wk0 (by omega) (HC.out.calm KL0.out)).mono ?_
      rintro e wl ⟨rfl, hOC, kl⟩
      have KL := hide (KL0.out.calm2 kl)
      have OCL := hide hOC
      have OL1 : Hid (wl.heap[O]? = some (.cells (rowM (lentL L)).toArray 57 (0, 0))) := by show _ = _; rw [kl.block _ hO0 (fun e => e)]; exact OL.out
      have hOC0 := heap_lt hOC
      clear kl hOC c0 c1 c2 OL KL0
      generalize hOCn : wk0.heap.size = OC at *
      have RO : Hid (Reads wl (some ⟨O, 0, none⟩) (lentL L)) := block_reads OL1.out
      have ROC : Hid (ReadsC wl (some ⟨OC, 0, none⟩) (lentC cs)) := blockC_reads OCL.out
      have ROCs : Hid (ReadsC wl (some ⟨OC, 0, none⟩) cs) := fun hne => ⟨OC, 0, rfl, hOC0, fun j u hu => by
        rw [Nat.zero_add, cell_block OCL.out]
        have h2 : (rowC (lentC cs))[j]? = some u := by
          unfold lentC
          rw [rowC_append, List.getElem?_append_left (List.getElem?_eq_some_iff.1 hu).1]; exact hu
        simpa using h2⟩
      obtain ⟨c0, c1, c2⟩ := CF.out wl KL.out
      have hl1 : (0 : Int) ≤ (L.length : Int) := by omega
      have hl2 : (L.length : Int) ≤ ((L.length + 8 : Nat) : Int) := by omega
      have hl3 : (L.length : Int) ≤ (L.length : Int) + 8 := by omega
      have hk1 : (0 : Int) ≤ (cs.length : Int) := by omega
      have hk2 : (cs.length : Int) ≤ ((cs.length + 8 : Nat) : Int) := by omega
      have hk3 : (cs.length : Int) ≤ (cs.length : Int) + 8 := by omega
      go_wp2
      go_region_held3 (fun w' => w'.cell? ⟨w0, 0, none⟩ = some (.int .i64 t) ∧ w'.cell? ⟨w0, 1, none⟩ = some (.slice p L.length cap) ∧ w'.cell? ⟨ib, io + i, none⟩ = some (.slice pc cs.length capc)) (go_keep)
        (first
          | (go_at_call 17; refine (step_any t (some ⟨O, 0, none⟩) (some ⟨OC, 0, none⟩) (L.length + 8) (cs.length + 8) L cs wl.drew (by omega) ((RO.out.pre).calm (Kept.drew wl)) (fun e => by cases e) (ROCs.out.calm (Kept.drew wl))).mono ?_; rintro e wa ⟨q, cq, rfl, raw, rd, fr, k⟩; have Kc := hide ((Kept.drew wl).calm2 k); have RW := hide raw; have RD := hide rd; have FR := hide fr; obtain ⟨f0, f1, f2⟩ := CF.out wa (KL.out.calm2 Kc.out); clear raw rd fr k)
          | (go_at_call 17; refine (step_any t (some ⟨O, 0, none⟩) (some ⟨OC, 0, none⟩) (L.length + 8) (cs.length + 8) L cs (wl.drew.alloc (.cells #[.int .i64 0, .slice none 0 0] 40)) (by omega) ((RO.out.pre).calm ((Kept.drew wl).calm2 (Kept.alloc _ _))) (fun e => by cases e) (ROCs.out.calm ((Kept.drew wl).calm2 (Kept.alloc _ _)))).mono ?_; rintro e wa ⟨q, cq, rfl, raw, rd, fr, k⟩; have Kc := hide (((Kept.drew wl).calm2 (Kept.alloc _ (.cells #[.int .i64 0, .slice none 0 0] 40))).calm2 k); have RW := hide raw; have RD := hide rd; have FR := hide fr; have T8 : Hid (wa.heap[wl.heap.size]? = some (.cells #[.int .i64 0, .slice none 0 0] 40 (0, 0))) := new_calm (w := wl.drew) k; obtain ⟨f0, f1, f2⟩ := CF.out wa (KL.out.calm2 Kc.out); obtain ⟨j0, j1, j2, j3⟩ := two_cells T8.out; have x1 : w0 ≠ wl.heap.size := (by omega); have x2 : ib ≠ wl.heap.size := (by omega); have x3 := x1.symm; have x4 := x2.symm; clear raw rd fr k))
      all_goals
        have HSM := hide (stepR_small t L cs)
        generalize hS : stepR t L cs = S at *
        have HS := hide hS
        clear hS f0 f1 f2
        first
          | (have LA := hide (laid_set Kc.out (Nat.le_refl _) T8.out RD.out (fun j hj => RW.out.typ j hj) (.int .i64 S.t) (.slice q S.X.length cq))
             have RA := hide (RW.out.keep (sets_kept wa wl.heap.size (.int .i64 S.t) (.slice q S.X.length cq)) (fun j hj => typ_ne (RW.out.typ j hj) (typ_blk T8.out) (by decide)))
             have FA : Hid (∀ j, HB q j → wl.heap.size ≤ j) := fun j hj => by have := FR.out j hj; simp at this; omega
             clear T8 j0 j1 j2 j3 x1 x2 x3 x4
             generalize hWn : ((wa.setCell ⟨wl.heap.size, 0, none⟩ (.int .i64 S.t)).setCell ⟨wl.heap.size, 1, none⟩ (.slice q S.X.length cq)) = wm at *
             clear hWn
             generalize hTn : wl.heap.size = T12 at LA ⊢
             clear hTn)
          | (have LA := hide (laid_new Kc.out RD.out (fun j hj => RW.out.typ j hj) (.int .i64 S.t) (.slice q S.X.length cq))
             have RA := hide (RW.out.keep (Kept.alloc wa (.cells #[.int .i64 S.t, .slice q S.X.length cq] 40)) (fun _ _ e => e))
             have FA : Hid (∀ j, HB q j → wl.heap.size ≤ j) := fun j hj => by have := FR.out j hj; simp at this; omega
             generalize hWn : (wa.alloc (.cells #[.int .i64 S.t, .slice q S.X.length cq] 40)) = wm at *
             clear hWn
             generalize hTn : wa.heap.size = T12 at LA ⊢
             clear hTn)
        clear Kc RW RD FR c0 c1 c2
        have HQL : Hid (∀ j, HB q j → j < wm.heap.size) := fun j hj => typ_lt (RA.out.typ j hj)
        have KM := hide (KL.out.calm2 LA.out.kept)
        obtain ⟨c0, c1, c2⟩ := CF.out wm KM.out
        have hsm1 := LA.out.kept.size
        have hsm2 := KL.out.size
        go_wp2
      all_goals
        go_region_held3 (fun w' => w'.cell? ⟨w0, 0, none⟩ = some (.int .i64 t) ∧ w'.cell? ⟨w0, 1, none⟩ = some (.slice p L.length cap) ∧ w'.cell? ⟨ib, io + i, none⟩ = some (.slice pc cs.length capc)) (go_keep)
          (first
            | (go_at_call 18; refine (rstep_any t p pc cap capc L cs wm.drew (by omega) (HR.out.calm (KM.out.calm2 (Kept.drew wm))) HP.out (HC.out.calm (KM.out.calm2 (Kept.drew wm)))).mono ?_; rw [HS.out]; rintro e wa ⟨q', cq', rfl, own, k⟩; have Kc := hide ((Kept.drew wm).calm2 k); have OW := hide own; have FB : Hid (∀ j, HB q' j → wm.heap.size ≤ j) := (fun j hj => (own.lt j hj).1); obtain ⟨f0, f1, f2⟩ := CF.out wa (KM.out.calm2 Kc.out); clear own k)
            | (go_at_call 18; refine (rstep_any t p pc cap capc L cs (wm.drew.alloc (.cells #[.int .i64 0, .slice none 0 0] 40)) (by omega) (HR.out.calm (KM.out.calm2 ((Kept.drew wm).calm2 (Kept.alloc _ _)))) HP.out (HC.out.calm (KM.out.calm2 ((Kept.drew wm).calm2 (Kept.alloc _ _))))).mono ?_; rw [HS.out]; rintro e wa ⟨q', cq', rfl, own, k⟩; have Kc := hide (((Kept.drew wm).calm2 (Kept.alloc _ (.cells #[.int .i64 0, .slice none 0 0] 40))).calm2 k); have OW := hide own; have FB : Hid (∀ j, HB q' j → wm.heap.size ≤ j) := (fun j hj => by have := (own.lt j hj).1; simp at this; omega); have T8 : Hid (wa.heap[wm.heap.size]? = some (.cells #[.int .i64 0, .slice none 0 0] 40 (0, 0))) := new_calm (w := wm.drew) k; obtain ⟨f0, f1, f2⟩ := CF.out wa (KM.out.calm2 Kc.out); obtain ⟨j0, j1, j2, j3⟩ := two_cells T8.out; have x1 : w0 ≠ wm.heap.size := (by omega); have x2 : ib ≠ wm.heap.size := (by omega); have x3 := x1.symm; have x4 := x2.symm; clear own k))
      all_goals
        clear f0 f1 f2
        have HQ0 := hide OW.out.cap0
        first
          | (have LB := hide (laid_set Kc.out (Nat.le_refl _) T8.out OW.out.reads OW.out.typs (.int .i64 S.t) (.slice q' S.X.length cq'))
             skip
             clear T8 j0 j1 j2 j3 x1 x2 x3 x4
             generalize hWn : ((wa.setCell ⟨wm.heap.size, 0, none⟩ (.int .i64 S.t)).setCell ⟨wm.heap.size, 1, none⟩ (.slice q' S.X.length cq')) = wn at *
             clear hWn
             generalize hTn : wm.heap.size = T14 at LB ⊢
             clear hTn)
          | (have LB := hide (laid_new Kc.out OW.out.reads OW.out.typs (.int .i64 S.t) (.slice q' S.X.length cq'))
             skip
             generalize hWn : (wa.alloc (.cells #[.int .i64 S.t, .slice q' S.X.length cq'] 40)) = wn at *
             clear hWn
             generalize hTn : wa.heap.size = T14 at LB ⊢
             clear hTn)
        clear Kc OW c0 c1 c2
        have T12n : Hid (wn.heap[T12]? = some (.cells #[.int .i64 S.t, .slice q S.X.length cq] 40 (0, 0))) := by show _ = _; rw [LB.out.kept.block _ (heap_lt LA.out.blk) (fun e => e)]; exact LA.out.blk
        obtain ⟨a0, a1, -, -⟩ := two_cells T12n.out
        obtain ⟨b0, b1, -, -⟩ := two_cells LB.out.blk
        have HLB := hide LB.out.typs
        have RBn := hide LB.out.reads
        have T14n := hide LB.out.blk
        have KLn := hide (LA.out.kept.calm2 LB.out.kept)
        have hsn := LB.out.kept.size
        go_wp2_with fail
      all_goals
        refine (same_c S.t q q' cq cq' S.X wn (LA.out.reads.calm LB.out.kept) LB.out.reads HSM.out.1 HSM.out.2).mono ?_
        rintro e ws ⟨rfl, ks⟩
        have KMs := hide (KLn.out.calm2 ks)
        have KWs := hide (KL.out.calm2 KMs.out)
        have T12s : Hid (ws.heap[T12]? = some (.cells #[.int .i64 S.t, .slice q S.X.length cq] 40 (0, 0))) := by show _ = _; rw [ks.block _ (heap_lt T12n.out) (fun e => e)]; exact T12n.out
        have T14s : Hid (ws.heap[T14]? = some (.cells #[.int .i64 S.t, .slice q' S.X.length cq'] 40 (0, 0))) := by show _ = _; rw [ks.block _ (heap_lt T14n.out) (fun e => e)]; exact T14n.out
        have RAs := hide (RA.out.keep (LB.out.kept.calm2 ks) (fun _ _ e => e))
        have RBs := hide (RBn.out.calm ks)
        have TYs : Hid (∀ j, HB q' j → typ ws j 57) := fun j hj => typ_keep (HLB.out j hj) ks (fun e => e)
        clear ks a0 a1 b0 b1 LB LA T12n T14n RA RBn HLB KLn
        obtain ⟨c0, c1, c2⟩ := CF.out ws KWs.out
        have hss := KMs.out.size
        go_wp2_with fail
      all_goals
        refine (kept_c (some ⟨O, 0, none⟩) p (L.length + 8) cap L ws (by omega) (HR.out.calm KWs.out) (RO.out.calm KMs.out)).mono ?_
        rintro e wk1 ⟨rfl, kk1⟩
        have Kk1 := hide kk1
        clear kk1 c0 c1 c2
        obtain ⟨c0, c1, c2⟩ := CF.out wk1 (KWs.out.calm2 Kk1.out)
        go_wp2_with fail
      all_goals
        refine (keptC_c (some ⟨OC, 0, none⟩) pc (cs.length + 8) capc cs wk1 (by omega) (HC.out.calm (KWs.out.calm2 Kk1.out)) (ROC.out.calm (KMs.out.calm2 Kk1.out))).mono ?_
        rintro e wk ⟨rfl, kk2⟩
        have Kk := hide (Kk1.out.calm2 kk2)
        have KAk := hide (KWs.out.calm2 Kk.out)
        have RAk := hide (RAs.out.keep Kk.out (fun _ _ e => e))
        have RBk := hide (RBs.out.calm Kk.out)
        have TYk : Hid (∀ j, HB q' j → typ wk j 57) := fun j hj => typ_keep (TYs.out j hj) Kk.out (fun e => e)
        have ROk := hide (RO.out.calm (KMs.out.calm2 Kk.out))
        have T12k : Hid (wk.heap[T12]? = some (.cells #[.int .i64 S.t, .slice q S.X.length cq] 40 (0, 0))) := by show _ = _; rw [Kk.out.block _ (heap_lt T12s.out) (fun e => e)]; exact T12s.out
        have T14k : Hid (wk.heap[T14]? = some (.cells #[.int .i64 S.t, .slice q' S.X.length cq'] 40 (0, 0))) := by show _ = _; rw [Kk.out.block _ (heap_lt T14s.out) (fun e => e)]; exact T14s.out
        have hsk := Kk.out.size
        clear kk2 c0 c1 c2 RAs RBs T12s T14s TYs Kk1
        obtain ⟨a0, a1, -, -⟩ := two_cells T12k.out
        have hX32 := HSM.out.1
        have GQ : Hid (∀ i (h : i < Q.length) j, HB Q[i].1 j → ¬ HB q j) := fun i h j hj e => by
          have h1 := typ_lt (HB1.out.here i h j hj)
          have h2 := FA.out j e
          omega
        go_wp2_with fail
      all_goals
        refine (keepE bk S.X.length cq q ev Q wk (by omega) (by omega) (HB1.out.still KAk.out) RAk.out GQ.out).mono ?_
        rintro e we ⟨rfl, ev', Q', hb', hQ', ke, hev'⟩
        have HBe := hide hb'
        have HV' := hide hev'
        have KE := hide ke
        have HEe : Hid (∀ j, ev'.ownBlock = some j → W.heap.size ≤ j) := fun j hj => by
          rcases hev' j hj with h | h
          · exact HEV.out j h
          · omega
        have hevl : Hid (∀ j, ev.ownBlock = some j → j < O) := fun j hj => by have := owns_lt HB1.out.own j hj; omega
        have KRe : Hid (Kept (fun j => j = bk ∨ ev.ownBlock = some j) wr we) := KAk.out.join ke (fun _ _ e => e.elim) (fun j hj e => by
          rcases e with e | e
          · have := FA.out j e; omega
          · exact e)
        have HRe : Hid (Reads we p L) := fun hne => (HR.out.keep KRe.out (fun b off hpe e => by
          have h4 := HPJ.out hne b ⟨off, hpe⟩
          rcases e with e | e
          · exact h4.2.2.1 e
          · exact h4.2.2.2 e)) hne
        have ROe : Hid (Reads we (some ⟨O, 0, none⟩) (lentL L)) := ROk.out.keep ke (fun b off hpe e => by
          cases hpe
          rcases e with e | e | e
          · have := FA.out _ e; omega
          · omega
          · have := hevl.out _ e; omega)
        have T14e : Hid (we.heap[T14]? = some (.cells #[.int .i64 S.t, .slice q' S.X.length cq'] 40 (0, 0))) := by
          show _ = _
          rw [ke.block _ (heap_lt T14k.out) (fun e => by
            rcases e with e | e | e
            · exact typ_ne (RAk.out.typ _ e) (typ_blk T14k.out) (by decide) rfl
            · exact typ_ne (typ_blk (HB1.out.still KAk.out).blk) (typ_blk T14k.out) (by decide) e.symm
            · exact typ_ne (typ_own (HB1.out.still KAk.out).own _ e) (typ_blk T14k.out) (by decide) rfl)]
          exact T14k.out
        have nq : Hid (∀ j, HB q' j → ¬ (HB q j ∨ j = bk ∨ ev.ownBlock = some j)) := fun j hj e => by
          have h1 := FB.out j hj
          rcases e with e | e | e
          · have := HQL.out j e; omega
          · omega
          · have := hevl.out _ e; omega
        have RBe : Hid (Reads we q' S.X) := RBk.out.keep ke (fun b off hpe => nq.out b ⟨off, hpe⟩)
        have TYe : Hid (∀ j, HB q' j → typ we j 57) := fun j hj => typ_keep (TYk.out j hj) ke (nq.out j hj)
        have HPe : Hid (∀ j, HB q' j → j ≠ w0 ∧ j ≠ bk ∧ ev'.ownBlock ≠ some j) := fun j hj => by
          have h1 := FB.out j hj
          have h2 := typ_lt (TYk.out j hj)
          refine ⟨by omega, by omega, fun e => ?_⟩
          rcases HV'.out j e with h | h
          · have := hevl.out _ h; omega
          · omega
        have HPo : Hid (L ≠ [] → ∀ j, HB p j → j < O ∧ j ≠ w0 ∧ j ≠ bk ∧ ev'.ownBlock ≠ some j) := fun hne j hj => by
          obtain ⟨h1, h2, h3, h4⟩ := HPJ.out hne j hj
          refine ⟨by omega, h2, h3, fun e => ?_⟩
          rcases HV'.out j e with h | h
          · exact h4 h
          · omega
        have KWe : Hid (Kept (fun _ => False) w we) := HKW.out.join KRe.out (fun _ _ e => e) (fun j hj e => by
          rcases e with e | e
          · omega
          · have := HEV.out j e; omega)
        have hse := KRe.out.size
        have HWe : Hid (we.heap[w0]? = some (.cells #[.int .i64 t, .slice p L.length cap] 40 (0, 0))) := by
          show _ = _
          rw [KRe.out.block _ (by omega) (fun e => by
            rcases e with e | e
            · omega
            · have := HEV.out _ e; omega)]
          exact HWB.out
        obtain ⟨c0, c1, c2⟩ := CE.out we KRe.out
        clear hb' hev' ke a0 a1 GQ RAk RBk TYk T12k T14k RO ROC ROCs OL1 OCL HB1 HKW KRe KE FA FB HQL KAk nq HV' HR HC HPJ CE CF HI KWs KMs Kk ROk
        go_wp2_with fail
      all_goals
        refine (kept_c (some ⟨O, 0, none⟩) p (L.length + 8) cap L we (by omega) HRe.out ROe.out).mono ?_
        rintro e wf ⟨rfl, kf⟩
        have Kf := hide kf
        clear kf c0 c1 c2
        have HBf := hide (HBe.out.still Kf.out)
        go_wp2_with fail
      all_goals
        refine (wholeE bk ev' Q' wf (by omega) HBf.out).mono ?_
        rintro e wg ⟨rfl, kg⟩
        have Kg := hide (Kf.out.calm2 kg)
        have HBg := hide (HBf.out.still kg)
        clear kg
        have hse : (S.e != S.e) = false := by simp
        have HWg : Hid (wg.heap[w0]? = some (.cells #[.int .i64 t, .slice p L.length cap] 40 (0, 0))) := by show _ = _; rw [Kg.out.block _ (heap_lt HWe.out) (fun e => e)]; exact HWe.out
        have T14g : Hid (wg.heap[T14]? = some (.cells #[.int .i64 S.t, .slice q' S.X.length cq'] 40 (0, 0))) := by show _ = _; rw [Kg.out.block _ (heap_lt T14e.out) (fun e => e)]; exact T14e.out
        have hsg := Kg.out.size
        have KWg := hide (KWe.out.calm2 Kg.out)
        by_cases hS0 : S.e = 0
        · have hS1 : (S.e == 0) = true := by simp [hS0]
          obtain ⟨c0, c1, f0, f1⟩ := two_cells HWg.out
          obtain ⟨b0, b1, -, -⟩ := two_cells T14g.out
          clear hS0
          go_wp2
          go_roundw
          case rel =>
            refine ⟨i + 1, ev', Q', S.t, q', cq', S.X, by omega, by go_num, by omega, (by have := HSM.out.1; omega), HQ0, ?_, HEe, two_sets HWg.out _ _, ?_, ?_, ?_, ?_⟩
            · exact HBg.out.keep (sets_kept wg w0 _ _) (by omega) (fun j hj e => by have := HEe.out j hj; omega) (fun j hj => typ_ne hj (typ_blk HWg.out) (by decide))
            · exact (RBe.out.calm Kg.out).keep (sets_kept wg w0 _ _) (fun b off e => (HPe.out b ⟨off, e⟩).1)
            · intro _ j hj
              have h1 := typ_lt (TYe.out j hj)
              obtain ⟨h2, h3, h4⟩ := HPe.out j hj
              exact ⟨by simp; omega, h2, h3, h4⟩
            · exact two_kept KWg.out (by omega) _ _
            · simp; omega
          case measure => simp [intOf]; omega
        · have hS1 : (S.e == 0) = false := by simp [hS0]
          clear hS0
          go_wp2
          go_roundw
          case rel =>
            refine ⟨i + 1, ev', Q', t, p, cap, L, by omega, by go_num, by omega, hLl, HP, HBg, HEe, HWg, HRe.out.calm Kg.out, ?_, KWg, by omega⟩
            intro hne j hj
            obtain ⟨h1, h2, h3, h4⟩ := HPo.out hne j hj
            exact ⟨by omega, h2, h3, h4⟩
          case measure => simp [intOf]; omega
    · go_wp2_with fail
      refine (wholeE bk ev Q wr (by omega) HB1.out).mono ?_
      rintro e wg ⟨rfl, kg⟩
      have Kg := hide (HKW.out.calm2 kg)
      clear kg
      go_wp2
      go_ret
      exact ⟨rfl, Kg.out.below _ (by omega) (fun _ _ e => e)⟩
end Go.Proofs.Ytlfmfhmbkpnjbaa

namespace Go.Proofs.Ytlfmfhmbkpnjbaa.stepsP
open Go.ChangeShapes Go.WideShapes Go.ChangeAt Go.RowKit Go.Deep
open Go.Proofs.Ytlfmfhmbkpnjbaa.opens
set_option linter.unusedVariables false
set_option maxRecDepth 100000

theorem cellsC : Try.prog.cellsOf 99 = 6 := by kernel_rfl
theorem cellsL : Try.prog.cellsOf 43 = 1 := by kernel_rfl

theorem cmd_of {H : Type} {enc : TypeId × Value → H} {W : World} {spare : Nat → Bool} {held : Bool} {n : Nat} {cs : List Value} {x : DataW H × List MemPlace} (h : DataW.trod enc Try.prog W 0 spare held n 99 cs = some x) :
    ∃ m : Cmd, cs = rowC [m] := by
  obtain ⟨xs, m, _, rfl, hl, hlen, hf⟩ := DataW.trod_struct Try.underlying99 h
  rw [cellsC] at hl
  match cs, hl, xs, hlen with
  | [c0, c1, c2, c3, c4, c5], _, [y0, y1, y2, y3, y4, y5], _ =>
    have f0 : DataW.trod enc Try.prog W 0 spare held m 3 [c0] = some y0 := by have := hf 0 _ rfl; simpa [cellsI] using this
    have f1 : DataW.trod enc Try.prog W 0 spare held m 3 [c1] = some y1 := by have := hf 1 _ rfl; simpa [cellsI] using this
    have f2 : DataW.trod enc Try.prog W 0 spare held m 3 [c2] = some y2 := by have := hf 2 _ rfl; simpa [cellsI] using this
    have f3 : DataW.trod enc Try.prog W 0 spare held m 54 [c3] = some y3 := by have := hf 3 _ rfl; simpa [cellsF] using this
    have f4 : DataW.trod enc Try.prog W 0 spare held m 54 [c4] = some y4 := by have := hf 4 _ rfl; simpa [cellsF] using this
    have f5 : DataW.trod enc Try.prog W 0 spare held m 3 [c5] = some y5 := by have := hf 5 _ rfl; simpa [cellsI] using this
    obtain ⟨k0, e0, _⟩ := DataW.trod_int Try.underlying3 f0
    obtain ⟨k1, e1, _⟩ := DataW.trod_int Try.underlying3 f1
    obtain ⟨k2, e2, _⟩ := DataW.trod_int Try.underlying3 f2
    obtain ⟨k3, e3⟩ := trod_float Try.underlying54 f3
    obtain ⟨k4, e4⟩ := trod_float Try.underlying54 f4
    obtain ⟨k5, e5, _⟩ := DataW.trod_int Try.underlying3 f5
    simp only [List.cons.injEq, and_true] at e0 e1 e2 e3 e4 e5
    subst e0 e1 e2 e3 e4 e5
    exact ⟨⟨k0, k1, k2, k3, k4, k5⟩, rfl⟩

theorem cmds_at {W : World} {b off : Nat} (len : Nat) (hel : ∀ i, i < len → ∃ m : Cmd, ∀ k, k < 6 → W.cell? ⟨b, off + i * 6 + k, none⟩ = (rowC [m])[k]?) :
    ∃ L : List Cmd, L.length = len ∧ ∀ j u, (rowC L)[j]? = some u → W.cell? ⟨b, off + j, none⟩ = some u := by
  induction len with
  | zero => exact ⟨[], rfl, fun j u hu => by simp [rowC] at hu⟩
  | succ n ih =>
    obtain ⟨L, hl, hr⟩ := ih (fun i hi => hel i (by omega))
    obtain ⟨m, hm⟩ := hel n (by omega)
    refine ⟨L ++ [m], by simp [hl], fun j u hu => ?_⟩
    rw [rowC_append] at hu
    have hll : (rowC L).length = n * 6 := by rw [rowC_length, hl]
    by_cases hj : j < n * 6
    · rw [List.getElem?_append_left (by omega)] at hu
      exact hr j u hu
    · rw [List.getElem?_append_right (by omega), hll] at hu
      have h7 : j - n * 6 < 6 := (List.getElem?_eq_some_iff.1 hu).1
      have := hm (j - n * 6) h7
      rw [hu, show off + n * 6 + (j - n * 6) = off + j from by omega] at this
      exact this

theorem cmds_of {H : Type} {enc : TypeId × Value → H} {W : World} {spare : Nat → Bool} {held : Bool} {fuel : Nat} {cs : List Value} {x : DataW H × List MemPlace} (h : DataW.trod enc Try.prog W 0 spare held fuel 43 cs = some x) :
    ∃ p cap, ∃ L : List Cmd, cs = [.slice p L.length cap] ∧ ReadsC W p L ∧ L.length ≤ Rows.uptoBulk x.1 := by
  rcases open_slice Try.underlying43 h with ⟨hcs, _⟩ | ⟨a, len, cap, m, n, D, Pl, hcs, _, hl, _, hmm, hx, hel⟩
  · exact ⟨none, 0, [], hcs, fun h => absurd rfl h, Nat.zero_le _⟩
  · rw [cellsC] at hel
    have hlm : len ≤ m := by rw [hmm]; split <;> omega
    have hbulk : len ≤ Rows.uptoBulk x.1 := by
      have := many_le ((List.range len).map D)
      rw [hx]
      simp only [Rows.uptoBulk]
      simp only [List.length_map, List.length_range] at this
      omega
    by_cases hpos : 0 < len
    · obtain ⟨b, off, spot⟩ := a
      have hfirst : spot = none ∧ b < W.heap.size := by
        obtain ⟨cs', h1, h2⟩ := hel 0 (by omega)
        obtain ⟨m0, rfl⟩ := cmd_of h2
        have h3 := (World.cells?_some h1).2.2 0 (by omega)
        have h4 : W.cell? (((⟨b, off, spot⟩ : Addr).add (0 * 6)).add 0) = some (.int .i64 m0.kind) := h3
        simp only [Nat.zero_mul] at h4
        have e : ((⟨b, off, spot⟩ : Addr).add 0).add 0 = ⟨b, off, spot⟩ := by simp [Addr.add]
        rw [e] at h4
        exact ⟨World.cell?_spot h4, World.block_lt_of_cell? (w := W) (a := ⟨b, off, spot⟩) h4⟩
      obtain ⟨rfl, hb⟩ := hfirst
      obtain ⟨L, hLl, hr⟩ := cmds_at (W := W) (b := b) (off := off) len (fun i hi => by
        obtain ⟨cs', h1, h2⟩ := hel i (by omega)
        obtain ⟨m0, rfl⟩ := cmd_of h2
        have hc := (World.cells?_some h1).2.2
        exact ⟨m0, fun k hk => by have := hc k hk; rwa [addr_add2, addr_add2] at this⟩)
      exact ⟨some ⟨b, off, none⟩, cap, L, by rw [hLl]; exact hcs, fun _ => ⟨b, off, rfl, hb, hr⟩, by rw [hLl]; exact hbulk⟩
    · obtain rfl : len = 0 := by omega
      exact ⟨some a, cap, [], hcs, fun h => absurd rfl h, Nat.zero_le _⟩

theorem part_le {H : Type} (D : Nat → DataW H) (n j : Nat) (hj : j < n) : Rows.uptoBulk (D j) ≤ Rows.uptoBulkAll ((List.range n).map D) := by
  have : ∀ l : List (DataW H), ∀ x ∈ l, Rows.uptoBulk x ≤ Rows.uptoBulkAll l := by
    intro l
    induction l with
    | nil => intro x hx; cases hx
    | cons y r ih =>
      intro x hx
      simp only [Rows.uptoBulkAll]
      rcases List.mem_cons.1 hx with rfl | hx
      · omega
      · have := ih x hx; omega
  exact this _ _ (List.mem_map.2 ⟨j, List.mem_range.2 hj, rfl⟩)

theorem nil_cap {H : Type} {enc : TypeId × Value → H} {W : World} {spare : Nat → Bool} {held : Bool} {fuel : Nat} {p : Option Addr} {l cap : Nat} {x : DataW H × List MemPlace} (h : DataW.trod enc Try.prog W 0 spare held fuel 38 [.slice p l cap] = some x) : p = none → cap = 0 := by
  rcases open_slice Try.underlying38 h with ⟨hcs, _⟩ | ⟨a, len, c, m, n, D, Pl, hcs, _⟩
  · simp only [List.cons.injEq, Value.slice.injEq, and_true] at hcs
    exact fun _ => hcs.2.2
  · simp only [List.cons.injEq, Value.slice.injEq, and_true] at hcs
    intro e
    rw [e] at hcs
    cases hcs.1

theorem open_cmds {H : Type} {enc : TypeId × Value → H} {W : World} {a0 : Option Addr} {len0 cap0 : Nat} {d0 : DataW H} {p0 : List MemPlace} (h0 : DataW.Trod enc Try.prog W 0 (fun _ => true) true 41 (.slice a0 len0 cap0) d0 p0) (hb : Rows.uptoBulk d0 ≤ 1048576) :
    len0 ≤ 1048576 ∧ RTC W a0 len0 := by
  obtain ⟨fuel, hf⟩ := h0
  rcases open_slice Try.underlying41 hf with ⟨hcs, _⟩ | ⟨a, len, cap, m, n, D, Pl, hcs, _, hl, hcm, hmm, hx, hel⟩
  · simp [Value.cells] at hcs
    obtain ⟨rfl, rfl, rfl⟩ := hcs
    exact ⟨by decide, fun e => absurd e (by decide)⟩
  · simp [Value.cells] at hcs
    obtain ⟨rfl, rfl, rfl⟩ := hcs
    rw [cellsL] at hel
    have hlm : len0 ≤ m := by rw [hmm]; split <;> omega
    simp only [Prod.mk.injEq] at hx
    have hbd : Rows.uptoBulkAll ((List.range len0).map D) ≤ 1048576 := by
      rw [hx.1] at hb
      simp only [Rows.uptoBulk] at hb
      omega
    have hlen : len0 ≤ 1048576 := by
      have := many_le ((List.range len0).map D)
      simp only [List.length_map, List.length_range] at this
      omega
    refine ⟨hlen, fun hpos => ?_⟩
    have cell : ∀ j, j < len0 → ∃ p c, ∃ cs : List Cmd, W.cell? (a.add j) = some (.slice p cs.length c) ∧ cs.length ≤ 1048576 ∧ ReadsC W p cs := by
      intro j hj
      obtain ⟨cs', h1, h2⟩ := hel j (by omega)
      obtain ⟨p, c, cs, rfl, q1, q2⟩ := cmds_of h2
      have h3 := (World.cells?_some h1).2.2 0 (by omega)
      rw [Nat.mul_one] at h3
      have e : (a.add j).add 0 = a.add j := by simp [Addr.add]
      rw [e] at h3
      have hp := part_le D len0 j hj
      exact ⟨p, c, cs, h3, Nat.le_trans q2 (Nat.le_trans hp hbd), q1⟩
    obtain ⟨b, off, spot⟩ := a
    obtain ⟨p, c, cs, h3, _⟩ := cell 0 hpos
    have e : (⟨b, off, spot⟩ : Addr).add 0 = ⟨b, off, spot⟩ := by simp [Addr.add]
    rw [e] at h3
    obtain rfl := World.cell?_spot h3
    refine ⟨b, off, rfl, World.block_lt_of_cell? (w := W) (a := ⟨b, off, none⟩) h3, fun j hj => ?_⟩
    obtain ⟨p, c, cs, h4, h5, h6⟩ := cell j hj
    rw [addr_add2] at h4
    exact ⟨p, c, cs, h4, h5, h6⟩

theorem contract (H : Type) (enc : TypeId × Value → H) (W : World) (base : Nat) (args : Array Value) (ds gs : List (DataW H)) (before : List MemPlace)
    (hval : ∀ (j : Nat) t v, Try.f4.params[j]? = some t → args[j]? = some v → Value.okWide Try.prog W .any base t v)
    (hW : DataW.Whole enc Try.prog Try.f4.params.toList Rows.stepsSpec.vars false W args.toList ds gs before) (hk : Rows.uptoSmall H (ds ++ gs) = true) :
    Calls Try.prog 4 args W fun e W' => ∃ v, e = .returned v ∧ Rows.stepsSpec.post enc Try.prog Try.f4 false true false false W args v W' := by
  have hW' := hW
  obtain ⟨p, q, hA0, hV, rfl, hfz, hnd⟩ := hW
  have hA : DataW.TrodAll enc Try.prog W 0 (fun _ => true) true Try.f4.params.toList args.toList ds p := hA0
  rw [Try.params4] at hA hval
  obtain ⟨v0, vs0, d0, ds0, p0, q0, hargs, rfl, rfl, h0, r0⟩ := trodAll_cons hA
  obtain ⟨v1, vs1, d1, ds1, p1, q1, rfl, rfl, rfl, h1, r1⟩ := trodAll_cons r0
  obtain ⟨rfl, rfl, rfl⟩ := trodAll_nil r1
  obtain rfl : args = #[v0, v1] := by cases args; simp_all
  obtain ⟨rfl, rfl⟩ := trodVars_none hV
  have k0 := h0
  have k1 := h1
  have lt0 : ∀ x ∈ p0, x.block < W.heap.size := by obtain ⟨m, hm⟩ := k0; exact DataW.trod_lt m _ _ _ hm
  have lt1 : ∀ x ∈ p1, x.block < W.heap.size := by obtain ⟨m, hm⟩ := k1; exact DataW.trod_lt m _ _ _ hm
  clear hA0
  simp only [List.append_nil] at hk
  have hbulk : Rows.uptoBulkAll [d0, d1] ≤ 1048576 := of_decide_eq_true hk
  simp only [Rows.uptoBulkAll] at hbulk
  have walk : Calls Try.prog 4 #[v0, v1] W fun e w' => e = .returned (.bool true) ∧ Below W.heap.size W w' := by
    obtain ⟨cs0, rfl, hsz⟩ := okWide_struct Try.underlying40 (hval 0 40 v0 rfl rfl)
    obtain ⟨a1, len1, cap1, rfl⟩ := okWide_slice Try.underlying41 (hval 1 41 v1 rfl rfl)
    obtain ⟨fuel, hf⟩ := h0
    obtain ⟨xs, m, _, hx, hl, hlen, hfd⟩ := DataW.trod_struct Try.underlying40 hf
    obtain ⟨cs⟩ := cs0
    simp only [Value.cells] at hl hfd
    rw [cellsW] at hl
    match cs, hl, xs, hlen, hx, hfd with
    | [c0, c1], _, [y0, y1], _, hx, hfd =>
      have f0 : DataW.trod enc Try.prog W 0 (fun _ => true) true m 3 [c0] = some y0 := by have := hfd 0 _ rfl; simpa [cellsI] using this
      have f1 : DataW.trod enc Try.prog W 0 (fun _ => true) true m 38 [c1] = some y1 := by have := hfd 1 _ rfl; simpa [cellsS] using this
      obtain ⟨t, e0, _⟩ := DataW.trod_int Try.underlying3 f0
      obtain ⟨pe, cape, L, e1, hR, hLb⟩ := ents_of f1
      simp only [List.cons.injEq, and_true] at e0 e1
      subst e0 e1
      have hnc := nil_cap f1
      obtain ⟨hn1, hRT⟩ := open_cmds h1 (by omega)
      simp only [Prod.mk.injEq] at hx
      have hd0 : Rows.uptoBulk d0 = Rows.uptoBulk y0.1 + (Rows.uptoBulk y1.1 + 0) + 1 := by rw [hx.1]; simp [Rows.uptoBulk, Rows.uptoBulkAll]
      exact steps_walk t pe cape L a1 len1 cap1 W (by omega) hn1 hR hnc hRT
  refine walk.mono fun e W' ⟨he, bel⟩ => ?_
  subst he
  exact ⟨_, rfl, _, _, _, [], _, [], hW', trodAll_mk1 (shut_bool Try.underlying4 _), (trodAll_cons_mk (Below.trod ticks.laidOut (by kernel_rfl) (of_decide_eq_true (by kernel_rfl)) k0 bel lt0) (trodAll_cons_mk (Below.trod ticks.laidOut (by kernel_rfl) (of_decide_eq_true (by kernel_rfl)) k1 bel lt1) trodAll_mk0)), rfl, bel.frame _, fun h => by cases h⟩

set_option maxRecDepth 100000 in
theorem lifted (os : Os) (started : os.Started) (H : Type) (enc : TypeId × Value → H) (F : Stop.Interp) :
    ReturnsInHanded {} Try.checked os 4 .any ((Rows.OpenSpec.upto Rows.stepsSpec).pre6 enc Try.prog Try.f4 Rows.stepsUptoRow.domain false) (((Rows.OpenSpec.upto Rows.stepsSpec).at F).post enc Try.prog Try.f4 false true false false) := by
  refine returnsInHanded_of_cond (C := Try.checked) (s := Rows.OpenSpec.upto Rows.stepsSpec) (k := Rows.uptoSmall) rfl ticks.own started (by kernel_rfl) Try.func4
    (OpenSpec.witness (enc := enc) (C := Try.checked) (s := Rows.OpenSpec.upto Rows.stepsSpec) (k := Rows.uptoSmall) rfl false ⟨#[], #[.agg #[.int .i64 0, .slice none 0 0], .slice none 0 0], []⟩ 8 (by kernel_rfl) (by kernel_rfl) (by kernel_rfl)
      (x := ([.agg [.lit (.int .i64 0), .nil], .nil], [], [])) (by kernel_rfl) rfl (by kernel_rfl)) ?_
  intro W base args ds gs before hval hW _ hk _
  exact contract H enc W base args ds gs before hval hW hk

theorem over : Rows.stepsUptoRow.holds Try.pinned (Rows.OpenSpec.upto Rows.stepsSpec) :=
  OpenClaim.holds_of_cond 4 Try.f4 rfl rfl rfl rfl rfl rfl rfl ⟨rfl, rfl, rfl, rfl, rfl⟩ rfl rfl rfl rfl rfl (by kernel_rfl) Try.func4 (by kernel_rfl)
    (of_decide_eq_true (by kernel_rfl)) (by unfold Func.isWrapper; first | (rw [if_pos (by decide +kernel)]; kernel_rfl) | (rw [if_neg (by decide +kernel)]; exact ⟨rfl, rfl⟩))
    (fun os started H enc _ F => lifted os started H enc F)
end Go.Proofs.Ytlfmfhmbkpnjbaa.stepsP

namespace Go.Proofs.Ytlfmfhmbkpnjbaa
theorem steps_holds : Rows.StepsUptoSaid := stepsP.over
#print axioms steps_holds
end Go.Proofs.Ytlfmfhmbkpnjbaa
