import Derived.Test.YtlfmfhmbkpnjbaaSt16
import Derived.Test.YtlfmfhmbkpnjbaaSt17
import Derived.Test.YtlfmfhmbkpnjbaaSt9
import Derived.Test.YtlfmfhmbkpnjbaaSt1
import Derived.Test.YtlfmfhmbkpnjbaaRows
namespace Go.Proofs.Ytlfmfhmbkpnjbaa
open Go.RowKit

/-- Ticks: lists of commands. -/
def RTC (w : World) (q : Option Addr) (n : Nat) : Prop :=
  0 < n → ∃ b off, q = some ⟨b, off, none⟩ ∧ b < w.heap.size ∧ ∀ i, i < n → ∃ pc capc, ∃ cs : List Cmd, w.cell? ⟨b, off + i, none⟩ = some (.slice pc cs.length capc) ∧ cs.length ≤ 1048576 ∧ ReadsC w pc cs

theorem BookE.keep {w w' : World} {S : Nat → Prop} {bk : Nat} {ev : Value} {Q : List Els} (h : BookE w bk ev Q) (k : Kept S w w') (h1 : ¬ S bk) (h2 : ∀ j, ev.ownBlock = some j → ¬ S j) (h3 : ∀ j, typ w j 57 → ¬ S j) : BookE w' bk ev Q :=
  ⟨by rw [k.block _ (heap_lt h.blk) h1]; exact h.blk, owns_block h.own (fun j hj => k.block j (owns_lt h.own j hj) (h2 j hj)), fun i hi => (h.rows i hi).keep k (fun b off e => h3 b (h.here i hi b ⟨off, e⟩)), fun i hi j hj => typ_keep (h.here i hi j hj) k (h3 j (h.here i hi j hj)), h.short, h.four⟩

theorem BookE.still {w w' : World} {bk : Nat} {ev : Value} {Q : List Els} (h : BookE w bk ev Q) (k : Kept (fun _ => False) w w') : BookE w' bk ev Q := h.keep k (fun e => e) (fun _ _ e => e) (fun _ _ e => e)

theorem laid_bk (w : World) : Kept (fun _ => False) w (w.alloc (.cells #[.slice none 0 0, .slice none 0 0] 27)) ∧
    (w.alloc (.cells #[.slice none 0 0, .slice none 0 0] 27)).heap[w.heap.size]? = some (.cells #[.slice none 0 0, .slice none 0 0] 27 (0, 0)) ∧ (w.alloc (.cells #[.slice none 0 0, .slice none 0 0] 27)).heap.size = w.heap.size + 1 :=
  ⟨Kept.alloc w _, heap_alloc_new w _, by simp⟩

set_option maxHeartbeats 8000000 in
set_option maxRecDepth 100000 in
theorem steps_walk (t0 : Int) (p0 : Option Addr) (cap0 : Nat) (L0 : List Mob) (qi : Option Addr) (n capi : Nat) (w : World) (hL0 : L0.length ≤ 1048576) (hn : n ≤ 1048576) (h : Reads w p0 L0) (hp0 : p0 = none → cap0 = 0) (hI : RTC w qi n) :
    Calls Try.prog 4 #[.agg #[.int .i64 t0, .slice p0 L0.length cap0], .slice qi n capi] w fun e w' => e = .returned (.bool true) ∧ Below w.heap.size w w' := by
  have hsf := store_float Try.prog
  have HR0 := hide h
  have HI := hide hI
  have HP0 := hide hp0
  clear h hI hp0
  have KB := hide (Kept.alloc w (.cells #[.int .i64 t0, .slice p0 L0.length cap0] 40))
  have AB := hide (heap_alloc_new w (.cells #[.int .i64 t0, .slice p0 L0.length cap0] 40))
  go_enter Try.func4, Try.ntmps4
  go_wp2_with fail
  generalize w.alloc (.cells #[.int .i64 t0, .slice p0 L0.length cap0] 40) = wc at *
  refine (known_c wc).mono ?_
  rintro e w1 ⟨rfl, k1⟩
  have K1 := hide (KB.out.calm2 k1)
  have A1 : Hid (w1.heap[w.heap.size]? = some (.cells #[.int .i64 t0, .slice p0 L0.length cap0] 40 (0, 0))) := by show _ = _; rw [k1.block _ (heap_lt AB.out) (fun e => e)]; exact AB.out
  clear k1 KB AB
  have LM := hide (laid_bk w1)
  go_wp2
  generalize w1.alloc (.cells #[.slice none 0 0, .slice none 0 0] 27) = W at *
  have hw1 := K1.out.size
  have KW := hide (K1.out.calm2 LM.out.1)
  have BW := hide LM.out.2.1
  have hWs : w1.heap.size + 1 ≤ W.heap.size := Nat.le_of_eq LM.out.2.2.symm
  have hA1 := heap_lt A1.out
  have AW : Hid (W.heap[w.heap.size]? = some (.cells #[.int .i64 t0, .slice p0 L0.length cap0] 40 (0, 0))) := by show _ = _; rw [LM.out.1.block _ hA1 (fun e => e)]; exact A1.out
  clear LM K1 A1
  generalize hbk : w1.heap.size = bk at *
  have hw0 : w.heap.size < bk := hA1
  have HRW : Hid (Reads W p0 L0) := HR0.out.calm KW.out
  have HP1 : Hid (L0 ≠ [] → ∀ j, HB p0 j → j < w.heap.size) := fun hne j hj => by
    obtain ⟨b, off, e, hb, _⟩ := HR0.out hne
    obtain ⟨o2, e2⟩ := hj
    rw [e] at e2
    cases e2; exact hb
  have hKWs := KW.out.size
  generalize hw0' : w.heap.size = w0 at *
  clear HR0
  go_loopw [7] (fun a wr => ∃ i : Nat, ∃ ev : Value, ∃ Q : List Els, ∃ (t : Int) (p : Option Addr) (cap : Nat) (L : List Mob), i ≤ n ∧ a = .int .i64 i ∧ Q.length = 4 * i ∧ L.length ≤ 1048576 ∧ Hid (p = none → cap = 0) ∧ Hid (BookE wr bk ev Q) ∧ Hid (∀ j, ev.ownBlock = some j → W.heap.size ≤ j) ∧ Hid (wr.heap[w0]? = some (.cells #[.int .i64 t, .slice p L.length cap] 40 (0, 0))) ∧ Hid (Reads wr p L) ∧ Hid (L ≠ [] → ∀ j, HB p j → j < wr.heap.size ∧ j ≠ w0 ∧ j ≠ bk ∧ ev.ownBlock ≠ some j) ∧ Hid (Kept (fun _ => False) w wr) ∧ W.heap.size ≤ wr.heap.size) (fun a _ => n - (intOf a).toNat)
  case atStart => exact ⟨0, .slice none 0 0, [], t0, p0, cap0, L0, Nat.zero_le _, rfl, rfl, hL0, HP0, ⟨BW.out, ⟨rfl, Or.inl ⟨rfl, rfl⟩⟩, fun i h => absurd h (Nat.not_lt_zero _), fun i h => absurd h (Nat.not_lt_zero _), fun i h => absurd h (Nat.not_lt_zero _), rfl⟩, (fun j e => by cases e), AW, HRW, (fun hne j hj => by have := HP1.out hne j hj; exact ⟨by omega, by omega, by omega, fun e => by cases e⟩), KW, Nat.le_refl _⟩
  case round =>
    obtain ⟨i, ev, Q, t, p, cap, L, hil, rfl, hQl, hLl, HP, HB1, HEV, HWB, HR, HPJ, HKW, hWr⟩ := hrel
    clear BW AW HRW HP1
    have hbkr := heap_lt HB1.out.blk
    by_cases hlt : i < n
    · obtain ⟨ib, io, hqi, hib, hz⟩ := HI.out (by omega)
      obtain ⟨pc, capc, cs, hzc, hcl, hrc⟩ := hz i hlt
      have HC : Hid (ReadsC wr pc cs) := hrc.calm HKW.out
      clear hz hrc
      subst hqi
      have hA0 := heap_lt HWB.out
      have hibr : ib < wr.heap.size := by have := HKW.out.size; omega
      have CE : Hid (∀ w', Kept (fun j => j = bk ∨ ev.ownBlock = some j) wr w' → w'.cell? ⟨w0, 0, none⟩ = some (.int .i64 t) ∧ w'.cell? ⟨w0, 1, none⟩ = some (.slice p L.length cap) ∧ w'.cell? ⟨ib, io + i, none⟩ = some (.slice pc cs.length capc)) := fun w' hk => by
        have hb := two_cells HWB.out
        have hnS : ∀ j, j < bk → ¬ (j = bk ∨ ev.ownBlock = some j) := fun j hj e => by
          rcases e with e | e
          · omega
          · have := HEV.out j e; omega
        have e1 := cell_keep (o := 0) hk hA0 (hnS _ hw0)
        have e2 := cell_keep (o := 1) hk hA0 (hnS _ hw0)
        have e3 := cell_keep (o := io + i) hk hibr (hnS _ (by omega))
        have e4 := cell_keep (o := io + i) HKW.out (by omega) (fun e => e)
        exact ⟨by rw [e1]; exact hb.1, by rw [e2]; exact hb.2.1, by rw [e3, e4]; exact hzc⟩
      have CF : Hid (∀ w', Kept (fun _ => False) wr w' → w'.cell? ⟨w0, 0, none⟩ = some (.int .i64 t) ∧ w'.cell? ⟨w0, 1, none⟩ = some (.slice p L.length cap) ∧ w'.cell? ⟨ib, io + i, none⟩ = some (.slice pc cs.length capc)) := fun w' hk => CE.out w' (hk.mono (fun _ _ e => e.elim))
      have hi1 : (0 : Int) ≤ (i : Int) := by omega
      have hi2 : (i : Int) < (n : Int) := by omega
      clear hzc
      obtain ⟨c0, c1, c2⟩ := CF.out wr (Kept.refl _ _)
      go_wp2_with fail
      refine (lent_c p cap L wr (by omega) HR.out).mono ?_
      rintro e wk0 ⟨rfl, hO, kl⟩
      have KL0 := hide kl
      have OL := hide hO
      have hO0 := heap_lt hO
      clear kl hO c0 c1 c2
      generalize hOn : wr.heap.size = O at *
      obtain ⟨c0, c1, c2⟩ := CF.out wk0 KL0.out
      go_wp2_with fail
      refine (lentC_c pc capc cs wk0 (by omega) (HC.out.calm KL0.out)).mono ?_
      rintro e wl ⟨rfl, hOC, kl⟩
      have KL := hide (KL0.out.calm2 kl)
      have OCL := hide hOC
      have OL1 : Hid (wl.heap[O]? = some (.cells (rowM (lentL L)).toArray 57 (0, 0))) := by show _ = _; rw [kl.block _ hO0 (fun e => e)]; exact OL.out
      have hOC0 := heap_lt hOC
      clear kl hOC c0 c1 c2 OL KL0
      generalize hOCn : wk0.heap.size = OC at *
      have RO : Hid (Reads wl (some ⟨O, 0, none⟩) (lentL L)) := block_reads OL1.out
      have ROC : Hid (ReadsC wl (some ⟨OC, 0, none⟩) (lentC cs)) := blockC_reads OCL.out
      have ROCs : Hid (ReadsC wl (some ⟨OC, 0, none⟩) cs) := fun hne => ⟨OC, 0, rfl, hOC0, fun j u hu => by
        rw [Nat.zero_add, cell_block OCL.out]
        have h2 : (rowC (lentC cs))[j]? = some u := by
          unfold lentC
          rw [rowC_append, List.getElem?_append_left (List.getElem?_eq_some_iff.1 hu).1]; exact hu
        simpa using h2⟩
      obtain ⟨c0, c1, c2⟩ := CF.out wl KL.out
      have hl1 : (0 : Int) ≤ (L.length : Int) := by omega
      have hl2 : (L.length : Int) ≤ ((L.length + 8 : Nat) : Int) := by omega
      have hl3 : (L.length : Int) ≤ (L.length : Int) + 8 := by omega
      have hk1 : (0 : Int) ≤ (cs.length : Int) := by omega
      have hk2 : (cs.length : Int) ≤ ((cs.length + 8 : Nat) : Int) := by omega
      have hk3 : (cs.length : Int) ≤ (cs.length : Int) + 8 := by omega
      go_wp2
      go_region_held3 (fun w' => w'.cell? ⟨w0, 0, none⟩ = some (.int .i64 t) ∧ w'.cell? ⟨w0, 1, none⟩ = some (.slice p L.length cap) ∧ w'.cell? ⟨ib, io + i, none⟩ = some (.slice pc cs.length capc)) (go_keep)
        (first
          | (go_at_call 17; refine (step_any t (some ⟨O, 0, none⟩) (some ⟨OC, 0, none⟩) (L.length + 8) (cs.length + 8) L cs wl.drew (by omega) ((RO.out.pre).calm (Kept.drew wl)) (fun e => by cases e) (ROCs.out.calm (Kept.drew wl))).mono ?_; rintro e wa ⟨q, cq, rfl, raw, rd, fr, k⟩; have Kc := hide ((Kept.drew wl).calm2 k); have RW := hide raw; have RD := hide rd; have FR := hide fr; obtain ⟨f0, f1, f2⟩ := CF.out wa (KL.out.calm2 Kc.out); clear raw rd fr k)
          | (go_at_call 17; refine (step_any t (some ⟨O, 0, none⟩) (some ⟨OC, 0, none⟩) (L.length + 8) (cs.length + 8) L cs (wl.drew.alloc (.cells #[.int .i64 0, .slice none 0 0] 40)) (by omega) ((RO.out.pre).calm ((Kept.drew wl).calm2 (Kept.alloc _ _))) (fun e => by cases e) (ROCs.out.calm ((Kept.drew wl).calm2 (Kept.alloc _ _)))).mono ?_; rintro e wa ⟨q, cq, rfl, raw, rd, fr, k⟩; have Kc := hide (((Kept.drew wl).calm2 (Kept.alloc _ (.cells #[.int .i64 0, .slice none 0 0] 40))).calm2 k); have RW := hide raw; have RD := hide rd; have FR := hide fr; have T8 : Hid (wa.heap[wl.heap.size]? = some (.cells #[.int .i64 0, .slice none 0 0] 40 (0, 0))) := new_calm (w := wl.drew) k; obtain ⟨f0, f1, f2⟩ := CF.out wa (KL.out.calm2 Kc.out); obtain ⟨j0, j1, j2, j3⟩ := two_cells T8.out; have x1 : w0 ≠ wl.heap.size := (by omega); have x2 : ib ≠ wl.heap.size := (by omega); have x3 := x1.symm; have x4 := x2.symm; clear raw rd fr k))
      all_goals
        have HSM := hide (stepR_small t L cs)
        generalize hS : stepR t L cs = S at *
        have HS := hide hS
        clear hS f0 f1 f2
        first
          | (have LA := hide (laid_set Kc.out (Nat.le_refl _) T8.out RD.out (fun j hj => RW.out.typ j hj) (.int .i64 S.t) (.slice q S.X.length cq))
             have RA := hide (RW.out.keep (sets_kept wa wl.heap.size (.int .i64 S.t) (.slice q S.X.length cq)) (fun j hj => typ_ne (RW.out.typ j hj) (typ_blk T8.out) (by decide)))
             have FA : Hid (∀ j, HB q j → wl.heap.size ≤ j) := fun j hj => by have := FR.out j hj; simp at this; omega
             clear T8 j0 j1 j2 j3 x1 x2 x3 x4
             generalize hWn : ((wa.setCell ⟨wl.heap.size, 0, none⟩ (.int .i64 S.t)).setCell ⟨wl.heap.size, 1, none⟩ (.slice q S.X.length cq)) = wm at *
             clear hWn
             generalize hTn : wl.heap.size = T12 at LA ⊢
             clear hTn)
          | (have LA := hide (laid_new Kc.out RD.out (fun j hj => RW.out.typ j hj) (.int .i64 S.t) (.slice q S.X.length cq))
             have RA := hide (RW.out.keep (Kept.alloc wa (.cells #[.int .i64 S.t, .slice q S.X.length cq] 40)) (fun _ _ e => e))
             have FA : Hid (∀ j, HB q j → wl.heap.size ≤ j) := fun j hj => by have := FR.out j hj; simp at this; omega
             generalize hWn : (wa.alloc (.cells #[.int .i64 S.t, .slice q S.X.length cq] 40)) = wm at *
             clear hWn
             generalize hTn : wa.heap.size = T12 at LA ⊢
             clear hTn)
        clear Kc RW RD FR c0 c1 c2
        have HQL : Hid (∀ j, HB q j → j < wm.heap.size) := fun j hj => typ_lt (RA.out.typ j hj)
        have KM := hide (KL.out.calm2 LA.out.kept)
        obtain ⟨c0, c1, c2⟩ := CF.out wm KM.out
        have hsm1 := LA.out.kept.size
        have hsm2 := KL.out.size
        go_wp2
      all_goals
        go_region_held3 (fun w' => w'.cell? ⟨w0, 0, none⟩ = some (.int .i64 t) ∧ w'.cell? ⟨w0, 1, none⟩ = some (.slice p L.length cap) ∧ w'.cell? ⟨ib, io + i, none⟩ = some (.slice pc cs.length capc)) (go_keep)
          (first
            | (go_at_call 18; refine (rstep_any t p pc cap capc L cs wm.drew (by omega) (HR.out.calm (KM.out.calm2 (Kept.drew wm))) HP.out (HC.out.calm (KM.out.calm2 (Kept.drew wm)))).mono ?_; rw [HS.out]; rintro e wa ⟨q', cq', rfl, own, k⟩; have Kc := hide ((Kept.drew wm).calm2 k); have OW := hide own; have FB : Hid (∀ j, HB q' j → wm.heap.size ≤ j) := (fun j hj => (own.lt j hj).1); obtain ⟨f0, f1, f2⟩ := CF.out wa (KM.out.calm2 Kc.out); clear own k)
            | (go_at_call 18; refine (rstep_any t p pc cap capc L cs (wm.drew.alloc (.cells #[.int .i64 0, .slice none 0 0] 40)) (by omega) (HR.out.calm (KM.out.calm2 ((Kept.drew wm).calm2 (Kept.alloc _ _)))) HP.out (HC.out.calm (KM.out.calm2 ((Kept.drew wm).calm2 (Kept.alloc _ _))))).mono ?_; rw [HS.out]; rintro e wa ⟨q', cq', rfl, own, k⟩; have Kc := hide (((Kept.drew wm).calm2 (Kept.alloc _ (.cells #[.int .i64 0, .slice none 0 0] 40))).calm2 k); have OW := hide own; have FB : Hid (∀ j, HB q' j → wm.heap.size ≤ j) := (fun j hj => by have := (own.lt j hj).1; simp at this; omega); have T8 : Hid (wa.heap[wm.heap.size]? = some (.cells #[.int .i64 0, .slice none 0 0] 40 (0, 0))) := new_calm (w := wm.drew) k; obtain ⟨f0, f1, f2⟩ := CF.out wa (KM.out.calm2 Kc.out); obtain ⟨j0, j1, j2, j3⟩ := two_cells T8.out; have x1 : w0 ≠ wm.heap.size := (by omega); have x2 : ib ≠ wm.heap.size := (by omega); have x3 := x1.symm; have x4 := x2.symm; clear own k))
      all_goals
        clear f0 f1 f2
        have HQ0 := hide OW.out.cap0
        first
          | (have LB := hide (laid_set Kc.out (Nat.le_refl _) T8.out OW.out.reads OW.out.typs (.int .i64 S.t) (.slice q' S.X.length cq'))
             skip
             clear T8 j0 j1 j2 j3 x1 x2 x3 x4
             generalize hWn : ((wa.setCell ⟨wm.heap.size, 0, none⟩ (.int .i64 S.t)).setCell ⟨wm.heap.size, 1, none⟩ (.slice q' S.X.length cq')) = wn at *
             clear hWn
             generalize hTn : wm.heap.size = T14 at LB ⊢
             clear hTn)
          | (have LB := hide (laid_new Kc.out OW.out.reads OW.out.typs (.int .i64 S.t) (.slice q' S.X.length cq'))
             skip
             generalize hWn : (wa.alloc (.cells #[.int .i64 S.t, .slice q' S.X.length cq'] 40)) = wn at *
             clear hWn
             generalize hTn : wa.heap.size = T14 at LB ⊢
             clear hTn)
        clear Kc OW c0 c1 c2
        have T12n : Hid (wn.heap[T12]? = some (.cells #[.int .i64 S.t, .slice q S.X.length cq] 40 (0, 0))) := by show _ = _; rw [LB.out.kept.block _ (heap_lt LA.out.blk) (fun e => e)]; exact LA.out.blk
        obtain ⟨a0, a1, -, -⟩ := two_cells T12n.out
        obtain ⟨b0, b1, -, -⟩ := two_cells LB.out.blk
        have HLB := hide LB.out.typs
        have RBn := hide LB.out.reads
        have T14n := hide LB.out.blk
        have KLn := hide (LA.out.kept.calm2 LB.out.kept)
        have hsn := LB.out.kept.size
        go_wp2_with fail
      all_goals
        refine (same_c S.t q q' cq cq' S.X wn (LA.out.reads.calm LB.out.kept) LB.out.reads HSM.out.1 HSM.out.2).mono ?_
        rintro e ws ⟨rfl, ks⟩
        have KMs := hide (KLn.out.calm2 ks)
        have KWs := hide (KL.out.calm2 KMs.out)
        have T12s : Hid (ws.heap[T12]? = some (.cells #[.int .i64 S.t, .slice q S.X.length cq] 40 (0, 0))) := by show _ = _; rw [ks.block _ (heap_lt T12n.out) (fun e => e)]; exact T12n.out
        have T14s : Hid (ws.heap[T14]? = some (.cells #[.int .i64 S.t, .slice q' S.X.length cq'] 40 (0, 0))) := by show _ = _; rw [ks.block _ (heap_lt T14n.out) (fun e => e)]; exact T14n.out
        have RAs := hide (RA.out.keep (LB.out.kept.calm2 ks) (fun _ _ e => e))
        have RBs := hide (RBn.out.calm ks)
        have TYs : Hid (∀ j, HB q' j → typ ws j 57) := fun j hj => typ_keep (HLB.out j hj) ks (fun e => e)
        clear ks a0 a1 b0 b1 LB LA T12n T14n RA RBn HLB KLn
        obtain ⟨c0, c1, c2⟩ := CF.out ws KWs.out
        have hss := KMs.out.size
        go_wp2_with fail
      all_goals
        refine (kept_c (some ⟨O, 0, none⟩) p (L.length + 8) cap L ws (by omega) (HR.out.calm KWs.out) (RO.out.calm KMs.out)).mono ?_
        rintro e wk1 ⟨rfl, kk1⟩
        have Kk1 := hide kk1
        clear kk1 c0 c1 c2
        obtain ⟨c0, c1, c2⟩ := CF.out wk1 (KWs.out.calm2 Kk1.out)
        go_wp2_with fail
      all_goals
        refine (keptC_c (some ⟨OC, 0, none⟩) pc (cs.length + 8) capc cs wk1 (by omega) (HC.out.calm (KWs.out.calm2 Kk1.out)) (ROC.out.calm (KMs.out.calm2 Kk1.out))).mono ?_
        rintro e wk ⟨rfl, kk2⟩
        have Kk := hide (Kk1.out.calm2 kk2)
        have KAk := hide (KWs.out.calm2 Kk.out)
        have RAk := hide (RAs.out.keep Kk.out (fun _ _ e => e))
        have RBk := hide (RBs.out.calm Kk.out)
        have TYk : Hid (∀ j, HB q' j → typ wk j 57) := fun j hj => typ_keep (TYs.out j hj) Kk.out (fun e => e)
        have ROk := hide (RO.out.calm (KMs.out.calm2 Kk.out))
        have T12k : Hid (wk.heap[T12]? = some (.cells #[.int .i64 S.t, .slice q S.X.length cq] 40 (0, 0))) := by show _ = _; rw [Kk.out.block _ (heap_lt T12s.out) (fun e => e)]; exact T12s.out
        have T14k : Hid (wk.heap[T14]? = some (.cells #[.int .i64 S.t, .slice q' S.X.length cq'] 40 (0, 0))) := by show _ = _; rw [Kk.out.block _ (heap_lt T14s.out) (fun e => e)]; exact T14s.out
        have hsk := Kk.out.size
        clear kk2 c0 c1 c2 RAs RBs T12s T14s TYs Kk1
        obtain ⟨a0, a1, -, -⟩ := two_cells T12k.out
        have hX32 := HSM.out.1
        have GQ : Hid (∀ i (h : i < Q.length) j, HB Q[i].1 j → ¬ HB q j) := fun i h j hj e => by
          have h1 := typ_lt (HB1.out.here i h j hj)
          have h2 := FA.out j e
          omega
        go_wp2_with fail
      all_goals
        refine (keepE bk S.X.length cq q ev Q wk (by omega) (by omega) (HB1.out.still KAk.out) RAk.out GQ.out).mono ?_
        rintro e we ⟨rfl, ev', Q', hb', hQ', ke, hev'⟩
        have HBe := hide hb'
        have HV' := hide hev'
        have KE := hide ke
        have HEe : Hid (∀ j, ev'.ownBlock = some j → W.heap.size ≤ j) := fun j hj => by
          rcases hev' j hj with h | h
          · exact HEV.out j h
          · omega
        have hevl : Hid (∀ j, ev.ownBlock = some j → j < O) := fun j hj => by have := owns_lt HB1.out.own j hj; omega
        have KRe : Hid (Kept (fun j => j = bk ∨ ev.ownBlock = some j) wr we) := KAk.out.join ke (fun _ _ e => e.elim) (fun j hj e => by
          rcases e with e | e
          · have := FA.out j e; omega
          · exact e)
        have HRe : Hid (Reads we p L) := fun hne => (HR.out.keep KRe.out (fun b off hpe e => by
          have h4 := HPJ.out hne b ⟨off, hpe⟩
          rcases e with e | e
          · exact h4.2.2.1 e
          · exact h4.2.2.2 e)) hne
        have ROe : Hid (Reads we (some ⟨O, 0, none⟩) (lentL L)) := ROk.out.keep ke (fun b off hpe e => by
          cases hpe
          rcases e with e | e | e
          · have := FA.out _ e; omega
          · omega
          · have := hevl.out _ e; omega)
        have T14e : Hid (we.heap[T14]? = some (.cells #[.int .i64 S.t, .slice q' S.X.length cq'] 40 (0, 0))) := by
          show _ = _
          rw [ke.block _ (heap_lt T14k.out) (fun e => by
            rcases e with e | e | e
            · exact typ_ne (RAk.out.typ _ e) (typ_blk T14k.out) (by decide) rfl
            · exact typ_ne (typ_blk (HB1.out.still KAk.out).blk) (typ_blk T14k.out) (by decide) e.symm
            · exact typ_ne (typ_own (HB1.out.still KAk.out).own _ e) (typ_blk T14k.out) (by decide) rfl)]
          exact T14k.out
        have nq : Hid (∀ j, HB q' j → ¬ (HB q j ∨ j = bk ∨ ev.ownBlock = some j)) := fun j hj e => by
          have h1 := FB.out j hj
          rcases e with e | e | e
          · have := HQL.out j e; omega
          · omega
          · have := hevl.out _ e; omega
        have RBe : Hid (Reads we q' S.X) := RBk.out.keep ke (fun b off hpe => nq.out b ⟨off, hpe⟩)
        have TYe : Hid (∀ j, HB q' j → typ we j 57) := fun j hj => typ_keep (TYk.out j hj) ke (nq.out j hj)
        have HPe : Hid (∀ j, HB q' j → j ≠ w0 ∧ j ≠ bk ∧ ev'.ownBlock ≠ some j) := fun j hj => by
          have h1 := FB.out j hj
          have h2 := typ_lt (TYk.out j hj)
          refine ⟨by omega, by omega, fun e => ?_⟩
          rcases HV'.out j e with h | h
          · have := hevl.out _ h; omega
          · omega
        have HPo : Hid (L ≠ [] → ∀ j, HB p j → j < O ∧ j ≠ w0 ∧ j ≠ bk ∧ ev'.ownBlock ≠ some j) := fun hne j hj => by
          obtain ⟨h1, h2, h3, h4⟩ := HPJ.out hne j hj
          refine ⟨by omega, h2, h3, fun e => ?_⟩
          rcases HV'.out j e with h | h
          · exact h4 h
          · omega
        have KWe : Hid (Kept (fun _ => False) w we) := HKW.out.join KRe.out (fun _ _ e => e) (fun j hj e => by
          rcases e with e | e
          · omega
          · have := HEV.out j e; omega)
        have hse := KRe.out.size
        have HWe : Hid (we.heap[w0]? = some (.cells #[.int .i64 t, .slice p L.length cap] 40 (0, 0))) := by
          show _ = _
          rw [KRe.out.block _ (by omega) (fun e => by
            rcases e with e | e
            · omega
            · have := HEV.out _ e; omega)]
          exact HWB.out
        obtain ⟨c0, c1, c2⟩ := CE.out we KRe.out
        clear hb' hev' ke a0 a1 GQ RAk RBk TYk T12k T14k RO ROC ROCs OL1 OCL HB1 HKW KRe KE FA FB HQL KAk nq HV' HR HC HPJ CE CF HI KWs KMs Kk ROk
        go_wp2_with fail
      all_goals
        refine (kept_c (some ⟨O, 0, none⟩) p (L.length + 8) cap L we (by omega) HRe.out ROe.out).mono ?_
        rintro e wf ⟨rfl, kf⟩
        have Kf := hide kf
        clear kf c0 c1 c2
        have HBf := hide (HBe.out.still Kf.out)
        go_wp2_with fail
      all_goals
        refine (wholeE bk ev' Q' wf (by omega) HBf.out).mono ?_
        rintro e wg ⟨rfl, kg⟩
        have Kg := hide (Kf.out.calm2 kg)
        have HBg := hide (HBf.out.still kg)
        clear kg
        have hse : (S.e != S.e) = false := by simp
        have HWg : Hid (wg.heap[w0]? = some (.cells #[.int .i64 t, .slice p L.length cap] 40 (0, 0))) := by show _ = _; rw [Kg.out.block _ (heap_lt HWe.out) (fun e => e)]; exact HWe.out
        have T14g : Hid (wg.heap[T14]? = some (.cells #[.int .i64 S.t, .slice q' S.X.length cq'] 40 (0, 0))) := by show _ = _; rw [Kg.out.block _ (heap_lt T14e.out) (fun e => e)]; exact T14e.out
        have hsg := Kg.out.size
        have KWg := hide (KWe.out.calm2 Kg.out)
        by_cases hS0 : S.e = 0
        · have hS1 : (S.e == 0) = true := by simp [hS0]
          obtain ⟨c0, c1, f0, f1⟩ := two_cells HWg.out
          obtain ⟨b0, b1, -, -⟩ := two_cells T14g.out
          clear hS0
          go_wp2
          go_roundw
          case rel =>
            refine ⟨i + 1, ev', Q', S.t, q', cq', S.X, by omega, by go_num, by omega, (by have := HSM.out.1; omega), HQ0, ?_, HEe, two_sets HWg.out _ _, ?_, ?_, ?_, ?_⟩
            · exact HBg.out.keep (sets_kept wg w0 _ _) (by omega) (fun j hj e => by have := HEe.out j hj; omega) (fun j hj => typ_ne hj (typ_blk HWg.out) (by decide))
            · exact (RBe.out.calm Kg.out).keep (sets_kept wg w0 _ _) (fun b off e => (HPe.out b ⟨off, e⟩).1)
            · intro _ j hj
              have h1 := typ_lt (TYe.out j hj)
              obtain ⟨h2, h3, h4⟩ := HPe.out j hj
              exact ⟨by simp; omega, h2, h3, h4⟩
            · exact two_kept KWg.out (by omega) _ _
            · simp; omega
          case measure => simp [intOf]; omega
        · have hS1 : (S.e == 0) = false := by simp [hS0]
          clear hS0
          go_wp2
          go_roundw
          case rel =>
            refine ⟨i + 1, ev', Q', t, p, cap, L, by omega, by go_num, by omega, hLl, HP, HBg, HEe, HWg, HRe.out.calm Kg.out, ?_, KWg, by omega⟩
            intro hne j hj
            obtain ⟨h1, h2, h3, h4⟩ := HPo.out hne j hj
            exact ⟨by omega, h2, h3, h4⟩
          case measure => simp [intOf]; omega
    · go_wp2_with fail
      refine (wholeE bk ev Q wr (by omega) HB1.out).mono ?_
      rintro e wg ⟨rfl, kg⟩
      have Kg := hide (HKW.out.calm2 kg)
      clear kg
      go_wp2
      go_ret
      exact ⟨rfl, Kg.out.below _ (by omega) (fun _ _ e => e)⟩
end Go.Proofs.Ytlfmfhmbkpnjbaa

namespace Go.Proofs.Ytlfmfhmbkpnjbaa
open Go.RowKit

/-- The ticks that came in. -/
def RT (w : World) (q : Option Addr) (n : Nat) : Prop :=
  0 < n → ∃ b off, q = some ⟨b, off, none⟩ ∧ b < w.heap.size ∧ ∀ j, j < n → ∃ pj nj cj, w.cell? ⟨b, off + j, none⟩ = some (.slice pj nj cj) ∧ ((nj : Nat) : Int) ≤ 9223372036854775807 ∧ RI w pj nj
theorem RT.calm {w w' : World} {q : Option Addr} {n : Nat} (h : RT w q n) (hk : Kept (fun _ => False) w w') : RT w' q n := by
  intro hn
  obtain ⟨b, off, h1, h2, h3⟩ := h hn
  refine ⟨b, off, h1, Nat.lt_of_lt_of_le h2 hk.size, fun j hj => ?_⟩
  obtain ⟨pj, nj, cj, q1, q2, q3⟩ := h3 j hj
  exact ⟨pj, nj, cj, by rw [cell_keep hk h2 (fun e => e)]; exact q1, q2, q3.calm hk⟩

/-- A world that was played. -/
structure Wd where
  t : Int
  p : Option Addr
  cap : Nat
  L : List Mob
def rowW : List Wd → List Value
  | [] => []
  | d :: r => .int .i64 d.t :: .slice d.p d.L.length d.cap :: rowW r
theorem rowW_length (L : List Wd) : (rowW L).length = L.length * 2 := by
  induction L with
  | nil => rfl
  | cons p r ih => simp only [rowW, List.length_cons, ih]; omega
theorem rowW_append (L M : List Wd) : rowW (L ++ M) = rowW L ++ rowW M := by
  induction L with
  | nil => rfl
  | cons p r ih => simp [rowW, ih]
theorem rowW_get (L : List Wd) (j : Nat) (h : j < L.length) : (rowW L)[j * 2]? = some (.int .i64 L[j].t) ∧ (rowW L)[j * 2 + 1]? = some (.slice L[j].p L[j].L.length L[j].cap) := by
  induction L generalizing j with
  | nil => simp at h
  | cons p r ih =>
    cases j with
    | zero => simp [rowW]
    | succ m =>
      have := ih m (by simpa using h)
      rw [show (m + 1) * 2 = m * 2 + 1 + 1 from by omega]
      simpa [rowW, Nat.add_assoc] using this
theorem rowW_one (L : List Wd) : ∀ u ∈ rowW L, u.oneCell' = true := by
  induction L with
  | nil => simp [rowW]
  | cons p r ih =>
    intro u hu
    simp only [rowW, List.mem_cons] at hu
    rcases hu with rfl | rfl | h
    · rfl
    · rfl
    · exact ih u h

structure Wd.Ok (w : World) (d : Wd) : Prop where
  reads : Reads w d.p d.L
  nil : d.p = none → d.cap = 0
  typ : ∀ b off, d.p = some ⟨b, off, none⟩ → typ w b 57
  good : worldB d.t d.L = true

theorem Wd.Ok.keep {w w' : World} {S : Nat → Prop} {d : Wd} (h : d.Ok w) (hk : Kept S w w') (hS : ∀ j, Go.Proofs.Ytlfmfhmbkpnjbaa.typ w j 57 → ¬ S j) : d.Ok w' :=
  ⟨h.reads.keep hk (fun b off e => hS b (h.typ b off e)), h.nil, fun b off e => typ_keep (h.typ b off e) hk (hS b (h.typ b off e)), h.good⟩

theorem Wd.Ok.short {w : World} {d : Wd} (h : d.Ok w) : d.L.length ≤ 32 := (worldB_fine h.good).2.2.short

theorem info_world : (Try.prog.info? 40).map (fun i => (i.zero, i.size, i.bytes)) = some (some (.agg #[.int .i64 0, .slice none 0 0]), 2, 32) := by kernel_rfl

def c7 : Cmd := ⟨1, 7, 0, 1065353216, 1073741824, 0⟩
theorem step7 : stepL [c7] [] = [moveM (newM 7 0 1065353216 1073741824)] := by
  have h1 : spawnB 7 0 1065353216 1073741824 = true := by decide
  have h2 : findB [] 7 = false := findB_out (by simp [findI])
  simp [stepL, doM, c7, h1, h2, findI, keepL, liveB, newM]

/-- All that was played, and where it lies. -/
structure Run (w wr : World) (WS : List Wd) (p : Option Addr) (cap : Nat) : Prop where
  own : wr.ownsRow w.heap.size 40 2 (.slice p WS.length cap) WS.length (rowW WS)
  ok : ∀ d ∈ WS, d.Ok wr
  tick : ∀ k (h : k < WS.length), WS[k].t = k
  kept : Kept (fun _ => False) w wr

theorem after_set {wr w4 : World} {g4 b8 : Nat} {M : List Mob} {cu : List Value} (k : Kept (fun _ => False) wr w4) (hb : wr.heap.size ≤ b8) (h : w4.heap[b8]? = some (.cells #[.int .i64 0, .slice none 0 0] 40 (0, 0))) (e : EntAt w4 g4 M cu) (u v : Value) :
    Kept (fun _ => False) wr ((w4.setCell ⟨b8, 0, none⟩ u).setCell ⟨b8, 1, none⟩ v) ∧ ((w4.setCell ⟨b8, 0, none⟩ u).setCell ⟨b8, 1, none⟩ v).heap[b8]? = some (.cells #[u, v] 40 (0, 0)) ∧ EntAt ((w4.setCell ⟨b8, 0, none⟩ u).setCell ⟨b8, 1, none⟩ v) g4 M cu := by
  have kk : Kept (fun k => k = b8) w4 ((w4.setCell ⟨b8, 0, none⟩ u).setCell ⟨b8, 1, none⟩ v) := (Kept.setCell w4 _ u).join (Kept.setCell _ _ v) (fun _ _ e => e) (fun _ _ e => e)
  exact ⟨two_kept k hb u v, two_sets h u v, e.keep kk (typ_ne (typ_blk e.blk) (typ_blk h) (by decide))⟩
theorem after_new {wr w4 : World} {g4 : Nat} {M : List Mob} {cu : List Value} (k : Kept (fun _ => False) wr w4) (e : EntAt w4 g4 M cu) (u v : Value) :
    Kept (fun _ => False) wr (w4.alloc (.cells #[u, v] 40)) ∧ (w4.alloc (.cells #[u, v] 40)).heap[w4.heap.size]? = some (.cells #[u, v] 40 (0, 0)) ∧ EntAt (w4.alloc (.cells #[u, v] 40)) g4 M cu :=
  ⟨k.calm2 (Kept.alloc _ _), heap_alloc_new _ _, e.calm (Kept.alloc _ _)⟩

theorem owns_up {w : World} {base : Nat} {e : TypeId} {size g n cap : Nat} {xs : List Value} (h : w.ownsRow 0 e size (.slice (some ⟨g, 0, none⟩) n cap) n xs) (hg : base ≤ g) : w.ownsRow base e size (.slice (some ⟨g, 0, none⟩) n cap) n xs := by
  refine ⟨h.1, ?_⟩
  rcases h.2 with ⟨e, _⟩ | ⟨g', cp, cur, e, _, r⟩
  · cases e
  · simp only [Value.slice.injEq, Option.some.injEq, Addr.mk.injEq] at e
    obtain ⟨⟨rfl, _⟩, _, rfl⟩ := e
    exact Or.inr ⟨g, cap, cur, rfl, hg, r⟩

/-- One more world. -/
theorem Run.more {w wr w5 w7 : World} {WS : List Wd} {g cap g' cap' B6 : Nat} {d : Wd} (R : Run w wr WS (some ⟨g, 0, none⟩) cap) (k5 : Kept (fun _ => False) wr w5) (hd : d.Ok w5) (ht : d.t = WS.length)
    (k7 : Kept (fun j => j = B6 ∨ j = g) w5 w7) (hB : typ w5 B6 40) (hb6 : w.heap.size ≤ B6) (own : w7.ownsRow 0 40 2 (.slice (some ⟨g', 0, none⟩) (WS.length + 1) cap') (WS.length + 1) (rowW WS ++ rowW [d])) (hg' : g' = g ∨ w5.heap.size ≤ g') :
    Run w w7 (WS ++ [d]) (some ⟨g', 0, none⟩) cap' := by
  have tg : typ w5 g 40 := typ_keep (typ_own R.own g rfl) k5 (fun e => e)
  have hgw := (R.own.lt g rfl).1
  have hS : ∀ j, typ w5 j 57 → ¬ (j = B6 ∨ j = g) := by
    rintro j hj (rfl | rfl)
    · exact typ_ne hj hB (by decide) rfl
    · exact typ_ne hj tg (by decide) rfl
  have s5 := k5.size
  have s0 := R.kept.size
  refine ⟨?_, ?_, ?_, ?_⟩
  · rw [List.length_append, rowW_append]
    exact owns_up own (by rcases hg' with rfl | h <;> omega)
  · intro x hx
    rcases List.mem_append.1 hx with hx | hx
    · exact ((R.ok x hx).keep k5 (fun _ _ e => e)).keep k7 hS
    · obtain rfl : x = d := by simpa using hx
      exact hd.keep k7 hS
  · intro k hk
    rw [List.length_append] at hk
    by_cases hlt : k < WS.length
    · rw [List.getElem_append_left hlt]; exact R.tick k hlt
    · rw [List.getElem_append_right (by omega)]
      obtain rfl : k = WS.length := by simp at hk; omega
      simpa using ht
  · refine (R.kept.calm2 k5).join k7 (fun _ _ e => e) (fun j hj e => ?_)
    rcases e with rfl | rfl <;> omega

end Go.Proofs.Ytlfmfhmbkpnjbaa

namespace Go.Proofs.Ytlfmfhmbkpnjbaa
open Go.RowKit
/-- Which of m things a raw number speaks of. -/
def pickN_keep (c : Int) (m : Nat) : Nat := ((if c < 0 then -(c + 1) else c).tmod m).toNat

theorem pickN_lt_keep (c : Int) (m : Nat) (hm : 0 < m) : pickN_keep c m < m := by
  have h0 : 0 ≤ (if c < 0 then -(c + 1) else c) := by split <;> omega
  have h1 := Int.tmod_lt_of_pos (if c < 0 then -(c + 1) else c) (show (0 : Int) < m by omega)
  have h2 := Int.tmod_nonneg (m : Int) h0
  unfold pickN_keep
  omega

theorem pickN_cast_keep (c : Int) (m : Nat) : ((pickN_keep c m : Nat) : Int) = (if c < 0 then -(c + 1) else c).tmod m := by
  have h0 : 0 ≤ (if c < 0 then -(c + 1) else c) := by split <;> omega
  have h2 := Int.tmod_nonneg (m : Int) h0
  unfold pickN_keep
  omega

set_option maxHeartbeats 400000 in
theorem pick_keep (c M : Int) (m : Nat) (w : World) (h1 : -9223372036854775808 ≤ c) (h2 : c ≤ 9223372036854775807) (hM : M = m) (hm : 0 < m) (hm2 : m ≤ 1000000000) :
    Calls Try.prog 25 #[.int .i64 c, .int .i64 M] w fun e w' => e = .returned (.int .i64 (pickN_keep c m)) ∧ w' = w := by
  subst hM
  have hp := hide (pickN_cast_keep c m)
  have hm0 : ((m : Int) == 0) = false := by simp; omega
  by_cases hc : c < 0
  · go_enter Try.func25, Try.ntmps25
    go_wp2
    go_ret
    refine ⟨ret1 ?_, rfl⟩
    show Value.int .i64 (-((c + 1).tmod m)) = _
    rw [hp.out, if_pos hc, Int.neg_tmod]
  · go_enter Try.func25, Try.ntmps25
    go_wp2
    go_ret
    refine ⟨ret1 ?_, rfl⟩
    show Value.int .i64 (c % m) = _
    rw [hp.out, if_neg (by omega), Int.tmod_eq_emod_of_nonneg hc]
end Go.Proofs.Ytlfmfhmbkpnjbaa
