import Derived.Test.YtlfmfhmbkpnjbaaPm33
import Derived.Test.YtlfmfhmbkpnjbaaPm19
namespace Go.Proofs.Ytlfmfhmbkpnjbaa
open Go.RowKit

def m1 : Mob := { id := 2, team := 0, x := 0, y := 0, vx := 0, vy := 0, health := 1 }
def m2 : Mob := { id := 5, team := 1, x := 1077936128, y := 1082130432, vx := 0, vy := 0, health := 1 }
def m3 : Mob := { id := 6, team := 1, x := 1077936128, y := 1083179008, vx := 0, vy := 0, health := 1 }

theorem first_world : worldB 0 [m1, m2, m3] = true := by
  refine worldB_true 0 _ ⟨by decide, by decide⟩ (fun j hj _ => ?_)
  have h3 : j < 3 := hj
  match j, h3 with
  | 0, _ => exact ⟨by kernel_rfl, fun k _ e => by omega⟩
  | 1, _ => exact ⟨by kernel_rfl, fun k _ e => by obtain rfl : k = 0 := by omega
                                                  simp [m1, m2, m3]⟩
  | 2, _ => exact ⟨by kernel_rfl, fun k _ e => by obtain rfl : k = 1 := by omega
                                                  simp [m1, m2, m3]⟩

theorem first_c (p : Option Addr) (cap : Nat) (w : World) (h : Reads w p [m1, m2, m3]) :
    Calls Try.prog 23 #[.agg #[.int .i64 0, .slice p 3 cap], .int .i64 2, .float .f32 1084227584] w fun e w' =>
      ∃ q cq, e = .returned (.tuple #[.agg #[.int .i64 0, .slice q 2 cq], .int .i64 0]) ∧ Kept (fun _ => False) w w' := by
  have hf : findB [m1, m2, m3] 2 = true := findB_true 0 (by kernel_rfl) (by decide) rfl
  have hok : okV 1084227584 := by unfold okV; kernel_rfl
  refine (seen_ok 0 2 1084227584 p cap [m1, m2, m3] w h first_world 0 (by kernel_rfl) (by decide) hf hok (by kernel_rfl)).mono ?_
  rintro e w' ⟨g, cur, _, rfl, _, hk⟩
  have hl : (List.filter (fun e => seesB [m1, m2, m3][0] e 1084227584) [m1, m2, m3]).length = 2 := by kernel_rfl
  rw [hl]
  exact ⟨_, _, rfl, hk⟩
end Go.Proofs.Ytlfmfhmbkpnjbaa

namespace Go.Proofs.Ytlfmfhmbkpnjbaa
open Go.RowKit

theorem BookE.calm {w w' : World} {bk : Nat} {ev : Value} {Q : List Els} (h : BookE w bk ev Q) (k : Kept (fun _ => False) w w') : BookE w' bk ev Q :=
  ⟨by rw [k.block _ (heap_lt h.blk) (fun e => e)]; exact h.blk, owns_block h.own (fun j hj => k.block j (owns_lt h.own j hj) (fun e => e)), fun i hi => (h.rows i hi).calm k, fun i hi j hj => typ_keep (h.here i hi j hj) k (fun e => e), h.short, h.four⟩

theorem laid_book (w : World) (c : Obj) : Kept (fun _ => False) w ((w.alloc c).alloc (.cells #[.slice none 0 0, .slice none 0 0] 27)) ∧
    ((w.alloc c).alloc (.cells #[.slice none 0 0, .slice none 0 0] 27)).heap[w.heap.size + 1]? = some (.cells #[.slice none 0 0, .slice none 0 0] 27 (0, 0)) ∧ ((w.alloc c).alloc (.cells #[.slice none 0 0, .slice none 0 0] 27)).heap.size = w.heap.size + 2 := by
  refine ⟨(Kept.alloc w _).calm2 (Kept.alloc _ _), ?_, by simp⟩
  have := heap_alloc_new (w.alloc c) (.cells #[.slice none 0 0, .slice none 0 0] 27)
  simpa using this

set_option maxHeartbeats 8000000 in
set_option maxRecDepth 100000 in
theorem sees_walk (t : Int) (p : Option Addr) (cap : Nat) (L : List Mob) (qi : Option Addr) (n capi : Nat) (far : Nat) (w : World) (hL : L.length ≤ 1048576) (hn : n ≤ 1048576) (h : Reads w p L) (hI : RI w qi n) :
    Calls Try.prog 5 #[.agg #[.int .i64 t, .slice p L.length cap], .slice qi n capi, .float .f32 far] w fun e w' => e = .returned (.bool true) ∧ Below w.heap.size w w' := by
  have hsf := store_float Try.prog
  have HR := hide h
  have HI := hide hI
  clear h hI
  have hs1 : (w.alloc (.cells #[.int .i64 t, .slice p L.length cap] 40)).heap.size = w.heap.size + 1 := by simp
  have R0 : Hid (Reads ((w.alloc (.cells #[.int .i64 t, .slice p L.length cap] 40)).alloc (.cells #[.int .i64 2, .int .i64 0, .float .f32 0, .float .f32 0, .float .f32 0, .float .f32 0, .int .i64 1, .int .i64 5, .int .i64 1, .float .f32 1077936128, .float .f32 1082130432, .float .f32 0, .float .f32 0, .int .i64 1, .int .i64 6, .int .i64 1, .float .f32 1077936128, .float .f32 1083179008, .float .f32 0, .float .f32 0, .int .i64 1] 57)) (some ⟨w.heap.size + 1, 0, none⟩) [m1, m2, m3]) := by
    have := heap_alloc_new (w.alloc (.cells #[.int .i64 t, .slice p L.length cap] 40)) (.cells #[.int .i64 2, .int .i64 0, .float .f32 0, .float .f32 0, .float .f32 0, .float .f32 0, .int .i64 1, .int .i64 5, .int .i64 1, .float .f32 1077936128, .float .f32 1082130432, .float .f32 0, .float .f32 0, .int .i64 1, .int .i64 6, .int .i64 1, .float .f32 1077936128, .float .f32 1083179008, .float .f32 0, .float .f32 0, .int .i64 1] 57)
    rw [hs1] at this
    exact block_reads (M := [m1, m2, m3]) this
  have KB := hide ((Kept.alloc w (.cells #[.int .i64 t, .slice p L.length cap] 40)).calm2 (Kept.alloc (w.alloc (.cells #[.int .i64 t, .slice p L.length cap] 40)) (.cells #[.int .i64 2, .int .i64 0, .float .f32 0, .float .f32 0, .float .f32 0, .float .f32 0, .int .i64 1, .int .i64 5, .int .i64 1, .float .f32 1077936128, .float .f32 1082130432, .float .f32 0, .float .f32 0, .int .i64 1, .int .i64 6, .int .i64 1, .float .f32 1077936128, .float .f32 1083179008, .float .f32 0, .float .f32 0, .int .i64 1] 57)))
  have AB : Hid (((w.alloc (.cells #[.int .i64 t, .slice p L.length cap] 40)).alloc (.cells #[.int .i64 2, .int .i64 0, .float .f32 0, .float .f32 0, .float .f32 0, .float .f32 0, .int .i64 1, .int .i64 5, .int .i64 1, .float .f32 1077936128, .float .f32 1082130432, .float .f32 0, .float .f32 0, .int .i64 1, .int .i64 6, .int .i64 1, .float .f32 1077936128, .float .f32 1083179008, .float .f32 0, .float .f32 0, .int .i64 1] 57)).heap[w.heap.size]? = some (.cells #[.int .i64 t, .slice p L.length cap] 40 (0, 0))) := by
    show _ = _
    rw [(Kept.alloc (w.alloc (.cells #[.int .i64 t, .slice p L.length cap] 40)) (.cells #[.int .i64 2, .int .i64 0, .float .f32 0, .float .f32 0, .float .f32 0, .float .f32 0, .int .i64 1, .int .i64 5, .int .i64 1, .float .f32 1077936128, .float .f32 1082130432, .float .f32 0, .float .f32 0, .int .i64 1, .int .i64 6, .int .i64 1, .float .f32 1077936128, .float .f32 1083179008, .float .f32 0, .float .f32 0, .int .i64 1] 57)).block _ (by omega) (fun e => e)]
    exact heap_alloc_new w (.cells #[.int .i64 t, .slice p L.length cap] 40)
  clear hs1
  go_enter Try.func5, Try.ntmps5
  go_wp2_with fail
  generalize (w.alloc (.cells #[.int .i64 t, .slice p L.length cap] 40)).alloc (.cells #[.int .i64 2, .int .i64 0, .float .f32 0, .float .f32 0, .float .f32 0, .float .f32 0, .int .i64 1, .int .i64 5, .int .i64 1, .float .f32 1077936128, .float .f32 1082130432, .float .f32 0, .float .f32 0, .int .i64 1, .int .i64 6, .int .i64 1, .float .f32 1077936128, .float .f32 1083179008, .float .f32 0, .float .f32 0, .int .i64 1] 57) = wc at *
  refine (first_c (some ⟨w.heap.size + 1, 0, none⟩) 3 wc R0.out).mono ?_
  rintro e w1 ⟨q1, cq1, rfl, k1⟩
  have K1 := hide (KB.out.calm2 k1)
  have A1 : Hid (w1.heap[w.heap.size]? = some (.cells #[.int .i64 t, .slice p L.length cap] 40 (0, 0))) := by show _ = _; rw [k1.block _ (heap_lt AB.out) (fun e => e)]; exact AB.out
  clear k1 KB AB R0
  have LM := hide (laid_book w1 (.cells #[.int .i64 0, .slice q1 2 cq1] 40))
  go_wp2
  generalize (w1.alloc (.cells #[.int .i64 0, .slice q1 2 cq1] 40)).alloc (.cells #[.slice none 0 0, .slice none 0 0] 27) = W at *
  have hw1 := K1.out.size
  have KW := hide (K1.out.calm2 LM.out.1)
  have BW := hide LM.out.2.1
  have hWs : w1.heap.size + 2 ≤ W.heap.size := Nat.le_of_eq LM.out.2.2.symm
  have hA1 := heap_lt A1.out
  have AW : Hid (W.heap[w.heap.size]? = some (.cells #[.int .i64 t, .slice p L.length cap] 40 (0, 0))) := by show _ = _; rw [LM.out.1.block _ hA1 (fun e => e)]; exact A1.out
  clear LM K1 A1
  generalize hbk : w1.heap.size + 1 = bk at *
  go_loopw [10] (fun a wr => ∃ i : Nat, ∃ ev : Value, ∃ Q : List Els, i ≤ n ∧ a = .int .i64 i ∧ Q.length = 4 * i ∧ Hid (BookE wr bk ev Q) ∧ Hid (∀ j, ev.ownBlock = some j → W.heap.size ≤ j) ∧ Hid (Kept (fun j => j = bk) W wr)) (fun a _ => n - (intOf a).toNat)
  case atStart => exact ⟨0, .slice none 0 0, [], Nat.zero_le _, rfl, rfl, ⟨BW.out, ⟨rfl, Or.inl ⟨rfl, rfl⟩⟩, fun i h => absurd h (Nat.not_lt_zero _), fun i h => absurd h (Nat.not_lt_zero _), fun i h => absurd h (Nat.not_lt_zero _), rfl⟩, (fun j e => by cases e), Kept.refl _ _⟩
  case round =>
    obtain ⟨i, ev, Q, hil, rfl, hQl, HB1, HEV, HK⟩ := hrel
    clear BW
    have HKW : Hid (Kept (fun _ => False) w wr) := KW.out.join HK.out (fun _ _ e => e) (fun j hj e => by omega)
    by_cases hlt : i < n
    · obtain ⟨ib, io, hqi, hib, hz⟩ := HI.out (by omega)
      obtain ⟨z, hz64, hzc⟩ := hz i hlt
      clear hz
      subst hqi
      have hA0 := heap_lt AW.out
      have CE : Hid (∀ w', Kept (fun j => W.heap.size ≤ j ∨ j = bk) W w' → w'.cell? ⟨w.heap.size, 0, none⟩ = some (.int .i64 t) ∧ w'.cell? ⟨w.heap.size, 1, none⟩ = some (.slice p L.length cap) ∧ w'.cell? ⟨ib, io + i, none⟩ = some (.int .i64 z)) := fun w' hk => by
        have hb := two_cells AW.out
        have e1 := cell_keep (o := 0) hk hA0 (by omega)
        have e2 := cell_keep (o := 1) hk hA0 (by omega)
        have hiW : ib < W.heap.size := Nat.lt_of_lt_of_le hib KW.out.size
        have e3 := cell_keep (o := io + i) hk hiW (by omega)
        have e4 := cell_keep (o := io + i) KW.out hib (fun e => e)
        exact ⟨by rw [e1]; exact hb.1, by rw [e2]; exact hb.2.1, by rw [e3, e4]; exact hzc⟩
      have hi1 : (0 : Int) ≤ (i : Int) := by omega
      have hi2 : (i : Int) < (n : Int) := by omega
      have KZ : Hid (Kept (fun j => W.heap.size ≤ j ∨ j = bk) W wr) := HK.out.mono (fun _ _ e => Or.inr e)
      obtain ⟨c0, c1, c2⟩ := CE.out wr KZ.out
      go_wp2_with fail
      refine (lent_c p cap L wr (by omega) (HR.out.calm HKW.out)).mono ?_
      rintro e wl ⟨rfl, hO, kl⟩
      have KL := hide kl
      have OL := hide hO
      have hO0 := heap_lt hO
      clear kl hO c0 c1 c2
      generalize hOn : wr.heap.size = O at *
      have KZl : Hid (Kept (fun j => W.heap.size ≤ j ∨ j = bk) W wl) := KZ.out.join KL.out (fun _ _ e => e) (fun _ _ e => e.elim)
      have RO : Hid (Reads wl (some ⟨O, 0, none⟩) (lentL L)) := block_reads OL.out
      obtain ⟨c0, c1, c2⟩ := CE.out wl KZl.out
      have hW0 := KW.out.size
      have hW1 := HK.out.size
      have hW2 := KZl.out.size
      have hl1 : (0 : Int) ≤ (L.length : Int) := by omega
      have hl2 : (L.length : Int) ≤ ((L.length + 8 : Nat) : Int) := by omega
      have hl3 : (L.length : Int) ≤ (L.length : Int) + 8 := by omega
      go_wp2
      go_region_held3 (fun w' => w'.cell? ⟨w.heap.size, 0, none⟩ = some (.int .i64 t) ∧ w'.cell? ⟨w.heap.size, 1, none⟩ = some (.slice p L.length cap) ∧ w'.cell? ⟨ib, io + i, none⟩ = some (.int .i64 z)) (go_keep)
        (first
          | (go_at_call 23; refine (seen_any t z far (some ⟨O, 0, none⟩) (L.length + 8) L wl.drew (by omega) ((RO.out.pre).calm (Kept.drew wl))).mono ?_; rintro e wa ⟨q, cq, rfl, raw, rd, fr, k⟩; have Kc := hide ((Kept.drew wl).calm2 k); have RW := hide raw; have RD := hide rd; have FR := hide fr; obtain ⟨f0, f1, f2⟩ := CE.out wa (KZl.out.join Kc.out (fun _ _ e => e) (fun _ _ e => e.elim)); clear raw rd fr k)
          | (go_at_call 23; refine (seen_any t z far (some ⟨O, 0, none⟩) (L.length + 8) L (wl.drew.alloc (.cells #[.int .i64 0, .slice none 0 0] 40)) (by omega) ((RO.out.pre).calm ((Kept.drew wl).calm2 (Kept.alloc _ _)))).mono ?_; rintro e wa ⟨q, cq, rfl, raw, rd, fr, k⟩; have Kc := hide (((Kept.drew wl).calm2 (Kept.alloc _ (.cells #[.int .i64 0, .slice none 0 0] 40))).calm2 k); have RW := hide raw; have RD := hide rd; have FR := hide fr; have T8 : Hid (wa.heap[wl.heap.size]? = some (.cells #[.int .i64 0, .slice none 0 0] 40 (0, 0))) := new_calm (w := wl.drew) k; obtain ⟨f0, f1, f2⟩ := CE.out wa (KZl.out.join Kc.out (fun _ _ e => e) (fun _ _ e => e.elim)); obtain ⟨j0, j1, j2, j3⟩ := two_cells T8.out; have x1 : w.heap.size ≠ wl.heap.size := (by omega); have x2 : ib ≠ wl.heap.size := (by omega); have x3 := x1.symm; have x4 := x2.symm; clear raw rd fr k))
      all_goals
        have HSM := hide (seenR_small t L z far)
        generalize hS : seenR t L z far = S at *
        have HS := hide hS
        clear hS f0 f1 f2
        first
          | (have LA := hide (laid_set Kc.out (Nat.le_refl _) T8.out RD.out (fun j hj => RW.out.typ j hj) (.int .i64 S.t) (.slice q S.X.length cq))
             have RA := hide (RW.out.keep (sets_kept wa wl.heap.size (.int .i64 S.t) (.slice q S.X.length cq)) (fun j hj => typ_ne (RW.out.typ j hj) (typ_blk T8.out) (by decide)))
             have FA : Hid (∀ j, HB q j → wl.heap.size ≤ j) := fun j hj => by have := FR.out j hj; simp at this; omega
             clear T8 j0 j1 j2 j3 x1 x2 x3 x4
             generalize hWn : ((wa.setCell ⟨wl.heap.size, 0, none⟩ (.int .i64 S.t)).setCell ⟨wl.heap.size, 1, none⟩ (.slice q S.X.length cq)) = wm at *
             clear hWn
             generalize hTn : wl.heap.size = T12 at LA ⊢
             clear hTn)
          | (have LA := hide (laid_new Kc.out RD.out (fun j hj => RW.out.typ j hj) (.int .i64 S.t) (.slice q S.X.length cq))
             have RA := hide (RW.out.keep (Kept.alloc wa (.cells #[.int .i64 S.t, .slice q S.X.length cq] 40)) (fun _ _ e => e))
             have FA : Hid (∀ j, HB q j → wl.heap.size ≤ j) := fun j hj => by have := FR.out j hj; simp at this; omega
             generalize hWn : (wa.alloc (.cells #[.int .i64 S.t, .slice q S.X.length cq] 40)) = wm at *
             clear hWn
             generalize hTn : wa.heap.size = T12 at LA ⊢
             clear hTn)
        clear Kc RW RD FR c0 c1 c2
        have KZm : Hid (Kept (fun j => W.heap.size ≤ j ∨ j = bk) W wm) := KZl.out.join LA.out.kept (fun _ _ e => e) (fun _ _ e => e.elim)
        obtain ⟨c0, c1, c2⟩ := CE.out wm KZm.out
        have hW3 := KZm.out.size
        have HKm : Hid (Kept (fun _ => False) w wm) := (HKW.out.calm2 KL.out).calm2 LA.out.kept
        go_wp2
      all_goals
        go_region_held3 (fun w' => w'.cell? ⟨w.heap.size, 0, none⟩ = some (.int .i64 t) ∧ w'.cell? ⟨w.heap.size, 1, none⟩ = some (.slice p L.length cap) ∧ w'.cell? ⟨ib, io + i, none⟩ = some (.int .i64 z)) (go_keep)
          (first
            | (go_at_call 24; refine (rseen_any t z far p cap L wm.drew (by omega) (HR.out.calm (HKm.out.calm2 (Kept.drew wm)))).mono ?_; rw [HS.out]; rintro e wa ⟨q', cq', rfl, rd, ty, k⟩; have Kc := hide ((Kept.drew wm).calm2 k); have RD := hide rd; have TY := hide ty; obtain ⟨f0, f1, f2⟩ := CE.out wa (KZm.out.join Kc.out (fun _ _ e => e) (fun _ _ e => e.elim)); clear rd ty k)
            | (go_at_call 24; refine (rseen_any t z far p cap L (wm.drew.alloc (.cells #[.int .i64 0, .slice none 0 0] 40)) (by omega) (HR.out.calm (HKm.out.calm2 ((Kept.drew wm).calm2 (Kept.alloc _ _))))).mono ?_; rw [HS.out]; rintro e wa ⟨q', cq', rfl, rd, ty, k⟩; have Kc := hide (((Kept.drew wm).calm2 (Kept.alloc _ (.cells #[.int .i64 0, .slice none 0 0] 40))).calm2 k); have RD := hide rd; have TY := hide ty; have T8 : Hid (wa.heap[wm.heap.size]? = some (.cells #[.int .i64 0, .slice none 0 0] 40 (0, 0))) := new_calm (w := wm.drew) k; obtain ⟨f0, f1, f2⟩ := CE.out wa (KZm.out.join Kc.out (fun _ _ e => e) (fun _ _ e => e.elim)); obtain ⟨j0, j1, j2, j3⟩ := two_cells T8.out; have x1 : w.heap.size ≠ wm.heap.size := (by omega); have x2 : ib ≠ wm.heap.size := (by omega); have x3 := x1.symm; have x4 := x2.symm; clear rd ty k))
      all_goals
        clear f0 f1 f2
        first
          | (have LB := hide (laid_set Kc.out (Nat.le_refl _) T8.out RD.out TY.out (.int .i64 S.t) (.slice q' S.X.length cq'))
             skip
             clear T8 j0 j1 j2 j3 x1 x2 x3 x4
             generalize hWn : ((wa.setCell ⟨wm.heap.size, 0, none⟩ (.int .i64 S.t)).setCell ⟨wm.heap.size, 1, none⟩ (.slice q' S.X.length cq')) = wn at *
             clear hWn
             generalize hTn : wm.heap.size = T14 at LB ⊢
             clear hTn)
          | (have LB := hide (laid_new Kc.out RD.out TY.out (.int .i64 S.t) (.slice q' S.X.length cq'))
             skip
             generalize hWn : (wa.alloc (.cells #[.int .i64 S.t, .slice q' S.X.length cq'] 40)) = wn at *
             clear hWn
             generalize hTn : wa.heap.size = T14 at LB ⊢
             clear hTn)
        clear Kc RD TY c0 c1 c2
        have T12n : Hid (wn.heap[T12]? = some (.cells #[.int .i64 S.t, .slice q S.X.length cq] 40 (0, 0))) := by show _ = _; rw [LB.out.kept.block _ (heap_lt LA.out.blk) (fun e => e)]; exact LA.out.blk
        obtain ⟨a0, a1, -, -⟩ := two_cells T12n.out
        obtain ⟨b0, b1, -, -⟩ := two_cells LB.out.blk
        go_wp2_with fail
      all_goals
        refine (same_c S.t q q' cq cq' S.X wn (LA.out.reads.calm LB.out.kept) LB.out.reads HSM.out.1 HSM.out.2).mono ?_
        rintro e ws ⟨rfl, ks⟩
        have KMs := hide ((LA.out.kept.calm2 LB.out.kept).calm2 ks)
        have KZs : Hid (Kept (fun j => W.heap.size ≤ j ∨ j = bk) W ws) := KZl.out.join KMs.out (fun _ _ e => e) (fun _ _ e => e.elim)
        have T12s : Hid (ws.heap[T12]? = some (.cells #[.int .i64 S.t, .slice q S.X.length cq] 40 (0, 0))) := by show _ = _; rw [ks.block _ (heap_lt T12n.out) (fun e => e)]; exact T12n.out
        have RAs := hide (RA.out.keep (LB.out.kept.calm2 ks) (fun _ _ e => e))
        clear ks a0 a1 b0 b1 LB LA T12n RA
        have HKs : Hid (Kept (fun _ => False) w ws) := (HKW.out.calm2 KL.out).calm2 KMs.out
        obtain ⟨c0, c1, c2⟩ := CE.out ws KZs.out
        go_wp2_with fail
      all_goals
        refine (kept_c (some ⟨O, 0, none⟩) p (L.length + 8) cap L ws (by omega) (HR.out.calm HKs.out) (RO.out.calm KMs.out)).mono ?_
        rintro e wk ⟨rfl, kk⟩
        have KAk := hide ((KL.out.calm2 KMs.out).calm2 kk)
        have HKk := hide (HKs.out.calm2 kk)
        have RAk := hide (RAs.out.keep kk (fun _ _ e => e))
        have ROk := hide (RO.out.calm (KMs.out.calm2 kk))
        have T12k : Hid (wk.heap[T12]? = some (.cells #[.int .i64 S.t, .slice q S.X.length cq] 40 (0, 0))) := by show _ = _; rw [kk.block _ (heap_lt T12s.out) (fun e => e)]; exact T12s.out
        have KZk : Hid (Kept (fun j => W.heap.size ≤ j ∨ j = bk) W wk) := KZs.out.join kk (fun _ _ e => e) (fun _ _ e => e.elim)
        clear kk c0 c1 c2 RAs T12s KZs HKs
        obtain ⟨a0, a1, -, -⟩ := two_cells T12k.out
        have hlw : O ≤ wl.heap.size := by have := KL.out.size; omega
        have hX32 := HSM.out.1
        have GQ : Hid (∀ i (h : i < Q.length) j, HB Q[i].1 j → ¬ HB q j) := fun i h j hj e => by
          have h1 := typ_lt (HB1.out.here i h j hj)
          have h2 := FA.out j e
          omega
        go_wp2_with fail
      all_goals
        refine (keepE bk S.X.length cq q ev Q wk (by omega) (by omega) (HB1.out.calm KAk.out) RAk.out GQ.out).mono ?_
        rintro e we ⟨rfl, ev', Q', hb', hQ', ke, hev'⟩
        have HBe := hide hb'
        have HEe : Hid (∀ j, ev'.ownBlock = some j → W.heap.size ≤ j) := fun j hj => by
          rcases hev' j hj with h | h
          · exact HEV.out j h
          · have := KZk.out.size; omega
        have KZe : Hid (Kept (fun j => W.heap.size ≤ j ∨ j = bk) W we) := KZk.out.join ke (fun _ _ e => e) (fun j hj e => by
          rcases e with e | e | e
          · have := FA.out j e; omega
          · exact Or.inr e
          · exact Or.inl (HEV.out j e))
        have HRe : Hid (Reads we p L) := fun hne => by
          obtain ⟨b0, off0, hp0, hb0, -⟩ := HR.out hne
          refine ((HR.out.calm HKk.out).keep ke (fun b off hpe e => ?_)) hne
          rw [hp0] at hpe
          cases hpe
          rcases e with e | e | e
          · have := FA.out _ e; omega
          · omega
          · have := HEV.out _ e; omega
        have ROe : Hid (Reads we (some ⟨O, 0, none⟩) (lentL L)) := ROk.out.keep ke (fun b off hpe e => by
          cases hpe
          rcases e with e | e | e
          · have := FA.out _ e; omega
          · omega
          · have := owns_lt HB1.out.own _ e; omega)
        clear hb' hev' ke a0 a1 GQ
        obtain ⟨c0, c1, c2⟩ := CE.out we KZe.out
        go_wp2_with fail
      all_goals
        refine (kept_c (some ⟨O, 0, none⟩) p (L.length + 8) cap L we (by omega) HRe.out ROe.out).mono ?_
        rintro e wf ⟨rfl, kf⟩
        have Kf := hide kf
        clear kf c0 c1 c2
        have HBf := hide (HBe.out.calm Kf.out)
        go_wp2_with fail
      all_goals
        refine (wholeE bk ev' Q' wf (by omega) HBf.out).mono ?_
        rintro e wg ⟨rfl, kg⟩
        have Kg := hide (Kf.out.calm2 kg)
        have HBg := hide (HBf.out.calm kg)
        clear kg
        have hse : (S.e != S.e) = false := by simp
        go_wp2
      all_goals
        go_roundw
        case rel => exact ⟨i + 1, ev', Q', by omega, by go_num, by omega, HBg, HEe, (KZe.out.join Kg.out (fun _ _ e => e) (fun _ _ e => e.elim)).mono (fun j hj e => by rcases e with e | e; (· omega); (· exact e))⟩
        case measure => simp [intOf]; omega
    · go_wp2
      go_ret
      exact ⟨rfl, HKW.out.below _ (Nat.le_refl _) (fun _ _ e => e)⟩
end Go.Proofs.Ytlfmfhmbkpnjbaa

namespace Go.Proofs.Ytlfmfhmbkpnjbaa.seesP
open Go.ChangeShapes Go.WideShapes Go.ChangeAt Go.RowKit Go.Deep
open Go.Proofs.Ytlfmfhmbkpnjbaa.opens
set_option linter.unusedVariables false
set_option maxRecDepth 100000

theorem contract (H : Type) (enc : TypeId × Value → H) (W : World) (base : Nat) (args : Array Value) (ds gs : List (DataW H)) (before : List MemPlace)
    (hval : ∀ (j : Nat) t v, Try.f5.params[j]? = some t → args[j]? = some v → Value.okWide Try.prog W .any base t v)
    (hW : DataW.Whole enc Try.prog Try.f5.params.toList Rows.seesSpec.vars false W args.toList ds gs before) (hk : Rows.uptoSmall H (ds ++ gs) = true) :
    Calls Try.prog 5 args W fun e W' => ∃ v, e = .returned v ∧ Rows.seesSpec.post enc Try.prog Try.f5 false true false false W args v W' := by
  have hW' := hW
  obtain ⟨p, q, hA0, hV, rfl, hfz, hnd⟩ := hW
  have hA : DataW.TrodAll enc Try.prog W 0 (fun _ => true) true Try.f5.params.toList args.toList ds p := hA0
  rw [Try.params5] at hA hval
  obtain ⟨v0, vs0, d0, ds0, p0, q0, hargs, rfl, rfl, h0, r0⟩ := trodAll_cons hA
  obtain ⟨v1, vs1, d1, ds1, p1, q1, rfl, rfl, rfl, h1, r1⟩ := trodAll_cons r0
  obtain ⟨v2, vs2, d2, ds2, p2, q2, rfl, rfl, rfl, h2, r2⟩ := trodAll_cons r1
  obtain ⟨rfl, rfl, rfl⟩ := trodAll_nil r2
  obtain rfl : args = #[v0, v1, v2] := by cases args; simp_all
  obtain ⟨rfl, rfl⟩ := trodVars_none hV
  have k0 := h0
  have k1 := h1
  have k2 := h2
  have lt0 : ∀ x ∈ p0, x.block < W.heap.size := by obtain ⟨m, hm⟩ := k0; exact DataW.trod_lt m _ _ _ hm
  have lt1 : ∀ x ∈ p1, x.block < W.heap.size := by obtain ⟨m, hm⟩ := k1; exact DataW.trod_lt m _ _ _ hm
  have lt2 : ∀ x ∈ p2, x.block < W.heap.size := by obtain ⟨m, hm⟩ := k2; exact DataW.trod_lt m _ _ _ hm
  clear hA0
  simp only [List.append_nil] at hk
  have hbulk : Rows.uptoBulkAll [d0, d1, d2] ≤ 1048576 := of_decide_eq_true hk
  simp only [Rows.uptoBulkAll] at hbulk
  have walk : Calls Try.prog 5 #[v0, v1, v2] W fun e w' => e = .returned (.bool true) ∧ Below W.heap.size W w' := by
    obtain ⟨cs0, rfl, hsz⟩ := okWide_struct Try.underlying40 (hval 0 40 v0 rfl rfl)
    obtain ⟨a1, len1, cap1, rfl⟩ := okWide_slice Try.underlying53 (hval 1 53 v1 rfl rfl)
    obtain ⟨far, rfl⟩ := okWide_float Try.underlying54 (hval 2 54 v2 rfl rfl)
    obtain ⟨fuel, hf⟩ := h0
    obtain ⟨xs, m, _, hx, hl, hlen, hfd⟩ := DataW.trod_struct Try.underlying40 hf
    obtain ⟨cs⟩ := cs0
    simp only [Value.cells] at hl hfd
    rw [cellsW] at hl
    match cs, hl, xs, hlen, hx, hfd with
    | [c0, c1], _, [y0, y1], _, hx, hfd =>
      have f0 : DataW.trod enc Try.prog W 0 (fun _ => true) true m 3 [c0] = some y0 := by have := hfd 0 _ rfl; simpa [cellsI] using this
      have f1 : DataW.trod enc Try.prog W 0 (fun _ => true) true m 38 [c1] = some y1 := by have := hfd 1 _ rfl; simpa [cellsS] using this
      obtain ⟨t, e0, _⟩ := DataW.trod_int Try.underlying3 f0
      obtain ⟨pe, cape, L, e1, hR, hLb⟩ := ents_of f1
      simp only [List.cons.injEq, and_true] at e0 e1
      subst e0 e1
      obtain ⟨fuel1, hf1⟩ := h1
      obtain ⟨p', l', c', e2, hRI, hlb⟩ := ints_of hf1
      simp [Value.cells] at e2
      obtain ⟨rfl, rfl, rfl⟩ := e2
      simp only [Prod.mk.injEq] at hx
      have hd0 : Rows.uptoBulk d0 = Rows.uptoBulk y0.1 + (Rows.uptoBulk y1.1 + 0) + 1 := by rw [hx.1]; simp [Rows.uptoBulk, Rows.uptoBulkAll]
      have hb1 : len1 ≤ Rows.uptoBulk d1 := hlb
      exact sees_walk t pe cape L a1 len1 cap1 far W (by omega) (by omega) hR hRI
  refine walk.mono fun e W' ⟨he, bel⟩ => ?_
  subst he
  exact ⟨_, rfl, _, _, _, [], _, [], hW', trodAll_mk1 (shut_bool Try.underlying4 _), (trodAll_cons_mk (Below.trod ticks.laidOut (by kernel_rfl) (of_decide_eq_true (by kernel_rfl)) k0 bel lt0) (trodAll_cons_mk (Below.trod ticks.laidOut (by kernel_rfl) (of_decide_eq_true (by kernel_rfl)) k1 bel lt1) (trodAll_cons_mk (Below.trod ticks.laidOut (by kernel_rfl) (of_decide_eq_true (by kernel_rfl)) k2 bel lt2) trodAll_mk0))), rfl, bel.frame _, fun h => by cases h⟩

set_option maxRecDepth 100000 in
theorem lifted (os : Os) (started : os.Started) (H : Type) (enc : TypeId × Value → H) (F : Stop.Interp) :
    ReturnsInHanded {} Try.checked os 5 .any ((Rows.OpenSpec.upto Rows.seesSpec).pre6 enc Try.prog Try.f5 Rows.seesUptoRow.domain false) (((Rows.OpenSpec.upto Rows.seesSpec).at F).post enc Try.prog Try.f5 false true false false) := by
  refine returnsInHanded_of_cond (C := Try.checked) (s := Rows.OpenSpec.upto Rows.seesSpec) (k := Rows.uptoSmall) rfl ticks.own started (by kernel_rfl) Try.func5
    (OpenSpec.witness (enc := enc) (C := Try.checked) (s := Rows.OpenSpec.upto Rows.seesSpec) (k := Rows.uptoSmall) rfl false ⟨#[], #[.agg #[.int .i64 0, .slice none 0 0], .slice none 0 0, .float .f32 0], []⟩ 8 (by kernel_rfl) (by kernel_rfl) (by kernel_rfl)
      (x := ([.agg [.lit (.int .i64 0), .nil], .nil, .lit (.float .f32 0)], [], [])) (by kernel_rfl) rfl (by kernel_rfl)) ?_
  intro W base args ds gs before hval hW _ hk _
  exact contract H enc W base args ds gs before hval hW hk

theorem over : Rows.seesUptoRow.holds Try.pinned (Rows.OpenSpec.upto Rows.seesSpec) :=
  OpenClaim.holds_of_cond 5 Try.f5 rfl rfl rfl rfl rfl rfl rfl ⟨rfl, rfl, rfl, rfl, rfl⟩ rfl rfl rfl rfl rfl (by kernel_rfl) Try.func5 (by kernel_rfl)
    (of_decide_eq_true (by kernel_rfl)) (by unfold Func.isWrapper; first | (rw [if_pos (by decide +kernel)]; kernel_rfl) | (rw [if_neg (by decide +kernel)]; exact ⟨rfl, rfl⟩))
    (fun os started H enc _ F => lifted os started H enc F)
end Go.Proofs.Ytlfmfhmbkpnjbaa.seesP

namespace Go.Proofs.Ytlfmfhmbkpnjbaa
theorem sees_holds : Rows.SeesUptoSaid := seesP.over
#print axioms sees_holds
end Go.Proofs.Ytlfmfhmbkpnjbaa
