import Derived.Test.YtlfmfhmbkpnjbaaGreatDoorAl35
namespace Go.Proofs.YtlfmfhmbkpnjbaaGreatDoor
open Go.RowKit

theorem putL_mem {K V : Type} [DecidableEq K] (n : Nat) (L : List (K × V)) (e x : K × V) (h : x ∈ putL n L e) : x = e ∨ x ∈ L := by
  unfold putL touch at h
  split at h
  · rcases List.mem_cons.1 h with h | h
    · exact Or.inl h
    · rcases List.mem_append.1 h with h | h
      · exact Or.inr (List.mem_of_mem_take h)
      · exact Or.inr (List.mem_of_mem_drop h)
  · split at h
    · rcases List.mem_cons.1 h with h | h
      · exact Or.inl h
      · exact Or.inr h
    · rcases List.mem_cons.1 h with h | h
      · exact Or.inl h
      · exact Or.inr (List.mem_of_mem_take h)
/-- A world more is kept. -/
theorem PL.put {w w' : World} {F : Nat → Prop} {pb : Nat} {m : Mt} {k t : Nat} {d : PD} {p : Option Addr} {cap : Nat} {r' : Value} (h : PL w F pb m k d) (ht : t ≤ m.cmds.length) (st : Stand w F m t p cap)
    (kk : Kept (Foot d.c d.r) w w') (hc : IsC w' d.c r' 64 (putL 64 d.C ((t : Int), ⟨(t : Int), p, (m.at t).length, cap⟩))) (hr : NewRow w d.r r') :
    PL w' (fun j => F j ∨ (w.heap.size ≤ j ∧ j < w'.heap.size)) pb m k { d with r := r', C := putL 64 d.C ((t : Int), ⟨(t : Int), p, (m.at t).length, cap⟩) } := by
  have hcT : typ w d.c 127 := typ_blk h.cache.1
  have hne : ∀ j T, Foot d.c d.r j → typ w j T → T = 127 ∨ T = 131 := by
    intro j T hj ht
    rcases hj with rfl | hj
    · left; apply Classical.byContradiction; intro hn; exact typ_ne ht hcT hn rfl
    · right; apply Classical.byContradiction; intro hn; exact typ_ne ht (typ_own h.cache.2 j hj) hn rfl
  refine ⟨?_, h.ok, (h.row.keep kk (fun j _ ht e => ?_)).mono (fun j e => Or.inl e), h.cmds, h.whole, hc, (putL_length 64 d.C _ (by decide) h.size).1, fun e he => ?_, Or.inl h.fp, Or.inl h.fc, fun g hg => ?_, fun j hj => ?_, h.at_⟩
  · rw [kk.block pb (heap_lt h.blk) (fun e => ?_)]
    · exact h.blk
    · rcases hne pb _ e (typ_blk h.blk) with e | e <;> exact absurd e (by decide)
  · rcases ht with ht | ht | ht | ht <;> (rcases hne j _ e ht with e | e <;> exact absurd e (by decide))
  · rcases putL_mem 64 d.C _ e he with rfl | he
    · have s2 := st.keep kk (fun j _ ht e => by rcases hne j _ e ht with e | e <;> exact absurd e (by decide))
      exact ⟨⟨t, rfl, ht, rfl, rfl, s2.reads⟩, s2.nil, fun b off e => ⟨Or.inl (s2.foot b off e).1, (s2.foot b off e).2⟩⟩
    · exact ((h.each e he).keep kk (fun j _ ht e => by rcases hne j _ e ht with e | e <;> exact absurd e (by decide))).mono (fun j e => Or.inl e)
  · rcases hr with hr | ⟨g', hr, hl⟩
    · exact Or.inl (h.fr g (by rw [← hr]; exact hg))
    · rw [hr] at hg
      simp only [Option.some.injEq] at hg
      subst hg
      exact Or.inr ⟨hl, owns_lt hc.2 _ hr⟩
  · rcases hj with hj | hj
    · exact Nat.lt_of_lt_of_le (h.lt j hj) kk.size
    · exact hj.2
/-- The tick that is shown. -/
theorem PL.seek {w : World} {F : Nat → Prop} {pb : Nat} {m : Mt} {k t : Nat} {d : PD} (h : PL w F pb m k d) (ht : t ≤ m.cmds.length) : PL (w.setCell ⟨pb, 3, none⟩ (.int .i64 (t : Int))) F pb m t d ∧ Kept (fun j => j = pb) w (w.setCell ⟨pb, 3, none⟩ (.int .i64 (t : Int))) := by
  have kk := Kept.setCell w ⟨pb, 3, none⟩ (.int .i64 (t : Int))
  have hpT := typ_blk h.blk
  refine ⟨⟨?_, h.ok, h.row.keep kk (fun j _ ht e => ?_), h.cmds, h.whole, CacheAt3.keep h.cache kk (fun j hj e => ?_), h.size, fun e he => (h.each e he).keep kk (fun j _ ht e => ?_), h.fp, h.fc, h.fr, fun j hj => Nat.lt_of_lt_of_le (h.lt j hj) kk.size, ht⟩, kk⟩
  · rw [setCell_eq_setRow w pb 3 _ _ (0, 0) _ h.blk]
    exact setRow_heap w pb _ _ _ _ h.blk
  · rcases ht with ht | ht | ht | ht <;> exact typ_ne ht hpT (by decide) e
  · rcases hj with hj | hj
    · exact typ_ne (typ_blk h.cache.1) hpT (by decide) (hj.symm.trans e)
    · exact typ_ne (typ_own h.cache.2 j hj) hpT (by decide) e
  · exact typ_ne ht hpT (by decide) e

/-- Behind 'Seek' of a tick that there is. -/
def SeekPost (F : Nat → Prop) (pb : Nat) (m : Mt) (t : Nat) (d : PD) (w : World) (e : Ending) (w' : World) : Prop :=
  ∃ (N : Nat) (q : Option Addr) (cq : Nat) (d' : PD), e = .returned (.tuple #[.agg #[.int .i64 (t : Int), .slice q (m.at t).length cq], .int .i64 0]) ∧ w.heap.size ≤ N ∧ N ≤ w'.heap.size ∧ Fresh w' N q (m.at t).length cq (m.at t) ∧ PL w' (fun j => F j ∨ (w.heap.size ≤ j ∧ j < N)) pb m t d' ∧ Kept (fun j => j = pb ∨ Foot d.c d.r j) w w'

set_option maxHeartbeats 1000000 in
set_option maxRecDepth 100000 in
theorem seek_bad (F : Nat → Prop) (pb : Nat) (m : Mt) (k : Nat) (d : PD) (t : Int) (w : World) (ht : t < 0 ∨ (m.cmds.length : Int) < t) (h : PL w F pb m k d) :
    Calls Tryz.prog 12 #[.pointer (some ⟨pb, 0, none⟩), .int .i64 t] w fun e w' => e = .returned (.tuple #[.agg #[.int .i64 0, .slice none 0 0], .int .i64 4]) ∧ Kept (fun _ => False) w w' := by
  have HA := hide (h.calm (Kept.alloc w (.cells #[.int .i64 0, .slice none 0 0] 38)))
  clear h
  by_cases h0 : t < 0
  · go_enter Tryz.func12, Tryz.ntmps12
    go_wp2
    refine bodyPost_ret (v := .tuple #[.agg #[.int .i64 0, .slice none 0 0], .int .i64 4]) (by simp [results, Tryz.results12, go_sem]) rfl ?_
    exact ⟨rfl, Kept.alloc _ _⟩
  · have h1 : (m.cmds.length : Int) < t := by omega
    clear ht
    go_enter Tryz.func12, Tryz.ntmps12
    go_wp2_with fail
    refine (ticks_c F pb m k d _ HA.out).mono ?_
    rintro e w1 ⟨rfl, rfl⟩
    go_wp2
    refine bodyPost_ret (v := .tuple #[.agg #[.int .i64 0, .slice none 0 0], .int .i64 4]) (by simp [results, Tryz.results12, go_sem]) rfl ?_
    exact ⟨rfl, Kept.alloc _ _⟩

set_option maxHeartbeats 1000000 in
set_option maxRecDepth 100000 in
theorem seek_c (F : Nat → Prop) (pb : Nat) (m : Mt) (k : Nat) (d : PD) (t : Nat) (w : World) (ht : t ≤ m.cmds.length) (h : PL w F pb m k d) :
    Calls Tryz.prog 12 #[.pointer (some ⟨pb, 0, none⟩), .int .i64 (t : Int)] w (SeekPost F pb m t d w) := by
  have hlen := h.ok.len
  have KA := hide (Kept.alloc w (.cells #[.int .i64 0, .slice none 0 0] 38))
  have HA := hide (h.calm KA.out)
  have BA : Hid ((w.alloc (.cells #[.int .i64 0, .slice none 0 0] 38)).heap[w.heap.size]? = some (.cells #[.int .i64 0, .slice none 0 0] 38 (0, 0))) := heap_alloc_new w _
  have HFw : Hid (∀ j, F j → j < w.heap.size) := fun j hj => h.lt j hj
  have HFT : Hid (∀ j, Foot d.c d.r j → j < w.heap.size) := fun j hj => h.lt j (h.wf j (Or.inr hj))
  have hshort := (worldB_fine (h.good t ht)).2.2.short
  have hpbw := h.lt pb h.fp
  have h0 : ¬ (t : Int) < 0 := by omega
  have h1 : ¬ (m.cmds.length : Int) < (t : Int) := by omega
  clear h
  go_enter Tryz.func12, Tryz.ntmps12
  go_wp2_with fail
  refine (ticks_c F pb m k d _ HA.out).mono ?_
  rintro e wA ⟨rfl, hwA⟩
  rw [← hwA] at HA BA KA
  clear hwA
  go_wp2_with fail
  refine (wat_c F pb m k d t wA ht HA.out).mono ?_
  rintro e w1 ⟨p, cap, d1, rfl, st, pl, ⟨hdc, hdr⟩, kk⟩
  have hsA : w.heap.size < wA.heap.size := heap_lt BA.out
  have B1 : Hid (w1.heap[w.heap.size]? = some (.cells #[.int .i64 0, .slice none 0 0] 38 (0, 0))) := by show _ = _; rw [kk.block _ (heap_lt BA.out) (fun e => by have := HFT.out _ e; omega)]; exact BA.out
  have hs1 := kk.size
  have K2 := hide (Kept.alloc w1 (.cells #[.int .i64 (t : Int), .slice p (m.at t).length cap] 38))
  have N2 : Hid ((w1.alloc (.cells #[.int .i64 (t : Int), .slice p (m.at t).length cap] 38)).heap[w1.heap.size]? = some (.cells #[.int .i64 (t : Int), .slice p (m.at t).length cap] 38 (0, 0))) := heap_alloc_new w1 _
  -- the player's blocks: the old ones, and what is new below w1's size
  have P2 : Hid (PL (w1.alloc (.cells #[.int .i64 (t : Int), .slice p (m.at t).length cap] 38)) (fun j => F j ∨ (wA.heap.size ≤ j ∧ j < w1.heap.size)) pb m k d1) := (pl.calm K2.out).grow (fun j e => Or.inl e) (fun j e => by
    have := (pl.calm K2.out).lt
    rcases e with e | e
    · exact this j e
    · simp; omega)
  have S2 : Hid (Stand (w1.alloc (.cells #[.int .i64 (t : Int), .slice p (m.at t).length cap] 38)) (fun j => F j ∨ (wA.heap.size ≤ j ∧ j < w1.heap.size)) m t p cap) := (Stand.mk st.reads st.nil (fun b off e => ⟨(by
    rcases (st.foot b off e).1 with h | h
    · exact Or.inl h
    · exact Or.inr ⟨h, typ_lt (st.foot b off e).2⟩), (st.foot b off e).2⟩)).calm K2.out
  have HDC := hide hdc
  have HDR := hide hdr
  clear hdc hdr
  have K1 : Hid (Kept (Foot d.c d.r) w w1) := KA.out.join kk (fun _ _ e => e.elim) (fun _ _ e => e)
  clear st pl kk
  go_wp2_with fail
  obtain ⟨w2, hw2⟩ : ∃ w2, w1.alloc (.cells #[.int .i64 (t : Int), .slice p (m.at t).length cap] 38) = w2 := ⟨_, rfl⟩
  have hs2 : w2.heap.size = w1.heap.size + 1 := by rw [← hw2]; simp
  rw [hw2] at K2 N2 P2 S2 ⊢
  clear hw2
  obtain ⟨⟨a0, a1, a2, a3, a4⟩, -⟩ := five_all P2.out.blk
  obtain ⟨n0, n1, -, -⟩ := two_cells N2.out
  have HS2 := hide hs2
  clear hs2
  go_region_held3 (fun w' => w'.cell? ⟨pb, 4, none⟩ = some (.pointer (some ⟨d1.c, 0, none⟩)) ∧ w'.cell? ⟨w1.heap.size, 0, none⟩ = some (.int .i64 (t : Int)) ∧ w'.cell? ⟨w1.heap.size, 1, none⟩ = some (.slice p (m.at t).length cap)) (go_keep)
    ((go_at_call 27
      refine (put_iw d1.c 64 d1.r (t : Int) ⟨(t : Int), p, (m.at t).length, cap⟩ d1.C w2.drew (by decide) (by decide) P2.out.size (P2.out.cache.calm (Kept.drew w2))).mono ?_
      rintro e w3 ⟨rfl, r', q1, q2, q3⟩
      have P3 := hide ((P2.out.calm (Kept.drew w2)).put ht (S2.out.calm (Kept.drew w2)) q2 q1 q3)
      have T3 : Hid (Stand w3 (fun j => F j ∨ (wA.heap.size ≤ j ∧ j < w1.heap.size)) m t p cap) := (S2.out.calm (Kept.drew w2)).keep q2 (fun j _ hj e => by
        rcases e with rfl | e
        · exact typ_ne hj (typ_blk P2.out.cache.1) (by decide) rfl
        · exact typ_ne hj (typ_own P2.out.cache.2 j e) (by decide) rfl)
      have KF : Hid (∀ j, Foot d1.c d1.r j → (F j ∨ (wA.heap.size ≤ j ∧ j < w1.heap.size)) ∧ j ≠ w1.heap.size ∧ j ≠ w.heap.size) := fun j hj => by
        refine ⟨?_, fun e => ?_, fun e => ?_⟩
        · rcases hj with rfl | hj
          · exact P2.out.fc
          · exact P2.out.fr j hj
        · subst e
          rcases hj with hj | hj
          · exact typ_ne (typ_blk P2.out.cache.1) (typ_blk N2.out) (by decide) hj.symm
          · exact typ_ne (typ_own P2.out.cache.2 _ hj) (typ_blk N2.out) (by decide) rfl
        · subst e
          have hB2 := typ_keep (typ_blk B1.out) K2.out (fun e => e)
          rcases hj with hj | hj
          · exact typ_ne (typ_blk P2.out.cache.1) hB2 (by decide) hj.symm
          · exact typ_ne (typ_own P2.out.cache.2 _ hj) hB2 (by decide) rfl
      have K3 := hide ((Kept.drew w2).join q2 (R := Foot d1.c d1.r) (fun _ _ e => e.elim) (fun _ _ e => e))
      obtain ⟨⟨b0, b1, b2, b3, b4⟩, bf⟩ := five_all P3.out.blk
      obtain ⟨y0, y1, -, -⟩ := two_cells (show w3.heap[w1.heap.size]? = some (.cells #[.int .i64 (t : Int), .slice p (m.at t).length cap] 38 (0, 0)) by rw [K3.out.block _ (heap_lt N2.out) (fun e => (KF.out _ e).2.1 rfl)]; exact N2.out)
      clear q1 q2 q3))
  have hne1 : ¬ w1.heap.size = pb := by omega
  have hne2 : ¬ w.heap.size = pb := by omega
  have hw3 : w1.heap.size < w3.heap.size := by have := K3.out.size; have := HS2.out; omega
  obtain ⟨P4, K4⟩ := P3.out.seek ht
  have HP4 := hide P4
  have HK4 := hide K4
  have T4 : Hid (Stand (w3.setCell ⟨pb, 3, none⟩ (.int .i64 (t : Int))) (fun j => F j ∨ (wA.heap.size ≤ j ∧ j < w1.heap.size)) m t p cap) := T3.out.keep K4 (fun j _ hj e => typ_ne hj (typ_blk P3.out.blk) (by decide) e)
  clear P4 K4 a0 a1 a2 a3 a4 n0 n1
  go_wp2_with fail
  refine (copy_any (t : Int) p cap (m.at t) _ (by omega) T4.out.reads T4.out.nil).mono ?_
  rintro e w5 ⟨q, cq, rfl, fr, k5⟩
  have hs4 : (w3.setCell ⟨pb, 3, none⟩ (.int .i64 (t : Int))).heap.size = w3.heap.size := by simp [World.setCell]
  have K24 : Hid (Kept (fun j => Foot d1.c d1.r j ∨ j = pb) w2 (w3.setCell ⟨pb, 3, none⟩ (.int .i64 (t : Int)))) := K3.out.join HK4.out (fun _ _ e => Or.inl e) (fun _ _ e => Or.inr e)
  have B5 : Hid (w5.heap[w.heap.size]? = some (.cells #[.int .i64 0, .slice none 0 0] 38 (0, 0))) := by
    show _ = _
    rw [k5.block _ (by rw [hs4]; omega) (fun e => e), K24.out.block _ (by have := HS2.out; omega) (fun e => by rcases e with e | e; exact (KF.out _ e).2.2 rfl; exact hne2 e), K2.out.block _ (heap_lt B1.out) (fun e => e)]
    exact B1.out
  have FR := hide fr
  have K5 := hide k5
  have SS := hide (two_sets B5.out (.int .i64 (t : Int)) (.slice q (m.at t).length cq))
  have KS := hide (two_sets_kept w5 w.heap.size (.int .i64 (t : Int)) (.slice q (m.at t).length cq))
  obtain ⟨r0, r1, z0, z1⟩ := two_cells B5.out
  clear fr k5
  go_wp2
  obtain ⟨e0, e1, -, -⟩ := two_cells SS.out
  refine bodyPost_ret (v := .tuple #[.agg #[.int .i64 (t : Int), .slice q (m.at t).length cq], .int .i64 0]) (by simp [results, Tryz.results12, go_sem, e0, e1]) rfl ?_
  have h5 := K5.out.size
  have h6 := KS.out.size
  have hd2 : w2.drew.heap.size = w2.heap.size := rfl
  have hs2 := HS2.out
  refine ⟨w3.heap.size, q, cq, { d1 with r := r', C := putL 64 d1.C ((t : Int), ⟨(t : Int), p, (m.at t).length, cap⟩) }, rfl, by omega, by omega, ?_, ?_, ?_⟩
  · exact (FR.out.keep KS.out (fun j off e ej => by have := (FR.out.new j off e).1; omega)).low (by omega)
  · have p5 := (HP4.out.calm K5.out).keep KS.out (fun j hj e => by
      subst e
      rcases hj with (hj | hj) | hj
      · have := HFw.out _ hj; omega
      · omega
      · omega)
    refine p5.grow (fun j e => ?_) (fun j e => ?_)
    · rcases e with (e | e) | e
      · exact Or.inl e
      · exact Or.inr (by omega)
      · exact Or.inr (by omega)
    · rcases e with e | e
      · have := HFw.out j e; omega
      · omega
  · refine K1.out.join (K2.out.join (K24.out.join (K5.out.join KS.out (R := fun j => j = w.heap.size) (fun _ _ e => e.elim) (fun _ _ e => e)) (R := fun j => (Foot d1.c d1.r j ∨ j = pb) ∨ j = w.heap.size) (fun _ _ e => Or.inl e) (fun _ _ e => Or.inr e)) (R := fun j => (Foot d1.c d1.r j ∨ j = pb) ∨ j = w.heap.size) (fun _ _ e => e.elim) (fun _ _ e => e)) (fun _ _ e => Or.inr e) (fun j hj e => ?_)
    rcases e with (e | e) | e
    · rw [HDC.out, HDR.out] at e
      exact Or.inr e
    · exact Or.inl e
    · omega
end Go.Proofs.YtlfmfhmbkpnjbaaGreatDoor

namespace Go.Proofs.YtlfmfhmbkpnjbaaGreatDoor
open Go.RowKit

set_option maxHeartbeats 1000000 in
set_option maxRecDepth 100000 in
theorem move_bad (F : Nat → Prop) (pb : Nat) (m : Mt) (k : Nat) (d : PD) (b : Int) (w : World) (hb : b < -(k : Int) ∨ (m.cmds.length : Int) - (k : Int) < b) (h : PL w F pb m k d) :
    Calls Tryz.prog 15 #[.pointer (some ⟨pb, 0, none⟩), .int .i64 b] w fun e w' => e = .returned (.tuple #[.agg #[.int .i64 0, .slice none 0 0], .int .i64 4]) ∧ Kept (fun _ => False) w w' := by
  have hlen := h.ok.len
  have hk := h.at_
  have HA := hide (h.calm (Kept.alloc w (.cells #[.int .i64 0, .slice none 0 0] 38)))
  have hw1 : IntKind.i64.wrap (-(k : Int)) = -(k : Int) := wrap_id _ (by omega)
  have hw2 : IntKind.i64.wrap ((m.cmds.length : Int) - (k : Int)) = (m.cmds.length : Int) - (k : Int) := wrap_id _ (by omega)
  clear h
  go_enter Tryz.func15, Tryz.ntmps15
  go_wp2_with fail
  obtain ⟨wA, hwA⟩ : ∃ wA, w.alloc (.cells #[.int .i64 0, .slice none 0 0] 38) = wA := ⟨_, rfl⟩
  rw [hwA] at HA ⊢
  have KA : Hid (Kept (fun _ => False) w wA ∧ wA.heap[w.heap.size]? = some (.cells #[.int .i64 0, .slice none 0 0] 38 (0, 0))) := by rw [← hwA]; exact ⟨Kept.alloc _ _, heap_alloc_new w _⟩
  have HP := hide (fun n => ticks_c F pb m k d (wA.drewN n) (HA.out.calm (Kept.drewN _ n)))
  clear hwA
  obtain ⟨⟨a0, a1, a2, a3, a4⟩, -⟩ := five_all HA.out.blk
  obtain ⟨r0, r1, z0, z1⟩ := two_cells KA.out.2
  have fin : Hid (∀ n, (wA.drewN n).cell? ⟨w.heap.size, 0, none⟩ = some (.int .i64 0) ∧ (wA.drewN n).cell? ⟨w.heap.size, 1, none⟩ = some (.slice none 0 0) ∧ (wA.drewN n).frozen? ⟨w.heap.size, 0, none⟩ = false ∧ (wA.drewN n).frozen? ⟨w.heap.size, 1, none⟩ = false) := fun n => two_cells (show (wA.drewN n).heap[w.heap.size]? = _ by rw [drewN_heap]; exact KA.out.2)
  have SB : Hid (∀ n, (((wA.drewN n).setCell ⟨w.heap.size, 0, none⟩ (.int .i64 0)).setCell ⟨w.heap.size, 1, none⟩ (.slice none 0 0)).heap[w.heap.size]? = some (.cells #[.int .i64 0, .slice none 0 0] 38 (0, 0))) := fun n => two_sets (show (wA.drewN n).heap[w.heap.size]? = some (.cells #[.int .i64 0, .slice none 0 0] 38 (0, 0)) by rw [drewN_heap]; exact KA.out.2) _ _
  have KB : Hid (∀ n, Kept (fun _ => False) w (((wA.drewN n).setCell ⟨w.heap.size, 0, none⟩ (.int .i64 0)).setCell ⟨w.heap.size, 1, none⟩ (.slice none 0 0))) := fun n => (KA.out.1.calm2 (Kept.drewN wA n)).join (two_sets_kept (wA.drewN n) w.heap.size _ _) (fun _ _ e => e) (fun j hj e => by omega)
  by_cases h0 : b < -(k : Int)
  · go_quiet ((go_at_call 11; exact Calls.quiet_of_same (HP.out _)))
    obtain ⟨s0, s1, t0, t1⟩ := fin.out nq
    go_wp2
    obtain ⟨e0, e1, -, -⟩ := two_cells (SB.out nq)
    refine bodyPost_ret (v := .tuple #[.agg #[.int .i64 0, .slice none 0 0], .int .i64 4]) (by simp [results, Tryz.results15, go_sem, e0, e1]) rfl ?_
    exact ⟨rfl, KB.out nq⟩
  · have h1 : (m.cmds.length : Int) - (k : Int) < b := by omega
    clear hb
    go_quiet ((go_at_call 11; exact Calls.quiet_of_same (HP.out _)))
    obtain ⟨s0, s1, t0, t1⟩ := fin.out nq
    go_wp2
    obtain ⟨e0, e1, -, -⟩ := two_cells (SB.out nq)
    refine bodyPost_ret (v := .tuple #[.agg #[.int .i64 0, .slice none 0 0], .int .i64 4]) (by simp [results, Tryz.results15, go_sem, e0, e1]) rfl ?_
    exact ⟨rfl, KB.out nq⟩

set_option maxHeartbeats 1000000 in
set_option maxRecDepth 100000 in
theorem move_ok (F : Nat → Prop) (pb : Nat) (m : Mt) (k t : Nat) (d : PD) (b : Int) (w : World) (hb : (k : Int) + b = (t : Int)) (ht : t ≤ m.cmds.length) (h : PL w F pb m k d) :
    Calls Tryz.prog 15 #[.pointer (some ⟨pb, 0, none⟩), .int .i64 b] w (SeekPost F pb m t d w) := by
  have hlen := h.ok.len
  have hk := h.at_
  have HA := hide (h.calm (Kept.alloc w (.cells #[.int .i64 0, .slice none 0 0] 38)))
  have HFw : Hid (∀ j, F j → j < w.heap.size) := fun j hj => h.lt j hj
  have HFT : Hid (∀ j, (j = pb ∨ Foot d.c d.r j) → j < w.heap.size) := fun j hj => h.lt j (h.wf j hj)
  have hw1 : IntKind.i64.wrap (-(k : Int)) = -(k : Int) := wrap_id _ (by omega)
  have hw2 : IntKind.i64.wrap ((m.cmds.length : Int) - (k : Int)) = (m.cmds.length : Int) - (k : Int) := wrap_id _ (by omega)
  have hw3 : IntKind.i64.wrap ((k : Int) + b) = (t : Int) := by rw [hb]; exact wrap_id _ (by omega)
  have h0 : ¬ b < -(k : Int) := by omega
  have h1 : ¬ (m.cmds.length : Int) - (k : Int) < b := by omega
  clear h hb
  go_enter Tryz.func15, Tryz.ntmps15
  go_wp2_with fail
  obtain ⟨wA, hwA⟩ : ∃ wA, w.alloc (.cells #[.int .i64 0, .slice none 0 0] 38) = wA := ⟨_, rfl⟩
  rw [hwA] at HA ⊢
  have KA : Hid (Kept (fun _ => False) w wA ∧ wA.heap[w.heap.size]? = some (.cells #[.int .i64 0, .slice none 0 0] 38 (0, 0))) := by rw [← hwA]; exact ⟨Kept.alloc _ _, heap_alloc_new w _⟩
  have HP := hide (fun n => ticks_c F pb m k d (wA.drewN n) (HA.out.calm (Kept.drewN _ n)))
  clear hwA
  obtain ⟨⟨a0, a1, a2, a3, a4⟩, -⟩ := five_all HA.out.blk
  go_quiet ((go_at_call 11; exact Calls.quiet_of_same (HP.out _)))
  have HN := hide (HA.out.calm (Kept.drewN wA nq))
  have BN : Hid ((wA.drewN nq).heap[w.heap.size]? = some (.cells #[.int .i64 0, .slice none 0 0] 38 (0, 0))) := by rw [drewN_heap]; exact KA.out.2
  have KN := hide (KA.out.1.calm2 (Kept.drewN wA nq))
  clear HP a0 a1 a2 a3 a4
  generalize wA.drewN nq = wN at *
  obtain ⟨⟨a0, a1, a2, a3, a4⟩, -⟩ := five_all HN.out.blk
  go_wp2_with fail
  refine (seek_c F pb m k d t wN ht HN.out).mono ?_
  rintro e w1 ⟨N, q, cq, d', rfl, hN1, hN2, fr, pl, kk⟩
  have hbn := heap_lt BN.out
  have B1 : Hid (w1.heap[w.heap.size]? = some (.cells #[.int .i64 0, .slice none 0 0] 38 (0, 0))) := by show _ = _; rw [kk.block _ hbn (fun e => by have := HFT.out _ e; omega)]; exact BN.out
  obtain ⟨r0, r1, z0, z1⟩ := two_cells B1.out
  have SS := hide (two_sets B1.out (.int .i64 (t : Int)) (.slice q (m.at t).length cq))
  have KS := hide (two_sets_kept w1 w.heap.size (.int .i64 (t : Int)) (.slice q (m.at t).length cq))
  have FF := hide (And.intro fr (And.intro pl kk))
  clear fr pl kk
  go_wp2
  obtain ⟨e0, e1, -, -⟩ := two_cells SS.out
  refine bodyPost_ret (v := .tuple #[.agg #[.int .i64 (t : Int), .slice q (m.at t).length cq], .int .i64 0]) (by simp [results, Tryz.results15, go_sem, e0, e1]) rfl ?_
  obtain ⟨fr, pl, kk⟩ := FF.out
  have h5 := KN.out.size
  have h6 := KS.out.size
  refine ⟨N, q, cq, d', rfl, by omega, by omega, fr.keep KS.out (fun j off e ej => by have := (fr.new j off e).1; omega), ?_, (KN.out.join kk (R := fun j => j = pb ∨ Foot d.c d.r j) (fun _ _ e => e.elim) (fun _ _ e => e)).join KS.out (fun _ _ e => e) (fun j hj e => by omega)⟩
  refine (pl.keep KS.out (fun j hj e => by subst e; rcases hj with hj | hj; have := HFw.out _ hj; omega; omega)).grow (fun j e => ?_) (fun j e => ?_)
  · rcases e with e | e
    · exact Or.inl e
    · exact Or.inr (by omega)
  · rcases e with e | e
    · have := HFw.out j e; omega
    · omega
end Go.Proofs.YtlfmfhmbkpnjbaaGreatDoor
