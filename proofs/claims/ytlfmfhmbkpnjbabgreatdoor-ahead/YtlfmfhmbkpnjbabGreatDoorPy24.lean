import Derived.Test.YtlfmfhmbkpnjbabGreatDoorPy23
import Derived.Test.YtlfmfhmbkpnjbabGreatDoorPy18
namespace Go.Proofs.YtlfmfhmbkpnjbabGreatDoor
open Go.RowKit

theorem putL_mem {K V : Type} [DecidableEq K] (n : Nat) (L : List (K × V)) (e x : K × V) (h : x ∈ putL n L e) : x = e ∨ x ∈ L := by
  unfold putL touch at h
  split at h
  · rcases List.mem_cons.1 h with h | h
    · exact Or.inl h
    · rcases List.mem_append.1 h with h | h
      · exact Or.inr (List.mem_of_mem_take h)
      · exact Or.inr (List.mem_of_mem_drop h)
  · split at h
    · rcases List.mem_cons.1 h with h | h
      · exact Or.inl h
      · exact Or.inr h
    · rcases List.mem_cons.1 h with h | h
      · exact Or.inl h
      · exact Or.inr (List.mem_of_mem_take h)
/-- A world more is kept. -/
theorem PL.put {w w' : World} {F : Nat → Prop} {pb : Nat} {m : Mt} {k t : Nat} {d : PD} {p : Option Addr} {cap : Nat} {r' : Value} (h : PL w F pb m k d) (ht : t ≤ m.cmds.length) (st : Stand w F m t p cap)
    (kk : Kept (Foot d.c d.r) w w') (hc : IsC w' d.c r' 64 (putL 64 d.C ((t : Int), ⟨(t : Int), p, (m.at t).length, cap⟩))) (hr : NewRow w d.r r') :
    PL w' (fun j => F j ∨ (w.heap.size ≤ j ∧ j < w'.heap.size)) pb m k { d with r := r', C := putL 64 d.C ((t : Int), ⟨(t : Int), p, (m.at t).length, cap⟩) } := by
  have hcT : typ w d.c 77 := typ_blk h.cache.1
  have hne : ∀ j T, Foot d.c d.r j → typ w j T → T = 77 ∨ T = 105 := by
    intro j T hj ht
    rcases hj with rfl | hj
    · left; apply Classical.byContradiction; intro hn; exact typ_ne ht hcT hn rfl
    · right; apply Classical.byContradiction; intro hn; exact typ_ne ht (typ_own h.cache.2 j hj) hn rfl
  refine ⟨?_, h.ok, (h.row.keep kk (fun j _ ht e => ?_)).mono (fun j e => Or.inl e), h.cmds, h.whole, hc, (putL_length 64 d.C _ (by decide) h.size).1, fun e he => ?_, Or.inl h.fp, Or.inl h.fc, fun g hg => ?_, fun j hj => ?_, h.at_⟩
  · rw [kk.block pb (heap_lt h.blk) (fun e => ?_)]
    · exact h.blk
    · rcases hne pb _ e (typ_blk h.blk) with e | e <;> exact absurd e (by decide)
  · rcases ht with ht | ht | ht | ht <;> (rcases hne j _ e ht with e | e <;> exact absurd e (by decide))
  · rcases putL_mem 64 d.C _ e he with rfl | he
    · have s2 := st.keep kk (fun j _ ht e => by rcases hne j _ e ht with e | e <;> exact absurd e (by decide))
      exact ⟨⟨t, rfl, ht, rfl, rfl, s2.reads⟩, s2.nil, fun b off e => ⟨Or.inl (s2.foot b off e).1, (s2.foot b off e).2⟩⟩
    · exact ((h.each e he).keep kk (fun j _ ht e => by rcases hne j _ e ht with e | e <;> exact absurd e (by decide))).mono (fun j e => Or.inl e)
  · rcases hr with hr | ⟨g', hr, hl⟩
    · exact Or.inl (h.fr g (by rw [← hr]; exact hg))
    · rw [hr] at hg
      simp only [Option.some.injEq] at hg
      subst hg
      exact Or.inr ⟨hl, owns_lt hc.2 _ hr⟩
  · rcases hj with hj | hj
    · exact Nat.lt_of_lt_of_le (h.lt j hj) kk.size
    · exact hj.2
/-- The tick that is shown. -/
theorem PL.seek {w : World} {F : Nat → Prop} {pb : Nat} {m : Mt} {k t : Nat} {d : PD} (h : PL w F pb m k d) (ht : t ≤ m.cmds.length) : PL (w.setCell ⟨pb, 3, none⟩ (.int .i64 (t : Int))) F pb m t d ∧ Kept (fun j => j = pb) w (w.setCell ⟨pb, 3, none⟩ (.int .i64 (t : Int))) := by
  have kk := Kept.setCell w ⟨pb, 3, none⟩ (.int .i64 (t : Int))
  have hpT := typ_blk h.blk
  refine ⟨⟨?_, h.ok, h.row.keep kk (fun j _ ht e => ?_), h.cmds, h.whole, CacheAt3.keep h.cache kk (fun j hj e => ?_), h.size, fun e he => (h.each e he).keep kk (fun j _ ht e => ?_), h.fp, h.fc, h.fr, fun j hj => Nat.lt_of_lt_of_le (h.lt j hj) kk.size, ht⟩, kk⟩
  · rw [setCell_eq_setRow w pb 3 _ _ (0, 0) _ h.blk]
    exact setRow_heap w pb _ _ _ _ h.blk
  · rcases ht with ht | ht | ht | ht <;> exact typ_ne ht hpT (by decide) e
  · rcases hj with hj | hj
    · exact typ_ne (typ_blk h.cache.1) hpT (by decide) (hj.symm.trans e)
    · exact typ_ne (typ_own h.cache.2 j hj) hpT (by decide) e
  · exact typ_ne ht hpT (by decide) e

/-- Behind 'Seek' of a tick that there is. -/
def SeekPost (F : Nat → Prop) (pb : Nat) (m : Mt) (t : Nat) (d : PD) (w : World) (e : Ending) (w' : World) : Prop :=
  ∃ (N : Nat) (q : Option Addr) (cq : Nat) (d' : PD), e = .returned (.tuple #[.agg #[.int .i64 (t : Int), .slice q (m.at t).length cq], .int .i64 0]) ∧ w.heap.size ≤ N ∧ N ≤ w'.heap.size ∧ Fresh w' N q (m.at t).length cq (m.at t) ∧ PL w' (fun j => F j ∨ (w.heap.size ≤ j ∧ j < N)) pb m t d' ∧ Kept (fun j => j = pb ∨ Foot d.c d.r j) w w'

set_option maxHeartbeats 1000000 in
set_option maxRecDepth 100000 in
theorem seek_bad (F : Nat → Prop) (pb : Nat) (m : Mt) (k : Nat) (d : PD) (t : Int) (w : World) (ht : t < 0 ∨ (m.cmds.length : Int) < t) (h : PL w F pb m k d) :
    Calls Tryz.prog 7 #[.pointer (some ⟨pb, 0, none⟩), .int .i64 t] w fun e w' => e = .returned (.tuple #[.agg #[.int .i64 0, .slice none 0 0], .int .i64 4]) ∧ Kept (fun _ => False) w w' := by
  have HA := hide (h.calm (Kept.alloc w (.cells #[.int .i64 0, .slice none 0 0] 34)))
  clear h
  by_cases h0 : t < 0
  · go_enter Tryz.func7, Tryz.ntmps7
    go_wp2
    refine bodyPost_ret (v := .tuple #[.agg #[.int .i64 0, .slice none 0 0], .int .i64 4]) (by simp [results, Tryz.results7, go_sem]) rfl ?_
    exact ⟨rfl, Kept.alloc _ _⟩
  · have h1 : (m.cmds.length : Int) < t := by omega
    clear ht
    go_enter Tryz.func7, Tryz.ntmps7
    go_wp2_with fail
    refine (ticks_c F pb m k d _ HA.out).mono ?_
    rintro e w1 ⟨rfl, rfl⟩
    go_wp2
    refine bodyPost_ret (v := .tuple #[.agg #[.int .i64 0, .slice none 0 0], .int .i64 4]) (by simp [results, Tryz.results7, go_sem]) rfl ?_
    exact ⟨rfl, Kept.alloc _ _⟩

set_option maxHeartbeats 1000000 in
set_option maxRecDepth 100000 in
theorem seek_c (F : Nat → Prop) (pb : Nat) (m : Mt) (k : Nat) (d : PD) (t : Nat) (w : World) (ht : t ≤ m.cmds.length) (h : PL w F pb m k d) :
    Calls Tryz.prog 7 #[.pointer (some ⟨pb, 0, none⟩), .int .i64 (t : Int)] w (SeekPost F pb m t d w) := by
  have hlen := h.ok.len
  have KA := hide (Kept.alloc w (.cells #[.int .i64 0, .slice none 0 0] 34))
  have HA := hide (h.calm KA.out)
  have BA : Hid ((w.alloc (.cells #[.int .i64 0, .slice none 0 0] 34)).heap[w.heap.size]? = some (.cells #[.int .i64 0, .slice none 0 0] 34 (0, 0))) := heap_alloc_new w _
  have HFw : Hid (∀ j, F j → j < w.heap.size) := fun j hj => h.lt j hj
  have HFT : Hid (∀ j, Foot d.c d.r j → j < w.heap.size) := fun j hj => h.lt j (h.wf j (Or.inr hj))
  have hshort := (worldB_fine (h.good t ht)).2.2.short
  have hpbw := h.lt pb h.fp
  have h0 : ¬ (t : Int) < 0 := by omega
  have h1 : ¬ (m.cmds.length : Int) < (t : Int) := by omega
  clear h
  go_enter Tryz.func7, Tryz.ntmps7
  go_wp2_with fail
  refine (ticks_c F pb m k d _ HA.out).mono ?_
  rintro e wA ⟨rfl, hwA⟩
  rw [← hwA] at HA BA KA
  clear hwA
  go_wp2_with fail
  refine (wat_c F pb m k d t wA ht HA.out).mono ?_
  rintro e w1 ⟨p, cap, d1, rfl, st, pl, ⟨hdc, hdr⟩, kk⟩
  have hsA : w.heap.size < wA.heap.size := heap_lt BA.out
  have B1 : Hid (w1.heap[w.heap.size]? = some (.cells #[.int .i64 0, .slice none 0 0] 34 (0, 0))) := by show _ = _; rw [kk.block _ (heap_lt BA.out) (fun e => by have := HFT.out _ e; omega)]; exact BA.out
  have hs1 := kk.size
  have K2 := hide (Kept.alloc w1 (.cells #[.int .i64 (t : Int), .slice p (m.at t).length cap] 34))
  have N2 : Hid ((w1.alloc (.cells #[.int .i64 (t : Int), .slice p (m.at t).length cap] 34)).heap[w1.heap.size]? = some (.cells #[.int .i64 (t : Int), .slice p (m.at t).length cap] 34 (0, 0))) := heap_alloc_new w1 _
  -- the player's blocks: the old ones, and what is new below w1's size
  have P2 : Hid (PL (w1.alloc (.cells #[.int .i64 (t : Int), .slice p (m.at t).length cap] 34)) (fun j => F j ∨ (wA.heap.size ≤ j ∧ j < w1.heap.size)) pb m k d1) := (pl.calm K2.out).grow (fun j e => Or.inl e) (fun j e => by
    have := (pl.calm K2.out).lt
    rcases e with e | e
    · exact this j e
    · simp; omega)
  have S2 : Hid (Stand (w1.alloc (.cells #[.int .i64 (t : Int), .slice p (m.at t).length cap] 34)) (fun j => F j ∨ (wA.heap.size ≤ j ∧ j < w1.heap.size)) m t p cap) := (Stand.mk st.reads st.nil (fun b off e => ⟨(by
    rcases (st.foot b off e).1 with h | h
    · exact Or.inl h
    · exact Or.inr ⟨h, typ_lt (st.foot b off e).2⟩), (st.foot b off e).2⟩)).calm K2.out
  have HDC := hide hdc
  have HDR := hide hdr
  clear hdc hdr
  have K1 : Hid (Kept (Foot d.c d.r) w w1) := KA.out.join kk (fun _ _ e => e.elim) (fun _ _ e => e)
  clear st pl kk
  go_wp2_with fail
  obtain ⟨w2, hw2⟩ : ∃ w2, w1.alloc (.cells #[.int .i64 (t : Int), .slice p (m.at t).length cap] 34) = w2 := ⟨_, rfl⟩
  have hs2 : w2.heap.size = w1.heap.size + 1 := by rw [← hw2]; simp
  rw [hw2] at K2 N2 P2 S2 ⊢
  clear hw2
  obtain ⟨⟨a0, a1, a2, a3, a4⟩, -⟩ := five_all P2.out.blk
  obtain ⟨n0, n1, -, -⟩ := two_cells N2.out
  have HS2 := hide hs2
  clear hs2
  go_region_held3 (fun w' => w'.cell? ⟨pb, 4, none⟩ = some (.pointer (some ⟨d1.c, 0, none⟩)) ∧ w'.cell? ⟨w1.heap.size, 0, none⟩ = some (.int .i64 (t : Int)) ∧ w'.cell? ⟨w1.heap.size, 1, none⟩ = some (.slice p (m.at t).length cap)) (go_keep)
    ((go_at_call 19
      refine (put_iw d1.c 64 d1.r (t : Int) ⟨(t : Int), p, (m.at t).length, cap⟩ d1.C w2.drew (by decide) (by decide) P2.out.size (P2.out.cache.calm (Kept.drew w2))).mono ?_
      rintro e w3 ⟨rfl, r', q1, q2, q3⟩
      have P3 := hide ((P2.out.calm (Kept.drew w2)).put ht (S2.out.calm (Kept.drew w2)) q2 q1 q3)
      have T3 : Hid (Stand w3 (fun j => F j ∨ (wA.heap.size ≤ j ∧ j < w1.heap.size)) m t p cap) := (S2.out.calm (Kept.drew w2)).keep q2 (fun j _ hj e => by
        rcases e with rfl | e
        · exact typ_ne hj (typ_blk P2.out.cache.1) (by decide) rfl
        · exact typ_ne hj (typ_own P2.out.cache.2 j e) (by decide) rfl)
      have KF : Hid (∀ j, Foot d1.c d1.r j → (F j ∨ (wA.heap.size ≤ j ∧ j < w1.heap.size)) ∧ j ≠ w1.heap.size ∧ j ≠ w.heap.size) := fun j hj => by
        refine ⟨?_, fun e => ?_, fun e => ?_⟩
        · rcases hj with rfl | hj
          · exact P2.out.fc
          · exact P2.out.fr j hj
        · subst e
          rcases hj with hj | hj
          · exact typ_ne (typ_blk P2.out.cache.1) (typ_blk N2.out) (by decide) hj.symm
          · exact typ_ne (typ_own P2.out.cache.2 _ hj) (typ_blk N2.out) (by decide) rfl
        · subst e
          have hB2 := typ_keep (typ_blk B1.out) K2.out (fun e => e)
          rcases hj with hj | hj
          · exact typ_ne (typ_blk P2.out.cache.1) hB2 (by decide) hj.symm
          · exact typ_ne (typ_own P2.out.cache.2 _ hj) hB2 (by decide) rfl
      have K3 := hide ((Kept.drew w2).join q2 (R := Foot d1.c d1.r) (fun _ _ e => e.elim) (fun _ _ e => e))
      obtain ⟨⟨b0, b1, b2, b3, b4⟩, bf⟩ := five_all P3.out.blk
      obtain ⟨y0, y1, -, -⟩ := two_cells (show w3.heap[w1.heap.size]? = some (.cells #[.int .i64 (t : Int), .slice p (m.at t).length cap] 34 (0, 0)) by rw [K3.out.block _ (heap_lt N2.out) (fun e => (KF.out _ e).2.1 rfl)]; exact N2.out)
      clear q1 q2 q3))
  have hne1 : ¬ w1.heap.size = pb := by omega
  have hne2 : ¬ w.heap.size = pb := by omega
  have hw3 : w1.heap.size < w3.heap.size := by have := K3.out.size; have := HS2.out; omega
  obtain ⟨P4, K4⟩ := P3.out.seek ht
  have HP4 := hide P4
  have HK4 := hide K4
  have T4 : Hid (Stand (w3.setCell ⟨pb, 3, none⟩ (.int .i64 (t : Int))) (fun j => F j ∨ (wA.heap.size ≤ j ∧ j < w1.heap.size)) m t p cap) := T3.out.keep K4 (fun j _ hj e => typ_ne hj (typ_blk P3.out.blk) (by decide) e)
  clear P4 K4 a0 a1 a2 a3 a4 n0 n1
  go_wp2_with fail
  refine (copy_any (t : Int) p cap (m.at t) _ (by omega) T4.out.reads T4.out.nil).mono ?_
  rintro e w5 ⟨q, cq, rfl, fr, k5⟩
  have hs4 : (w3.setCell ⟨pb, 3, none⟩ (.int .i64 (t : Int))).heap.size = w3.heap.size := by simp [World.setCell]
  have K24 : Hid (Kept (fun j => Foot d1.c d1.r j ∨ j = pb) w2 (w3.setCell ⟨pb, 3, none⟩ (.int .i64 (t : Int)))) := K3.out.join HK4.out (fun _ _ e => Or.inl e) (fun _ _ e => Or.inr e)
  have B5 : Hid (w5.heap[w.heap.size]? = some (.cells #[.int .i64 0, .slice none 0 0] 34 (0, 0))) := by
    show _ = _
    rw [k5.block _ (by rw [hs4]; omega) (fun e => e), K24.out.block _ (by have := HS2.out; omega) (fun e => by rcases e with e | e; exact (KF.out _ e).2.2 rfl; exact hne2 e), K2.out.block _ (heap_lt B1.out) (fun e => e)]
    exact B1.out
  have FR := hide fr
  have K5 := hide k5
  have SS := hide (two_sets B5.out (.int .i64 (t : Int)) (.slice q (m.at t).length cq))
  have KS := hide (two_sets_kept w5 w.heap.size (.int .i64 (t : Int)) (.slice q (m.at t).length cq))
  obtain ⟨r0, r1, z0, z1⟩ := two_cells B5.out
  clear fr k5
  go_wp2
  obtain ⟨e0, e1, -, -⟩ := two_cells SS.out
  refine bodyPost_ret (v := .tuple #[.agg #[.int .i64 (t : Int), .slice q (m.at t).length cq], .int .i64 0]) (by simp [results, Tryz.results7, go_sem, e0, e1]) rfl ?_
  have h5 := K5.out.size
  have h6 := KS.out.size
  have hd2 : w2.drew.heap.size = w2.heap.size := rfl
  have hs2 := HS2.out
  refine ⟨w3.heap.size, q, cq, { d1 with r := r', C := putL 64 d1.C ((t : Int), ⟨(t : Int), p, (m.at t).length, cap⟩) }, rfl, by omega, by omega, ?_, ?_, ?_⟩
  · exact (FR.out.keep KS.out (fun j off e ej => by have := (FR.out.new j off e).1; omega)).low (by omega)
  · have p5 := (HP4.out.calm K5.out).keep KS.out (fun j hj e => by
      subst e
      rcases hj with (hj | hj) | hj
      · have := HFw.out _ hj; omega
      · omega
      · omega)
    refine p5.grow (fun j e => ?_) (fun j e => ?_)
    · rcases e with (e | e) | e
      · exact Or.inl e
      · exact Or.inr (by omega)
      · exact Or.inr (by omega)
    · rcases e with e | e
      · have := HFw.out j e; omega
      · omega
  · refine K1.out.join (K2.out.join (K24.out.join (K5.out.join KS.out (R := fun j => j = w.heap.size) (fun _ _ e => e.elim) (fun _ _ e => e)) (R := fun j => (Foot d1.c d1.r j ∨ j = pb) ∨ j = w.heap.size) (fun _ _ e => Or.inl e) (fun _ _ e => Or.inr e)) (R := fun j => (Foot d1.c d1.r j ∨ j = pb) ∨ j = w.heap.size) (fun _ _ e => e.elim) (fun _ _ e => e)) (fun _ _ e => Or.inr e) (fun j hj e => ?_)
    rcases e with (e | e) | e
    · rw [HDC.out, HDR.out] at e
      exact Or.inr e
    · exact Or.inl e
    · omega
end Go.Proofs.YtlfmfhmbkpnjbabGreatDoor

namespace Go.Proofs.YtlfmfhmbkpnjbabGreatDoor
open Go.RowKit

theorem info_int1 : (Tryz.prog.info? 3).map (fun i => (i.zero, i.size, i.bytes)) = some (some (.int .i64 0), 1, 8) := by kernel_rfl

/-- A match that was recorded. -/
structure Match (w w' : World) (css : List (List Cmd)) (k : Nat) (g cap : Nat) (WS : List Wd) : Prop where
  run : Run w w' WS (some ⟨g, 0, none⟩) cap
  len : WS.length = k + 1
  mobs : ∀ j (h : j < WS.length), WS[j].L = mobsAt css j
  new : ∀ d ∈ WS, ∀ b off, d.p = some ⟨b, off, none⟩ → w.heap.size ≤ b

/-- How long the file was behind each tick. -/
noncomputable def standsV (ev : Int) (css : List (List Cmd)) (k : Nat) : List Value := (List.range (k + 1)).map (fun j => .int .i64 ((fileAt ev css j).length : Int))
theorem standsV_succ (ev : Int) (css : List (List Cmd)) (k : Nat) : standsV ev css (k + 1) = standsV ev css k ++ [.int .i64 ((fileAt ev css (k + 1)).length : Int)] := by
  unfold standsV
  rw [List.range_succ, List.map_append]
  rfl

set_option maxHeartbeats 8000000 in
set_option maxRecDepth 100000 in
theorem recorded_s (every : Int) (q0 : Option Addr) (zss : List (List Int)) (cap0 : Nat) (w : World) (he : I64 every) (hn : ((zss.length : Nat) : Int) ≤ 9223372036854775807) (h : RTZ w q0 zss) (hT : Tabs w) :
    Calls Tryz.prog 5 #[.int .i64 every, .slice q0 zss.length cap0] w fun e w' => ∃ g cap gs sc WS, e = .returned (.tuple #[.string ⟨(fileAt (1 + (pickN_keep every 20 : Int)) (zss.map cmdsOf) (min 60 zss.length)).toArray⟩, .slice (some ⟨g, 0, none⟩) WS.length cap, .slice (some ⟨gs, 0, none⟩) (min 60 zss.length + 1) sc]) ∧ Match w w' (zss.map cmdsOf) (min 60 zss.length) g cap WS ∧ w'.ownsRow w.heap.size 3 1 (.slice (some ⟨gs, 0, none⟩) (min 60 zss.length + 1) sc) (min 60 zss.length + 1) (standsV (1 + (pickN_keep every 20 : Int)) (zss.map cmdsOf) (min 60 zss.length)) := by
  obtain ⟨i0, hi, hz0, hz1, hz2⟩ := info_parts info_world
  obtain ⟨i1, hi1, hy0, hy1, hy2⟩ := info_parts info_int1
  have H := hide h
  have HT := hide hT
  have h20 := pickN_lt_keep every 20 (by decide)
  have hB4 : 6 < w.heap.size := World.block_lt_of_cell? w ⟨6, 15, none⟩ hT.four
  have hB2 : 4 < w.heap.size := hT.pow_lt
  clear h hT
  go_enter Tryz.func5, Tryz.ntmps5
  go_wp2_with fail
  refine (picke_c every 20 20 w he rfl (by decide) (by decide)).mono ?_
  rintro e w1 ⟨rfl, hw⟩
  rw [hw]
  clear hw w1
  have hev : 1 ≤ 1 + (pickN_keep every 20 : Int) ∧ 1 + (pickN_keep every 20 : Int) ≤ 64 := by omega
  generalize hevE : 1 + (pickN_keep every 20 : Int) = ev at *
  have HEV := hide hevE
  clear hevE
  have hcs : ∀ cs ∈ zss.map cmdsOf, cs.length ≤ 64 ∧ ∀ c ∈ cs, IntC c := by
    intro cs hc
    obtain ⟨zs, _, rfl⟩ := List.mem_map.1 hc
    exact ⟨cmdsOf_few zs, cmdsOf_int zs⟩
  have HCS := hide hcs
  clear hcs
  go_wp2_with fail
  rw [HEV.out]
  refine (newRec_c ev w hev HT.out).mono ?_
  rintro e w1 ⟨rb, buf, rfl, hrb, r1, hbuf, k1⟩
  have R1 := hide r1
  have HBUF := hide hbuf
  have K1 := hide k1
  clear r1 hbuf k1
  go_wp2_with fail
  refine (file_c rb _ _ _ _ buf (fileAt ev (zss.map cmdsOf) 0) w1 R1.out (file_pos _ _ _)).mono ?_
  rintro e w2 ⟨rfl, r2, k2⟩
  have R2 := hide r2
  have K2 : Hid (Kept (fun _ => False) w w2) := K1.out.join k2 (fun _ _ e => e) (fun j hj e => by have := HBUF.out j e; omega)
  clear r2 k2 R1 K1
  have hrl := heap_lt R2.out.blk
  have KA := hide ((Kept.alloc w2 (.cells #[.int .i64 0, .slice none 0 0] 34)).calm2 (Kept.alloc _ (.cells #[.int .i64 ((fileAt ev (zss.map cmdsOf) 0).length : Int)] 3)))
  have RU : Hid (Run w ((w2.alloc (.cells #[.int .i64 0, .slice none 0 0] 34)).alloc (.cells #[.int .i64 ((fileAt ev (zss.map cmdsOf) 0).length : Int)] 3)) [⟨0, none, 0, []⟩] (some ⟨w2.heap.size, 0, none⟩) 1) := by
    have hs := K2.out.size
    refine ⟨?_, ?_, ?_, K2.out.calm2 KA.out⟩
    · exact World.ownsRow.alloc ⟨rfl, Or.inr ⟨w2.heap.size, 1, (rowW [⟨0, none, 0, []⟩]).toArray, rfl, hs, heap_alloc_new w2 _, by decide, by decide, rfl, rfl⟩⟩ _
    · intro d hd
      obtain rfl : d = ⟨0, none, 0, []⟩ := by simpa using hd
      exact ⟨fun e => absurd rfl e, fun _ => rfl, (fun b off e => by cases e), mobsAt_world [] 0 (by decide)⟩
    · intro k hk
      obtain rfl : k = 0 := by simpa using hk
      rfl
  have SU : Hid (((w2.alloc (.cells #[.int .i64 0, .slice none 0 0] 34)).alloc (.cells #[.int .i64 ((fileAt ev (zss.map cmdsOf) 0).length : Int)] 3)).ownsRow w.heap.size 3 1 (.slice (some ⟨w2.heap.size + 1, 0, none⟩) 1 1) 1 [.int .i64 ((fileAt ev (zss.map cmdsOf) 0).length : Int)]) := by
    have hs := K2.out.size
    have hb := heap_alloc_new (w2.alloc (.cells #[.int .i64 0, .slice none 0 0] 34)) (.cells #[.int .i64 ((fileAt ev (zss.map cmdsOf) 0).length : Int)] 3)
    rw [show (w2.alloc (.cells #[.int .i64 0, .slice none 0 0] 34)).heap.size = w2.heap.size + 1 from by simp] at hb
    exact ⟨rfl, Or.inr ⟨w2.heap.size + 1, 1, #[.int .i64 ((fileAt ev (zss.map cmdsOf) 0).length : Int)], rfl, by omega, hb, by decide, by decide, rfl, rfl⟩⟩
  go_wp2
  have R3 := hide (R2.out.calm KA.out)
  generalize (w2.alloc (.cells #[.int .i64 0, .slice none 0 0] 34)).alloc (.cells #[.int .i64 ((fileAt ev (zss.map cmdsOf) 0).length : Int)] 3) = W at *
  clear R2 KA
  generalize hcss : zss.map cmdsOf = css at *
  have HCSS := hide hcss
  clear hcss
  have HM0 : Hid (∀ j (h : j < ([⟨0, none, 0, []⟩] : List Wd).length), ([⟨0, none, 0, []⟩] : List Wd)[j].L = mobsAt css j) := fun j hj => by
    have hj0 : j = 0 := by simp at hj; exact hj
    subst hj0
    rfl
  have HN0 : Hid (∀ d ∈ ([⟨0, none, 0, []⟩] : List Wd), ∀ b off, d.p = some ⟨b, off, none⟩ → w.heap.size ≤ b) := fun d hd b off e => by
    obtain rfl : d = ⟨0, none, 0, []⟩ := by simpa using hd
    cases e
  go_loopw [9, 10, 11, 12] (fun a9 a10 a11 a12 wr => ∃ (i g cp gs sc : Nat) (sv : List Value) (WS : List Wd) (buf : Value) (pN : Option Addr) (cN : Nat), i ≤ 60 ∧ i ≤ zss.length ∧ a9 = .string ⟨(fileAt ev css i).toArray⟩ ∧ a10 = .slice (some ⟨g, 0, none⟩) WS.length cp ∧ a11 = .slice (some ⟨gs, 0, none⟩) (i + 1) sc ∧ a12 = .int .i64 (i : Nat) ∧ Hid (WS.length = i + 1) ∧ Hid (∀ j (h : j < WS.length), WS[j].L = mobsAt css j) ∧ Hid (Run w wr WS (some ⟨g, 0, none⟩) cp) ∧ Hid (Rec wr rb (.int .i64 ev) (.int .i64 (i : Nat)) (.slice pN (mobsAt css i).length cN) (.pointer (some ⟨rb, 3, none⟩)) buf (fileAt ev css i)) ∧ Hid (Reads wr pN (mobsAt css i)) ∧ Hid (pN = none → cN = 0) ∧ Hid (∀ j, buf.ownBlock = some j → w.heap.size ≤ j) ∧ Hid (wr.ownsRow w.heap.size 3 1 (.slice (some ⟨gs, 0, none⟩) (i + 1) sc) (i + 1) sv) ∧ Hid (sv = standsV ev css i) ∧ Hid (∀ d ∈ WS, ∀ b off, d.p = some ⟨b, off, none⟩ → w.heap.size ≤ b)) (fun _ _ _ a _ => 60 - (intOf a).toNat)
  case atStart => exact ⟨0, w2.heap.size, 1, w2.heap.size + 1, 1, _, [⟨0, none, 0, []⟩], buf, none, 0, by decide, Nat.zero_le _, rfl, rfl, rfl, rfl, rfl, HM0, RU, R3, (fun e => absurd rfl e), (fun _ => rfl), HBUF, SU, rfl, HN0⟩
  case round =>
    obtain ⟨i, g, cp, gs, sc, sv, WS, buf, pN, cN, hi60, hil, rfl, rfl, rfl, rfl, HWL, HML, HRUN, HREC, HRD, HPN, HBF, HSV, HSE, HNW⟩ := hrel
    clear RU R3 HBUF SU
    by_cases hlt : i < zss.length
    · by_cases h60 : i < 60
      · have hb1 : (0 : Int) ≤ (i : Int) := by omega
        have hb2 : (i : Int) < (zss.length : Int) := by omega
        have hb3 : (i : Int) < 60 := by omega
        obtain ⟨bt, offt, hq0, hbt, hall⟩ := (H.out.calm HRUN.out.kept) (by intro e; subst e; simp at hlt)
        subst hq0
        obtain ⟨pj, cj, t1, hnj, hRZ⟩ := hall i zss[i] (by simp [hlt])
        have HZ := hide hRZ
        have HCE : Hid (css.getD i [] = cmdsOf zss[i]) := by show _ = _; rw [← HCSS.out]; simp [List.getD, hlt]
        have HMX : Hid (mobsAt css (i + 1) = stepL (cmdsOf zss[i]) (mobsAt css i)) := by show _ = _; rw [← HCE.out]; rfl
        have HFX : Hid (fileAt ev css (i + 1) = fileAt ev css i ++ lineL (tickW (cmdsOf zss[i]) ((i : Int) + 1) (mobsAt css (i + 1)) ev)) := by show _ = _; rw [← HCE.out]; rfl
        have hW := mobsAt_world css i (by omega)
        have hW1 := mobsAt_world css (i + 1) (by omega)
        have hfs := file_short ev css i hi60 hev HCS.out
        clear hall hRZ
        have hzl := hnj
        generalize hzE : zss[i] = zs at *
        clear hzE
        go_wp2_with fail
        refine (commands_e pj zs cj wr hzl HZ.out).mono ?_
        rintro e w3 ⟨pc, capc, rfl, oc, k3⟩
        have K3 := hide k3
        have OC := hide (owns_readsC oc)
        have TC : Hid (∀ b off, pc = some ⟨b, off, none⟩ → typ w3 b 90) := fun b off e => typ_own oc b (by rw [e]; rfl)
        have hfew := cmdsOf_few zs
        have HIC := hide (cmdsOf_int zs)
        clear k3 oc t1
        generalize cmdsOf zs = cs at *
        have RE3 := hide (HREC.out.calm K3.out)
        have hsw := HRUN.out.kept.size
        have hs3 := K3.out.size
        have TW3 : Hid (Tabs w3) := HT.out.calm (HRUN.out.kept.calm2 K3.out)
        have hCne : ∀ b off, pc = some ⟨b, off, none⟩ → b ≠ rb ∧ buf.ownBlock ≠ some b := fun b off e => ⟨typ_ne (TC.out b off e) (typ_blk RE3.out.blk) (by decide), fun e2 => typ_ne (typ_ownF RE3.out.own b e2) (TC.out b off e) (by decide) rfl⟩
        go_wp2_with fail
        refine (record_ok w.heap.size rb ev (i : Int) pN cN (mobsAt css i) _ buf (fileAt ev css i) pc capc cs w3 hB4 hB2 hrb HBF.out RE3.out (HRD.out.calm K3.out) HPN.out OC.out.1 TW3.out hW (by omega) hfew hev HIC.out (by rw [← HMX.out]; exact mob_int hW1) (by omega) hCne).mono ?_
        rw [← HMX.out]
        rintro e w4 ⟨q, cq, gN, buf4, rfl, f4, r4, n4, tn4, hgN, hqN, m4, k4⟩
        have F4 := hide f4
        have R4 := hide r4
        have N4 := hide n4
        have TN4 := hide tn4
        have M4 := hide m4
        have K4 := hide k4
        rw [← HFX.out] at R4
        clear f4 r4 n4 tn4 m4 k4
        have HX1 := hide (mob_same hW1)
        have hX32 : (mobsAt css (i + 1)).length ≤ 32 := (worldB_fine hW1).2.2.short
        have HW1 := hide hW1
        clear hW1
        have HMX2 := hide HMX.out
        generalize hXE : mobsAt css (i + 1) = X at *
        have HXE := hide hXE
        clear hXE
        have nR : Hid (∀ j T, T ≠ 83 → T ≠ 5 → typ w3 j T → ¬ (j = rb ∨ buf.ownBlock = some j)) := fun j T h1 h2 ht e => by
          rcases e with e | e
          · rw [e] at ht
            exact typ_ne ht (typ_blk RE3.out.blk) h1 rfl
          · exact typ_ne (typ_ownF RE3.out.own _ e) ht (fun e => h2 e.symm) rfl
        have RUN3 : Hid (Run w w3 WS (some ⟨g, 0, none⟩) cp) := HRUN.out.keep K3.out (fun _ _ e => e) (fun _ _ e => e) (fun _ e => e.elim)
        have hS4 : ∀ j, (j = rb ∨ buf.ownBlock = some j) → w.heap.size ≤ j := fun j e => by
          rcases e with e | e
          · omega
          · exact HBF.out j e
        have RUN4 : Hid (Run w w4 WS (some ⟨g, 0, none⟩) cp) := RUN3.out.keep K4.out (fun j ht => nR.out j _ (by decide) (by decide) ht) (fun j ht => nR.out j _ (by decide) (by decide) ht) hS4
        have C4 : Hid (ReadsC w4 pc cs) := OC.out.1.keep K4.out (fun b off e _ => nR.out b _ (by decide) (by decide) (TC.out b off e))
        have SV4 : Hid (w4.ownsRow w.heap.size 3 1 (.slice (some ⟨gs, 0, none⟩) (i + 1) sc) (i + 1) sv) := by
          have h3 := owns_block HSV.out (w' := w3) (fun j hj => K3.out.block j (owns_lt HSV.out j hj) (fun e => e))
          exact owns_block h3 (fun j hj => K4.out.block j (owns_lt h3 j hj) (nR.out j _ (by decide) (by decide) (typ_own h3 j hj)))
        have hs4 := K4.out.size
        clear HRUN HSV RUN3 TW3 OC TC HREC HRD RE3 K3 nR
        have hWL := HWL.out
        obtain ⟨hgl, l0, l1⟩ := RUN4.out.cells i (by omega)
        have hWt := RUN4.out.tick i (by omega)
        have HOK := hide (RUN4.out.ok WS[i] (List.getElem_mem (by omega)))
        have hWL2 := HML.out i (by omega)
        rw [hWt] at l0
        rw [hWL2] at l1
        have DR := hide HOK.out.reads
        rw [hWL2] at DR
        have DN := hide HOK.out.nil
        generalize WS[i].p = dp at *
        generalize WS[i].cap = dc at *
        clear hWt hWL2 HOK
        have K5 := hide (Kept.alloc w4 (.cells #[.int .i64 ((i : Int) + 1), .slice q X.length cq] 34))
        have T14 := hide (heap_alloc_new w4 (.cells #[.int .i64 ((i : Int) + 1), .slice q X.length cq] 34))
        have hgl2 : i < WS.length := by omega
        have hgl3 : (i : Int) < (WS.length : Int) := by omega
        clear hWL
        go_wp2_with fail
        refine (step_ok (i : Int) dp pc dc capc (mobsAt css i) cs _ (by have := (worldB_fine hW).2.2.short; omega) (DR.out.calm K5.out) DN.out (C4.out.calm1 K5.out) hW (by omega) hfew).mono ?_
        rw [← HMX2.out]
        rintro e w6 ⟨g4, cur4, hg4, rfl, e4, k6⟩
        have E6 := hide e4
        have K6 := hide (K5.out.calm2 k6)
        have T146 : Hid (w6.heap[w4.heap.size]? = some (.cells #[.int .i64 ((i : Int) + 1), .slice q X.length cq] 34 (0, 0))) := by show _ = _; rw [k6.block _ (heap_lt T14.out) (fun e => e)]; exact T14.out
        clear e4 k6 T14 K5 l0 l1
        have K7 := hide (Kept.alloc w6 (.cells #[.int .i64 ((i : Int) + 1), .slice (some ⟨g4, 0, none⟩) X.length 32] 34))
        have T16 := hide (heap_alloc_new w6 (.cells #[.int .i64 ((i : Int) + 1), .slice (some ⟨g4, 0, none⟩) X.length 32] 34))
        have T147 : Hid ((w6.alloc (.cells #[.int .i64 ((i : Int) + 1), .slice (some ⟨g4, 0, none⟩) X.length 32] 34)).heap[w4.heap.size]? = some (.cells #[.int .i64 ((i : Int) + 1), .slice q X.length cq] 34 (0, 0))) := by show _ = _; rw [K7.out.block _ (heap_lt T146.out) (fun e => e)]; exact T146.out
        have hT14 := heap_lt T146.out
        obtain ⟨x0, x1, -, -⟩ := two_cells T146.out
        have hs6 := K6.out.size
        go_wp2_with fail
        refine (same_k ((i : Int) + 1) ((i : Int) + 1) q (some ⟨g4, 0, none⟩) cq 32 X X _ (F4.out.reads.calm (K6.out.calm2 K7.out)) (E6.out.reads.calm K7.out) hX32).mono ?_
        rintro e w8 ⟨b8, rfl, hb8, k8⟩
        obtain rfl : b8 = true := hb8 rfl rfl HX1.out
        have K48 := hide ((K6.out.calm2 K7.out).calm2 k8)
        have T8 : Hid (w8.heap[w4.heap.size]? = some (.cells #[.int .i64 ((i : Int) + 1), .slice q X.length cq] 34 (0, 0))) := by show _ = _; rw [k8.block _ (heap_lt T147.out) (fun e => e)]; exact T147.out
        clear k8 x0 x1 T147 T146 T16 K7 E6 K6 hb8
        have hs8 := K48.out.size
        go_wp2_with fail
        refine (file_c rb _ _ _ _ buf4 (fileAt ev css (i + 1)) w8 (R4.out.calm K48.out) (file_pos _ _ _)).mono ?_
        rintro e w9 ⟨rfl, r9, k9⟩
        have R9 := hide r9
        have K9 := hide k9
        clear r9 k9
        have nB : Hid (∀ j T, T ≠ 5 → typ w8 j T → ¬ (buf4.ownBlock = some j)) := fun j T h2 ht e => typ_ne (typ_ownF (R4.out.calm K48.out).own _ e) ht (fun e => h2 e.symm) rfl
        have hB9 : ∀ j, buf4.ownBlock = some j → w.heap.size ≤ j := fun j e => by
          rcases M4.out j e with h | h
          · exact HBF.out j h
          · omega
        have RUN8 : Hid (Run w w8 WS (some ⟨g, 0, none⟩) cp) := RUN4.out.keep K48.out (fun _ _ e => e) (fun _ _ e => e) (fun _ e => e.elim)
        have RUN9 : Hid (Run w w9 WS (some ⟨g, 0, none⟩) cp) := RUN8.out.keep K9.out (fun j ht => nB.out j _ (by decide) ht) (fun j ht => nB.out j _ (by decide) ht) hB9
        have SV9 : Hid (w9.ownsRow w.heap.size 3 1 (.slice (some ⟨gs, 0, none⟩) (i + 1) sc) (i + 1) sv) := by
          have h3 := owns_block SV4.out (w' := w8) (fun j hj => K48.out.block j (owns_lt SV4.out j hj) (fun e => e))
          exact owns_block h3 (fun j hj => K9.out.block j (owns_lt h3 j hj) (nB.out j _ (by decide) (typ_own h3 j hj)))
        have T9 : Hid (w9.heap[w4.heap.size]? = some (.cells #[.int .i64 ((i : Int) + 1), .slice q X.length cq] 34 (0, 0))) := by show _ = _; rw [K9.out.block _ (heap_lt T8.out) (nB.out _ _ (by decide) (typ_blk T8.out))]; exact T8.out
        have N9 : Hid (Reads w9 (some ⟨gN, 0, none⟩) X) := (N4.out.calm K48.out).keep K9.out (fun b off e => by cases e; exact nB.out _ _ (by decide) (typ_keep TN4.out K48.out (fun e => e)))
        have TN9 : Hid (typ w9 gN 63) := typ_keep (typ_keep TN4.out K48.out (fun e => e)) K9.out (nB.out _ _ (by decide) (typ_keep TN4.out K48.out (fun e => e)))
        have TQ8 : ∀ b off, q = some ⟨b, off, none⟩ → typ w8 b 63 := fun b off e => by
          rcases F4.out.raw with ⟨hq, _⟩ | ⟨gq, cur, hq, hb, _⟩
          · rw [hq] at e; cases e
          · rw [hq] at e; cases e
            exact typ_keep (typ_blk hb) K48.out (fun e => e)
        have DOK : Hid (Wd.Ok w9 ⟨(i : Int) + 1, q, cq, X⟩) := by
          refine ⟨(F4.out.reads.calm K48.out).keep K9.out (fun b off e => nB.out b _ (by decide) (TQ8 b off e)), ?_, fun b off e => typ_keep (TQ8 b off e) K9.out (nB.out b _ (by decide) (TQ8 b off e)), HW1.out⟩
          intro e
          rcases F4.out.raw with ⟨_, _, hc⟩ | ⟨gq, cur, hq, _⟩
          · exact hc
          · rw [hq] at e; cases e
        have NQ : Hid (∀ b off, q = some ⟨b, off, none⟩ → w.heap.size ≤ b) := fun b off e => by have := (F4.out.new b off e).1; omega
        clear RUN4 RUN8 SV4 T8 K48 K9 nB TQ8 F4 N4 TN4
        obtain ⟨y0, y1, -, -⟩ := two_cells T9.out
        have O9 := hide (owns_base RUN9.out.own)
        go_wp2_with (at_builtin; refine wpList_append_mine _ rfl (.tmp 84) (.tmp 86) 27 rfl 34 i0 _ 2 32 Tryz.underlying27 hi hz0 hz1 hz2 rfl (by decide) _ _ _ rfl (O9.out.alloc _) ⟨w9.heap.size, 0, none⟩ 1 1 (rowW [⟨(i : Int) + 1, q, cq, X⟩]) rfl rfl ?c1 (rowW_one _) (by decide) ?c4 ?c5 ?_)
        case c1 => exact new_cells w9 (rowW [⟨(i : Int) + 1, q, cq, X⟩]) 34 w9.heap.size rfl
        case c4 => have := HWL.out; unfold maxLen; omega
        case c5 => have := HWL.out; omega
        intro g7 cap7 w10 hown hgr hg7
        have hgw := (RUN9.out.own.lt g rfl).1
        have tg9 := typ_own RUN9.out.own g rfl
        have K910 : Hid (Kept (fun j => j = g) w9 w10) := (Kept.alloc w9 _).join (Kept.of_grown hgr) (R := fun j => j = g) (fun _ _ e => e.elim) (fun j _ e => by simpa [Value.ownBlock] using e)
        have RUN10 : Hid (Run w w10 (WS ++ [⟨(i : Int) + 1, q, cq, X⟩]) (some ⟨g7, 0, none⟩) cap7) := by
          refine Run.more (B6 := g) RUN9.out (Kept.refl _ _) DOK.out ?_ (K910.out.mono (fun _ _ e => Or.inr e)) tg9 hgw hown ?_
          · show (i : Int) + 1 = _
            have := HWL.out
            omega
          · rcases hg7 with e | e
            · left
              have : g = g7 := by simpa [Value.ownBlock] using e
              exact this.symm
            · right; have e' : w9.heap.size + 1 ≤ g7 := by simpa using e
              omega
        have nG : Hid (∀ j T, T ≠ 34 → typ w9 j T → ¬ j = g) := fun j T h2 ht e => typ_ne ht tg9 h2 e
        have R10 : Hid (Rec w10 rb (.int .i64 ev) (.int .i64 ((i : Int) + 1)) (.slice (some ⟨gN, 0, none⟩) X.length 32) (.pointer (some ⟨rb, 3, none⟩)) buf4 (fileAt ev css (i + 1))) := R9.out.keep K910.out (nG.out rb _ (by decide) (typ_blk R9.out.blk)) (fun j hj => nG.out j _ (by decide) (typ_ownF R9.out.own j hj))
        have SV10 : Hid (w10.ownsRow w.heap.size 3 1 (.slice (some ⟨gs, 0, none⟩) (i + 1) sc) (i + 1) sv) := owns_block SV9.out (fun j hj => K910.out.block j (owns_lt SV9.out j hj) (nG.out j _ (by decide) (typ_own SV9.out j hj)))
        have N10 : Hid (Reads w10 (some ⟨gN, 0, none⟩) X) := N9.out.keep K910.out (fun b off e => by cases e; exact nG.out _ _ (by decide) TN9.out)
        have TN10 : Hid (typ w10 gN 63) := typ_keep TN9.out K910.out (nG.out _ _ (by decide) TN9.out)
        have HW10 : Hid ((WS ++ [(⟨(i : Int) + 1, q, cq, X⟩ : Wd)]).length = i + 1 + 1) := by show _ = _; rw [List.length_append, HWL.out]; rfl
        have HM10 : Hid (∀ j (h : j < (WS ++ [(⟨(i : Int) + 1, q, cq, X⟩ : Wd)]).length), (WS ++ [(⟨(i : Int) + 1, q, cq, X⟩ : Wd)])[j].L = mobsAt css j) := fun j hj => by
          by_cases hlt : j < WS.length
          · rw [List.getElem_append_left hlt]; exact HML.out j hlt
          · rw [List.getElem_append_right (by omega)]
            have h1 := HW10.out
            have h2 := HWL.out
            have hj' : j = i + 1 := by omega
            subst hj'
            simp only [List.getElem_singleton]
            exact HXE.out.symm
        have HN10 : Hid (∀ d ∈ WS ++ [(⟨(i : Int) + 1, q, cq, X⟩ : Wd)], ∀ b off, d.p = some ⟨b, off, none⟩ → w.heap.size ≤ b) := fun d hd b off e => by
          rcases List.mem_append.1 hd with hd | hd
          · exact HNW.out d hd b off e
          · obtain rfl : d = ⟨(i : Int) + 1, q, cq, X⟩ := by simpa using hd
            exact NQ.out b off e
        have hs10 := K910.out.size
        have hs9 := RUN9.out.kept.size
        clear hown hgr hg7 RUN9 SV9 N9 TN9 R9 DOK O9 T9 y0 y1 K910 nG tg9
        generalize hWSE : WS ++ [(⟨(i : Int) + 1, q, cq, X⟩ : Wd)] = WS' at *
        have hlw : WS.length + 1 = WS'.length := by rw [← hWSE]; simp
        clear hWSE
        rw [hlw]
        clear hlw
        have SN : Hid ((w10.alloc (.cells #[.int .i64 ((fileAt ev css (i + 1)).length : Int)] 3)).ownsRow w.heap.size 3 1 (.slice (some ⟨gs, 0, none⟩) (i + 1) sc) (i + 1) sv) := SV10.out.alloc _
        go_wp2_with (at_builtin; refine wpList_append_at _ rfl (.tmp 88) (.tmp 91) 28 rfl w.heap.size 3 i1 (.int .i64 0) 1 8 Tryz.underlying28 hi1 hy0 hy1 hy2 rfl (by decide) _ _ _ rfl SN.out ⟨w10.heap.size, 0, none⟩ 1 1 [.int .i64 ((fileAt ev css (i + 1)).length : Int)] rfl rfl ?c1 ?c2 (by decide) ?c4 ?c5 ?c6 ?_)
        case c1 => exact new_cells w10 [.int .i64 ((fileAt ev css (i + 1)).length : Int)] 3 w10.heap.size rfl
        case c2 => intro u hu; simp only [List.mem_cons, List.not_mem_nil, or_false] at hu; rw [hu]; rfl
        case c4 => unfold maxLen; omega
        case c5 => omega
        case c6 => simp; omega
        intro gs' sc' w11 hown hgr
        have tgs := typ_own SV10.out gs rfl
        have hgsw := (SV10.out.lt gs rfl).1
        have K11 : Hid (Kept (fun j => j = gs) w10 w11) := (Kept.alloc w10 _).join (Kept.of_grown hgr) (R := fun j => j = gs) (fun _ _ e => e.elim) (fun j _ e => by simpa [Value.ownBlock] using e)
        have nI : Hid (∀ j T, T ≠ 3 → typ w10 j T → ¬ j = gs) := fun j T h2 ht e => typ_ne ht tgs h2 e
        have RUN11 : Hid (Run w w11 WS' (some ⟨g7, 0, none⟩) cap7) := RUN10.out.keep K11.out (fun j ht => nI.out j _ (by decide) ht) (fun j ht => nI.out j _ (by decide) ht) (fun j e => by omega)
        have R11 := hide (R10.out.keep K11.out (nI.out rb _ (by decide) (typ_blk R10.out.blk)) (fun j hj => nI.out j _ (by decide) (typ_ownF R10.out.own j hj)))
        have N11 : Hid (Reads w11 (some ⟨gN, 0, none⟩) X) := N10.out.keep K11.out (fun b off e => by cases e; exact nI.out _ _ (by decide) TN10.out)
        have SV11 := hide hown
        clear hown hgr RUN10 R10 N10 TN10 SV10 SN K11 nI tgs
        go_wp2
        go_roundw
        case rel =>
          rw [← HXE.out] at R11 N11
          exact ⟨i + 1, g7, cap7, gs', sc', _, WS', buf4, some ⟨gN, 0, none⟩, 32, by omega, by omega, rfl, rfl, by simp, by go_num, HW10, HM10, RUN11, R11, N11, (fun e => by cases e), hB9, SV11, (by show _ = _; rw [HSE.out]; exact (standsV_succ ev css i).symm), HN10⟩
        case measure => simp [intOf]; omega
      · have hb3 : ¬ (i : Int) < 60 := by omega
        have hb2 : (i : Int) < (zss.length : Int) := by omega
        go_wp2
        refine bodyPost_ret (v := .tuple #[.string ⟨(fileAt ev css i).toArray⟩, .slice (some ⟨g, 0, none⟩) WS.length cp, .slice (some ⟨gs, 0, none⟩) (i + 1) sc]) (by simp [results, Tryz.results5, go_sem]) rfl ?_
        have hmin : min 60 zss.length = i := by omega
        rw [hmin, HEV.out, HCSS.out]
        exact ⟨g, cp, gs, sc, WS, rfl, ⟨HRUN.out, HWL.out, HML.out, HNW.out⟩, by have := HSV.out; rw [HSE.out] at this; exact this⟩
    · have hb2 : ¬ (i : Int) < (zss.length : Int) := by omega
      go_wp2
      refine bodyPost_ret (v := .tuple #[.string ⟨(fileAt ev css i).toArray⟩, .slice (some ⟨g, 0, none⟩) WS.length cp, .slice (some ⟨gs, 0, none⟩) (i + 1) sc]) (by simp [results, Tryz.results5, go_sem]) rfl ?_
      have hmin : min 60 zss.length = i := by omega
      rw [hmin, HEV.out, HCSS.out]
      exact ⟨g, cp, gs, sc, WS, rfl, ⟨HRUN.out, HWL.out, HML.out, HNW.out⟩, by have := HSV.out; rw [HSE.out] at this; exact this⟩
theorem recorded_c (every : Int) (q0 : Option Addr) (zss : List (List Int)) (cap0 : Nat) (w : World) (he : I64 every) (hn : ((zss.length : Nat) : Int) ≤ 9223372036854775807) (h : RTZ w q0 zss) (hT : Tabs w) :
    Calls Tryz.prog 5 #[.int .i64 every, .slice q0 zss.length cap0] w fun e w' => ∃ g cap vs WS, e = .returned (.tuple #[.string ⟨(fileAt (1 + (pickN_keep every 20 : Int)) (zss.map cmdsOf) (min 60 zss.length)).toArray⟩, .slice (some ⟨g, 0, none⟩) WS.length cap, vs]) ∧ Match w w' (zss.map cmdsOf) (min 60 zss.length) g cap WS :=
  (recorded_s every q0 zss cap0 w he hn h hT).mono (fun _ _ ⟨g, cap, _, _, WS, h1, h2, _⟩ => ⟨g, cap, _, WS, h1, h2⟩)
end Go.Proofs.YtlfmfhmbkpnjbabGreatDoor
