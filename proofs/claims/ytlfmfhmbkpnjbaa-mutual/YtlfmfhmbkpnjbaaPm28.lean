import Derived.Test.YtlfmfhmbkpnjbaaPm27
namespace Go.Proofs.Ytlfmfhmbkpnjbaa
open Go.RowKit

theorem after_row {wr w4 : World} {g4 b8 cp : Nat} {M : List Mob} {cu : List Value} (k : Kept (fun _ => False) wr w4) (hb : wr.heap.size ≤ b8) (h : w4.heap[b8]? = some (.cells #[.int .i64 0, .slice none 0 0] 40 (0, 0))) (e : RowAt w4 g4 M cp cu) (u v : Value) :
    Kept (fun _ => False) wr ((w4.setCell ⟨b8, 0, none⟩ u).setCell ⟨b8, 1, none⟩ v) ∧ ((w4.setCell ⟨b8, 0, none⟩ u).setCell ⟨b8, 1, none⟩ v).heap[b8]? = some (.cells #[u, v] 40 (0, 0)) ∧ RowAt ((w4.setCell ⟨b8, 0, none⟩ u).setCell ⟨b8, 1, none⟩ v) g4 M cp cu := by
  have kk : Kept (fun k => k = b8) w4 ((w4.setCell ⟨b8, 0, none⟩ u).setCell ⟨b8, 1, none⟩ v) := (Kept.setCell w4 _ u).join (Kept.setCell _ _ v) (fun _ _ e => e) (fun _ _ e => e)
  exact ⟨two_kept k hb u v, two_sets h u v, e.keep kk (typ_ne (typ_blk e.blk) (typ_blk h) (by decide))⟩
theorem after_rnew {wr w4 : World} {g4 cp : Nat} {M : List Mob} {cu : List Value} (k : Kept (fun _ => False) wr w4) (e : RowAt w4 g4 M cp cu) (u v : Value) :
    Kept (fun _ => False) wr (w4.alloc (.cells #[u, v] 40)) ∧ (w4.alloc (.cells #[u, v] 40)).heap[w4.heap.size]? = some (.cells #[u, v] 40 (0, 0)) ∧ RowAt (w4.alloc (.cells #[u, v] 40)) g4 M cp cu :=
  ⟨k.calm2 (Kept.alloc _ _), heap_alloc_new _ _, e.calm (Kept.alloc _ _)⟩

theorem RowAt.at {w : World} {g : Nat} {L : List Mob} {cap : Nat} {cur : List Value} (h : RowAt w g L cap cur) (i : Nat) (hi : i < L.length) : w.cell? ⟨g, i * 7, none⟩ = some (.int .i64 L[i].id) ∧ w.cell? ⟨g, i * 7 + 1, none⟩ = some (.int .i64 L[i].team) ∧ w.cell? ⟨g, i * 7 + 2, none⟩ = some (.float .f32 L[i].x) ∧ w.cell? ⟨g, i * 7 + 3, none⟩ = some (.float .f32 L[i].y) ∧ w.cell? ⟨g, i * 7 + 4, none⟩ = some (.float .f32 L[i].vx) ∧ w.cell? ⟨g, i * 7 + 5, none⟩ = some (.float .f32 L[i].vy) ∧ w.cell? ⟨g, i * 7 + 6, none⟩ = some (.int .i64 L[i].health) := by
  obtain ⟨b, off, hp, hb, c0, c1, c2, c3, c4, c5, c6⟩ := h.reads.at i hi
  simp only [Option.some.injEq, Addr.mk.injEq] at hp
  obtain ⟨rfl, rfl, _⟩ := hp
  rw [Nat.zero_add] at c0 c1 c2 c3 c4 c5 c6
  exact ⟨c0, c1, c2, c3, c4, c5, c6⟩

def at0 (L : List Mob) (j : Nat) : Mob := L[j]?.getD (newM 0 0 0 0)
theorem at0_eq (L : List Mob) (j : Nat) (h : j < L.length) : at0 L j = L[j] := by simp [at0, h]

/-- What each has seen. -/
structure SeenAt (w wr : World) (L : List Mob) (far : Nat) (WS : List Wd) (p : Option Addr) (cap : Nat) : Prop where
  own : wr.ownsRow w.heap.size 40 2 (.slice p WS.length cap) WS.length (rowW WS)
  each : ∀ j (h : j < WS.length), WS[j].L = L.filter (fun e => seesB (at0 L j) e far) ∧ Reads wr WS[j].p WS[j].L ∧ ∀ b off, WS[j].p = some ⟨b, off, none⟩ → typ wr b 57

theorem SeenAt.calm {w wr w' : World} {L : List Mob} {far : Nat} {WS : List Wd} {p : Option Addr} {cap : Nat} (h : SeenAt w wr L far WS p cap) (k : Kept (fun _ => False) wr w') : SeenAt w w' L far WS p cap :=
  ⟨owns_block h.own (fun j hj => k.block j (owns_lt h.own j hj) (fun e => e)), fun j hj => ⟨(h.each j hj).1, (h.each j hj).2.1.calm k, fun b off e => typ_keep ((h.each j hj).2.2 b off e) k (fun e => e)⟩⟩

theorem SeenAt.more {w wr w' : World} {L : List Mob} {far : Nat} {WS : List Wd} {p : Option Addr} {cap g' cap' g n : Nat} {cu : List Value} {t : Int} {X : List Mob} (h : SeenAt w wr L far WS p cap) (hX : X = L.filter (fun e => seesB (at0 L WS.length) e far)) (hr : RowAt wr g X n cu)
    (own : w'.ownsRow w.heap.size 40 2 (.slice (some ⟨g', 0, none⟩) (WS.length + 1) cap') (WS.length + 1) (rowW WS ++ rowW [⟨t, some ⟨g, 0, none⟩, n, X⟩])) (hk : ∀ o, (wr.alloc o).grownBy w' (Value.slice p WS.length cap).ownBlock → Kept (fun j => some j = (Value.slice p WS.length cap).ownBlock) wr w') (o : Obj) (hg : (wr.alloc o).grownBy w' (Value.slice p WS.length cap).ownBlock) :
    SeenAt w w' L far (WS ++ [⟨t, some ⟨g, 0, none⟩, n, X⟩]) (some ⟨g', 0, none⟩) cap' := by
  have kk := hk o hg
  have hS : ∀ b, typ wr b 57 → ¬ some b = (Value.slice p WS.length cap).ownBlock := by
    intro b hb e
    exact typ_ne hb (typ_own h.own b e.symm) (by decide) rfl
  refine ⟨by rw [List.length_append, rowW_append]; exact own, fun j hj => ?_⟩
  rw [List.length_append] at hj
  by_cases hlt : j < WS.length
  · rw [List.getElem_append_left hlt]
    obtain ⟨q1, q2, q3⟩ := h.each j hlt
    exact ⟨q1, q2.keep kk (fun b off e => hS b (q3 b off e)), fun b off e => typ_keep (q3 b off e) kk (hS b (q3 b off e))⟩
  · have e : j = WS.length := by simp at hj; omega
    subst e
    rw [List.getElem_append_right (by omega)]
    simp only [Nat.sub_self, List.getElem_cons_zero]
    refine ⟨hX, hr.reads.keep kk (fun b off e => ?_), fun b off e => ?_⟩
    · simp only [Option.some.injEq, Addr.mk.injEq] at e
      obtain ⟨rfl, _⟩ := e
      exact hS _ (typ_blk hr.blk)
    · simp only [Option.some.injEq, Addr.mk.injEq] at e
      obtain ⟨rfl, _⟩ := e
      exact typ_keep (typ_blk hr.blk) kk (hS _ (typ_blk hr.blk))

set_option maxHeartbeats 8000000 in
set_option maxRecDepth 100000 in
theorem mutual_walk (q : Option Addr) (n capq : Nat) (near more : Int) (w : World) (hn : (n : Int) ≤ 9223372036854775807) (h : RT w q n) (hnear : -9223372036854775808 ≤ near ∧ near ≤ 9223372036854775807) (hmore : -9223372036854775808 ≤ more ∧ more ≤ 9223372036854775807) :
    Calls Try.prog 9 #[.slice q n capq, .int .i64 near, .int .i64 more] w fun e w' => e = .returned (.bool true) ∧ Below w.heap.size w w' := by
  obtain ⟨i0, hi, hz0, hz1, hz2⟩ := info_parts info_world
  have hsf := store_float Try.prog
  go_enter Try.func9, Try.ntmps9
  go_wp2_with fail
  refine (played_c q n capq _ hn h).mono ?_
  rintro e w1 ⟨g, cap, WS, h1, h61, rfl, R⟩
  have hnil := not_nil g WS.length cap
  obtain ⟨k, hk⟩ : ∃ k, WS.length = k + 1 := ⟨WS.length - 1, by omega⟩
  obtain ⟨c0, c1⟩ := R.cells k (by omega)
  have HO := hide (R.ok WS[k] (List.getElem_mem _))
  have hb0 : IntKind.i64.wrap (k : Int) = (k : Int) := wrap_id _ (by omega)
  have hb1 : (0 : Int) ≤ (k : Int) := by omega
  rw [hk] at hnil ⊢
  have K0 := hide R.kept
  have hgl := R.lt
  have hw1 := R.kept.size
  clear R h
  generalize WS[k] = d at *
  have hdl := HO.out.short
  have HGd := hide HO.out.good
  have HRS := hide (rises_of (worldB_fine HO.out.good).2.2.rises)
  have HM := hide (worldB_mobs HO.out.good)
  clear hk
  have hb2 : (k : Int) < ((k + 1 : Nat) : Int) := by omega
  go_wp2_with fail
  refine (pickn_c near 3000 3000 _ hnear rfl (by decide) (by decide)).mono ?_
  rintro e w2 ⟨k1, l1, rfl, rfl⟩
  obtain ⟨nf, kf⟩ := int_far k1 (by omega)
  go_wp2_with fail
  refine (pickn_c more 500 500 _ hmore rfl (by decide) (by decide)).mono ?_
  rintro e w2 ⟨k2, l2, rfl, rfl⟩
  obtain ⟨nm, km⟩ := int_far k2 (by omega)
  have hadd : ∀ w, (binOp .add 54 (.float .f32 (floatOfInt .f32 (k1 : Int))) (.float .f32 (floatOfInt .f32 (k2 : Int)))).run Try.prog w = .ok (.float .f32 (fadd (floatOfInt .f32 (k1 : Int)) (floatOfInt .f32 (k2 : Int)))) w := fun w => run_float_arith w .add _ .f32 _ _ _ (fadd_ok nf nm.ok).1
  have ofur := (fadd_ok nf nm.ok).2
  have kfur := add_ge nf nm km
  have nn1 := hide (not_neg nf.ok kf)
  have nn2 := hide (not_neg ofur (Int.le_trans kf kfur))
  have hrr := hide (rung_of_key kf kfur)
  have NF := hide nf
  have OFU := hide ofur
  have BK := hide (heap_alloc_new w1 (.cells #[.int .i64 d.t, .slice d.p d.L.length d.cap] 40))
  have KB0 := hide (Kept.alloc w1 (.cells #[.int .i64 d.t, .slice d.p d.L.length d.cap] 40))
  have HRd := hide (HO.out.reads.calm KB0.out)
  have K8 := hide (K0.out.calm2 KB0.out)
  clear nm km c0 c1 nf kf ofur kfur
  go_wp2
  clear hadd
  generalize floatOfInt .f32 (k1 : Int) = far at *
  generalize fadd far (floatOfInt .f32 (k2 : Int)) = fur at *
  have hB8 : w.heap.size ≤ w1.heap.size := hw1
  clear KB0 K0 HO
  generalize w1.alloc (.cells #[.int .i64 d.t, .slice d.p d.L.length d.cap] 40) = W8 at *
  generalize w1.heap.size = B8 at *
  go_loopw [11, 12] (fun s a wr => ∃ p cp, ∃ VS : List Wd, VS.length ≤ d.L.length ∧ s = .slice p VS.length cp ∧ a = .int .i64 ((VS.length : Nat) : Int) ∧ Hid (SeenAt W8 wr d.L far VS p cp) ∧ Hid (Kept (fun _ => False) W8 wr)) (fun _ a _ => d.L.length - (intOf a).toNat)
  case atStart => exact ⟨none, 0, [], Nat.zero_le _, rfl, rfl, ⟨⟨rfl, Or.inl ⟨rfl, rfl⟩⟩, fun j hj => absurd hj (Nat.not_lt_zero _)⟩, Kept.refl _ _⟩
  case round =>
    obtain ⟨ps, cps, VS, hVl, rfl, rfl, HV, HK⟩ := hrel
    generalize hi' : VS.length = i at *
    have BR : Hid (wr.heap[B8]? = some (.cells #[.int .i64 d.t, .slice d.p d.L.length d.cap] 40 (0, 0))) := by show _ = _; rw [HK.out.block _ (heap_lt BK.out) (fun e => e)]; exact BK.out
    obtain ⟨y0, y1, -, -⟩ := two_cells BR.out
    have hB8r := heap_lt BR.out
    by_cases hlt : i < d.L.length
    · have HFI := hide (find_at HRS.out i hlt)
      obtain ⟨b, off, hp, hbr, c0, -⟩ := (HRd.out.calm HK.out).at i hlt
      rw [hp] at y1
      have HP := hide hp
      have hib1 : (0 : Int) ≤ (i : Int) := by omega
      have hib2 : (i : Int) < (d.L.length : Int) := by omega
      have CE : Hid (∀ w', Kept (fun _ => False) wr w' → w'.cell? ⟨B8, 0, none⟩ = some (.int .i64 d.t) ∧ w'.cell? ⟨B8, 1, none⟩ = some (.slice (some ⟨b, off, none⟩) d.L.length d.cap) ∧ w'.cell? ⟨b, off + i * 7, none⟩ = some (.int .i64 d.L[i].id)) := fun w' hk =>
        ⟨by rw [cell_keep hk hB8r (fun e => e)]; exact y0, by rw [cell_keep hk hB8r (fun e => e)]; exact y1, by rw [cell_keep hk hbr (fun e => e)]; exact c0⟩
      have KWa := hide HK.out
      have KBa := hide (Kept.refl (fun _ => False) wr)
      rw [hp] at HRd
      clear hp
      go_wp2
      go_region_held3 (fun w' => w'.cell? ⟨B8, 0, none⟩ = some (.int .i64 d.t) ∧ w'.cell? ⟨B8, 1, none⟩ = some (.slice (some ⟨b, off, none⟩) d.L.length d.cap) ∧ w'.cell? ⟨b, off + i * 7, none⟩ = some (.int .i64 d.L[i].id)) (go_keep)
        (first
          | (go_at_call 23; refine (seen_ok d.t d.L[i].id far (some ⟨b, off, none⟩) d.cap d.L wr.drew ((HRd.out.calm (KWa.out.calm2 (Kept.drew wr)))) HGd.out i HFI.out.1 hlt HFI.out.2 NF.out.ok nn1.out).mono ?_; rintro e wa ⟨ga, cua, hga, rfl, ra, ka⟩; have Kca := hide ((Kept.drew wr).calm2 ka); have Rca := hide ra; obtain ⟨f0, f1, f2⟩ := CE.out wa (KBa.out.calm2 Kca.out); clear ka ra)
          | (go_at_call 23; refine (seen_ok d.t d.L[i].id far (some ⟨b, off, none⟩) d.cap d.L (wr.drew.alloc (.cells #[.int .i64 0, .slice none 0 0] 40)) ((HRd.out.calm (KWa.out.calm2 ((Kept.drew wr).calm2 (Kept.alloc _ _))))) HGd.out i HFI.out.1 hlt HFI.out.2 NF.out.ok nn1.out).mono ?_; rintro e wa ⟨ga, cua, hga, rfl, ra, ka⟩; have Kca := hide (((Kept.drew wr).calm2 (Kept.alloc _ (.cells #[.int .i64 0, .slice none 0 0] 40))).calm2 ka); have Rca := hide ra; obtain ⟨f0, f1, f2⟩ := CE.out wa (KBa.out.calm2 Kca.out); have T8 : Hid (wa.heap[wr.heap.size]? = some (.cells #[.int .i64 0, .slice none 0 0] 40 (0, 0))) := new_calm (w := wr.drew) ka; obtain ⟨j0, j1, j2, j3⟩ := two_cells T8.out; have m1 : B8 ≠ wr.heap.size := Nat.ne_of_lt (Nat.lt_of_lt_of_le hB8r KBa.out.size); have m2 : b ≠ wr.heap.size := Nat.ne_of_lt (Nat.lt_of_lt_of_le hbr KBa.out.size); have m3 := m1.symm; have m4 := m2.symm; clear ka ra))
      all_goals
        have LENa := hide (List.length_filter_le (fun e => seesB d.L[i] e far) d.L)
        generalize hXa : d.L.filter (fun e => seesB d.L[i] e far) = Xa at *
        have HXa := hide hXa
        clear hXa
        clear f0 f1 f2
        first
          | (have TT := T8.out
             obtain ⟨k5, t5, e5⟩ := after_row Kca.out (Nat.le_refl _) T8.out Rca.out (.int .i64 d.t) (.slice (some ⟨ga, 0, none⟩) Xa.length d.L.length)
             clear TT T8 j0 j1 j2 j3 m1 m2 m3 m4
             have hT : wr.heap.size ≤ wr.heap.size := Nat.le_refl _
             generalize hBn : ((wa.setCell ⟨wr.heap.size, 0, none⟩ (.int .i64 d.t)).setCell ⟨wr.heap.size, 1, none⟩ (.slice (some ⟨ga, 0, none⟩) Xa.length d.L.length)) = wb at *
             clear hBn
             generalize hTn : wr.heap.size = B13 at hT t5 ⊢
             clear hTn)
          | (obtain ⟨k5, t5, e5⟩ := after_rnew Kca.out Rca.out (.int .i64 d.t) (.slice (some ⟨ga, 0, none⟩) Xa.length d.L.length)
             have hT : wr.heap.size ≤ wa.heap.size := Kca.out.size
             generalize hBn : (wa.alloc (.cells #[.int .i64 d.t, .slice (some ⟨ga, 0, none⟩) Xa.length d.L.length] 40)) = wb at *
             clear hBn
             generalize hTn : wa.heap.size = B13 at hT t5 ⊢
             clear hTn)
        have Kaf := hide k5
        have Taf := hide t5
        have Raf := hide e5
        clear k5 t5 e5 Kca Rca
      all_goals
        clear y0 y1 c0
        have KWb := hide (HK.out.calm2 Kaf.out)
        have KBb := hide Kaf.out
        obtain ⟨y0, y1, c0⟩ := CE.out wb KBb.out
        go_wp2
      all_goals
        go_region_held3 (fun w' => w'.cell? ⟨B8, 0, none⟩ = some (.int .i64 d.t) ∧ w'.cell? ⟨B8, 1, none⟩ = some (.slice (some ⟨b, off, none⟩) d.L.length d.cap) ∧ w'.cell? ⟨b, off + i * 7, none⟩ = some (.int .i64 d.L[i].id)) (go_keep)
          (first
            | (go_at_call 23; refine (seen_ok d.t d.L[i].id fur (some ⟨b, off, none⟩) d.cap d.L wb.drew ((HRd.out.calm (KWb.out.calm2 (Kept.drew wb)))) HGd.out i HFI.out.1 hlt HFI.out.2 OFU.out nn2.out).mono ?_; rintro e wc ⟨gb, cub, hgb, rfl, rb, kb⟩; have Kcb := hide ((Kept.drew wb).calm2 kb); have Rcb := hide rb; obtain ⟨f0, f1, f2⟩ := CE.out wc (KBb.out.calm2 Kcb.out); clear kb rb)
            | (go_at_call 23; refine (seen_ok d.t d.L[i].id fur (some ⟨b, off, none⟩) d.cap d.L (wb.drew.alloc (.cells #[.int .i64 0, .slice none 0 0] 40)) ((HRd.out.calm (KWb.out.calm2 ((Kept.drew wb).calm2 (Kept.alloc _ _))))) HGd.out i HFI.out.1 hlt HFI.out.2 OFU.out nn2.out).mono ?_; rintro e wc ⟨gb, cub, hgb, rfl, rb, kb⟩; have Kcb := hide (((Kept.drew wb).calm2 (Kept.alloc _ (.cells #[.int .i64 0, .slice none 0 0] 40))).calm2 kb); have Rcb := hide rb; obtain ⟨f0, f1, f2⟩ := CE.out wc (KBb.out.calm2 Kcb.out); have T8 : Hid (wc.heap[wb.heap.size]? = some (.cells #[.int .i64 0, .slice none 0 0] 40 (0, 0))) := new_calm (w := wb.drew) kb; obtain ⟨j0, j1, j2, j3⟩ := two_cells T8.out; have m1 : B8 ≠ wb.heap.size := Nat.ne_of_lt (Nat.lt_of_lt_of_le hB8r KBb.out.size); have m2 : b ≠ wb.heap.size := Nat.ne_of_lt (Nat.lt_of_lt_of_le hbr KBb.out.size); have m3 := m1.symm; have m4 := m2.symm; clear kb rb))
        all_goals
          have LENb := hide (List.length_filter_le (fun e => seesB d.L[i] e fur) d.L)
          generalize hXb : d.L.filter (fun e => seesB d.L[i] e fur) = Xb at *
          have HXb := hide hXb
          clear hXb
          clear f0 f1 f2
          first
            | (have TT := T8.out
               obtain ⟨k5, t5, e5⟩ := after_row Kcb.out (Nat.le_refl _) T8.out Rcb.out (.int .i64 d.t) (.slice (some ⟨gb, 0, none⟩) Xb.length d.L.length)
               clear TT T8 j0 j1 j2 j3 m1 m2 m3 m4
               have hT : wb.heap.size ≤ wb.heap.size := Nat.le_refl _
               generalize hBn : ((wc.setCell ⟨wb.heap.size, 0, none⟩ (.int .i64 d.t)).setCell ⟨wb.heap.size, 1, none⟩ (.slice (some ⟨gb, 0, none⟩) Xb.length d.L.length)) = wd at *
               clear hBn
               generalize hTn : wb.heap.size = B15 at hT t5 ⊢
               clear hTn)
            | (obtain ⟨k5, t5, e5⟩ := after_rnew Kcb.out Rcb.out (.int .i64 d.t) (.slice (some ⟨gb, 0, none⟩) Xb.length d.L.length)
               have hT : wb.heap.size ≤ wc.heap.size := Kcb.out.size
               generalize hBn : (wc.alloc (.cells #[.int .i64 d.t, .slice (some ⟨gb, 0, none⟩) Xb.length d.L.length] 40)) = wd at *
               clear hBn
               generalize hTn : wc.heap.size = B15 at hT t5 ⊢
               clear hTn)
          have Kbf := hide k5
          have Tbf := hide t5
          have Rbf := hide e5
          clear k5 t5 e5 Kcb Rcb
      all_goals
        clear y0 y1 c0
        have KWd := hide (KWb.out.calm2 Kbf.out)
        have Ra2 := hide (Raf.out.calm Kbf.out)
        have Ta2 : Hid (wd.heap[B13]? = some (.cells #[.int .i64 d.t, .slice (some ⟨ga, 0, none⟩) Xa.length d.L.length] 40 (0, 0))) := by show _ = _; rw [Kbf.out.block _ (heap_lt Taf.out) (fun e => e)]; exact Taf.out
        have FE : Hid (∀ w', Kept (fun _ => False) wd w' → (w'.cell? ⟨B8, 0, none⟩ = some (.int .i64 d.t) ∧ w'.cell? ⟨B8, 1, none⟩ = some (.slice (some ⟨b, off, none⟩) d.L.length d.cap)) ∧ (w'.cell? ⟨B13, 0, none⟩ = some (.int .i64 d.t) ∧ w'.cell? ⟨B13, 1, none⟩ = some (.slice (some ⟨ga, 0, none⟩) Xa.length d.L.length)) ∧ (w'.cell? ⟨B15, 0, none⟩ = some (.int .i64 d.t) ∧ w'.cell? ⟨B15, 1, none⟩ = some (.slice (some ⟨gb, 0, none⟩) Xb.length d.L.length)) ∧ RowAt w' ga Xa d.L.length cua ∧ RowAt w' gb Xb d.L.length cub ∧ Reads w' (some ⟨b, off, none⟩) d.L) := fun w' hk => by
          have q := CE.out w' ((Kaf.out.calm2 Kbf.out).calm2 hk)
          have t1 := two_cells (show w'.heap[B13]? = _ by rw [hk.block _ (heap_lt Ta2.out) (fun e => e)]; exact Ta2.out)
          have t2 := two_cells (show w'.heap[B15]? = _ by rw [hk.block _ (heap_lt Tbf.out) (fun e => e)]; exact Tbf.out)
          exact ⟨⟨q.1, q.2.1⟩, ⟨t1.1, t1.2.1⟩, ⟨t2.1, t2.2.1⟩, Ra2.out.calm hk, Rbf.out.calm hk, HRd.out.calm (KWd.out.calm2 hk)⟩
        obtain ⟨⟨y0, y1⟩, ⟨z0, z1⟩, ⟨v0, v1⟩, -⟩ := FE.out wd (Kept.refl _ _)
        have hne : (d.t != d.t) = false := by simp
        have hXal : Xa.length ≤ 32 := Nat.le_trans LENa.out hdl
        have hXbl : Xb.length ≤ 32 := Nat.le_trans LENb.out hdl
        have HTH : Hid (∀ x ∈ Xa, hasB d.L x = true ∧ hasB Xb x = true) := fun x hx => by
          rw [← HXa.out] at hx
          obtain ⟨h1, h2⟩ := List.mem_filter.1 hx
          refine ⟨has_all HGd.out x h1, ?_⟩
          obtain ⟨j, hj, rfl⟩ := List.getElem_of_mem h1
          rw [← HXb.out, has_filter HGd.out _ j hj]
          exact sees_far (mob_pl (HM.out _ (List.getElem_mem hlt))) (mob_pl (HM.out _ h1)) NF.out OFU.out hrr.out h2
        go_wp2
        clear y0 y1 z0 z1 v0 v1 hne
        go_loopw [17] (fun a wt => ∃ k : Nat, k ≤ Xa.length ∧ a = .int .i64 k ∧ Hid (Kept (fun _ => False) wd wt)) (fun a _ => Xa.length - (intOf a).toNat)
        case atStart => exact ⟨0, Nat.zero_le _, rfl, Kept.refl _ _⟩
        case round =>
          obtain ⟨m, hml, rfl, HT⟩ := hrel
          obtain ⟨⟨y0, y1⟩, ⟨z0, z1⟩, ⟨v0, v1⟩, r1, r2, r3⟩ := FE.out wr HT.out
          by_cases hmt : m < Xa.length
          · obtain ⟨x0, x1, x2, x3, x4, x5, x6⟩ := r1.at m hmt
            have hmb1 : (0 : Int) ≤ (m : Int) := by omega
            have hmb2 : (m : Int) < (Xa.length : Int) := by omega
            obtain ⟨th1, th2⟩ := HTH.out Xa[m] (List.getElem_mem hmt)
            have R1 := hide r1
            have R2 := hide r2
            have R3 := hide r3
            clear r1 r2 r3
            have GE : Hid (∀ w', Kept (fun _ => False) wr w' → (w'.cell? ⟨B8, 0, none⟩ = some (.int .i64 d.t) ∧ w'.cell? ⟨B8, 1, none⟩ = some (.slice (some ⟨b, off, none⟩) d.L.length d.cap)) ∧ w'.cell? ⟨B13, 1, none⟩ = some (.slice (some ⟨ga, 0, none⟩) Xa.length d.L.length) ∧ (w'.cell? ⟨B15, 0, none⟩ = some (.int .i64 d.t) ∧ w'.cell? ⟨B15, 1, none⟩ = some (.slice (some ⟨gb, 0, none⟩) Xb.length d.L.length)) ∧ (w'.cell? ⟨ga, m * 7, none⟩ = some (.int .i64 Xa[m].id) ∧ w'.cell? ⟨ga, m * 7 + 1, none⟩ = some (.int .i64 Xa[m].team) ∧ w'.cell? ⟨ga, m * 7 + 2, none⟩ = some (.float .f32 Xa[m].x) ∧ w'.cell? ⟨ga, m * 7 + 3, none⟩ = some (.float .f32 Xa[m].y) ∧ w'.cell? ⟨ga, m * 7 + 4, none⟩ = some (.float .f32 Xa[m].vx) ∧ w'.cell? ⟨ga, m * 7 + 5, none⟩ = some (.float .f32 Xa[m].vy) ∧ w'.cell? ⟨ga, m * 7 + 6, none⟩ = some (.int .i64 Xa[m].health))) := fun w' hk => by
              have q := FE.out w' (HT.out.calm2 hk)
              exact ⟨q.1, q.2.1.2, q.2.2.1, q.2.2.2.1.at m hmt⟩
            generalize Xa[m] = x at *
            go_wp2
            go_region_held3 (fun w' => w'.cell? ⟨B8, 0, none⟩ = some (.int .i64 d.t) ∧ w'.cell? ⟨B8, 1, none⟩ = some (.slice (some ⟨b, off, none⟩) d.L.length d.cap) ∧ w'.cell? ⟨B13, 1, none⟩ = some (.slice (some ⟨ga, 0, none⟩) Xa.length d.L.length) ∧ w'.cell? ⟨ga, m * 7, none⟩ = some (.int .i64 x.id) ∧ w'.cell? ⟨ga, m * 7 + 1, none⟩ = some (.int .i64 x.team) ∧ w'.cell? ⟨ga, m * 7 + 2, none⟩ = some (.float .f32 x.x) ∧ w'.cell? ⟨ga, m * 7 + 3, none⟩ = some (.float .f32 x.y) ∧ w'.cell? ⟨ga, m * 7 + 4, none⟩ = some (.float .f32 x.vx) ∧ w'.cell? ⟨ga, m * 7 + 5, none⟩ = some (.float .f32 x.vy) ∧ w'.cell? ⟨ga, m * 7 + 6, none⟩ = some (.int .i64 x.health)) (go_keep)
              ((go_at_call 32; refine (has_c d.t (some ⟨b, off, none⟩) d.cap d.L x _ (R3.out.calm (Kept.drew _)) hdl).mono ?_; rw [th1]; rintro e we ⟨rfl, ke⟩; have Ke := hide ((Kept.drew wr).calm2 ke); obtain ⟨⟨y0', y1'⟩, z1', ⟨v0', v1'⟩, x0', x1', x2', x3', x4', x5', x6'⟩ := GE.out we Ke.out; clear ke))
            clear y0 y1 z1 v0 v1 x0 x1 x2 x3 x4 x5 x6 z0
            go_wp2
            go_region_held3 (fun w' => w'.cell? ⟨B15, 0, none⟩ = some (.int .i64 d.t) ∧ w'.cell? ⟨B15, 1, none⟩ = some (.slice (some ⟨gb, 0, none⟩) Xb.length d.L.length) ∧ w'.cell? ⟨B13, 1, none⟩ = some (.slice (some ⟨ga, 0, none⟩) Xa.length d.L.length) ∧ w'.cell? ⟨ga, m * 7, none⟩ = some (.int .i64 x.id) ∧ w'.cell? ⟨ga, m * 7 + 1, none⟩ = some (.int .i64 x.team) ∧ w'.cell? ⟨ga, m * 7 + 2, none⟩ = some (.float .f32 x.x) ∧ w'.cell? ⟨ga, m * 7 + 3, none⟩ = some (.float .f32 x.y) ∧ w'.cell? ⟨ga, m * 7 + 4, none⟩ = some (.float .f32 x.vx) ∧ w'.cell? ⟨ga, m * 7 + 5, none⟩ = some (.float .f32 x.vy) ∧ w'.cell? ⟨ga, m * 7 + 6, none⟩ = some (.int .i64 x.health)) (go_keep)
              ((go_at_call 32; refine (has_c d.t (some ⟨gb, 0, none⟩) d.L.length Xb x _ (R2.out.reads.calm (Ke.out.calm2 (Kept.drew _))) hXbl).mono ?_; rw [th2]; rintro e wf ⟨rfl, kf⟩; have Kf := hide (Ke.out.calm2 ((Kept.drew we).calm2 kf)); obtain ⟨⟨y0, y1⟩, z1, ⟨v0, v1⟩, x0, x1, x2, x3, x4, x5, x6⟩ := GE.out wf Kf.out; clear kf))
            clear y0 y1 z1 v0 v1 x0 x1 x2 x3 x4 x5 x6 y0' y1' z1' v0' v1' x0' x1' x2' x3' x4' x5' x6'
            go_wp2
            go_roundw
            case rel => exact ⟨m + 1, by omega, by go_num, HT.out.calm2 Kf.out⟩
            case measure => simp [intOf]; omega
          · have KT := hide (KWd.out.calm2 HT.out)
            have KTr := hide ((Kaf.out.calm2 Kbf.out).calm2 HT.out)
            have HV2 := hide (HV.out.calm KTr.out)
            have O2 : Hid (wr.ownsRow W8.heap.size 40 2 (.slice ps i cps) i (rowW VS)) := by have := HV2.out.own; rw [hi'] at this; exact this
            have hbase := KT.out.size
            have R1 := hide r1
            clear r1 r2 r3 y0 y1 v0 v1
            go_wp2_with (at_builtin; refine wpList_append_at _ rfl (.tmp 120) (.tmp 122) 68 rfl W8.heap.size 40 i0 (.agg #[.int .i64 0, .slice none 0 0]) 2 32 Try.underlying68 hi hz0 hz1 hz2 rfl (by decide) _ _ _ rfl (O2.out.alloc _) ⟨wr.heap.size, 0, none⟩ 1 1 [.int .i64 d.t, .slice (some ⟨ga, 0, none⟩) Xa.length d.L.length] rfl rfl ?c1 ?c2 (by decide) ?c4 ?c5 ?c6 ?_)
            case c1 => intro j u hu; first | exact hu | exact new_cells wr [.int .i64 d.t, .slice (some ⟨ga, 0, none⟩) Xa.length d.L.length] 40 _ rfl j u hu
            case c2 => intro u hu; simp only [List.mem_cons, List.not_mem_nil, or_false] at hu; rcases hu with rfl | rfl <;> rfl
            case c4 => unfold maxLen; omega
            case c5 => omega
            case c6 => simp; omega
            intro g7 cap7 w7 hown hgr
            have S7 : Hid (SeenAt W8 w7 d.L far (VS ++ [⟨d.t, some ⟨ga, 0, none⟩, d.L.length, Xa⟩]) (some ⟨g7, 0, none⟩) cap7) := by
              refine SeenAt.more HV2.out (by rw [hi', at0_eq d.L i hlt]; exact HXa.out.symm) R1.out (by rw [hi']; exact hown) (fun o ho => ?_) _ (by rw [hi']; exact hgr)
              exact ((Kept.alloc wr o).join (Kept.of_grown ho) (fun _ _ e => e.elim) (fun _ _ e => e))
            have K7 : Hid (Kept (fun _ => False) W8 w7) := by
              refine ((KT.out.calm2 (Kept.alloc _ _)).join (Kept.of_grown hgr) (fun _ _ e => e) (fun j hj e => ?_))
              have := (O2.out.lt j e.symm).1
              omega
            clear hown hgr
            go_wp2
            go_roundw
            case rel => exact ⟨some ⟨g7, 0, none⟩, cap7, VS ++ [⟨d.t, some ⟨ga, 0, none⟩, d.L.length, Xa⟩], by simp; omega, by simp [hi'], by simp [hi'], S7, K7⟩
            case measure => simp [intOf]; omega
    · obtain rfl : i = d.L.length := by omega
      have HVl := hide hi'
      have EA : Hid (∀ j k, (hj : j < d.L.length) → (hk : k < d.L.length) → ∃ t p cp X, X.length ≤ 32 ∧ hasB X d.L[k] = seesB d.L[j] d.L[k] far ∧ ∃ gs, ps = some ⟨gs, 0, none⟩ ∧ ∀ w', Kept (fun _ => False) wr w' → w'.cell? ⟨gs, j * 2, none⟩ = some (.int .i64 t) ∧ w'.cell? ⟨gs, j * 2 + 1, none⟩ = some (.slice p X.length cp) ∧ Reads w' p X) := fun j k hj hk => by
        have hjV : j < VS.length := by rw [hi']; exact hj
        obtain ⟨q1, q2, _⟩ := HV.out.each j hjV
        have hX : VS[j].L = d.L.filter (fun e => seesB d.L[j] e far) := by rw [q1, at0_eq d.L j hj]
        refine ⟨VS[j].t, VS[j].p, VS[j].cap, VS[j].L, ?_, ?_, ?_⟩
        · rw [hX]; exact Nat.le_trans (List.length_filter_le _ _) hdl
        · rw [hX]; exact has_filter HGd.out _ k hk
        · rcases HV.out.own.2 with ⟨_, h0⟩ | ⟨gs, cp, cur, e, _⟩
          · omega
          · simp only [Value.slice.injEq] at e
            obtain ⟨e1, _, e3⟩ := e
            refine ⟨gs, e1, fun w' hk' => ?_⟩
            obtain ⟨r0, r1⟩ := rowW_get VS j hjV
            have ho := (HV.out.calm hk').own
            rw [e1] at ho
            have hc := ho.cells (g := gs) rfl
            exact ⟨by have := hc _ _ r0; rwa [addr_add] at this, by have := hc _ _ r1; rwa [addr_add] at this, q2.calm hk'⟩
      have EB : Hid (∀ j, (hj : j < d.L.length) → ∃ b off, d.p = some ⟨b, off, none⟩ ∧ ∀ w', Kept (fun _ => False) wr w' → w'.cell? ⟨B8, 1, none⟩ = some (.slice d.p d.L.length d.cap) ∧ w'.cell? ⟨b, off + j * 7, none⟩ = some (.int .i64 d.L[j].id) ∧ w'.cell? ⟨b, off + j * 7 + 1, none⟩ = some (.int .i64 d.L[j].team) ∧ w'.cell? ⟨b, off + j * 7 + 2, none⟩ = some (.float .f32 d.L[j].x) ∧ w'.cell? ⟨b, off + j * 7 + 3, none⟩ = some (.float .f32 d.L[j].y) ∧ w'.cell? ⟨b, off + j * 7 + 4, none⟩ = some (.float .f32 d.L[j].vx) ∧ w'.cell? ⟨b, off + j * 7 + 5, none⟩ = some (.float .f32 d.L[j].vy) ∧ w'.cell? ⟨b, off + j * 7 + 6, none⟩ = some (.int .i64 d.L[j].health)) := fun j hj => by
        obtain ⟨b, off, hp, hbr, c⟩ := (HRd.out.calm HK.out).at j hj
        refine ⟨b, off, hp, fun w' hk' => ⟨by rw [cell_keep hk' hB8r (fun e => e)]; exact y1, ?_⟩⟩
        obtain ⟨c0, c1, c2, c3, c4, c5, c6⟩ := c
        exact ⟨by rw [cell_keep hk' hbr (fun e => e)]; exact c0, by rw [cell_keep hk' hbr (fun e => e)]; exact c1, by rw [cell_keep hk' hbr (fun e => e)]; exact c2, by rw [cell_keep hk' hbr (fun e => e)]; exact c3, by rw [cell_keep hk' hbr (fun e => e)]; exact c4, by rw [cell_keep hk' hbr (fun e => e)]; exact c5, by rw [cell_keep hk' hbr (fun e => e)]; exact c6⟩
      have EK := hide (K8.out.calm2 HK.out)
      go_wp2
      clear y0 y1
      go_loopw [20] (fun a wt => ∃ i : Nat, i ≤ d.L.length ∧ a = .int .i64 i ∧ Hid (Kept (fun _ => False) wr wt)) (fun a _ => d.L.length - (intOf a).toNat)
      case atStart => exact ⟨0, Nat.zero_le _, rfl, Kept.refl _ _⟩
      case round =>
        obtain ⟨i, hil, rfl, H3⟩ := hrel
        by_cases hli : i < d.L.length
        · have hib1 : (0 : Int) ≤ (i : Int) := by omega
          have hib2 : (i : Int) < (d.L.length : Int) := by omega
          go_wp2
          go_loopw [21] (fun a wt => ∃ k : Nat, k ≤ d.L.length ∧ a = .int .i64 k ∧ Hid (Kept (fun _ => False) wr wt)) (fun a _ => d.L.length - (intOf a).toNat)
          case atStart => exact ⟨0, Nat.zero_le _, rfl, Kept.refl _ _⟩
          case round =>
            obtain ⟨k, hkl, rfl, H4⟩ := hrel
            by_cases hlk : k < d.L.length
            · have hkb1 : (0 : Int) ≤ (k : Int) := by omega
              have hkb2 : (k : Int) < (d.L.length : Int) := by omega
              obtain ⟨t1, p1, cp1, X1, hl1, hh1, gs, hps, hc1⟩ := EA.out i k hli hlk
              obtain ⟨t2, p2, cp2, X2, hl2, hh2, gs', hps', hc2⟩ := EA.out k i hlk hli
              obtain rfl : gs' = gs := by rw [hps] at hps'; simpa using hps'.symm
              obtain ⟨b, off, hp, hci⟩ := EB.out i hli
              obtain ⟨b', off', hp', hck⟩ := EB.out k hlk
              obtain ⟨rfl, rfl⟩ : b = b' ∧ off = off' := by rw [hp] at hp'; simpa using hp'
              rw [hp] at hci hck
              have hsw := sees_swap (mob_pl (HM.out _ (List.getElem_mem hli))) (mob_pl (HM.out _ (List.getElem_mem hlk))) far
              rw [← hsw] at hh2
              have htm : d.L[i].team = d.L[k].team → seesB d.L[i] d.L[k] far = true := fun e => by simp [seesB, e]
              have KE := hide (H3.out.calm2 H4.out)
              have GE : Hid (∀ w', Kept (fun _ => False) wr w' → (w'.cell? ⟨gs', i * 2, none⟩ = some (.int .i64 t1) ∧ w'.cell? ⟨gs', i * 2 + 1, none⟩ = some (.slice p1 X1.length cp1) ∧ Reads w' p1 X1) ∧ (w'.cell? ⟨gs', k * 2, none⟩ = some (.int .i64 t2) ∧ w'.cell? ⟨gs', k * 2 + 1, none⟩ = some (.slice p2 X2.length cp2) ∧ Reads w' p2 X2) ∧ (w'.cell? ⟨B8, 1, none⟩ = some (.slice (some ⟨b, off, none⟩) d.L.length d.cap) ∧ w'.cell? ⟨b, off + i * 7, none⟩ = some (.int .i64 d.L[i].id) ∧ w'.cell? ⟨b, off + i * 7 + 1, none⟩ = some (.int .i64 d.L[i].team) ∧ w'.cell? ⟨b, off + i * 7 + 2, none⟩ = some (.float .f32 d.L[i].x) ∧ w'.cell? ⟨b, off + i * 7 + 3, none⟩ = some (.float .f32 d.L[i].y) ∧ w'.cell? ⟨b, off + i * 7 + 4, none⟩ = some (.float .f32 d.L[i].vx) ∧ w'.cell? ⟨b, off + i * 7 + 5, none⟩ = some (.float .f32 d.L[i].vy) ∧ w'.cell? ⟨b, off + i * 7 + 6, none⟩ = some (.int .i64 d.L[i].health)) ∧ (w'.cell? ⟨b, off + k * 7, none⟩ = some (.int .i64 d.L[k].id) ∧ w'.cell? ⟨b, off + k * 7 + 1, none⟩ = some (.int .i64 d.L[k].team) ∧ w'.cell? ⟨b, off + k * 7 + 2, none⟩ = some (.float .f32 d.L[k].x) ∧ w'.cell? ⟨b, off + k * 7 + 3, none⟩ = some (.float .f32 d.L[k].y) ∧ w'.cell? ⟨b, off + k * 7 + 4, none⟩ = some (.float .f32 d.L[k].vx) ∧ w'.cell? ⟨b, off + k * 7 + 5, none⟩ = some (.float .f32 d.L[k].vy) ∧ w'.cell? ⟨b, off + k * 7 + 6, none⟩ = some (.int .i64 d.L[k].health))) := fun w' hk' =>
                ⟨hc1 w' (KE.out.calm2 hk'), hc2 w' (KE.out.calm2 hk'), hci w' (KE.out.calm2 hk'), (hck w' (KE.out.calm2 hk')).2⟩
              clear hc1 hc2 hci hck hps' hp' hsw hp
              subst hps
              generalize d.L[i] = x at *
              generalize d.L[k] = y at *
              generalize hA : seesB x y far = A at *
              obtain ⟨⟨s0, s1, rd1⟩, ⟨s2, s3, rd2⟩, ⟨e0, e1, e2, e3, e4, e5, e6, e7⟩, f1, f2, f3, f4, f5, f6, f7⟩ := GE.out wr (Kept.refl _ _)
              have RD1 := hide rd1
              have RD2 := hide rd2
              clear rd1 rd2 hA
              go_wp2
              go_region_held3 (fun w' => w'.cell? ⟨gs', i * 2, none⟩ = some (.int .i64 t1) ∧ w'.cell? ⟨gs', i * 2 + 1, none⟩ = some (.slice p1 X1.length cp1) ∧ w'.cell? ⟨B8, 1, none⟩ = some (.slice (some ⟨b, off, none⟩) d.L.length d.cap) ∧ w'.cell? ⟨b, off + k * 7, none⟩ = some (.int .i64 y.id) ∧ w'.cell? ⟨b, off + k * 7 + 1, none⟩ = some (.int .i64 y.team) ∧ w'.cell? ⟨b, off + k * 7 + 2, none⟩ = some (.float .f32 y.x) ∧ w'.cell? ⟨b, off + k * 7 + 3, none⟩ = some (.float .f32 y.y) ∧ w'.cell? ⟨b, off + k * 7 + 4, none⟩ = some (.float .f32 y.vx) ∧ w'.cell? ⟨b, off + k * 7 + 5, none⟩ = some (.float .f32 y.vy) ∧ w'.cell? ⟨b, off + k * 7 + 6, none⟩ = some (.int .i64 y.health)) (go_keep)
                ((go_at_call 32; refine (has_c t1 p1 cp1 X1 y _ (RD1.out.calm (Kept.drew _)) hl1).mono ?_; rw [hh1]; rintro e we ⟨rfl, ke⟩; have Ke := hide ((Kept.drew wr).calm2 ke); obtain ⟨⟨s0', s1', _⟩, ⟨s2', s3', _⟩, ⟨e0', e1', e2', e3', e4', e5', e6', e7'⟩, f1', f2', f3', f4', f5', f6', f7'⟩ := GE.out we Ke.out; clear ke))
              clear s0 s1 s2 s3 e0 e1 e2 e3 e4 e5 e6 e7 f1 f2 f3 f4 f5 f6 f7
              go_wp2
              go_region_held3 (fun w' => w'.cell? ⟨gs', k * 2, none⟩ = some (.int .i64 t2) ∧ w'.cell? ⟨gs', k * 2 + 1, none⟩ = some (.slice p2 X2.length cp2) ∧ w'.cell? ⟨B8, 1, none⟩ = some (.slice (some ⟨b, off, none⟩) d.L.length d.cap) ∧ w'.cell? ⟨b, off + i * 7, none⟩ = some (.int .i64 x.id) ∧ w'.cell? ⟨b, off + i * 7 + 1, none⟩ = some (.int .i64 x.team) ∧ w'.cell? ⟨b, off + i * 7 + 2, none⟩ = some (.float .f32 x.x) ∧ w'.cell? ⟨b, off + i * 7 + 3, none⟩ = some (.float .f32 x.y) ∧ w'.cell? ⟨b, off + i * 7 + 4, none⟩ = some (.float .f32 x.vx) ∧ w'.cell? ⟨b, off + i * 7 + 5, none⟩ = some (.float .f32 x.vy) ∧ w'.cell? ⟨b, off + i * 7 + 6, none⟩ = some (.int .i64 x.health)) (go_keep)
                ((go_at_call 32; refine (has_c t2 p2 cp2 X2 x _ (RD2.out.calm (Ke.out.calm2 (Kept.drew _))) hl2).mono ?_; rw [hh2]; rintro e wf ⟨rfl, kf⟩; have Kf := hide (Ke.out.calm2 ((Kept.drew we).calm2 kf)); obtain ⟨⟨s0, s1, _⟩, ⟨s2, s3, _⟩, ⟨e0, e1, e2, e3, e4, e5, e6, e7⟩, f1, f2, f3, f4, f5, f6, f7⟩ := GE.out wf Kf.out; clear kf))
              clear s0' s1' s2' s3' e0' e1' e2' e3' e4' e5' e6' e7' f1' f2' f3' f4' f5' f6' f7' s0 s1 s2 s3 e1 e3 e4 e5 e6 e7 f1 f3 f4 f5 f6 f7
              go_wp2
              by_cases hte : x.team = y.team
              · obtain rfl := htm hte
                have hteb : (x.team == y.team) = true := by simp [hte]
                clear hte htm hh1 hh2
                refine wp_region_held_drew (S := fun w' => w'.cell? ⟨B8, 1, none⟩ = some (.slice (some ⟨b, off, none⟩) d.L.length d.cap) ∧ w'.cell? ⟨b, off + i * 7 + 1, none⟩ = some (.int .i64 x.team) ∧ w'.cell? ⟨b, off + k * 7 + 1, none⟩ = some (.int .i64 y.team)) (by kernel_rfl) ?_ (fun hHeld => ?_)
                · (try dsimp only); go_keep
                refine wpAnyH_take (i := 0) (oi := { dst := some 156, op := Op.move (Operand.tmp 22), type := 4, pos := "keeps.go:218", after := #[], guard := none }) (v := ?_) rfl (by kernel_rfl) (by kernel_rfl) (by kernel_rfl) (fun _ _ _ h => h) (Or.inl ⟨by rfl, ?_⟩) (by assumption) ?_
                rotate_left
                · (intro w hSw; (try dsimp only at hSw); go_simp; (try with_reducible rfl))
                try simp only [Act.put]
                try simp only [List.setIfInBounds_toArray]
                try simp only [List.set_cons_succ, List.set_cons_zero]
                refine wpAnyH_take (i := 1) (oi := { dst := some 157, op := Op.move (Operand.tmp 23), type := 4, pos := "keeps.go:218", after := #[], guard := none }) (v := ?_) rfl (by kernel_rfl) (by kernel_rfl) (by kernel_rfl) (fun _ _ _ h => h) (Or.inl ⟨by rfl, ?_⟩) (by assumption) ?_
                rotate_left
                · (intro w hSw; (try dsimp only at hSw); go_simp; (try with_reducible rfl))
                try simp only [Act.put]
                try simp only [List.setIfInBounds_toArray]
                try simp only [List.set_cons_succ, List.set_cons_zero]
                refine wpAnyH_take (i := 2) (oi := { dst := some 158, op := Op.binOp BinOp.neq 4 (Operand.tmp 156) (Operand.tmp 157) 4, type := 4, pos := "keeps.go:218", after := #[{ on := 0, ground := Ground.data }, { on := 1, ground := Ground.data }], guard := none }) (v := ?_) rfl (by kernel_rfl) (by kernel_rfl) (by kernel_rfl) (fun _ _ _ h => h) (Or.inl ⟨by rfl, ?_⟩) (by assumption) ?_
                rotate_left
                · (intro w hSw; (try dsimp only at hSw); go_simp; (try with_reducible rfl))
                try simp only [Act.put]
                try simp only [List.setIfInBounds_toArray]
                try simp only [List.set_cons_succ, List.set_cons_zero]
                refine wpAnyH_take (i := 3) (oi := { dst := some 159, op := Op.move (Operand.tmp 158), type := 4, pos := "keeps.go:218", after := #[{ on := 2, ground := Ground.data }], guard := none }) (v := ?_) rfl (by kernel_rfl) (by kernel_rfl) (by kernel_rfl) (fun _ _ _ h => h) (Or.inl ⟨by rfl, ?_⟩) (by assumption) ?_
                rotate_left
                · (intro w hSw; (try dsimp only at hSw); go_simp; (try with_reducible rfl))
                try simp only [Act.put]
                try simp only [List.setIfInBounds_toArray]
                try simp only [List.set_cons_succ, List.set_cons_zero]
                refine wpAnyH_take (i := 4) (oi := { dst := some 160, op := Op.fieldAddr 40 (Operand.tmp 8) 1, type := 0, pos := "keeps.go:218", after := #[{ on := 3, ground := Ground.guard }], guard := some (3, false) }) (v := ?_) rfl (by kernel_rfl) (by kernel_rfl) (by kernel_rfl) (fun _ _ _ h => h) (Or.inl ⟨by rfl, ?_⟩) (by assumption) ?_
                rotate_left
                · (intro w hSw; (try dsimp only at hSw); go_simp; (try with_reducible rfl))
                try simp only [Act.put]
                try simp only [List.setIfInBounds_toArray]
                try simp only [List.set_cons_succ, List.set_cons_zero]
                refine wpAnyH_take (i := 5) (oi := { dst := some 161, op := Op.load 38 (Operand.tmp 160), type := 38, pos := "keeps.go:218", after := #[{ on := 4, ground := Ground.data }, { on := 3, ground := Ground.guard }], guard := some (3, false) }) (v := ?_) rfl (by kernel_rfl) (by kernel_rfl) (by kernel_rfl) (fun _ _ _ h => h) (Or.inl ⟨by rfl, ?_⟩) (by assumption) ?_
                rotate_left
                · (intro w hSw; (try dsimp only at hSw); go_simp; (try with_reducible rfl))
                try simp only [Act.put]
                try simp only [List.setIfInBounds_toArray]
                try simp only [List.set_cons_succ, List.set_cons_zero]
                refine wpAnyH_take (i := 6) (oi := { dst := some 162, op := Op.move (Operand.tmp 20), type := 3, pos := "keeps.go:218", after := #[{ on := 3, ground := Ground.guard }], guard := some (3, false) }) (v := ?_) rfl (by kernel_rfl) (by kernel_rfl) (by kernel_rfl) (fun _ _ _ h => h) (Or.inl ⟨by rfl, ?_⟩) (by assumption) ?_
                rotate_left
                · (intro w hSw; (try dsimp only at hSw); go_simp; (try with_reducible rfl))
                try simp only [Act.put]
                try simp only [List.setIfInBounds_toArray]
                try simp only [List.set_cons_succ, List.set_cons_zero]
                refine wpAnyH_take (i := 7) (oi := { dst := some 163, op := Op.indexAddr 38 (Operand.tmp 161) (Operand.tmp 162), type := 0, pos := "keeps.go:218", after := #[{ on := 5, ground := Ground.data }, { on := 6, ground := Ground.data }, { on := 3, ground := Ground.guard }], guard := some (3, false) }) (v := ?_) rfl (by kernel_rfl) (by kernel_rfl) (by kernel_rfl) (fun _ _ _ h => h) (Or.inl ⟨by rfl, ?_⟩) (by assumption) ?_
                rotate_left
                · (intro w hSw; (try dsimp only at hSw); go_simp; (try with_reducible rfl))
                try simp only [Act.put]
                try simp only [List.setIfInBounds_toArray]
                try simp only [List.set_cons_succ, List.set_cons_zero]
                refine wpAnyH_take (i := 8) (oi := { dst := some 164, op := Op.fieldAddr 57 (Operand.tmp 163) 1, type := 0, pos := "keeps.go:218", after := #[{ on := 7, ground := Ground.data }, { on := 3, ground := Ground.guard }], guard := some (3, false) }) (v := ?_) rfl (by kernel_rfl) (by kernel_rfl) (by kernel_rfl) (fun _ _ _ h => h) (Or.inl ⟨by rfl, ?_⟩) (by assumption) ?_
                rotate_left
                · (intro w hSw; (try dsimp only at hSw); go_simp; (try with_reducible rfl))
                try simp only [Act.put]
                try simp only [List.setIfInBounds_toArray]
                try simp only [List.set_cons_succ, List.set_cons_zero]
                refine wpAnyH_take (i := 9) (oi := { dst := some 165, op := Op.load 3 (Operand.tmp 164), type := 3, pos := "keeps.go:218", after := #[{ on := 8, ground := Ground.data }, { on := 3, ground := Ground.guard }], guard := some (3, false) }) (v := ?_) rfl (by kernel_rfl) (by kernel_rfl) (by kernel_rfl) (fun _ _ _ h => h) (Or.inl ⟨by rfl, ?_⟩) (by assumption) ?_
                rotate_left
                · (intro w hSw; (try dsimp only at hSw); go_simp; (try with_reducible rfl))
                try simp only [Act.put]
                try simp only [List.setIfInBounds_toArray]
                try simp only [List.set_cons_succ, List.set_cons_zero]
                refine wpAnyH_take (i := 10) (oi := { dst := some 166, op := Op.fieldAddr 40 (Operand.tmp 8) 1, type := 0, pos := "keeps.go:218", after := #[{ on := 3, ground := Ground.guard }], guard := some (3, false) }) (v := ?_) rfl (by kernel_rfl) (by kernel_rfl) (by kernel_rfl) (fun _ _ _ h => h) (Or.inl ⟨by rfl, ?_⟩) (by assumption) ?_
                rotate_left
                · (intro w hSw; (try dsimp only at hSw); go_simp; (try with_reducible rfl))
                try simp only [Act.put]
                try simp only [List.setIfInBounds_toArray]
                try simp only [List.set_cons_succ, List.set_cons_zero]
                refine wpAnyH_take (i := 11) (oi := { dst := some 167, op := Op.load 38 (Operand.tmp 166), type := 38, pos := "keeps.go:218", after := #[{ on := 10, ground := Ground.data }, { on := 3, ground := Ground.guard }], guard := some (3, false) }) (v := ?_) rfl (by kernel_rfl) (by kernel_rfl) (by kernel_rfl) (fun _ _ _ h => h) (Or.inl ⟨by rfl, ?_⟩) (by assumption) ?_
                rotate_left
                · (intro w hSw; (try dsimp only at hSw); go_simp; (try with_reducible rfl))
                try simp only [Act.put]
                try simp only [List.setIfInBounds_toArray]
                try simp only [List.set_cons_succ, List.set_cons_zero]
                refine wpAnyH_take (i := 12) (oi := { dst := some 168, op := Op.move (Operand.tmp 21), type := 3, pos := "keeps.go:218", after := #[{ on := 3, ground := Ground.guard }], guard := some (3, false) }) (v := ?_) rfl (by kernel_rfl) (by kernel_rfl) (by kernel_rfl) (fun _ _ _ h => h) (Or.inl ⟨by rfl, ?_⟩) (by assumption) ?_
                rotate_left
                · (intro w hSw; (try dsimp only at hSw); go_simp; (try with_reducible rfl))
                try simp only [Act.put]
                try simp only [List.setIfInBounds_toArray]
                try simp only [List.set_cons_succ, List.set_cons_zero]
                refine wpAnyH_take (i := 13) (oi := { dst := some 169, op := Op.indexAddr 38 (Operand.tmp 167) (Operand.tmp 168), type := 0, pos := "keeps.go:218", after := #[{ on := 11, ground := Ground.data }, { on := 12, ground := Ground.data }, { on := 3, ground := Ground.guard }], guard := some (3, false) }) (v := ?_) rfl (by kernel_rfl) (by kernel_rfl) (by kernel_rfl) (fun _ _ _ h => h) (Or.inl ⟨by rfl, ?_⟩) (by assumption) ?_
                rotate_left
                · (intro w hSw; (try dsimp only at hSw); go_simp; (try with_reducible rfl))
                try simp only [Act.put]
                try simp only [List.setIfInBounds_toArray]
                try simp only [List.set_cons_succ, List.set_cons_zero]
                refine wpAnyH_take (i := 14) (oi := { dst := some 170, op := Op.fieldAddr 57 (Operand.tmp 169) 1, type := 0, pos := "keeps.go:218", after := #[{ on := 13, ground := Ground.data }, { on := 3, ground := Ground.guard }], guard := some (3, false) }) (v := ?_) rfl (by kernel_rfl) (by kernel_rfl) (by kernel_rfl) (fun _ _ _ h => h) (Or.inl ⟨by rfl, ?_⟩) (by assumption) ?_
                rotate_left
                · (intro w hSw; (try dsimp only at hSw); go_simp; (try with_reducible rfl))
                try simp only [Act.put]
                try simp only [List.setIfInBounds_toArray]
                try simp only [List.set_cons_succ, List.set_cons_zero]
                refine wpAnyH_take (i := 15) (oi := { dst := some 171, op := Op.load 3 (Operand.tmp 170), type := 3, pos := "keeps.go:218", after := #[{ on := 14, ground := Ground.data }, { on := 3, ground := Ground.guard }], guard := some (3, false) }) (v := ?_) rfl (by kernel_rfl) (by kernel_rfl) (by kernel_rfl) (fun _ _ _ h => h) (Or.inl ⟨by rfl, ?_⟩) (by assumption) ?_
                rotate_left
                · (intro w hSw; (try dsimp only at hSw); go_simp; (try with_reducible rfl))
                try simp only [Act.put]
                try simp only [List.setIfInBounds_toArray]
                try simp only [List.set_cons_succ, List.set_cons_zero]
                refine wpAnyH_take (i := 16) (oi := { dst := some 172, op := Op.binOp BinOp.eql 3 (Operand.tmp 165) (Operand.tmp 171) 3, type := 4, pos := "keeps.go:218", after := #[{ on := 9, ground := Ground.data }, { on := 15, ground := Ground.data }, { on := 3, ground := Ground.guard }], guard := some (3, false) }) (v := ?_) rfl (by kernel_rfl) (by kernel_rfl) (by kernel_rfl) (fun _ _ _ h => h) (Or.inl ⟨by rfl, ?_⟩) (by assumption) ?_
                rotate_left
                · (intro w hSw; (try dsimp only at hSw); go_simp; (try with_reducible rfl))
                try simp only [Act.put]
                try simp only [List.setIfInBounds_toArray]
                try simp only [List.set_cons_succ, List.set_cons_zero]
                refine wpAnyH_take (i := 17) (oi := { dst := some 173, op := Op.move (Operand.tmp 172), type := 4, pos := "keeps.go:218", after := #[{ on := 16, ground := Ground.data }, { on := 3, ground := Ground.chain }, { on := 3, ground := Ground.guard }], guard := some (3, false) }) (v := ?_) rfl (by kernel_rfl) (by kernel_rfl) (by kernel_rfl) (fun _ _ _ h => h) (Or.inl ⟨by rfl, ?_⟩) (by assumption) ?_
                rotate_left
                · (intro w hSw; (try dsimp only at hSw); go_simp; (try with_reducible rfl))
                try simp only [Act.put]
                try simp only [List.setIfInBounds_toArray]
                try simp only [List.set_cons_succ, List.set_cons_zero]
                refine wpAnyH_take (i := 18) (oi := { dst := some 174, op := Op.move (Operand.tmp 22), type := 4, pos := "keeps.go:218", after := #[{ on := 17, ground := Ground.guard }], guard := some (17, true) }) (v := ?_) rfl (by kernel_rfl) (by kernel_rfl) (by kernel_rfl) (fun _ _ _ h => h) (Or.inl ⟨by rfl, ?_⟩) (by assumption) ?_
                rotate_left
                · (intro w hSw; (try dsimp only at hSw); go_simp; (try with_reducible rfl))
                try simp only [Act.put]
                try simp only [List.setIfInBounds_toArray]
                try simp only [List.set_cons_succ, List.set_cons_zero]
                refine wpAnyH_take (i := 19) (oi := { dst := some 175, op := Op.unOp UnOp.not 4 (Operand.tmp 174), type := 4, pos := "keeps.go:218", after := #[{ on := 18, ground := Ground.data }, { on := 17, ground := Ground.guard }], guard := some (17, true) }) (v := ?_) rfl (by kernel_rfl) (by kernel_rfl) (by kernel_rfl) (fun _ _ _ h => h) (Or.inl ⟨by rfl, ?_⟩) (by assumption) ?_
                rotate_left
                · (intro w hSw; (try dsimp only at hSw); go_simp; (try with_reducible rfl))
                try simp only [Act.put]
                try simp only [List.setIfInBounds_toArray]
                try simp only [List.set_cons_succ, List.set_cons_zero]
                refine wpAnyH_take (i := 20) (oi := { dst := some 176, op := Op.pick (Operand.tmp 173) (Operand.tmp 175) (Operand.const (Value.bool false)), type := 4, pos := "keeps.go:218", after := #[{ on := 17, ground := Ground.data }, { on := 19, ground := Ground.data }, { on := 3, ground := Ground.guard }], guard := some (3, false) }) (v := ?_) rfl (by kernel_rfl) (by kernel_rfl) (by kernel_rfl) (fun _ _ _ h => h) (Or.inl ⟨by rfl, ?_⟩) (by assumption) ?_
                rotate_left
                · (intro w hSw; (try dsimp only at hSw); go_simp; (try with_reducible rfl))
                try simp only [Act.put]
                try simp only [List.setIfInBounds_toArray]
                try simp only [List.set_cons_succ, List.set_cons_zero]
                refine wpAnyH_take (i := 21) (oi := { dst := some 177, op := Op.pick (Operand.tmp 159) (Operand.const (Value.bool true)) (Operand.tmp 176), type := 4, pos := "keeps.go:218", after := #[{ on := 3, ground := Ground.data }, { on := 20, ground := Ground.data }], guard := none }) (v := ?_) rfl (by kernel_rfl) (by kernel_rfl) (by kernel_rfl) (fun _ _ _ h => h) (Or.inl ⟨by rfl, ?_⟩) (by assumption) ?_
                rotate_left
                · (intro w hSw; (try dsimp only at hSw); go_simp; (try with_reducible rfl))
                try simp only [Act.put]
                try simp only [List.setIfInBounds_toArray]
                try simp only [List.set_cons_succ, List.set_cons_zero]
                refine wpAnyH_done (by kernel_rfl) ?_ _
                go_wp2
                go_roundw
                case rel => exact ⟨k + 1, by omega, by go_num, H4.out.calm2 (Kf.out.calm2 (Kept.drew _))⟩
                case measure => simp [intOf]; omega
              · have hteb : (x.team == y.team) = false := by simp [hte]
                have hAA : (A != A) = false := by simp
                clear hte htm hh1 hh2
                cases A
                · skip
                  refine wp_region_held_drew (S := fun w' => w'.cell? ⟨B8, 1, none⟩ = some (.slice (some ⟨b, off, none⟩) d.L.length d.cap) ∧ w'.cell? ⟨b, off + i * 7 + 1, none⟩ = some (.int .i64 x.team) ∧ w'.cell? ⟨b, off + k * 7 + 1, none⟩ = some (.int .i64 y.team)) (by kernel_rfl) ?_ (fun hHeld => ?_)
                  · (try dsimp only); go_keep
                  refine wpAnyH_take (i := 0) (oi := { dst := some 156, op := Op.move (Operand.tmp 22), type := 4, pos := "keeps.go:218", after := #[], guard := none }) (v := ?_) rfl (by kernel_rfl) (by kernel_rfl) (by kernel_rfl) (fun _ _ _ h => h) (Or.inl ⟨by rfl, ?_⟩) (by assumption) ?_
                  rotate_left
                  · (intro w hSw; (try dsimp only at hSw); go_simp; (try with_reducible rfl))
                  try simp only [Act.put]
                  try simp only [List.setIfInBounds_toArray]
                  try simp only [List.set_cons_succ, List.set_cons_zero]
                  refine wpAnyH_take (i := 1) (oi := { dst := some 157, op := Op.move (Operand.tmp 23), type := 4, pos := "keeps.go:218", after := #[], guard := none }) (v := ?_) rfl (by kernel_rfl) (by kernel_rfl) (by kernel_rfl) (fun _ _ _ h => h) (Or.inl ⟨by rfl, ?_⟩) (by assumption) ?_
                  rotate_left
                  · (intro w hSw; (try dsimp only at hSw); go_simp; (try with_reducible rfl))
                  try simp only [Act.put]
                  try simp only [List.setIfInBounds_toArray]
                  try simp only [List.set_cons_succ, List.set_cons_zero]
                  refine wpAnyH_take (i := 2) (oi := { dst := some 158, op := Op.binOp BinOp.neq 4 (Operand.tmp 156) (Operand.tmp 157) 4, type := 4, pos := "keeps.go:218", after := #[{ on := 0, ground := Ground.data }, { on := 1, ground := Ground.data }], guard := none }) (v := ?_) rfl (by kernel_rfl) (by kernel_rfl) (by kernel_rfl) (fun _ _ _ h => h) (Or.inl ⟨by rfl, ?_⟩) (by assumption) ?_
                  rotate_left
                  · (intro w hSw; (try dsimp only at hSw); go_simp; (try with_reducible rfl))
                  try simp only [Act.put]
                  try simp only [List.setIfInBounds_toArray]
                  try simp only [List.set_cons_succ, List.set_cons_zero]
                  refine wpAnyH_take (i := 3) (oi := { dst := some 159, op := Op.move (Operand.tmp 158), type := 4, pos := "keeps.go:218", after := #[{ on := 2, ground := Ground.data }], guard := none }) (v := ?_) rfl (by kernel_rfl) (by kernel_rfl) (by kernel_rfl) (fun _ _ _ h => h) (Or.inl ⟨by rfl, ?_⟩) (by assumption) ?_
                  rotate_left
                  · (intro w hSw; (try dsimp only at hSw); go_simp; (try with_reducible rfl))
                  try simp only [Act.put]
                  try simp only [List.setIfInBounds_toArray]
                  try simp only [List.set_cons_succ, List.set_cons_zero]
                  refine wpAnyH_take (i := 4) (oi := { dst := some 160, op := Op.fieldAddr 40 (Operand.tmp 8) 1, type := 0, pos := "keeps.go:218", after := #[{ on := 3, ground := Ground.guard }], guard := some (3, false) }) (v := ?_) rfl (by kernel_rfl) (by kernel_rfl) (by kernel_rfl) (fun _ _ _ h => h) (Or.inl ⟨by rfl, ?_⟩) (by assumption) ?_
                  rotate_left
                  · (intro w hSw; (try dsimp only at hSw); go_simp; (try with_reducible rfl))
                  try simp only [Act.put]
                  try simp only [List.setIfInBounds_toArray]
                  try simp only [List.set_cons_succ, List.set_cons_zero]
                  refine wpAnyH_take (i := 5) (oi := { dst := some 161, op := Op.load 38 (Operand.tmp 160), type := 38, pos := "keeps.go:218", after := #[{ on := 4, ground := Ground.data }, { on := 3, ground := Ground.guard }], guard := some (3, false) }) (v := ?_) rfl (by kernel_rfl) (by kernel_rfl) (by kernel_rfl) (fun _ _ _ h => h) (Or.inl ⟨by rfl, ?_⟩) (by assumption) ?_
                  rotate_left
                  · (intro w hSw; (try dsimp only at hSw); go_simp; (try with_reducible rfl))
                  try simp only [Act.put]
                  try simp only [List.setIfInBounds_toArray]
                  try simp only [List.set_cons_succ, List.set_cons_zero]
                  refine wpAnyH_take (i := 6) (oi := { dst := some 162, op := Op.move (Operand.tmp 20), type := 3, pos := "keeps.go:218", after := #[{ on := 3, ground := Ground.guard }], guard := some (3, false) }) (v := ?_) rfl (by kernel_rfl) (by kernel_rfl) (by kernel_rfl) (fun _ _ _ h => h) (Or.inl ⟨by rfl, ?_⟩) (by assumption) ?_
                  rotate_left
                  · (intro w hSw; (try dsimp only at hSw); go_simp; (try with_reducible rfl))
                  try simp only [Act.put]
                  try simp only [List.setIfInBounds_toArray]
                  try simp only [List.set_cons_succ, List.set_cons_zero]
                  refine wpAnyH_take (i := 7) (oi := { dst := some 163, op := Op.indexAddr 38 (Operand.tmp 161) (Operand.tmp 162), type := 0, pos := "keeps.go:218", after := #[{ on := 5, ground := Ground.data }, { on := 6, ground := Ground.data }, { on := 3, ground := Ground.guard }], guard := some (3, false) }) (v := ?_) rfl (by kernel_rfl) (by kernel_rfl) (by kernel_rfl) (fun _ _ _ h => h) (Or.inl ⟨by rfl, ?_⟩) (by assumption) ?_
                  rotate_left
                  · (intro w hSw; (try dsimp only at hSw); go_simp; (try with_reducible rfl))
                  try simp only [Act.put]
                  try simp only [List.setIfInBounds_toArray]
                  try simp only [List.set_cons_succ, List.set_cons_zero]
                  refine wpAnyH_take (i := 8) (oi := { dst := some 164, op := Op.fieldAddr 57 (Operand.tmp 163) 1, type := 0, pos := "keeps.go:218", after := #[{ on := 7, ground := Ground.data }, { on := 3, ground := Ground.guard }], guard := some (3, false) }) (v := ?_) rfl (by kernel_rfl) (by kernel_rfl) (by kernel_rfl) (fun _ _ _ h => h) (Or.inl ⟨by rfl, ?_⟩) (by assumption) ?_
                  rotate_left
                  · (intro w hSw; (try dsimp only at hSw); go_simp; (try with_reducible rfl))
                  try simp only [Act.put]
                  try simp only [List.setIfInBounds_toArray]
                  try simp only [List.set_cons_succ, List.set_cons_zero]
                  refine wpAnyH_take (i := 9) (oi := { dst := some 165, op := Op.load 3 (Operand.tmp 164), type := 3, pos := "keeps.go:218", after := #[{ on := 8, ground := Ground.data }, { on := 3, ground := Ground.guard }], guard := some (3, false) }) (v := ?_) rfl (by kernel_rfl) (by kernel_rfl) (by kernel_rfl) (fun _ _ _ h => h) (Or.inl ⟨by rfl, ?_⟩) (by assumption) ?_
                  rotate_left
                  · (intro w hSw; (try dsimp only at hSw); go_simp; (try with_reducible rfl))
                  try simp only [Act.put]
                  try simp only [List.setIfInBounds_toArray]
                  try simp only [List.set_cons_succ, List.set_cons_zero]
                  refine wpAnyH_take (i := 10) (oi := { dst := some 166, op := Op.fieldAddr 40 (Operand.tmp 8) 1, type := 0, pos := "keeps.go:218", after := #[{ on := 3, ground := Ground.guard }], guard := some (3, false) }) (v := ?_) rfl (by kernel_rfl) (by kernel_rfl) (by kernel_rfl) (fun _ _ _ h => h) (Or.inl ⟨by rfl, ?_⟩) (by assumption) ?_
                  rotate_left
                  · (intro w hSw; (try dsimp only at hSw); go_simp; (try with_reducible rfl))
                  try simp only [Act.put]
                  try simp only [List.setIfInBounds_toArray]
                  try simp only [List.set_cons_succ, List.set_cons_zero]
                  refine wpAnyH_take (i := 11) (oi := { dst := some 167, op := Op.load 38 (Operand.tmp 166), type := 38, pos := "keeps.go:218", after := #[{ on := 10, ground := Ground.data }, { on := 3, ground := Ground.guard }], guard := some (3, false) }) (v := ?_) rfl (by kernel_rfl) (by kernel_rfl) (by kernel_rfl) (fun _ _ _ h => h) (Or.inl ⟨by rfl, ?_⟩) (by assumption) ?_
                  rotate_left
                  · (intro w hSw; (try dsimp only at hSw); go_simp; (try with_reducible rfl))
                  try simp only [Act.put]
                  try simp only [List.setIfInBounds_toArray]
                  try simp only [List.set_cons_succ, List.set_cons_zero]
                  refine wpAnyH_take (i := 12) (oi := { dst := some 168, op := Op.move (Operand.tmp 21), type := 3, pos := "keeps.go:218", after := #[{ on := 3, ground := Ground.guard }], guard := some (3, false) }) (v := ?_) rfl (by kernel_rfl) (by kernel_rfl) (by kernel_rfl) (fun _ _ _ h => h) (Or.inl ⟨by rfl, ?_⟩) (by assumption) ?_
                  rotate_left
                  · (intro w hSw; (try dsimp only at hSw); go_simp; (try with_reducible rfl))
                  try simp only [Act.put]
                  try simp only [List.setIfInBounds_toArray]
                  try simp only [List.set_cons_succ, List.set_cons_zero]
                  refine wpAnyH_take (i := 13) (oi := { dst := some 169, op := Op.indexAddr 38 (Operand.tmp 167) (Operand.tmp 168), type := 0, pos := "keeps.go:218", after := #[{ on := 11, ground := Ground.data }, { on := 12, ground := Ground.data }, { on := 3, ground := Ground.guard }], guard := some (3, false) }) (v := ?_) rfl (by kernel_rfl) (by kernel_rfl) (by kernel_rfl) (fun _ _ _ h => h) (Or.inl ⟨by rfl, ?_⟩) (by assumption) ?_
                  rotate_left
                  · (intro w hSw; (try dsimp only at hSw); go_simp; (try with_reducible rfl))
                  try simp only [Act.put]
                  try simp only [List.setIfInBounds_toArray]
                  try simp only [List.set_cons_succ, List.set_cons_zero]
                  refine wpAnyH_take (i := 14) (oi := { dst := some 170, op := Op.fieldAddr 57 (Operand.tmp 169) 1, type := 0, pos := "keeps.go:218", after := #[{ on := 13, ground := Ground.data }, { on := 3, ground := Ground.guard }], guard := some (3, false) }) (v := ?_) rfl (by kernel_rfl) (by kernel_rfl) (by kernel_rfl) (fun _ _ _ h => h) (Or.inl ⟨by rfl, ?_⟩) (by assumption) ?_
                  rotate_left
                  · (intro w hSw; (try dsimp only at hSw); go_simp; (try with_reducible rfl))
                  try simp only [Act.put]
                  try simp only [List.setIfInBounds_toArray]
                  try simp only [List.set_cons_succ, List.set_cons_zero]
                  refine wpAnyH_take (i := 15) (oi := { dst := some 171, op := Op.load 3 (Operand.tmp 170), type := 3, pos := "keeps.go:218", after := #[{ on := 14, ground := Ground.data }, { on := 3, ground := Ground.guard }], guard := some (3, false) }) (v := ?_) rfl (by kernel_rfl) (by kernel_rfl) (by kernel_rfl) (fun _ _ _ h => h) (Or.inl ⟨by rfl, ?_⟩) (by assumption) ?_
                  rotate_left
                  · (intro w hSw; (try dsimp only at hSw); go_simp; (try with_reducible rfl))
                  try simp only [Act.put]
                  try simp only [List.setIfInBounds_toArray]
                  try simp only [List.set_cons_succ, List.set_cons_zero]
                  refine wpAnyH_take (i := 16) (oi := { dst := some 172, op := Op.binOp BinOp.eql 3 (Operand.tmp 165) (Operand.tmp 171) 3, type := 4, pos := "keeps.go:218", after := #[{ on := 9, ground := Ground.data }, { on := 15, ground := Ground.data }, { on := 3, ground := Ground.guard }], guard := some (3, false) }) (v := ?_) rfl (by kernel_rfl) (by kernel_rfl) (by kernel_rfl) (fun _ _ _ h => h) (Or.inl ⟨by rfl, ?_⟩) (by assumption) ?_
                  rotate_left
                  · (intro w hSw; (try dsimp only at hSw); go_simp; (try with_reducible rfl))
                  try simp only [Act.put]
                  try simp only [List.setIfInBounds_toArray]
                  try simp only [List.set_cons_succ, List.set_cons_zero]
                  refine wpAnyH_take (i := 17) (oi := { dst := some 173, op := Op.move (Operand.tmp 172), type := 4, pos := "keeps.go:218", after := #[{ on := 16, ground := Ground.data }, { on := 3, ground := Ground.chain }, { on := 3, ground := Ground.guard }], guard := some (3, false) }) (v := ?_) rfl (by kernel_rfl) (by kernel_rfl) (by kernel_rfl) (fun _ _ _ h => h) (Or.inl ⟨by rfl, ?_⟩) (by assumption) ?_
                  rotate_left
                  · (intro w hSw; (try dsimp only at hSw); go_simp; (try with_reducible rfl))
                  try simp only [Act.put]
                  try simp only [List.setIfInBounds_toArray]
                  try simp only [List.set_cons_succ, List.set_cons_zero]
                  refine wpAnyH_take (i := 18) (oi := { dst := some 174, op := Op.move (Operand.tmp 22), type := 4, pos := "keeps.go:218", after := #[{ on := 17, ground := Ground.guard }], guard := some (17, true) }) rfl (by kernel_rfl) (by kernel_rfl) (by kernel_rfl) (fun _ _ _ h => h) (Or.inr ⟨by rfl, rfl⟩) (by assumption) ?_
                  try simp only [Act.put]
                  try simp only [List.setIfInBounds_toArray]
                  try simp only [List.set_cons_succ, List.set_cons_zero]
                  refine wpAnyH_take (i := 19) (oi := { dst := some 175, op := Op.unOp UnOp.not 4 (Operand.tmp 174), type := 4, pos := "keeps.go:218", after := #[{ on := 18, ground := Ground.data }, { on := 17, ground := Ground.guard }], guard := some (17, true) }) rfl (by kernel_rfl) (by kernel_rfl) (by kernel_rfl) (fun _ _ _ h => h) (Or.inr ⟨by rfl, rfl⟩) (by assumption) ?_
                  try simp only [Act.put]
                  try simp only [List.setIfInBounds_toArray]
                  try simp only [List.set_cons_succ, List.set_cons_zero]
                  refine wpAnyH_take (i := 20) (oi := { dst := some 176, op := Op.pick (Operand.tmp 173) (Operand.tmp 175) (Operand.const (Value.bool false)), type := 4, pos := "keeps.go:218", after := #[{ on := 17, ground := Ground.data }, { on := 19, ground := Ground.data }, { on := 3, ground := Ground.guard }], guard := some (3, false) }) (v := ?_) rfl (by kernel_rfl) (by kernel_rfl) (by kernel_rfl) (fun _ _ _ h => h) (Or.inl ⟨by rfl, ?_⟩) (by assumption) ?_
                  rotate_left
                  · (intro w hSw; (try dsimp only at hSw); go_simp; (try with_reducible rfl))
                  try simp only [Act.put]
                  try simp only [List.setIfInBounds_toArray]
                  try simp only [List.set_cons_succ, List.set_cons_zero]
                  refine wpAnyH_take (i := 21) (oi := { dst := some 177, op := Op.pick (Operand.tmp 159) (Operand.const (Value.bool true)) (Operand.tmp 176), type := 4, pos := "keeps.go:218", after := #[{ on := 3, ground := Ground.data }, { on := 20, ground := Ground.data }], guard := none }) (v := ?_) rfl (by kernel_rfl) (by kernel_rfl) (by kernel_rfl) (fun _ _ _ h => h) (Or.inl ⟨by rfl, ?_⟩) (by assumption) ?_
                  rotate_left
                  · (intro w hSw; (try dsimp only at hSw); go_simp; (try with_reducible rfl))
                  try simp only [Act.put]
                  try simp only [List.setIfInBounds_toArray]
                  try simp only [List.set_cons_succ, List.set_cons_zero]
                  refine wpAnyH_done (by kernel_rfl) ?_ _
                  go_wp2
                  go_roundw
                  case rel => exact ⟨k + 1, by omega, by go_num, H4.out.calm2 (Kf.out.calm2 (Kept.drew _))⟩
                  case measure => simp [intOf]; omega
                · skip
                  refine wp_region_held_drew (S := fun w' => w'.cell? ⟨B8, 1, none⟩ = some (.slice (some ⟨b, off, none⟩) d.L.length d.cap) ∧ w'.cell? ⟨b, off + i * 7 + 1, none⟩ = some (.int .i64 x.team) ∧ w'.cell? ⟨b, off + k * 7 + 1, none⟩ = some (.int .i64 y.team)) (by kernel_rfl) ?_ (fun hHeld => ?_)
                  · (try dsimp only); go_keep
                  refine wpAnyH_take (i := 0) (oi := { dst := some 156, op := Op.move (Operand.tmp 22), type := 4, pos := "keeps.go:218", after := #[], guard := none }) (v := ?_) rfl (by kernel_rfl) (by kernel_rfl) (by kernel_rfl) (fun _ _ _ h => h) (Or.inl ⟨by rfl, ?_⟩) (by assumption) ?_
                  rotate_left
                  · (intro w hSw; (try dsimp only at hSw); go_simp; (try with_reducible rfl))
                  try simp only [Act.put]
                  try simp only [List.setIfInBounds_toArray]
                  try simp only [List.set_cons_succ, List.set_cons_zero]
                  refine wpAnyH_take (i := 1) (oi := { dst := some 157, op := Op.move (Operand.tmp 23), type := 4, pos := "keeps.go:218", after := #[], guard := none }) (v := ?_) rfl (by kernel_rfl) (by kernel_rfl) (by kernel_rfl) (fun _ _ _ h => h) (Or.inl ⟨by rfl, ?_⟩) (by assumption) ?_
                  rotate_left
                  · (intro w hSw; (try dsimp only at hSw); go_simp; (try with_reducible rfl))
                  try simp only [Act.put]
                  try simp only [List.setIfInBounds_toArray]
                  try simp only [List.set_cons_succ, List.set_cons_zero]
                  refine wpAnyH_take (i := 2) (oi := { dst := some 158, op := Op.binOp BinOp.neq 4 (Operand.tmp 156) (Operand.tmp 157) 4, type := 4, pos := "keeps.go:218", after := #[{ on := 0, ground := Ground.data }, { on := 1, ground := Ground.data }], guard := none }) (v := ?_) rfl (by kernel_rfl) (by kernel_rfl) (by kernel_rfl) (fun _ _ _ h => h) (Or.inl ⟨by rfl, ?_⟩) (by assumption) ?_
                  rotate_left
                  · (intro w hSw; (try dsimp only at hSw); go_simp; (try with_reducible rfl))
                  try simp only [Act.put]
                  try simp only [List.setIfInBounds_toArray]
                  try simp only [List.set_cons_succ, List.set_cons_zero]
                  refine wpAnyH_take (i := 3) (oi := { dst := some 159, op := Op.move (Operand.tmp 158), type := 4, pos := "keeps.go:218", after := #[{ on := 2, ground := Ground.data }], guard := none }) (v := ?_) rfl (by kernel_rfl) (by kernel_rfl) (by kernel_rfl) (fun _ _ _ h => h) (Or.inl ⟨by rfl, ?_⟩) (by assumption) ?_
                  rotate_left
                  · (intro w hSw; (try dsimp only at hSw); go_simp; (try with_reducible rfl))
                  try simp only [Act.put]
                  try simp only [List.setIfInBounds_toArray]
                  try simp only [List.set_cons_succ, List.set_cons_zero]
                  refine wpAnyH_take (i := 4) (oi := { dst := some 160, op := Op.fieldAddr 40 (Operand.tmp 8) 1, type := 0, pos := "keeps.go:218", after := #[{ on := 3, ground := Ground.guard }], guard := some (3, false) }) (v := ?_) rfl (by kernel_rfl) (by kernel_rfl) (by kernel_rfl) (fun _ _ _ h => h) (Or.inl ⟨by rfl, ?_⟩) (by assumption) ?_
                  rotate_left
                  · (intro w hSw; (try dsimp only at hSw); go_simp; (try with_reducible rfl))
                  try simp only [Act.put]
                  try simp only [List.setIfInBounds_toArray]
                  try simp only [List.set_cons_succ, List.set_cons_zero]
                  refine wpAnyH_take (i := 5) (oi := { dst := some 161, op := Op.load 38 (Operand.tmp 160), type := 38, pos := "keeps.go:218", after := #[{ on := 4, ground := Ground.data }, { on := 3, ground := Ground.guard }], guard := some (3, false) }) (v := ?_) rfl (by kernel_rfl) (by kernel_rfl) (by kernel_rfl) (fun _ _ _ h => h) (Or.inl ⟨by rfl, ?_⟩) (by assumption) ?_
                  rotate_left
                  · (intro w hSw; (try dsimp only at hSw); go_simp; (try with_reducible rfl))
                  try simp only [Act.put]
                  try simp only [List.setIfInBounds_toArray]
                  try simp only [List.set_cons_succ, List.set_cons_zero]
                  refine wpAnyH_take (i := 6) (oi := { dst := some 162, op := Op.move (Operand.tmp 20), type := 3, pos := "keeps.go:218", after := #[{ on := 3, ground := Ground.guard }], guard := some (3, false) }) (v := ?_) rfl (by kernel_rfl) (by kernel_rfl) (by kernel_rfl) (fun _ _ _ h => h) (Or.inl ⟨by rfl, ?_⟩) (by assumption) ?_
                  rotate_left
                  · (intro w hSw; (try dsimp only at hSw); go_simp; (try with_reducible rfl))
                  try simp only [Act.put]
                  try simp only [List.setIfInBounds_toArray]
                  try simp only [List.set_cons_succ, List.set_cons_zero]
                  refine wpAnyH_take (i := 7) (oi := { dst := some 163, op := Op.indexAddr 38 (Operand.tmp 161) (Operand.tmp 162), type := 0, pos := "keeps.go:218", after := #[{ on := 5, ground := Ground.data }, { on := 6, ground := Ground.data }, { on := 3, ground := Ground.guard }], guard := some (3, false) }) (v := ?_) rfl (by kernel_rfl) (by kernel_rfl) (by kernel_rfl) (fun _ _ _ h => h) (Or.inl ⟨by rfl, ?_⟩) (by assumption) ?_
                  rotate_left
                  · (intro w hSw; (try dsimp only at hSw); go_simp; (try with_reducible rfl))
                  try simp only [Act.put]
                  try simp only [List.setIfInBounds_toArray]
                  try simp only [List.set_cons_succ, List.set_cons_zero]
                  refine wpAnyH_take (i := 8) (oi := { dst := some 164, op := Op.fieldAddr 57 (Operand.tmp 163) 1, type := 0, pos := "keeps.go:218", after := #[{ on := 7, ground := Ground.data }, { on := 3, ground := Ground.guard }], guard := some (3, false) }) (v := ?_) rfl (by kernel_rfl) (by kernel_rfl) (by kernel_rfl) (fun _ _ _ h => h) (Or.inl ⟨by rfl, ?_⟩) (by assumption) ?_
                  rotate_left
                  · (intro w hSw; (try dsimp only at hSw); go_simp; (try with_reducible rfl))
                  try simp only [Act.put]
                  try simp only [List.setIfInBounds_toArray]
                  try simp only [List.set_cons_succ, List.set_cons_zero]
                  refine wpAnyH_take (i := 9) (oi := { dst := some 165, op := Op.load 3 (Operand.tmp 164), type := 3, pos := "keeps.go:218", after := #[{ on := 8, ground := Ground.data }, { on := 3, ground := Ground.guard }], guard := some (3, false) }) (v := ?_) rfl (by kernel_rfl) (by kernel_rfl) (by kernel_rfl) (fun _ _ _ h => h) (Or.inl ⟨by rfl, ?_⟩) (by assumption) ?_
                  rotate_left
                  · (intro w hSw; (try dsimp only at hSw); go_simp; (try with_reducible rfl))
                  try simp only [Act.put]
                  try simp only [List.setIfInBounds_toArray]
                  try simp only [List.set_cons_succ, List.set_cons_zero]
                  refine wpAnyH_take (i := 10) (oi := { dst := some 166, op := Op.fieldAddr 40 (Operand.tmp 8) 1, type := 0, pos := "keeps.go:218", after := #[{ on := 3, ground := Ground.guard }], guard := some (3, false) }) (v := ?_) rfl (by kernel_rfl) (by kernel_rfl) (by kernel_rfl) (fun _ _ _ h => h) (Or.inl ⟨by rfl, ?_⟩) (by assumption) ?_
                  rotate_left
                  · (intro w hSw; (try dsimp only at hSw); go_simp; (try with_reducible rfl))
                  try simp only [Act.put]
                  try simp only [List.setIfInBounds_toArray]
                  try simp only [List.set_cons_succ, List.set_cons_zero]
                  refine wpAnyH_take (i := 11) (oi := { dst := some 167, op := Op.load 38 (Operand.tmp 166), type := 38, pos := "keeps.go:218", after := #[{ on := 10, ground := Ground.data }, { on := 3, ground := Ground.guard }], guard := some (3, false) }) (v := ?_) rfl (by kernel_rfl) (by kernel_rfl) (by kernel_rfl) (fun _ _ _ h => h) (Or.inl ⟨by rfl, ?_⟩) (by assumption) ?_
                  rotate_left
                  · (intro w hSw; (try dsimp only at hSw); go_simp; (try with_reducible rfl))
                  try simp only [Act.put]
                  try simp only [List.setIfInBounds_toArray]
                  try simp only [List.set_cons_succ, List.set_cons_zero]
                  refine wpAnyH_take (i := 12) (oi := { dst := some 168, op := Op.move (Operand.tmp 21), type := 3, pos := "keeps.go:218", after := #[{ on := 3, ground := Ground.guard }], guard := some (3, false) }) (v := ?_) rfl (by kernel_rfl) (by kernel_rfl) (by kernel_rfl) (fun _ _ _ h => h) (Or.inl ⟨by rfl, ?_⟩) (by assumption) ?_
                  rotate_left
                  · (intro w hSw; (try dsimp only at hSw); go_simp; (try with_reducible rfl))
                  try simp only [Act.put]
                  try simp only [List.setIfInBounds_toArray]
                  try simp only [List.set_cons_succ, List.set_cons_zero]
                  refine wpAnyH_take (i := 13) (oi := { dst := some 169, op := Op.indexAddr 38 (Operand.tmp 167) (Operand.tmp 168), type := 0, pos := "keeps.go:218", after := #[{ on := 11, ground := Ground.data }, { on := 12, ground := Ground.data }, { on := 3, ground := Ground.guard }], guard := some (3, false) }) (v := ?_) rfl (by kernel_rfl) (by kernel_rfl) (by kernel_rfl) (fun _ _ _ h => h) (Or.inl ⟨by rfl, ?_⟩) (by assumption) ?_
                  rotate_left
                  · (intro w hSw; (try dsimp only at hSw); go_simp; (try with_reducible rfl))
                  try simp only [Act.put]
                  try simp only [List.setIfInBounds_toArray]
                  try simp only [List.set_cons_succ, List.set_cons_zero]
                  refine wpAnyH_take (i := 14) (oi := { dst := some 170, op := Op.fieldAddr 57 (Operand.tmp 169) 1, type := 0, pos := "keeps.go:218", after := #[{ on := 13, ground := Ground.data }, { on := 3, ground := Ground.guard }], guard := some (3, false) }) (v := ?_) rfl (by kernel_rfl) (by kernel_rfl) (by kernel_rfl) (fun _ _ _ h => h) (Or.inl ⟨by rfl, ?_⟩) (by assumption) ?_
                  rotate_left
                  · (intro w hSw; (try dsimp only at hSw); go_simp; (try with_reducible rfl))
                  try simp only [Act.put]
                  try simp only [List.setIfInBounds_toArray]
                  try simp only [List.set_cons_succ, List.set_cons_zero]
                  refine wpAnyH_take (i := 15) (oi := { dst := some 171, op := Op.load 3 (Operand.tmp 170), type := 3, pos := "keeps.go:218", after := #[{ on := 14, ground := Ground.data }, { on := 3, ground := Ground.guard }], guard := some (3, false) }) (v := ?_) rfl (by kernel_rfl) (by kernel_rfl) (by kernel_rfl) (fun _ _ _ h => h) (Or.inl ⟨by rfl, ?_⟩) (by assumption) ?_
                  rotate_left
                  · (intro w hSw; (try dsimp only at hSw); go_simp; (try with_reducible rfl))
                  try simp only [Act.put]
                  try simp only [List.setIfInBounds_toArray]
                  try simp only [List.set_cons_succ, List.set_cons_zero]
                  refine wpAnyH_take (i := 16) (oi := { dst := some 172, op := Op.binOp BinOp.eql 3 (Operand.tmp 165) (Operand.tmp 171) 3, type := 4, pos := "keeps.go:218", after := #[{ on := 9, ground := Ground.data }, { on := 15, ground := Ground.data }, { on := 3, ground := Ground.guard }], guard := some (3, false) }) (v := ?_) rfl (by kernel_rfl) (by kernel_rfl) (by kernel_rfl) (fun _ _ _ h => h) (Or.inl ⟨by rfl, ?_⟩) (by assumption) ?_
                  rotate_left
                  · (intro w hSw; (try dsimp only at hSw); go_simp; (try with_reducible rfl))
                  try simp only [Act.put]
                  try simp only [List.setIfInBounds_toArray]
                  try simp only [List.set_cons_succ, List.set_cons_zero]
                  refine wpAnyH_take (i := 17) (oi := { dst := some 173, op := Op.move (Operand.tmp 172), type := 4, pos := "keeps.go:218", after := #[{ on := 16, ground := Ground.data }, { on := 3, ground := Ground.chain }, { on := 3, ground := Ground.guard }], guard := some (3, false) }) (v := ?_) rfl (by kernel_rfl) (by kernel_rfl) (by kernel_rfl) (fun _ _ _ h => h) (Or.inl ⟨by rfl, ?_⟩) (by assumption) ?_
                  rotate_left
                  · (intro w hSw; (try dsimp only at hSw); go_simp; (try with_reducible rfl))
                  try simp only [Act.put]
                  try simp only [List.setIfInBounds_toArray]
                  try simp only [List.set_cons_succ, List.set_cons_zero]
                  refine wpAnyH_take (i := 18) (oi := { dst := some 174, op := Op.move (Operand.tmp 22), type := 4, pos := "keeps.go:218", after := #[{ on := 17, ground := Ground.guard }], guard := some (17, true) }) rfl (by kernel_rfl) (by kernel_rfl) (by kernel_rfl) (fun _ _ _ h => h) (Or.inr ⟨by rfl, rfl⟩) (by assumption) ?_
                  try simp only [Act.put]
                  try simp only [List.setIfInBounds_toArray]
                  try simp only [List.set_cons_succ, List.set_cons_zero]
                  refine wpAnyH_take (i := 19) (oi := { dst := some 175, op := Op.unOp UnOp.not 4 (Operand.tmp 174), type := 4, pos := "keeps.go:218", after := #[{ on := 18, ground := Ground.data }, { on := 17, ground := Ground.guard }], guard := some (17, true) }) rfl (by kernel_rfl) (by kernel_rfl) (by kernel_rfl) (fun _ _ _ h => h) (Or.inr ⟨by rfl, rfl⟩) (by assumption) ?_
                  try simp only [Act.put]
                  try simp only [List.setIfInBounds_toArray]
                  try simp only [List.set_cons_succ, List.set_cons_zero]
                  refine wpAnyH_take (i := 20) (oi := { dst := some 176, op := Op.pick (Operand.tmp 173) (Operand.tmp 175) (Operand.const (Value.bool false)), type := 4, pos := "keeps.go:218", after := #[{ on := 17, ground := Ground.data }, { on := 19, ground := Ground.data }, { on := 3, ground := Ground.guard }], guard := some (3, false) }) (v := ?_) rfl (by kernel_rfl) (by kernel_rfl) (by kernel_rfl) (fun _ _ _ h => h) (Or.inl ⟨by rfl, ?_⟩) (by assumption) ?_
                  rotate_left
                  · (intro w hSw; (try dsimp only at hSw); go_simp; (try with_reducible rfl))
                  try simp only [Act.put]
                  try simp only [List.setIfInBounds_toArray]
                  try simp only [List.set_cons_succ, List.set_cons_zero]
                  refine wpAnyH_take (i := 21) (oi := { dst := some 177, op := Op.pick (Operand.tmp 159) (Operand.const (Value.bool true)) (Operand.tmp 176), type := 4, pos := "keeps.go:218", after := #[{ on := 3, ground := Ground.data }, { on := 20, ground := Ground.data }], guard := none }) (v := ?_) rfl (by kernel_rfl) (by kernel_rfl) (by kernel_rfl) (fun _ _ _ h => h) (Or.inl ⟨by rfl, ?_⟩) (by assumption) ?_
                  rotate_left
                  · (intro w hSw; (try dsimp only at hSw); go_simp; (try with_reducible rfl))
                  try simp only [Act.put]
                  try simp only [List.setIfInBounds_toArray]
                  try simp only [List.set_cons_succ, List.set_cons_zero]
                  refine wpAnyH_done (by kernel_rfl) ?_ _
                  go_wp2
                  go_roundw
                  case rel => exact ⟨k + 1, by omega, by go_num, H4.out.calm2 (Kf.out.calm2 (Kept.drew _))⟩
                  case measure => simp [intOf]; omega
            · go_wp2
              go_roundw
              case rel => exact ⟨i + 1, by omega, by go_num, H3.out.calm2 H4.out⟩
              case measure => simp [intOf]; omega
        · go_wp2
          go_ret
          exact ⟨rfl, (EK.out.calm2 H3.out).below _ (Nat.le_refl _) (fun _ _ e => e)⟩
end Go.Proofs.Ytlfmfhmbkpnjbaa
