import Derived.Test.YtaheegdfcddlpaaBook
namespace Go.Proofs.Ytaheegdfcddlpaa
open Go.RowKit
theorem info_int : (Try.prog.info? 3).map (fun i => (i.zero, i.size, i.bytes)) = some (some (.int .i64 0), 1, 8) := by kernel_rfl
theorem info_ints : (Try.prog.info? 38).map (fun i => (i.zero, i.size, i.bytes)) = some (some (.slice none 0 0), 1, 24) := by kernel_rfl

theorem Marked.typ {w : World} {g l : Nat} {m : Int} (h : Marked w g l m) : typ w g 3 := by
  obtain ⟨cur, h1, _⟩ := h
  exact ⟨_, _, h1⟩

theorem fresh_step {w w1 : World} {o : Obj} (h : (w.alloc o).grownBy w1 none) : Kept (fun _ => False) w w1 :=
  (Kept.alloc w o).join (Kept.of_grown h) (fun _ _ e => e) (fun _ _ e => by cases e)

theorem marked_row {w : World} {base g l cp : Nat} {m : Int} (h : w.ownsRow base 3 1 (.slice (some ⟨g, 0, none⟩) l cp) l (marks l m)) (hl : 0 < l) : Marked w g l m := by
  obtain ⟨g', cp', e, _, M⟩ := marked_own h hl
  simp only [Value.slice.injEq, Option.some.injEq, Addr.mk.injEq, and_true, true_and] at e
  obtain ⟨rfl, rfl⟩ := e
  exact M

/-- The book's own blocks. -/
def BFoot (bk : Nat) (kv : Value) : Nat → Prop := fun j => j = bk ∨ kv.ownBlock = some j

theorem book_fin {w w3 w4 : World} {bk g n g1 c1 g2 c2 g3 c3 G cp : Nat} {kv : Value} {Q : List Lst} {m : Int} {o : Obj} (H : BookAt w bk kv Q) (hk3 : Kept (fun j => j = g) w w3) (hgQ : ∀ i (h : i < Q.length), Q[i].1 ≠ g) (hgt : typ w g 3) (hn : n ≤ 64)
    (hm : m = -1000 - (Q.length : Int) / 4) (M0 : Marked w3 g n m) (M1 : Marked w3 g1 (n + 1) m) (M2 : Marked w3 g2 (n + 2) m) (M3 : Marked w3 g3 (n + 3) m)
    (hgrow : (w3.alloc o).grownBy w4 kv.ownBlock) (hown : w4.ownsRow 0 38 1 (.slice (some ⟨G, 0, none⟩) (Q.length + 4) cp) (Q.length + 4) (Q.map sv ++ [sv (g, n, n), sv (g1, n + 1, c1), sv (g2, n + 2, c2), sv (g3, n + 3, c3)])) (hG : kv.ownBlock = some G ∨ w3.heap.size + 1 ≤ G) :
    w4.heap[bk]? = some (.cells #[.slice none 0 0, kv] 27 (0, 0)) ∧
    BookAt (w4.setCell ⟨bk, 1, none⟩ (.slice (some ⟨G, 0, none⟩) (Q.length + 4) cp)) bk (.slice (some ⟨G, 0, none⟩) (Q.length + 4) cp) (Q ++ [(g, n, n), (g1, n + 1, c1), (g2, n + 2, c2), (g3, n + 3, c3)]) ∧
      Kept (fun j => j = g ∨ BFoot bk kv j) w (w4.setCell ⟨bk, 1, none⟩ (.slice (some ⟨G, 0, none⟩) (Q.length + 4) cp)) ∧ NewRow w kv (.slice (some ⟨G, 0, none⟩) (Q.length + 4) cp) := by
  have tb : typ w bk 27 := typ_blk H.blk
  have tk : ∀ j, kv.ownBlock = some j → typ w j 38 := fun j hj => typ_own H.own j hj
  have hbg : bk ≠ g := typ_ne tb hgt (by decide)
  have tb3 : typ w3 bk 27 := typ_keep tb hk3 hbg
  have tk3 : ∀ j, kv.ownBlock = some j → typ w3 j 38 := fun j hj => typ_keep (tk j hj) hk3 (typ_ne (tk j hj) hgt (by decide))
  have hs3 := hk3.size
  have hka : Kept (fun j => kv.ownBlock = some j) w3 w4 := ((Kept.alloc w3 o).join (Kept.of_grown hgrow) (R := fun j => kv.ownBlock = some j) (fun _ _ e => e.elim) (fun _ _ e => e.symm))
  have hkb : ¬ kv.ownBlock = some bk := fun e => typ_ne (tk bk e) tb (by decide) rfl
  have hb4 : w4.heap[bk]? = some (.cells #[.slice none 0 0, kv] 27 (0, 0)) := by
    rw [hka.block bk (typ_lt tb3) hkb, hk3.block bk (typ_lt tb) hbg]; exact H.blk
  have hGb : G ≠ bk := by
    rcases hG with h | h
    · exact fun e => hkb (by rw [h, e])
    · have := typ_lt tb3; omega
  have hkall : Kept (fun j => kv.ownBlock = some j ∨ j = bk) w3 (w4.setCell ⟨bk, 1, none⟩ (.slice (some ⟨G, 0, none⟩) (Q.length + 4) cp)) :=
    hka.join (Kept.setCell w4 _ _) (fun _ _ e => Or.inl e) (fun _ _ e => Or.inr e)
  have keepM : ∀ {a l : Nat} {mm : Int}, Marked w3 a l mm → Marked (w4.setCell ⟨bk, 1, none⟩ (.slice (some ⟨G, 0, none⟩) (Q.length + 4) cp)) a l mm := by
    intro a l mm M
    refine M.keep hkall (fun e => ?_)
    rcases e with e | e
    · exact typ_ne (tk3 a e) M.typ (by decide) rfl
    · exact typ_ne M.typ tb3 (by decide) e
  have hquad : ∀ t : Nat, t < 4 → (-1000 - ((Q.length + t : Nat) : Int) / 4) = m := by
    intro t ht
    have := H.four
    rw [hm]; omega
  refine ⟨hb4, ⟨two_set hb4 _, ?_, ?_, ?_, ?_⟩, ?_, ?_⟩
  · have e1 : (Q ++ [(g, n, n), (g1, n + 1, c1), (g2, n + 2, c2), (g3, n + 3, c3)]).length = Q.length + 4 := by simp
    rw [e1, List.map_append]
    refine owns_block hown ?_
    intro j e
    simp only [Value.ownBlock, Option.some.injEq] at e
    subst e
    exact Below.heap_setCell _ _ _ _ hGb
  · intro i hi
    by_cases h0 : i < Q.length
    · rw [List.getElem_append_left h0]
      obtain ⟨cur, r1, r2⟩ := H.rows i h0
      have Mi : Marked w Q[i].1 Q[i].2.1 (-1000 - (i : Int) / 4) := ⟨cur, r1, r2⟩
      exact keepM (Mi.keep hk3 (hgQ i h0))
    · have h4 : i < Q.length + 4 := by simpa using hi
      obtain ⟨t, rfl⟩ : ∃ t, i = Q.length + t := ⟨i - Q.length, by omega⟩
      rw [List.getElem_append_right (by omega)]
      rw [hquad t (by omega)]
      simp only [show Q.length + t - Q.length = t from by omega]
      match t, (show t < 4 by omega) with
      | 0, _ => exact keepM M0
      | 1, _ => exact keepM M1
      | 2, _ => exact keepM M2
      | 3, _ => exact keepM M3
  · intro i hi
    by_cases h0 : i < Q.length
    · rw [List.getElem_append_left h0]
      exact H.short i h0
    · have h4 : i < Q.length + 4 := by simpa using hi
      obtain ⟨t, rfl⟩ : ∃ t, i = Q.length + t := ⟨i - Q.length, by omega⟩
      rw [List.getElem_append_right (by omega)]
      simp only [show Q.length + t - Q.length = t from by omega]
      match t, (show t < 4 by omega) with
      | 0, _ => show n ≤ 100; omega
      | 1, _ => show n + 1 ≤ 100; omega
      | 2, _ => show n + 2 ≤ 100; omega
      | 3, _ => show n + 3 ≤ 100; omega
  · have := H.four
    simp; omega
  · exact hk3.join hkall (fun _ _ e => Or.inl e) (fun _ _ e => by rcases e with e | e; exact Or.inr (Or.inr e); exact Or.inr (Or.inl e))
  · rcases hG with h | h
    · exact Or.inl h.symm
    · exact Or.inr ⟨G, rfl, by omega⟩

set_option maxHeartbeats 1600000 in
set_option maxRecDepth 100000 in
theorem keepKeys_any (bk g n : Nat) (kv : Value) (Q : List Lst) (ks : List Value) (w : World) (hQ : Q.length ≤ 1000000000) (hn : n ≤ 64) (hks : ks.length = n) (h : BookAt w bk kv Q)
    (hg : w.heap[g]? = some (.cells ks.toArray 3 (0, 0))) (hgQ : Hid (∀ i (h : i < Q.length), Q[i].1 ≠ g)) :
    Calls Try.prog 25 #[.pointer (some ⟨bk, 0, none⟩), .slice (some ⟨g, 0, none⟩) n n] w fun e w' => e = .returned (.tuple #[]) ∧
      ∃ kv' Q', BookAt w' bk kv' Q' ∧ Q'.length = Q.length + 4 ∧ Kept (fun j => j = g ∨ BFoot bk kv j) w w' ∧ NewRow w kv kv' := by
  obtain ⟨i0, hi, hz0, hz1, hz2⟩ := info_parts info_int
  obtain ⟨i1, hi1, hy0, hy1, hy2⟩ := info_parts info_ints
  obtain ⟨ao, cp, rfl⟩ : ∃ ao cp, kv = .slice ao Q.length cp := by
    rcases h.own.2 with ⟨rfl, h0⟩ | ⟨g, cp, _, rfl, _⟩
    · exact ⟨none, 0, by rw [h0]⟩
    · exact ⟨_, _, rfl⟩
  obtain ⟨c0, c1⟩ := book_cells h.blk
  have H := hide h
  have HG := hide hg
  have HL := hide hks
  clear h hg hks
  go_enter Try.func25, Try.ntmps25
  go_wp2
  generalize hm : -1000 - (Q.length : Int) / 4 = m
  have HM := hide hm
  clear hm
  go_loopw [5] (fun t wr => ∃ i : Nat, i ≤ n ∧ t = .int .i64 i ∧ Hid (FillAt g w wr 3 (marks n m) i)) (fun t _ => n - (intOf t).toNat)
  case atStart => exact ⟨0, Nat.zero_le _, rfl, ks, by rw [marks_len]; exact HL.out, by simp, HG.out, Kept.refl _ _⟩
  case round =>
    obtain ⟨i, hil, rfl, HF⟩ := hrel
    by_cases hlt : i < n
    · obtain ⟨old, o1, o2⟩ := HF.out.cell (by rw [marks_len]; exact hlt)
      have HS := hide (HF.out.step (.int .i64 m) (marks_get n m i hlt))
      clear HF c0 c1
      go_wp2
      go_roundw
      case rel => exact ⟨i + 1, by omega, by go_num, HS⟩
      case measure => simp [intOf]; omega
    · have HD := hide (HF.out.done (by rw [marks_len]; omega))
      have M00 : Hid (Marked wr g n m) := ⟨_, HD.out.1, fun j hj => by simpa using marks_get n m j hj⟩
      have K0 : Hid (Kept (fun j => j = g) w wr) := HD.out.2
      clear HF HD c0 c1
      go_wp2_with (at_builtin; refine wpList_append_fresh _ rfl (.tmp 26) (.tmp 28) 38 rfl 3 i0 (.int .i64 0) 1 8 Try.underlying38 hi hz0 hz1 hz2 rfl (by decide) ⟨g, 0, none⟩ n n (marks n m) rfl ?lo1 ?ol1 ⟨wr.heap.size, 0, none⟩ 1 1 (marks 1 m) rfl rfl ?nw1 (marks_one 1 m) (by decide) (by omega) ?b11 ?b12 ?_)
      case lo1 => rw [marks_len]; omega
      case ol1 => exact (M00.out.keep (Kept.alloc _ _) (fun e => e)).cells
      case nw1 => exact new_cells _ (marks 1 m) _ _ rfl
      case b11 => unfold maxLen; omega
      case b12 => omega
      intro g1 cp1 w1 hown1 hgrow1
      rw [marks_add] at hown1
      have F1 := hide (fresh_step hgrow1)
      have M11 := hide (marked_row hown1 (by omega))
      have M01 := hide (M00.out.keep F1.out (fun e => e))
      have K1 : Hid (Kept (fun j => j = g) w w1) := K0.out.join F1.out (fun _ _ e => e) (fun _ _ e => e.elim)
      clear hown1 hgrow1 F1 M00 K0
      go_wp2_with (at_builtin; refine wpList_append_fresh _ rfl (.tmp 30) (.tmp 33) 38 rfl 3 i0 (.int .i64 0) 1 8 Try.underlying38 hi hz0 hz1 hz2 rfl (by decide) ⟨g, 0, none⟩ n n (marks n m) rfl ?lo2 ?ol2 ⟨w1.heap.size, 0, none⟩ 2 2 (marks 2 m) rfl rfl ?nw2 (marks_one 2 m) (by decide) (by omega) ?b21 ?b22 ?_)
      case lo2 => rw [marks_len]; omega
      case ol2 => exact (M01.out.keep (Kept.alloc _ _) (fun e => e)).cells
      case nw2 => exact new_cells _ (marks 2 m) _ _ rfl
      case b21 => unfold maxLen; omega
      case b22 => omega
      intro g2 cp2 w2 hown2 hgrow2
      rw [marks_add] at hown2
      have F2 := hide (fresh_step hgrow2)
      have M22 := hide (marked_row hown2 (by omega))
      have M02 := hide (M01.out.keep F2.out (fun e => e))
      have M12 := hide (M11.out.keep F2.out (fun e => e))
      have K2 : Hid (Kept (fun j => j = g) w w2) := K1.out.join F2.out (fun _ _ e => e) (fun _ _ e => e.elim)
      clear hown2 hgrow2 F2 M01 M11 K1
      go_wp2_with (at_builtin; refine wpList_append_fresh _ rfl (.tmp 35) (.tmp 39) 38 rfl 3 i0 (.int .i64 0) 1 8 Try.underlying38 hi hz0 hz1 hz2 rfl (by decide) ⟨g, 0, none⟩ n n (marks n m) rfl ?lo3 ?ol3 ⟨w2.heap.size, 0, none⟩ 3 3 (marks 3 m) rfl rfl ?nw3 (marks_one 3 m) (by decide) (by omega) ?b31 ?b32 ?_)
      case lo3 => rw [marks_len]; omega
      case ol3 => exact (M02.out.keep (Kept.alloc _ _) (fun e => e)).cells
      case nw3 => exact new_cells _ (marks 3 m) _ _ rfl
      case b31 => unfold maxLen; omega
      case b32 => omega
      intro g3 cp3 w3 hown3 hgrow3
      rw [marks_add] at hown3
      have F3 := hide (fresh_step hgrow3)
      have M33 := hide (marked_row hown3 (by omega))
      have M03 := hide (M02.out.keep F3.out (fun e => e))
      have M13 := hide (M12.out.keep F3.out (fun e => e))
      have M23 := hide (M22.out.keep F3.out (fun e => e))
      have K3 : Hid (Kept (fun j => j = g) w w3) := K2.out.join F3.out (fun _ _ e => e) (fun _ _ e => e.elim)
      clear hown3 hgrow3 F3 M02 M12 M22 K2
      have hkg : ∀ j, (Value.slice ao Q.length cp).ownBlock = some j → ¬ j = g := fun j hj => typ_ne (typ_own H.out.own j hj) (typ_blk HG.out) (by decide)
      have HO : Hid (w3.ownsRow 0 38 1 (.slice ao Q.length cp) Q.length (Q.map sv)) := owns_block H.out.own (fun j hj => K3.out.block j (owns_lt H.out.own j hj) (hkg j hj))
      have HBk : Hid (w3.heap[bk]? = some (.cells #[.slice none 0 0, .slice ao Q.length cp] 27 (0, 0))) := by
        show _ = _
        rw [K3.out.block bk (heap_lt H.out.blk) (typ_ne (typ_blk H.out.blk) (typ_blk HG.out) (by decide))]; exact H.out.blk
      obtain ⟨c0, c1⟩ := book_cells HBk.out
      clear hkg
      go_wp2_with (at_builtin; refine wpList_append_mine _ rfl (.tmp 45) (.tmp 50) 25 rfl 38 i1 (.slice none 0 0) 1 24 Try.underlying25 hi1 hy0 hy1 hy2 rfl (by decide) _ _ _ rfl (HO.out.alloc _) ⟨w3.heap.size, 0, none⟩ 4 4 [sv (g, n, n), sv (g1, n + 1, cp1), sv (g2, n + 2, cp2), sv (g3, n + 3, cp3)] rfl rfl ?nw4 ?oc4 (by decide) ?b41 ?b42 ?_)
      case nw4 => exact new_cells _ [sv (g, n, n), sv (g1, n + 1, cp1), sv (g2, n + 2, cp2), sv (g3, n + 3, cp3)] _ _ rfl
      case oc4 => intro u hu; simp only [List.mem_cons, List.not_mem_nil, or_false] at hu; rcases hu with rfl | rfl | rfl | rfl <;> rfl
      case b41 => unfold maxLen; omega
      case b42 => omega
      intro G cp4 w4 hown4 hgrow4 hG4
      have R := hide (book_fin (c1 := cp1) (c2 := cp2) (c3 := cp3) H.out K3.out hgQ.out (typ_blk HG.out) hn HM.out.symm M03.out M13.out M23.out M33.out hgrow4 hown4 hG4)
      obtain ⟨d0, d1, e0, e1⟩ := two_cells R.out.1
      clear hown4 hgrow4 hG4 c0 c1 M03 M13 M23 M33 K3 HO HBk
      go_wp2
      go_end0
      obtain ⟨_, r1, r2, r3⟩ := R.out
      exact ⟨rfl, _, _, r1, by simp, r2, r3⟩
end Go.Proofs.Ytaheegdfcddlpaa
