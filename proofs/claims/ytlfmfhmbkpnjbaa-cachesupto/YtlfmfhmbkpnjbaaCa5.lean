import Derived.Test.YtlfmfhmbkpnjbaaCa4
import Derived.Test.YtlfmfhmbkpnjbaaCa2
import Derived.Test.YtlfmfhmbkpnjbaaCa3
import Derived.Deep.RegionHeld3
namespace Go.Proofs.Ytlfmfhmbkpnjbaa
open Go.RowKit
theorem info_int : (Try.prog.info? 3).map (fun i => (i.zero, i.size, i.bytes)) = some (some (.int .i64 0), 1, 8) := by kernel_rfl
theorem info_ints : (Try.prog.info? 53).map (fun i => (i.zero, i.size, i.bytes)) = some (some (.slice none 0 0), 1, 24) := by kernel_rfl

theorem Marked.typ {w : World} {g l : Nat} {m : Int} (h : Marked w g l m) : typ w g 3 := by
  obtain ⟨cur, h1, _⟩ := h
  exact ⟨_, _, h1⟩

theorem fresh_step {w w1 : World} {o : Obj} (h : (w.alloc o).grownBy w1 none) : Kept (fun _ => False) w w1 :=
  (Kept.alloc w o).join (Kept.of_grown h) (fun _ _ e => e) (fun _ _ e => by cases e)

theorem marked_row {w : World} {base g l cp : Nat} {m : Int} (h : w.ownsRow base 3 1 (.slice (some ⟨g, 0, none⟩) l cp) l (marks l m)) (hl : 0 < l) : Marked w g l m := by
  obtain ⟨g', cp', e, _, M⟩ := marked_own h hl
  simp only [Value.slice.injEq, Option.some.injEq, Addr.mk.injEq, and_true, true_and] at e
  obtain ⟨rfl, rfl⟩ := e
  exact M

/-- The book's own blocks. -/
def BFoot (bk : Nat) (kv : Value) : Nat → Prop := fun j => j = bk ∨ kv.ownBlock = some j

theorem book_fin {w w3 w4 : World} {bk g n g1 c1 g2 c2 g3 c3 G cp : Nat} {kv : Value} {Q : List Lst} {m : Int} {o : Obj} (H : BookAt w bk kv Q) (hk3 : Kept (fun j => j = g) w w3) (hgQ : ∀ i (h : i < Q.length), Q[i].1 ≠ g) (hgt : typ w g 3) (hn : n ≤ 64)
    (hm : m = -1000 - (Q.length : Int) / 4) (M0 : Marked w3 g n m) (M1 : Marked w3 g1 (n + 1) m) (M2 : Marked w3 g2 (n + 2) m) (M3 : Marked w3 g3 (n + 3) m)
    (hgrow : (w3.alloc o).grownBy w4 kv.ownBlock) (hown : w4.ownsRow 0 53 1 (.slice (some ⟨G, 0, none⟩) (Q.length + 4) cp) (Q.length + 4) (Q.map sv ++ [sv (g, n, n), sv (g1, n + 1, c1), sv (g2, n + 2, c2), sv (g3, n + 3, c3)])) (hG : kv.ownBlock = some G ∨ w3.heap.size + 1 ≤ G) :
    w4.heap[bk]? = some (.cells #[.slice none 0 0, kv] 27 (0, 0)) ∧
    BookAt (w4.setCell ⟨bk, 1, none⟩ (.slice (some ⟨G, 0, none⟩) (Q.length + 4) cp)) bk (.slice (some ⟨G, 0, none⟩) (Q.length + 4) cp) (Q ++ [(g, n, n), (g1, n + 1, c1), (g2, n + 2, c2), (g3, n + 3, c3)]) ∧
      Kept (fun j => j = g ∨ BFoot bk kv j) w (w4.setCell ⟨bk, 1, none⟩ (.slice (some ⟨G, 0, none⟩) (Q.length + 4) cp)) ∧ NewRow w kv (.slice (some ⟨G, 0, none⟩) (Q.length + 4) cp) := by
  have tb : typ w bk 27 := typ_blk H.blk
  have tk : ∀ j, kv.ownBlock = some j → typ w j 53 := fun j hj => typ_own H.own j hj
  have hbg : bk ≠ g := typ_ne tb hgt (by decide)
  have tb3 : typ w3 bk 27 := typ_keep tb hk3 hbg
  have tk3 : ∀ j, kv.ownBlock = some j → typ w3 j 53 := fun j hj => typ_keep (tk j hj) hk3 (typ_ne (tk j hj) hgt (by decide))
  have hs3 := hk3.size
  have hka : Kept (fun j => kv.ownBlock = some j) w3 w4 := ((Kept.alloc w3 o).join (Kept.of_grown hgrow) (R := fun j => kv.ownBlock = some j) (fun _ _ e => e.elim) (fun _ _ e => e.symm))
  have hkb : ¬ kv.ownBlock = some bk := fun e => typ_ne (tk bk e) tb (by decide) rfl
  have hb4 : w4.heap[bk]? = some (.cells #[.slice none 0 0, kv] 27 (0, 0)) := by
    rw [hka.block bk (typ_lt tb3) hkb, hk3.block bk (typ_lt tb) hbg]; exact H.blk
  have hGb : G ≠ bk := by
    rcases hG with h | h
    · exact fun e => hkb (by rw [h, e])
    · have := typ_lt tb3; omega
  have hkall : Kept (fun j => kv.ownBlock = some j ∨ j = bk) w3 (w4.setCell ⟨bk, 1, none⟩ (.slice (some ⟨G, 0, none⟩) (Q.length + 4) cp)) :=
    hka.join (Kept.setCell w4 _ _) (fun _ _ e => Or.inl e) (fun _ _ e => Or.inr e)
  have keepM : ∀ {a l : Nat} {mm : Int}, Marked w3 a l mm → Marked (w4.setCell ⟨bk, 1, none⟩ (.slice (some ⟨G, 0, none⟩) (Q.length + 4) cp)) a l mm := by
    intro a l mm M
    refine M.keep hkall (fun e => ?_)
    rcases e with e | e
    · exact typ_ne (tk3 a e) M.typ (by decide) rfl
    · exact typ_ne M.typ tb3 (by decide) e
  have hquad : ∀ t : Nat, t < 4 → (-1000 - ((Q.length + t : Nat) : Int) / 4) = m := by
    intro t ht
    have := H.four
    rw [hm]; omega
  refine ⟨hb4, ⟨two_set hb4 _, ?_, ?_, ?_, ?_⟩, ?_, ?_⟩
  · have e1 : (Q ++ [(g, n, n), (g1, n + 1, c1), (g2, n + 2, c2), (g3, n + 3, c3)]).length = Q.length + 4 := by simp
    rw [e1, List.map_append]
    refine owns_block hown ?_
    intro j e
    simp only [Value.ownBlock, Option.some.injEq] at e
    subst e
    exact Below.heap_setCell _ _ _ _ hGb
  · intro i hi
    by_cases h0 : i < Q.length
    · rw [List.getElem_append_left h0]
      obtain ⟨cur, r1, r2⟩ := H.rows i h0
      have Mi : Marked w Q[i].1 Q[i].2.1 (-1000 - (i : Int) / 4) := ⟨cur, r1, r2⟩
      exact keepM (Mi.keep hk3 (hgQ i h0))
    · have h4 : i < Q.length + 4 := by simpa using hi
      obtain ⟨t, rfl⟩ : ∃ t, i = Q.length + t := ⟨i - Q.length, by omega⟩
      rw [List.getElem_append_right (by omega)]
      rw [hquad t (by omega)]
      simp only [show Q.length + t - Q.length = t from by omega]
      match t, (show t < 4 by omega) with
      | 0, _ => exact keepM M0
      | 1, _ => exact keepM M1
      | 2, _ => exact keepM M2
      | 3, _ => exact keepM M3
  · intro i hi
    by_cases h0 : i < Q.length
    · rw [List.getElem_append_left h0]
      exact H.short i h0
    · have h4 : i < Q.length + 4 := by simpa using hi
      obtain ⟨t, rfl⟩ : ∃ t, i = Q.length + t := ⟨i - Q.length, by omega⟩
      rw [List.getElem_append_right (by omega)]
      simp only [show Q.length + t - Q.length = t from by omega]
      match t, (show t < 4 by omega) with
      | 0, _ => show n ≤ 100; omega
      | 1, _ => show n + 1 ≤ 100; omega
      | 2, _ => show n + 2 ≤ 100; omega
      | 3, _ => show n + 3 ≤ 100; omega
  · have := H.four
    simp; omega
  · exact hk3.join hkall (fun _ _ e => Or.inl e) (fun _ _ e => by rcases e with e | e; exact Or.inr (Or.inr e); exact Or.inr (Or.inl e))
  · rcases hG with h | h
    · exact Or.inl h.symm
    · exact Or.inr ⟨G, rfl, by omega⟩

set_option maxHeartbeats 1600000 in
set_option maxRecDepth 100000 in
theorem keepKeys_any (bk g n : Nat) (kv : Value) (Q : List Lst) (ks : List Value) (w : World) (hQ : Q.length ≤ 1000000000) (hn : n ≤ 64) (hks : ks.length = n) (h : BookAt w bk kv Q)
    (hg : w.heap[g]? = some (.cells ks.toArray 3 (0, 0))) (hgQ : Hid (∀ i (h : i < Q.length), Q[i].1 ≠ g)) :
    Calls Try.prog 44 #[.pointer (some ⟨bk, 0, none⟩), .slice (some ⟨g, 0, none⟩) n n] w fun e w' => e = .returned (.tuple #[]) ∧
      ∃ kv' Q', BookAt w' bk kv' Q' ∧ Q'.length = Q.length + 4 ∧ Kept (fun j => j = g ∨ BFoot bk kv j) w w' ∧ NewRow w kv kv' := by
  obtain ⟨i0, hi, hz0, hz1, hz2⟩ := info_parts info_int
  obtain ⟨i1, hi1, hy0, hy1, hy2⟩ := info_parts info_ints
  obtain ⟨ao, cp, rfl⟩ : ∃ ao cp, kv = .slice ao Q.length cp := by
    rcases h.own.2 with ⟨rfl, h0⟩ | ⟨g, cp, _, rfl, _⟩
    · exact ⟨none, 0, by rw [h0]⟩
    · exact ⟨_, _, rfl⟩
  obtain ⟨c0, c1⟩ := book_cells h.blk
  have H := hide h
  have HG := hide hg
  have HL := hide hks
  clear h hg hks
  go_enter Try.func44, Try.ntmps44
  go_wp2
  generalize hm : -1000 - (Q.length : Int) / 4 = m
  have HM := hide hm
  clear hm
  go_loopw [5] (fun t wr => ∃ i : Nat, i ≤ n ∧ t = .int .i64 i ∧ Hid (FillAt g w wr 3 (marks n m) i)) (fun t _ => n - (intOf t).toNat)
  case atStart => exact ⟨0, Nat.zero_le _, rfl, ks, by rw [marks_len]; exact HL.out, by simp, HG.out, Kept.refl _ _⟩
  case round =>
    obtain ⟨i, hil, rfl, HF⟩ := hrel
    by_cases hlt : i < n
    · obtain ⟨old, o1, o2⟩ := HF.out.cell (by rw [marks_len]; exact hlt)
      have HS := hide (HF.out.step (.int .i64 m) (marks_get n m i hlt))
      clear HF c0 c1
      go_wp2
      go_roundw
      case rel => exact ⟨i + 1, by omega, by go_num, HS⟩
      case measure => simp [intOf]; omega
    · have HD := hide (HF.out.done (by rw [marks_len]; omega))
      have M00 : Hid (Marked wr g n m) := ⟨_, HD.out.1, fun j hj => by simpa using marks_get n m j hj⟩
      have K0 : Hid (Kept (fun j => j = g) w wr) := HD.out.2
      clear HF HD c0 c1
      go_wp2_with (at_builtin; refine wpList_append_fresh _ rfl (.tmp 26) (.tmp 28) 53 rfl 3 i0 (.int .i64 0) 1 8 Try.underlying53 hi hz0 hz1 hz2 rfl (by decide) ⟨g, 0, none⟩ n n (marks n m) rfl ?lo1 ?ol1 ⟨wr.heap.size, 0, none⟩ 1 1 (marks 1 m) rfl rfl ?nw1 (marks_one 1 m) (by decide) (by omega) ?b11 ?b12 ?_)
      case lo1 => rw [marks_len]; omega
      case ol1 => exact (M00.out.keep (Kept.alloc _ _) (fun e => e)).cells
      case nw1 => exact new_cells _ (marks 1 m) _ _ rfl
      case b11 => unfold maxLen; omega
      case b12 => omega
      intro g1 cp1 w1 hown1 hgrow1
      rw [marks_add] at hown1
      have F1 := hide (fresh_step hgrow1)
      have M11 := hide (marked_row hown1 (by omega))
      have M01 := hide (M00.out.keep F1.out (fun e => e))
      have K1 : Hid (Kept (fun j => j = g) w w1) := K0.out.join F1.out (fun _ _ e => e) (fun _ _ e => e.elim)
      clear hown1 hgrow1 F1 M00 K0
      go_wp2_with (at_builtin; refine wpList_append_fresh _ rfl (.tmp 30) (.tmp 33) 53 rfl 3 i0 (.int .i64 0) 1 8 Try.underlying53 hi hz0 hz1 hz2 rfl (by decide) ⟨g, 0, none⟩ n n (marks n m) rfl ?lo2 ?ol2 ⟨w1.heap.size, 0, none⟩ 2 2 (marks 2 m) rfl rfl ?nw2 (marks_one 2 m) (by decide) (by omega) ?b21 ?b22 ?_)
      case lo2 => rw [marks_len]; omega
      case ol2 => exact (M01.out.keep (Kept.alloc _ _) (fun e => e)).cells
      case nw2 => exact new_cells _ (marks 2 m) _ _ rfl
      case b21 => unfold maxLen; omega
      case b22 => omega
      intro g2 cp2 w2 hown2 hgrow2
      rw [marks_add] at hown2
      have F2 := hide (fresh_step hgrow2)
      have M22 := hide (marked_row hown2 (by omega))
      have M02 := hide (M01.out.keep F2.out (fun e => e))
      have M12 := hide (M11.out.keep F2.out (fun e => e))
      have K2 : Hid (Kept (fun j => j = g) w w2) := K1.out.join F2.out (fun _ _ e => e) (fun _ _ e => e.elim)
      clear hown2 hgrow2 F2 M01 M11 K1
      go_wp2_with (at_builtin; refine wpList_append_fresh _ rfl (.tmp 35) (.tmp 39) 53 rfl 3 i0 (.int .i64 0) 1 8 Try.underlying53 hi hz0 hz1 hz2 rfl (by decide) ⟨g, 0, none⟩ n n (marks n m) rfl ?lo3 ?ol3 ⟨w2.heap.size, 0, none⟩ 3 3 (marks 3 m) rfl rfl ?nw3 (marks_one 3 m) (by decide) (by omega) ?b31 ?b32 ?_)
      case lo3 => rw [marks_len]; omega
      case ol3 => exact (M02.out.keep (Kept.alloc _ _) (fun e => e)).cells
      case nw3 => exact new_cells _ (marks 3 m) _ _ rfl
      case b31 => unfold maxLen; omega
      case b32 => omega
      intro g3 cp3 w3 hown3 hgrow3
      rw [marks_add] at hown3
      have F3 := hide (fresh_step hgrow3)
      have M33 := hide (marked_row hown3 (by omega))
      have M03 := hide (M02.out.keep F3.out (fun e => e))
      have M13 := hide (M12.out.keep F3.out (fun e => e))
      have M23 := hide (M22.out.keep F3.out (fun e => e))
      have K3 : Hid (Kept (fun j => j = g) w w3) := K2.out.join F3.out (fun _ _ e => e) (fun _ _ e => e.elim)
      clear hown3 hgrow3 F3 M02 M12 M22 K2
      have hkg : ∀ j, (Value.slice ao Q.length cp).ownBlock = some j → ¬ j = g := fun j hj => typ_ne (typ_own H.out.own j hj) (typ_blk HG.out) (by decide)
      have HO : Hid (w3.ownsRow 0 53 1 (.slice ao Q.length cp) Q.length (Q.map sv)) := owns_block H.out.own (fun j hj => K3.out.block j (owns_lt H.out.own j hj) (hkg j hj))
      have HBk : Hid (w3.heap[bk]? = some (.cells #[.slice none 0 0, .slice ao Q.length cp] 27 (0, 0))) := by
        show _ = _
        rw [K3.out.block bk (heap_lt H.out.blk) (typ_ne (typ_blk H.out.blk) (typ_blk HG.out) (by decide))]; exact H.out.blk
      obtain ⟨c0, c1⟩ := book_cells HBk.out
      clear hkg
      go_wp2_with (at_builtin; refine wpList_append_mine _ rfl (.tmp 45) (.tmp 50) 25 rfl 53 i1 (.slice none 0 0) 1 24 Try.underlying25 hi1 hy0 hy1 hy2 rfl (by decide) _ _ _ rfl (HO.out.alloc _) ⟨w3.heap.size, 0, none⟩ 4 4 [sv (g, n, n), sv (g1, n + 1, cp1), sv (g2, n + 2, cp2), sv (g3, n + 3, cp3)] rfl rfl ?nw4 ?oc4 (by decide) ?b41 ?b42 ?_)
      case nw4 => exact new_cells _ [sv (g, n, n), sv (g1, n + 1, cp1), sv (g2, n + 2, cp2), sv (g3, n + 3, cp3)] _ _ rfl
      case oc4 => intro u hu; simp only [List.mem_cons, List.not_mem_nil, or_false] at hu; rcases hu with rfl | rfl | rfl | rfl <;> rfl
      case b41 => unfold maxLen; omega
      case b42 => omega
      intro G cp4 w4 hown4 hgrow4 hG4
      have R := hide (book_fin (c1 := cp1) (c2 := cp2) (c3 := cp3) H.out K3.out hgQ.out (typ_blk HG.out) hn HM.out.symm M03.out M13.out M23.out M33.out hgrow4 hown4 hG4)
      obtain ⟨d0, d1, e0, e1⟩ := two_cells R.out.1
      clear hown4 hgrow4 hG4 c0 c1 M03 M13 M23 M33 K3 HO HBk
      go_wp2
      go_end0
      obtain ⟨_, r1, r2, r3⟩ := R.out
      exact ⟨rfl, _, _, r1, by simp, r2, r3⟩
end Go.Proofs.Ytlfmfhmbkpnjbaa

namespace Go.Proofs.Ytlfmfhmbkpnjbaa
open Go.RowKit
theorem info_key_is : (Try.prog.info? 3).map (fun i => (i.zero, i.size, i.bytes)) = some (some (.int .i64 0), 1, 8) := by kernel_rfl

def keyCells_is (L : List (Int × ByteArray)) : List Value := L.map (fun p => (Value.int .i64) p.1)
theorem keyCells_len_is (L : List (Int × ByteArray)) : (keyCells_is L).length = L.length := by simp [keyCells_is]

set_option maxHeartbeats 400000 in
set_option maxRecDepth 100000 in
theorem keys_row_is (c n g cp : Nat) (L : List (Int × ByteArray)) (w : World) (hn : n ≤ 64) (hlen : L.length ≤ n) (h : Isis w c (.slice (some ⟨g, 0, none⟩) L.length cp) n L) :
    Calls Try.prog 42 #[.pointer (some ⟨c, 0, none⟩)] w fun e w' =>
      e = .returned (.slice (some ⟨w.heap.size, 0, none⟩) L.length L.length) ∧ w'.heap[w.heap.size]? = some (.cells (keyCells_is L).toArray 3 (0, 0)) ∧ Kept (fun _ => False) w w' := by
  obtain ⟨i0, hi, hz0, hz1, hz2⟩ := info_parts info_key_is
  obtain ⟨-, c1, -, -⟩ := two_cells h.1
  have H := hide h
  clear h
  go_enter Try.func42, Try.ntmps42
  go_wp2_with (at_make; refine wpList_make_full _ rfl (.tmp 9) (.tmp 9) 53 rfl 0 3 i0 (.int .i64 0) 1 Try.underlying53 hi hz0 hz1 .i64 .i64 _ _ L.length rfl rfl rfl rfl ?c1 ?c2 ?c3 ?_)
  case c1 => rw [hz2]; omega
  case c2 => unfold maxLen; omega
  case c3 => omega
  intro w1 hown1 hgrow1
  have HF : Hid (Filling w w1 3 (keyCells_is L) 0) := Filling.start (by rw [keyCells_len_is]; exact hown1) hgrow1
  have d1 : w1.cell? ⟨c, 1, none⟩ = some (.slice (some ⟨g, 0, none⟩) L.length cp) := (two_cells (CacheAt.keep H.out HF.out.kept (fun _ _ e => e)).1).2.1
  clear hown1 hgrow1 c1 hi hz0 hz1 hz2
  go_wp2
  go_loopw [16] (fun t wr => ∃ i : Nat, i ≤ L.length ∧ t = .int .i64 i ∧ Hid (Filling w wr 3 (keyCells_is L) i)) (fun t _ => L.length - (intOf t).toNat)
  case atStart => exact ⟨0, Nat.zero_le _, rfl, HF⟩
  case round =>
    obtain ⟨i, hil, rfl, HR⟩ := hrel
    clear HF d1
    have HC : Hid (Isis wr c (.slice (some ⟨g, 0, none⟩) L.length cp) n L) := CacheAt.keep H.out HR.out.kept (fun _ _ e => e)
    by_cases hlt : i < L.length
    · have d1 := (two_cells HC.out.1).2.1
      have hk := row_cell HC.out.2 (i * 2) _ (flat_key _ _ L i hlt)
      obtain ⟨old, o1, o2⟩ := HR.out.cell (by rw [keyCells_len_is]; exact hlt)
      have HS : Hid (Filling w (wr.setCell ⟨w.heap.size, i, none⟩ ((Value.int .i64) L[i].1)) 3 (keyCells_is L) (i + 1)) := HR.out.step _ (by simp [keyCells_is, hlt])
      clear HC HR
      go_wp2
      go_roundw
      case rel => exact ⟨i + 1, by omega, by go_num, HS⟩
      case measure => simp [intOf]; omega
    · have HD : Hid (wr.heap[w.heap.size]? = some (.cells (keyCells_is L).toArray 3 (0, 0)) ∧ Kept (fun _ => False) w wr) := HR.out.done (by rw [keyCells_len_is]; omega)
      clear HC HR
      go_wp2
      go_ret
      exact ⟨rfl, HD.out⟩

set_option maxHeartbeats 400000 in
set_option maxRecDepth 100000 in
theorem keys_nil_is (c : Nat) (cap : Int) (w : World) (h : w.heap[c]? = some (.cells #[.int .i64 cap, .slice none 0 0] 129 (0, 0))) :
    Calls Try.prog 42 #[.pointer (some ⟨c, 0, none⟩)] w fun e w' =>
      e = .returned (.slice (some ⟨w.heap.size, 0, none⟩) 0 0) ∧ w'.heap[w.heap.size]? = some (.cells #[] 3 (0, 0)) ∧ Kept (fun _ => False) w w' := by
  obtain ⟨i0, hi, hz0, hz1, hz2⟩ := info_parts info_key_is
  obtain ⟨-, c1, -, -⟩ := two_cells h
  have H := hide h
  clear h
  go_enter Try.func42, Try.ntmps42
  go_wp2_with (at_make; refine wpList_make_full _ rfl (.tmp 9) (.tmp 9) 53 rfl 0 3 i0 (.int .i64 0) 1 Try.underlying53 hi hz0 hz1 .i64 .i64 _ _ 0 rfl rfl rfl rfl ?c1 ?c2 ?c3 ?_)
  case c1 => rw [hz2]; omega
  case c2 => unfold maxLen; omega
  case c3 => omega
  intro w1 hown1 hgrow1
  have HF : Hid (Filling w w1 3 [] 0) := Filling.start hown1 hgrow1
  have d1 : w1.cell? ⟨c, 1, none⟩ = some (.slice none 0 0) := (two_cells (by rw [HF.out.kept.block c (heap_lt H.out) (fun e => e)]; exact H.out)).2.1
  clear hown1 hgrow1 c1 hi hz0 hz1 hz2
  go_wp2
  refine wp_loop_rounds 1 ?_
  rw [rounds_succ]
  go_wp2
  go_ret
  exact ⟨rfl, HF.out.done (Nat.le_refl _)⟩

theorem keys_is (c n : Nat) (r : Value) (L : List (Int × ByteArray)) (w : World) (hn : n ≤ 64) (hlen : L.length ≤ n) (h : Isis w c r n L) :
    Calls Try.prog 42 #[.pointer (some ⟨c, 0, none⟩)] w fun e w' =>
      e = .returned (.slice (some ⟨w.heap.size, 0, none⟩) L.length L.length) ∧ w'.heap[w.heap.size]? = some (.cells (keyCells_is L).toArray 3 (0, 0)) ∧ Kept (fun _ => False) w w' := by
  rcases h.2.2 with ⟨rfl, h0⟩ | ⟨g, cp, _, rfl, _⟩
  · obtain rfl : L = [] := List.eq_nil_of_length_eq_zero h0
    exact keys_nil_is c n w h.1
  · exact keys_row_is c n g cp L w hn hlen h
end Go.Proofs.Ytlfmfhmbkpnjbaa

namespace Go.Proofs.Ytlfmfhmbkpnjbaa
open Go.RowKit
theorem info_key_si : (Try.prog.info? 9).map (fun i => (i.zero, i.size, i.bytes)) = some (some (.string ByteArray.empty), 1, 16) := by kernel_rfl

def keyCells_si (L : List (ByteArray × Int)) : List Value := L.map (fun p => Value.string p.1)
theorem keyCells_len_si (L : List (ByteArray × Int)) : (keyCells_si L).length = L.length := by simp [keyCells_si]

set_option maxHeartbeats 400000 in
set_option maxRecDepth 100000 in
theorem keys_row_si (c n g cp : Nat) (L : List (ByteArray × Int)) (w : World) (hn : n ≤ 64) (hlen : L.length ≤ n) (h : Issi w c (.slice (some ⟨g, 0, none⟩) L.length cp) n L) :
    Calls Try.prog 43 #[.pointer (some ⟨c, 0, none⟩)] w fun e w' =>
      e = .returned (.slice (some ⟨w.heap.size, 0, none⟩) L.length L.length) ∧ w'.heap[w.heap.size]? = some (.cells (keyCells_si L).toArray 9 (0, 0)) ∧ Kept (fun _ => False) w w' := by
  obtain ⟨i0, hi, hz0, hz1, hz2⟩ := info_parts info_key_si
  obtain ⟨-, c1, -, -⟩ := two_cells h.1
  have H := hide h
  clear h
  go_enter Try.func43, Try.ntmps43
  go_wp2_with (at_make; refine wpList_make_full _ rfl (.tmp 9) (.tmp 9) 92 rfl 0 9 i0 (.string ByteArray.empty) 1 Try.underlying92 hi hz0 hz1 .i64 .i64 _ _ L.length rfl rfl rfl rfl ?c1 ?c2 ?c3 ?_)
  case c1 => rw [hz2]; omega
  case c2 => unfold maxLen; omega
  case c3 => omega
  intro w1 hown1 hgrow1
  have HF : Hid (Filling w w1 9 (keyCells_si L) 0) := Filling.start (by rw [keyCells_len_si]; exact hown1) hgrow1
  have d1 : w1.cell? ⟨c, 1, none⟩ = some (.slice (some ⟨g, 0, none⟩) L.length cp) := (two_cells (CacheAt.keep H.out HF.out.kept (fun _ _ e => e)).1).2.1
  clear hown1 hgrow1 c1 hi hz0 hz1 hz2
  go_wp2
  go_loopw [16] (fun t wr => ∃ i : Nat, i ≤ L.length ∧ t = .int .i64 i ∧ Hid (Filling w wr 9 (keyCells_si L) i)) (fun t _ => L.length - (intOf t).toNat)
  case atStart => exact ⟨0, Nat.zero_le _, rfl, HF⟩
  case round =>
    obtain ⟨i, hil, rfl, HR⟩ := hrel
    clear HF d1
    have HC : Hid (Issi wr c (.slice (some ⟨g, 0, none⟩) L.length cp) n L) := CacheAt.keep H.out HR.out.kept (fun _ _ e => e)
    by_cases hlt : i < L.length
    · have d1 := (two_cells HC.out.1).2.1
      have hk := row_cell HC.out.2 (i * 2) _ (flat_key _ _ L i hlt)
      obtain ⟨old, o1, o2⟩ := HR.out.cell (by rw [keyCells_len_si]; exact hlt)
      have HS : Hid (Filling w (wr.setCell ⟨w.heap.size, i, none⟩ (Value.string L[i].1)) 9 (keyCells_si L) (i + 1)) := HR.out.step _ (by simp [keyCells_si, hlt])
      clear HC HR
      go_wp2
      go_roundw
      case rel => exact ⟨i + 1, by omega, by go_num, HS⟩
      case measure => simp [intOf]; omega
    · have HD : Hid (wr.heap[w.heap.size]? = some (.cells (keyCells_si L).toArray 9 (0, 0)) ∧ Kept (fun _ => False) w wr) := HR.out.done (by rw [keyCells_len_si]; omega)
      clear HC HR
      go_wp2
      go_ret
      exact ⟨rfl, HD.out⟩

set_option maxHeartbeats 400000 in
set_option maxRecDepth 100000 in
theorem keys_nil_si (c : Nat) (cap : Int) (w : World) (h : w.heap[c]? = some (.cells #[.int .i64 cap, .slice none 0 0] 132 (0, 0))) :
    Calls Try.prog 43 #[.pointer (some ⟨c, 0, none⟩)] w fun e w' =>
      e = .returned (.slice (some ⟨w.heap.size, 0, none⟩) 0 0) ∧ w'.heap[w.heap.size]? = some (.cells #[] 9 (0, 0)) ∧ Kept (fun _ => False) w w' := by
  obtain ⟨i0, hi, hz0, hz1, hz2⟩ := info_parts info_key_si
  obtain ⟨-, c1, -, -⟩ := two_cells h
  have H := hide h
  clear h
  go_enter Try.func43, Try.ntmps43
  go_wp2_with (at_make; refine wpList_make_full _ rfl (.tmp 9) (.tmp 9) 92 rfl 0 9 i0 (.string ByteArray.empty) 1 Try.underlying92 hi hz0 hz1 .i64 .i64 _ _ 0 rfl rfl rfl rfl ?c1 ?c2 ?c3 ?_)
  case c1 => rw [hz2]; omega
  case c2 => unfold maxLen; omega
  case c3 => omega
  intro w1 hown1 hgrow1
  have HF : Hid (Filling w w1 9 [] 0) := Filling.start hown1 hgrow1
  have d1 : w1.cell? ⟨c, 1, none⟩ = some (.slice none 0 0) := (two_cells (by rw [HF.out.kept.block c (heap_lt H.out) (fun e => e)]; exact H.out)).2.1
  clear hown1 hgrow1 c1 hi hz0 hz1 hz2
  go_wp2
  refine wp_loop_rounds 1 ?_
  rw [rounds_succ]
  go_wp2
  go_ret
  exact ⟨rfl, HF.out.done (Nat.le_refl _)⟩

theorem keys_si (c n : Nat) (r : Value) (L : List (ByteArray × Int)) (w : World) (hn : n ≤ 64) (hlen : L.length ≤ n) (h : Issi w c r n L) :
    Calls Try.prog 43 #[.pointer (some ⟨c, 0, none⟩)] w fun e w' =>
      e = .returned (.slice (some ⟨w.heap.size, 0, none⟩) L.length L.length) ∧ w'.heap[w.heap.size]? = some (.cells (keyCells_si L).toArray 9 (0, 0)) ∧ Kept (fun _ => False) w w' := by
  rcases h.2.2 with ⟨rfl, h0⟩ | ⟨g, cp, _, rfl, _⟩
  · obtain rfl : L = [] := List.eq_nil_of_length_eq_zero h0
    exact keys_nil_si c n w h.1
  · exact keys_row_si c n g cp L w hn hlen h
end Go.Proofs.Ytlfmfhmbkpnjbaa

namespace Go.Proofs.Ytlfmfhmbkpnjbaa
open Go.RowKit

theorem five_cells {w : World} {c : Nat} {a b d e f : Value} {T : TypeId} (h : w.heap[c]? = some (.cells #[a, b, d, e, f] T (0, 0))) : w.cell? ⟨c, 0, none⟩ = some a ∧ w.cell? ⟨c, 1, none⟩ = some b ∧ w.cell? ⟨c, 2, none⟩ = some d ∧ w.cell? ⟨c, 3, none⟩ = some e ∧ w.cell? ⟨c, 4, none⟩ = some f := by
  refine ⟨?_, ?_, ?_, ?_, ?_⟩ <;> rw [cell_block h] <;> rfl

/-- The three caches, and the step in its box, in memory. -/
structure UMem (w : World) (ob : Nat) (kd ca k N : Int) (t : ByteArray) (cc x z y : Nat) (rx rz ry : Value) (n : Nat) (X : List Ent) (Z : List (ByteArray × Int)) (Y : List Ent) : Prop where
  tri : Tri w cc x z y rx rz ry n X Z Y
  box : w.heap[ob]? = some (.cells #[.int .i64 kd, .int .i64 ca, .int .i64 k, .int .i64 N, .string t] 33 (0, 0))

section
variable {w w' : World} {ob : Nat} {kd ca k N : Int} {t : ByteArray} {cc x z y : Nat} {rx rz ry : Value} {n : Nat} {X : List Ent} {Z : List (ByteArray × Int)} {Y : List Ent}

theorem UMem.cells (h : UMem w ob kd ca k N t cc x z y rx rz ry n X Z Y) : w.cell? ⟨cc, 0, none⟩ = some (.pointer (some ⟨x, 0, none⟩)) ∧ w.cell? ⟨cc, 1, none⟩ = some (.pointer (some ⟨z, 0, none⟩)) ∧ w.cell? ⟨cc, 2, none⟩ = some (.pointer (some ⟨y, 0, none⟩)) ∧
    w.cell? ⟨ob, 0, none⟩ = some (.int .i64 kd) ∧ w.cell? ⟨ob, 2, none⟩ = some (.int .i64 k) ∧ w.cell? ⟨ob, 4, none⟩ = some (.string t) :=
  ⟨(three_cells h.tri.blk).1, (three_cells h.tri.blk).2.1, (three_cells h.tri.blk).2.2, (five_cells h.box).1, (five_cells h.box).2.2.1, (five_cells h.box).2.2.2.2⟩

theorem UMem.bx (h : UMem w ob kd ca k N t cc x z y rx rz ry n X Z Y) (hb : Foot x rx ob) : False := by
  rcases h.tri.tx ob hb with q | q <;> exact typ_two (typ_blk h.box) q (by decide)
theorem UMem.bz (h : UMem w ob kd ca k N t cc x z y rx rz ry n X Z Y) (hb : Foot z rz ob) : False := by
  rcases h.tri.tz ob hb with q | q <;> exact typ_two (typ_blk h.box) q (by decide)
theorem UMem.by_ (h : UMem w ob kd ca k N t cc x z y rx rz ry n X Z Y) (hb : Foot y ry ob) : False := by
  rcases h.tri.ty ob hb with q | q <;> exact typ_two (typ_blk h.box) q (by decide)

theorem UMem.stepX {rx' : Value} {X' : List Ent} (h : UMem w ob kd ca k N t cc x z y rx rz ry n X Z Y) (hi : Isis w' x rx' n X') (hk : Kept (Foot x rx) w w') : UMem w' ob kd ca k N t cc x z y rx' rz ry n X' Z Y :=
  ⟨h.tri.stepX hi hk, by rw [hk.block ob (heap_lt h.box) (fun e => h.bx e)]; exact h.box⟩
theorem UMem.stepZ {rz' : Value} {Z' : List (ByteArray × Int)} (h : UMem w ob kd ca k N t cc x z y rx rz ry n X Z Y) (hi : Issi w' z rz' n Z') (hk : Kept (Foot z rz) w w') : UMem w' ob kd ca k N t cc x z y rx rz' ry n X Z' Y :=
  ⟨h.tri.stepZ hi hk, by rw [hk.block ob (heap_lt h.box) (fun e => h.bz e)]; exact h.box⟩
theorem UMem.stepY {ry' : Value} {Y' : List Ent} (h : UMem w ob kd ca k N t cc x z y rx rz ry n X Z Y) (hi : IsRef w' y ry' n Y') (hk : Kept (Foot y ry) w w') : UMem w' ob kd ca k N t cc x z y rx rz ry' n X Z Y' :=
  ⟨h.tri.stepY hi hk, by rw [hk.block ob (heap_lt h.box) (fun e => h.by_ e)]; exact h.box⟩
theorem UMem.same (h : UMem w ob kd ca k N t cc x z y rx rz ry n X Z Y) (hk : Kept (fun _ => False) w w') : UMem w' ob kd ca k N t cc x z y rx rz ry n X Z Y :=
  ⟨h.tri.keep hk (fun _ _ e => e), by rw [hk.block ob (heap_lt h.box) (fun e => e)]; exact h.box⟩
theorem UMem.start (h : Tri w cc x z y rx rz ry n X Z Y) : UMem (w.alloc (.cells #[.int .i64 kd, .int .i64 ca, .int .i64 k, .int .i64 N, .string t] 33)) w.heap.size kd ca k N t cc x z y rx rz ry n X Z Y :=
  ⟨h.keep (Kept.alloc _ _) (fun _ _ e => e), heap_alloc_new w _⟩
end

def isBook (w : World) (j : Nat) : Prop := typ w j 27 ∨ typ w j 53 ∨ typ w j 3

theorem BookAt.keep {w w' : World} {bk : Nat} {kv : Value} {Q : List Lst} {S : Nat → Prop} (h : BookAt w bk kv Q) (hk : Kept S w w') (hS : ∀ j, isBook w j → ¬ S j) : BookAt w' bk kv Q := by
  refine ⟨?_, owns_block h.own (fun g hg => hk.block g (owns_lt h.own g hg) (hS g (Or.inr (Or.inl (typ_own h.own g hg))))), ?_, h.short, h.four⟩
  · rw [hk.block bk (heap_lt h.blk) (hS bk (Or.inl (typ_blk h.blk)))]; exact h.blk
  · intro i hi
    obtain ⟨cur, r1, r2⟩ := h.rows i hi
    exact ⟨cur, by rw [hk.block _ (heap_lt r1) (hS _ (Or.inr (Or.inr (typ_blk r1))))]; exact r1, r2⟩

theorem Tri.notBook {w : World} {cc x z y : Nat} {rx rz ry : Value} {n : Nat} {X : List Ent} {Z : List (ByteArray × Int)} {Y : List Ent} (h : Tri w cc x z y rx rz ry n X Z Y) (j : Nat) (hj : TFoot cc x z y rx rz ry j) (hb : isBook w j) : False := by
  have two : ∀ t, typ w j t → t ≠ 27 → t ≠ 53 → t ≠ 3 → False := by
    intro t ht h1 h2 h3
    rcases hb with hb | hb | hb
    · exact typ_two ht hb h1
    · exact typ_two ht hb h2
    · exact typ_two ht hb h3
  rcases hj with rfl | hj | hj | hj
  · exact two _ h.tc (by decide) (by decide) (by decide)
  · rcases h.tx j hj with q | q <;> exact two _ q (by decide) (by decide) (by decide)
  · rcases h.tz j hj with q | q <;> exact two _ q (by decide) (by decide) (by decide)
  · rcases h.ty j hj with q | q <;> exact two _ q (by decide) (by decide) (by decide)

theorem foot_new {w : World} {c : Nat} {r r' : Value} (h : NewRow w r r') (j : Nat) (hj : Foot c r' j) : Foot c r j ∨ w.heap.size ≤ j := by
  rcases hj with rfl | hj
  · exact Or.inl (Or.inl rfl)
  · rcases h with h | ⟨g, h, hg⟩
    · exact Or.inl (Or.inr (by rw [← h]; exact hj))
    · rw [h] at hj
      simp only [Option.some.injEq] at hj
      subst hj
      exact Or.inr hg

/-- What a step on caches leaves. -/
def UsedPost (bk : Nat) (kv : Value) (Q : List Lst) (w : World) (cc x z y : Nat) (rx rz ry : Value) (n : Nat) (w' : World) : Prop :=
  ∃ rx' rz' ry' L' kv' Q', Tri w' cc x z y rx' rz' ry' n L' (L'.map tz) L' ∧ KeysOk L' ∧ L'.length ≤ n ∧ BookAt w' bk kv' Q' ∧ Q'.length ≤ Q.length + 4 ∧ Kept (fun j => TFoot cc x z y rx rz ry j ∨ BFoot bk kv j) w w' ∧
    (∀ j, TFoot cc x z y rx' rz' ry' j → TFoot cc x z y rx rz ry j ∨ w.heap.size ≤ j) ∧ (∀ j, BFoot bk kv' j → BFoot bk kv j ∨ w.heap.size ≤ j)

/-- Behind three calls, one a cache. -/
theorem used_fin {bk : Nat} {kv : Value} {Q : List Lst} {w w0 w1 w2 w3 w4 : World} {cc x z y : Nat} {rx rz ry rx1 rz3 ry4 : Value} {n : Nat} {L L' : List Ent} (h : Tri w cc x z y rx rz ry n L (L.map tz) L) (B : BookAt w bk kv Q)
    (k0 : Kept (fun _ => False) w w0) (k1 : Kept (Foot x rx) w0 w1) (n1 : NewRow w0 rx rx1) (k2 : Kept (fun _ => False) w1 w2) (k3 : Kept (Foot z rz) w2 w3) (n3 : NewRow w2 rz rz3) (k4 : Kept (Foot y ry) w3 w4) (n4 : NewRow w3 ry ry4)
    (ok : KeysOk L') (hl : L'.length ≤ n) (h4 : Tri w4 cc x z y rx1 rz3 ry4 n L' (L'.map tz) L') : UsedPost bk kv Q w cc x z y rx rz ry n w4 := by
  have ka : Kept (TFoot cc x z y rx rz ry) w w4 :=
    (((k0.join k1 (R := TFoot cc x z y rx rz ry) (fun _ _ e => e.elim) (fun _ _ e => Or.inr (Or.inl e))).join k2 (fun _ _ e => e) (fun _ _ e => e.elim)).join k3 (fun _ _ e => e) (fun _ _ e => Or.inr (Or.inr (Or.inl e)))).join k4 (fun _ _ e => e) (fun _ _ e => Or.inr (Or.inr (Or.inr e)))
  have s0 := k0.size
  have s1 := k1.size
  have s2 := k2.size
  have s3 := k3.size
  refine ⟨rx1, rz3, ry4, L', kv, Q, h4, ok, hl, B.keep ka (fun j hb hj => h.notBook j hj hb), by omega, ka.mono (fun _ _ e => Or.inl e), ?_, fun j hj => Or.inl hj⟩
  intro j hj
  rcases hj with rfl | hj | hj | hj
  · exact Or.inl (Or.inl rfl)
  · rcases foot_new n1 j hj with q | q
    · exact Or.inl (Or.inr (Or.inl q))
    · exact Or.inr (by omega)
  · rcases foot_new n3 j hj with q | q
    · exact Or.inl (Or.inr (Or.inr (Or.inl q)))
    · exact Or.inr (by omega)
  · rcases foot_new n4 j hj with q | q
    · exact Or.inl (Or.inr (Or.inr (Or.inr q)))
    · exact Or.inr (by omega)

set_option maxHeartbeats 1600000 in
set_option maxRecDepth 100000 in
theorem used_put (bk : Nat) (ca k N : Int) (t : ByteArray) (cc x z y : Nat) (rx rz ry : Value) (n : Nat) (L : List Ent) (kv : Value) (Q : List Lst) (w : World) (hk : In64 k) (hn0 : 1 ≤ n) (hn : n ≤ 64) (hL : L.length ≤ n) (ok : KeysOk L) (B : BookAt w bk kv Q)
    (h : Tri w cc x z y rx rz ry n L (L.map tz) L) :
    Calls Try.prog 11 #[.pointer (some ⟨bk, 0, none⟩), .pointer (some ⟨cc, 0, none⟩), .agg #[.int .i64 2, .int .i64 ca, .int .i64 k, .int .i64 N, .string t]] w fun e w' =>
      e = .returned (.bool true) ∧ UsedPost bk kv Q w cc x z y rx rz ry n w' := by
  have U0 := hide (UMem.start (kd := 2) (ca := ca) (k := k) (N := N) (t := t) h)
  obtain ⟨c0, c1, c2, o0, o2, o4⟩ := U0.out.cells
  have H := hide h
  have HB := hide B
  have OK := hide ok
  have hZ : (L.map tz).length ≤ n := by rw [List.length_map]; exact hL
  clear h B ok
  go_enter Try.func11, Try.ntmps11
  go_wp2
  generalize hw0 : w.alloc (.cells #[.int .i64 2, .int .i64 ca, .int .i64 k, .int .i64 N, .string t] 33) = w0 at *
  have HW := hide hw0
  clear hw0
  go_region_held3 (fun w' => w'.cell? ⟨cc, 0, none⟩ = some (.pointer (some ⟨x, 0, none⟩)) ∧ w'.cell? ⟨w.heap.size, 2, none⟩ = some (.int .i64 k) ∧ w'.cell? ⟨w.heap.size, 4, none⟩ = some (.string t)) (go_keep)
    ((go_at_call 35; refine (put_is x n rx k t L _ hn0 hn hL (by exact CacheAt.keep U0.out.tri.ix (Kept.drew _) (fun _ _ e => e))).mono ?_; rintro e w1 ⟨rfl, rx1, i1, k1, n1⟩; have U1 := hide (UMem.stepX (U0.out.same (Kept.drew _)) i1 k1); obtain ⟨b0, b1, b2, p0, p2, p4⟩ := U1.out.cells))
  have K1 := hide (And.intro k1 n1)
  clear c0 c1 c2 o0 o2 o4 i1 k1 n1
  go_wp2
  go_region_held3 (fun w' => w'.cell? ⟨cc, 1, none⟩ = some (.pointer (some ⟨z, 0, none⟩)) ∧ w'.cell? ⟨w.heap.size, 2, none⟩ = some (.int .i64 k) ∧ w'.cell? ⟨w.heap.size, 4, none⟩ = some (.string t)) (go_keep)
    (first | (go_at_call 37; refine (text_any k _ hk.1 hk.2).mono ?_; rintro e w2 ⟨rfl, q2⟩; have U2 := hide ((U1.out.same (Kept.drew _)).same q2); obtain ⟨d0, d1, d2, s0, s2, s4⟩ := U2.out.cells) | (go_at_call 36; refine (put_si z n rz (textOf k) (t.size : Int) (L.map tz) _ hn0 hn hZ (by exact U2.out.tri.iz)).mono ?_; rintro e w3 ⟨rfl, rz3, i3, k3, n3⟩; have U3 := hide (UMem.stepZ U2.out i3 k3); obtain ⟨f0, f1, f2, t0, t2, t4⟩ := U3.out.cells))
  have K3 := hide (And.intro ((Kept.drew w1).join q2 (R := fun _ => False) (fun _ _ e => e) (fun _ _ e => e)) (And.intro k3 n3))
  clear b0 b1 b2 p0 p2 p4 i3 k3 n3 q2 d0 d1 d2 s0 s2 s4 U2
  go_wp2
  go_region_held3 (fun w' => w'.cell? ⟨cc, 2, none⟩ = some (.pointer (some ⟨y, 0, none⟩)) ∧ w'.cell? ⟨w.heap.size, 2, none⟩ = some (.int .i64 k) ∧ w'.cell? ⟨w.heap.size, 4, none⟩ = some (.string t)) (go_keep)
    ((go_at_call 38; refine (refput y n ry k t L _ hn0 hn (by omega) (by exact (U3.out.same (Kept.drew _)).tri.iy)).mono ?_; rintro e w4 ⟨rfl, ry4, i4, k4, n4⟩; have U4 := hide (UMem.stepY (U3.out.same (Kept.drew _)) i4 k4); obtain ⟨g0, g1, g2, v0, v2, v4⟩ := U4.out.cells))
  have K4 := hide (And.intro k4 n4)
  clear i4 k4 n4 f0 f1 f2 t0 t2 t4 U3
  go_wp2
  go_ret
  refine ⟨rfl, ?_⟩
  have hz := z_put n L k t OK.out.rng hk
  have hr := ref_put n L (k, t) hn0 hL OK.out.nodup
  have T4 := U4.out.tri
  rw [hz, hr] at T4
  exact used_fin H.out HB.out (by rw [← HW.out]; exact (Kept.alloc w _).join (Kept.drew _) (fun _ _ e => e) (fun _ _ e => e)) K1.out.1 K1.out.2 K3.out.1 K3.out.2.1 K3.out.2.2 ((Kept.drew w3).join K4.out.1 (fun _ _ e => e.elim) (fun _ _ e => e)) K4.out.2 (OK.out.put k t hk) (putL_length n L (k, t) hn0 hL).1 T4
end Go.Proofs.Ytlfmfhmbkpnjbaa

namespace Go.Proofs.Ytlfmfhmbkpnjbaa
open Go.RowKit

set_option maxHeartbeats 1600000 in
set_option maxRecDepth 100000 in
theorem used_get (bk : Nat) (ca k N : Int) (t : ByteArray) (cc x z y : Nat) (rx rz ry : Value) (n : Nat) (L : List Ent) (kv : Value) (Q : List Lst) (w : World) (hk : In64 k) (hn : n ≤ 64) (hL : L.length ≤ n) (ok : KeysOk L) (B : BookAt w bk kv Q)
    (h : Tri w cc x z y rx rz ry n L (L.map tz) L) :
    Calls Try.prog 11 #[.pointer (some ⟨bk, 0, none⟩), .pointer (some ⟨cc, 0, none⟩), .agg #[.int .i64 3, .int .i64 ca, .int .i64 k, .int .i64 N, .string t]] w fun e w' =>
      e = .returned (.bool true) ∧ UsedPost bk kv Q w cc x z y rx rz ry n w' := by
  have U0 := hide (UMem.start (kd := 3) (ca := ca) (k := k) (N := N) (t := t) h)
  obtain ⟨c0, c1, c2, o0, o2, o4⟩ := U0.out.cells
  have H := hide h
  have HB := hide B
  have OK := hide ok
  have hZ : (L.map tz).length ≤ n := by rw [List.length_map]; exact hL
  obtain ⟨⟨v, b, M⟩, hg⟩ : ∃ q, getL_is L k = q := ⟨_, rfl⟩
  have hokM := ok.get k
  have hzg := z_get L k ok.rng hk
  have hrg := ref_get L k ok.nodup
  rw [hg] at hokM hzg hrg
  simp only at hokM hzg hrg
  have CX : Hid (∀ w0, Isis w0 x rx n L → Calls Try.prog 39 #[.pointer (some ⟨x, 0, none⟩), .int .i64 k] w0 fun e w' => e = .returned (.tuple #[.string v, .bool b]) ∧ Isis w' x rx n M ∧ Kept (Foot x rx) w0 w') := by
    intro w0 h0
    have := get_is x n rx k L w0 hn hL h0
    rw [hg] at this
    exact this
  have CZ : Hid (∀ w0, Issi w0 z rz n (L.map tz) → Calls Try.prog 40 #[.pointer (some ⟨z, 0, none⟩), .string (textOf k)] w0 fun e w' => e = .returned (.tuple #[.int .i64 (v.size : Int), .bool b]) ∧ Issi w' z rz n (M.map tz) ∧ Kept (Foot z rz) w0 w') := by
    intro w0 h0
    have := get_si z n rz (textOf k) (L.map tz) w0 hn hZ h0
    rw [hzg] at this
    exact this
  have CY : Hid (∀ w0, IsRef w0 y ry n L → Calls Try.prog 41 #[.pointer (some ⟨y, 0, none⟩), .int .i64 k] w0 fun e w' => e = .returned (.tuple #[.string v, .bool b]) ∧ ∃ r', IsRef w' y r' n M ∧ Kept (Foot y ry) w0 w' ∧ NewRow w0 ry r') := by
    intro w0 h0
    have := refget y n ry k L w0 (by omega) h0
    rw [hrg.1, hrg.2] at this
    exact this
  have OM := hide hokM
  clear h B ok hg hokM hzg hrg
  go_enter Try.func11, Try.ntmps11
  go_wp2
  generalize hw0 : w.alloc (.cells #[.int .i64 3, .int .i64 ca, .int .i64 k, .int .i64 N, .string t] 33) = w0 at *
  have HW := hide hw0
  clear hw0
  go_region_held3 (fun w' => w'.cell? ⟨cc, 0, none⟩ = some (.pointer (some ⟨x, 0, none⟩)) ∧ w'.cell? ⟨w.heap.size, 2, none⟩ = some (.int .i64 k)) (go_keep)
    ((go_at_call 39; refine (CX.out _ (by exact CacheAt.keep U0.out.tri.ix (Kept.drew _) (fun _ _ e => e))).mono ?_; rintro e w1 ⟨rfl, i1, k1⟩; have U1 := hide (UMem.stepX (U0.out.same (Kept.drew _)) i1 k1); obtain ⟨b0, b1, b2, p0, p2, p4⟩ := U1.out.cells))
  have K1 := hide k1
  clear c0 c1 c2 o0 o2 o4 i1 k1
  go_wp2
  go_region_held3 (fun w' => w'.cell? ⟨cc, 1, none⟩ = some (.pointer (some ⟨z, 0, none⟩)) ∧ w'.cell? ⟨w.heap.size, 2, none⟩ = some (.int .i64 k)) (go_keep)
    (first | (go_at_call 37; refine (text_any k _ hk.1 hk.2).mono ?_; rintro e w2 ⟨rfl, q2⟩; have U2 := hide ((U1.out.same (Kept.drew _)).same q2); obtain ⟨d0, d1, d2, s0, s2, s4⟩ := U2.out.cells) | (go_at_call 40; refine (CZ.out _ (by exact U2.out.tri.iz)).mono ?_; rintro e w3 ⟨rfl, i3, k3⟩; have U3 := hide (UMem.stepZ U2.out i3 k3); obtain ⟨f0, f1, f2, t0, t2, t4⟩ := U3.out.cells))
  have K3 := hide (And.intro ((Kept.drew w1).join q2 (R := fun _ => False) (fun _ _ e => e) (fun _ _ e => e)) k3)
  clear b0 b1 b2 p0 p2 p4 i3 k3 q2 d0 d1 d2 s0 s2 s4 U2
  go_wp2
  go_region_held3 (fun w' => w'.cell? ⟨cc, 2, none⟩ = some (.pointer (some ⟨y, 0, none⟩)) ∧ w'.cell? ⟨w.heap.size, 2, none⟩ = some (.int .i64 k)) (go_keep)
    ((go_at_call 41; refine (CY.out _ (by exact (U3.out.same (Kept.drew _)).tri.iy)).mono ?_; rintro e w4 ⟨rfl, ry4, i4, k4, n4⟩; have U4 := hide (UMem.stepY (U3.out.same (Kept.drew _)) i4 k4); obtain ⟨g0, g1, g2, v0, v2, v4⟩ := U4.out.cells))
  have K4 := hide (And.intro k4 n4)
  clear i4 k4 n4 f0 f1 f2 t0 t2 t4 U3
  go_wp2
  go_ret
  refine ⟨rfl, ?_⟩
  exact used_fin H.out HB.out (by rw [← HW.out]; exact (Kept.alloc w _).join (Kept.drew _) (fun _ _ e => e) (fun _ _ e => e)) K1.out (Or.inl rfl) K3.out.1 K3.out.2 (Or.inl rfl) ((Kept.drew w3).join K4.out.1 (fun _ _ e => e.elim) (fun _ _ e => e)) K4.out.2 OM.out.1 (by rw [OM.out.2]; exact hL) U4.out.tri

set_option maxHeartbeats 400000 in
set_option maxRecDepth 100000 in
/-- Another kind does nothing. -/
theorem used_none (bk : Nat) (kd ca k N : Int) (t : ByteArray) (cp : Value) (w : World) (h2 : (kd == 2) = false) (h3 : (kd == 3) = false) (h4 : (kd == 4) = false) :
    Calls Try.prog 11 #[.pointer (some ⟨bk, 0, none⟩), cp, .agg #[.int .i64 kd, .int .i64 ca, .int .i64 k, .int .i64 N, .string t]] w fun e w' =>
      e = .returned (.bool true) ∧ Kept (fun _ => False) w w' := by
  go_enter Try.func11, Try.ntmps11
  go_wp2
  go_ret
  exact ⟨rfl, Kept.alloc _ _⟩
end Go.Proofs.Ytlfmfhmbkpnjbaa
