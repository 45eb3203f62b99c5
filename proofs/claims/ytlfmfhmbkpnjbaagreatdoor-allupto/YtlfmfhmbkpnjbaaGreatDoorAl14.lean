import Derived.Test.YtlfmfhmbkpnjbaaGreatDoorAl13
import Derived.Lib.LaidTab
import Derived.Laws.Bits64b
import Derived.Laws.BytesArg
namespace Go.Proofs.YtlfmfhmbkpnjbaaGreatDoor
open Go.RowKit

theorem book_cells {w : World} {c : Nat} {a b d e f : Value} {T : TypeId} (h : w.heap[c]? = some (.cells #[a, b, d, e, f] T (0, 0))) : w.cell? ⟨c, 2, none⟩ = some d ∧ w.cell? ⟨c, 3, none⟩ = some e ∧ w.frozen? ⟨c, 2, none⟩ = false ∧ w.frozen? ⟨c, 3, none⟩ = false := by
  obtain ⟨_, _, h2, h3, _, h5⟩ := five_cells h
  exact ⟨h2, h3, h5 2, h5 3⟩
theorem book_set {w : World} {c : Nat} {a b d e f : Value} {T : TypeId} (h : w.heap[c]? = some (.cells #[a, b, d, e, f] T (0, 0))) (u : Value) : (w.setCell ⟨c, 2, none⟩ u).heap[c]? = some (.cells #[a, b, u, e, f] T (0, 0)) := by
  have := row_set h 2 u
  simpa using this

/-- The book: lists of entities, each written full with its mark; lists of keys: none. -/
structure BookF (w : World) (bk : Nat) (mv sv : Value) (ms : Int) (ev : Value) (Q : List Els) : Prop where
  blk : w.heap[bk]? = some (.cells #[mv, sv, ev, .slice none 0 0, .int .i64 ms] 51 (0, 0))
  own : w.ownsRow 0 36 1 ev Q.length (Q.map se)
  rows : ∀ i (h : i < Q.length), Reads w Q[i].1 (mks Q[i].2.1 ((i : Int) / 4))
  here : ∀ i (h : i < Q.length) j, HB Q[i].1 j → typ w j 83
  short : ∀ i (h : i < Q.length), Q[i].2.1 ≤ 100
  four : Q.length % 4 = 0

set_option maxHeartbeats 400000 in
set_option maxRecDepth 100000 in
theorem wholeF_nil (bk : Nat) (mv sv : Value) (ms : Int) (w : World) (h : w.heap[bk]? = some (.cells #[mv, sv, .slice none 0 0, .slice none 0 0, .int .i64 ms] 51 (0, 0))) :
    Calls Tryz.prog 17 #[.pointer (some ⟨bk, 2, none⟩)] w fun e w' => e = .returned (.bool true) ∧ w' = w := by
  obtain ⟨c0, c1, -, -⟩ := book_cells h
  clear h
  go_enter Tryz.func17, Tryz.ntmps17
  go_wp2
  refine wp_loop_rounds 1 ?_
  rw [rounds_succ]
  go_wp2
  refine wp_loop_rounds 1 ?_
  rw [rounds_succ]
  go_wp2
  go_ret
  exact ⟨rfl, rfl⟩

set_option maxHeartbeats 2000000 in
set_option maxRecDepth 100000 in
theorem wholeF_row (bk G cp : Nat) (mv sv : Value) (ms : Int) (Q : List Els) (w : World) (hQ : Q.length ≤ 1000000000) (h : BookF w bk mv sv ms (.slice (some ⟨G, 0, none⟩) Q.length cp) Q) :
    Calls Tryz.prog 17 #[.pointer (some ⟨bk, 2, none⟩)] w fun e w' => e = .returned (.bool true) ∧ Kept (fun _ => False) w w' := by
  have H := hide h
  clear h
  go_enter Tryz.func17, Tryz.ntmps17
  go_wp2
  go_loopw [3] (fun t wr => ∃ i : Nat, i ≤ Q.length ∧ t = .int .i64 i ∧ Hid (Kept (fun _ => False) w wr)) (fun t _ => Q.length - (intOf t).toNat)
  case atStart => exact ⟨0, Nat.zero_le _, rfl, Kept.refl _ _⟩
  case round =>
    obtain ⟨i, hi, rfl, HK⟩ := hrel
    have BR : Hid (wr.heap[bk]? = some (.cells #[mv, sv, .slice (some ⟨G, 0, none⟩) Q.length cp, .slice none 0 0, .int .i64 ms] 51 (0, 0))) := by show _ = _; rw [HK.out.block _ (heap_lt H.out.blk) (fun e => e)]; exact H.out.blk
    obtain ⟨c0, c1, -, -⟩ := book_cells BR.out
    by_cases hlt : i < Q.length
    · have hG : G < w.heap.size := owns_lt H.out.own G rfl
      have d1 : w.cell? ⟨G, i, none⟩ = some (se Q[i]) := row_cell H.out.own i _ (by simp [hlt])
      have HRD := hide (H.out.rows i hlt)
      have hsh := H.out.short i hlt
      obtain ⟨⟨p, l, cp2⟩, hq⟩ : ∃ q, Q[i] = q := ⟨_, rfl⟩
      rw [hq] at d1 HRD hsh
      simp only [se] at d1 HRD hsh
      clear hq
      have hib1 : (0 : Int) ≤ (i : Int) := by omega
      have hib2 : (i : Int) < (Q.length : Int) := by omega
      have HD : Hid (∀ w', Kept (fun _ => False) w w' → w'.cell? ⟨bk, 2, none⟩ = some (.slice (some ⟨G, 0, none⟩) Q.length cp) ∧ w'.cell? ⟨G, i, none⟩ = some (.slice p l cp2)) := fun w' hk =>
        ⟨by rw [cell_keep hk (heap_lt H.out.blk) (fun e => e)]; exact (book_cells H.out.blk).1, by rw [cell_keep hk hG (fun e => e)]; exact d1⟩
      clear c0 c1 d1 BR
      obtain ⟨c0, d1⟩ := HD.out wr HK.out
      go_wp2
      clear c0 d1
      have HK0 := HK
      clear HK
      go_loopw [4] (fun t wr => ∃ j : Nat, j ≤ l ∧ t = .int .i64 j ∧ Hid (Kept (fun _ => False) w wr)) (fun t _ => l - (intOf t).toNat)
      case atStart => exact ⟨0, Nat.zero_le _, rfl, HK0⟩
      case round =>
        obtain ⟨j, hj, rfl, HK⟩ := hrel
        obtain ⟨c0, d1⟩ := HD.out _ HK.out
        by_cases hjl : j < l
        · have hjl2 : j < (mks l ((i : Int) / 4)).length := by rw [mks_len]; exact hjl
          obtain ⟨b, off, rfl, hb, e0, e1, e2, e3, e4, e5, e6⟩ := (HRD.out.calm HK.out).at j hjl2
          have hmk : (mks l ((i : Int) / 4))[j] = markM ((i : Int) / 4) := by simp [mks]
          rw [hmk] at e0 e1 e2 e3 e4 e5 e6
          simp only [markM] at e0 e1 e2 e3 e4 e5 e6
          have hne := neq_mob (markM ((i : Int) / 4)) (markM ((i : Int) / 4))
          rw [eqM_mark] at hne
          simp only [markM] at hne
          have hjb1 : (0 : Int) ≤ (j : Int) := by omega
          have hjb2 : (j : Int) < (l : Int) := by omega
          have CE : Hid (∀ w', Kept (fun _ => False) wr w' → w'.cell? ⟨bk, 2, none⟩ = some (.slice (some ⟨G, 0, none⟩) Q.length cp) ∧ w'.cell? ⟨G, i, none⟩ = some (.slice (some ⟨b, off, none⟩) l cp2) ∧ w'.cell? ⟨b, off + j * 7, none⟩ = some (.int .i64 (-1000 - (i : Int) / 4)) ∧ w'.cell? ⟨b, off + j * 7 + 1, none⟩ = some (.int .i64 0) ∧ w'.cell? ⟨b, off + j * 7 + 2, none⟩ = some (.float .f32 0) ∧ w'.cell? ⟨b, off + j * 7 + 3, none⟩ = some (.float .f32 0) ∧ w'.cell? ⟨b, off + j * 7 + 4, none⟩ = some (.float .f32 0) ∧ w'.cell? ⟨b, off + j * 7 + 5, none⟩ = some (.float .f32 0) ∧ w'.cell? ⟨b, off + j * 7 + 6, none⟩ = some (.int .i64 7)) := fun w' hk => by
            obtain ⟨f0, f1⟩ := HD.out w' (HK.out.calm2 hk)
            refine ⟨f0, f1, ?_, ?_, ?_, ?_, ?_, ?_, ?_⟩
            all_goals rw [cell_keep hk hb (fun e => e)]; assumption
          go_wp2
          have hwr : IntKind.i64.wrap ((i : Int) / 4) = (i : Int) / 4 := wrap_id _ (by omega)
          clear HD HRD H
          have hk0 : 0 ≤ (i : Int) / 4 ∧ (i : Int) / 4 ≤ 4611686018427387904 := by omega
          go_region_held3 (fun w' => w'.cell? ⟨bk, 2, none⟩ = some (.slice (some ⟨G, 0, none⟩) Q.length cp) ∧ w'.cell? ⟨G, i, none⟩ = some (.slice (some ⟨b, off, none⟩) l cp2) ∧ w'.cell? ⟨b, off + j * 7, none⟩ = some (.int .i64 (-1000 - (i : Int) / 4)) ∧ w'.cell? ⟨b, off + j * 7 + 1, none⟩ = some (.int .i64 0) ∧ w'.cell? ⟨b, off + j * 7 + 2, none⟩ = some (.float .f32 0) ∧ w'.cell? ⟨b, off + j * 7 + 3, none⟩ = some (.float .f32 0) ∧ w'.cell? ⟨b, off + j * 7 + 4, none⟩ = some (.float .f32 0) ∧ w'.cell? ⟨b, off + j * 7 + 5, none⟩ = some (.float .f32 0) ∧ w'.cell? ⟨b, off + j * 7 + 6, none⟩ = some (.int .i64 7)) (go_keep)
            ((go_at_call 33; (try rw [hwr]); refine (badEntity_c ((i : Int) / 4) _ hk0).mono ?_; rintro e w4 ⟨rfl, q4⟩; have K4 := hide ((Kept.drew wr).calm2 q4); obtain ⟨v0, v1, v2, v3, v4, v5, v6, v7, v8⟩ := CE.out w4 K4.out; clear q4))
          go_wp2
          go_roundw
          case rel => exact ⟨j + 1, by omega, by go_num, HK.out.calm2 K4.out⟩
          case measure => simp [intOf]; omega
        · go_wp2
          go_roundw
          case rel => exact ⟨i + 1, by omega, by go_num, HK⟩
          case measure => simp [intOf]; omega
    · go_wp2
      refine wp_loop_rounds 1 ?_
      rw [rounds_succ]
      go_wp2
      go_ret
      exact ⟨rfl, HK.out⟩

theorem wholeF (bk : Nat) (mv sv : Value) (ms : Int) (ev : Value) (Q : List Els) (w : World) (hQ : Q.length ≤ 1000000000) (h : BookF w bk mv sv ms ev Q) :
    Calls Tryz.prog 17 #[.pointer (some ⟨bk, 2, none⟩)] w fun e w' => e = .returned (.bool true) ∧ Kept (fun _ => False) w w' := by
  rcases h.own.2 with ⟨rfl, _⟩ | ⟨G, cp, _, rfl, _⟩
  · refine (wholeF_nil bk mv sv ms w h.blk).mono ?_
    rintro e w' ⟨rfl, rfl⟩
    exact ⟨rfl, Kept.refl _ _⟩
  · exact wholeF_row bk G cp mv sv ms Q w hQ h
end Go.Proofs.YtlfmfhmbkpnjbaaGreatDoor

namespace Go.Proofs.YtlfmfhmbkpnjbaaGreatDoor
open Go.RowKit

theorem bookF_fin {w w3 w4 : World} {bk n cap a G cp c1 c2 c3 : Nat} {mv sv : Value} {ms : Int} {p p1 p2 p3 : Option Addr} {ev : Value} {Q : List Els} {k : Int} {o : Obj} (H : BookF w bk mv sv ms ev Q) (hk3 : Kept (HB p) w w3) (hp : ∀ j, HB p j → typ w j 83)
    (hgQ : ∀ i (h : i < Q.length) j, HB Q[i].1 j → ¬ HB p j) (hn : n ≤ 64) (hk : k = (Q.length : Int) / 4) (HM : Home w3 p a cap k) (hna : n ≤ a) (G1 : Good w3 p p1 (n + 1) a k) (G2 : Good w3 p p2 (n + 2) a k) (G3 : Good w3 p p3 (n + 3) a k)
    (hgrow : (w3.alloc o).grownBy w4 ev.ownBlock) (hown : w4.ownsRow 0 36 1 (.slice (some ⟨G, 0, none⟩) (Q.length + 4) cp) (Q.length + 4) (Q.map se ++ [se (p, n, cap), se (p1, n + 1, c1), se (p2, n + 2, c2), se (p3, n + 3, c3)])) (hG : ev.ownBlock = some G ∨ w3.heap.size + 1 ≤ G) :
    w4.heap[bk]? = some (.cells #[mv, sv, ev, .slice none 0 0, .int .i64 ms] 51 (0, 0)) ∧
    BookF (w4.setCell ⟨bk, 2, none⟩ (.slice (some ⟨G, 0, none⟩) (Q.length + 4) cp)) bk mv sv ms (.slice (some ⟨G, 0, none⟩) (Q.length + 4) cp) (Q ++ [(p, n, cap), (p1, n + 1, c1), (p2, n + 2, c2), (p3, n + 3, c3)]) ∧
      Kept (fun j => HB p j ∨ j = bk ∨ ev.ownBlock = some j) w (w4.setCell ⟨bk, 2, none⟩ (.slice (some ⟨G, 0, none⟩) (Q.length + 4) cp)) ∧ (ev.ownBlock = some G ∨ w.heap.size ≤ G) := by
  have tb : typ w bk 51 := typ_blk H.blk
  have tk : ∀ j, ev.ownBlock = some j → typ w j 36 := fun j hj => typ_own H.own j hj
  have hbg : ¬ HB p bk := fun e => typ_ne tb (hp bk e) (by decide) rfl
  have tb3 : typ w3 bk 51 := typ_keep tb hk3 hbg
  have hek : ∀ j, ev.ownBlock = some j → ¬ HB p j := fun j hj e => typ_ne (tk j hj) (hp j e) (by decide) rfl
  have tk3 : ∀ j, ev.ownBlock = some j → typ w3 j 36 := fun j hj => typ_keep (tk j hj) hk3 (hek j hj)
  have hs3 := hk3.size
  have hka : Kept (fun j => ev.ownBlock = some j) w3 w4 := ((Kept.alloc w3 o).join (Kept.of_grown hgrow) (R := fun j => ev.ownBlock = some j) (fun _ _ e => e.elim) (fun _ _ e => e.symm))
  have hkb : ¬ ev.ownBlock = some bk := fun e => typ_ne (tk bk e) tb (by decide) rfl
  have hb4 : w4.heap[bk]? = some (.cells #[mv, sv, ev, .slice none 0 0, .int .i64 ms] 51 (0, 0)) := by
    rw [hka.block bk (typ_lt tb3) hkb, hk3.block bk (typ_lt tb) hbg]; exact H.blk
  have hGb : G ≠ bk := by
    rcases hG with h | h
    · exact fun e => hkb (by rw [h, e])
    · have := typ_lt tb3; omega
  have hkall : Kept (fun j => ev.ownBlock = some j ∨ j = bk) w3 (w4.setCell ⟨bk, 2, none⟩ (.slice (some ⟨G, 0, none⟩) (Q.length + 4) cp)) :=
    hka.join (Kept.setCell w4 _ _) (fun _ _ e => Or.inl e) (fun _ _ e => Or.inr e)
  have far : ∀ j, typ w3 j 83 → ¬ (ev.ownBlock = some j ∨ j = bk) := fun j hj e => by
    rcases e with e | e
    · exact typ_ne (tk3 j e) hj (by decide) rfl
    · exact typ_ne hj tb3 (by decide) e
  have keepR : ∀ {q : Option Addr} {L : List Mob}, Reads w3 q L → (∀ j, HB q j → typ w3 j 83) → Reads (w4.setCell ⟨bk, 2, none⟩ (.slice (some ⟨G, 0, none⟩) (Q.length + 4) cp)) q L :=
    fun hr ht => hr.keep hkall (fun b off e => far b (ht b ⟨off, e⟩))
  have keepT : ∀ {j : Nat}, typ w3 j 83 → typ (w4.setCell ⟨bk, 2, none⟩ (.slice (some ⟨G, 0, none⟩) (Q.length + 4) cp)) j 83 := fun ht => typ_keep ht hkall (far _ ht)
  have told : ∀ i (h : i < Q.length) j, HB Q[i].1 j → typ w3 j 83 := fun i h j hj => typ_keep (H.here i h j hj) hk3 (hgQ i h j hj)
  have hquad : ∀ t : Nat, t < 4 → ((Q.length + t : Nat) : Int) / 4 = k := by
    intro t ht
    have := H.four
    rw [hk]; omega
  have e1 : (Q ++ [(p, n, cap), (p1, n + 1, c1), (p2, n + 2, c2), (p3, n + 3, c3)]).length = Q.length + 4 := by simp
  refine ⟨hb4, ⟨book_set hb4 _, ?_, ?_, ?_, ?_, ?_⟩, ?_, ?_⟩
  · rw [e1, List.map_append]
    refine owns_block hown ?_
    intro j e
    simp only [Value.ownBlock, Option.some.injEq] at e
    subst e
    exact Below.heap_setCell _ _ _ _ hGb
  · intro i hi
    by_cases h0 : i < Q.length
    · rw [List.getElem_append_left h0]
      exact keepR ((H.rows i h0).keep hk3 (fun b off e => hgQ i h0 b ⟨off, e⟩)) (told i h0)
    · have h4 : i < Q.length + 4 := by simpa using hi
      obtain ⟨t, rfl⟩ : ∃ t, i = Q.length + t := ⟨i - Q.length, by omega⟩
      rw [List.getElem_append_right (by omega)]
      rw [hquad t (by omega)]
      simp only [show Q.length + t - Q.length = t from by omega]
      match t, (show t < 4 by omega) with
      | 0, _ => exact keepR (HM.reads n hna) (fun j hj => HM.typ j hj)
      | 1, _ => exact keepR (G1.reads HM) (fun j hj => G1.typ HM j hj)
      | 2, _ => exact keepR (G2.reads HM) (fun j hj => G2.typ HM j hj)
      | 3, _ => exact keepR (G3.reads HM) (fun j hj => G3.typ HM j hj)
  · intro i hi
    by_cases h0 : i < Q.length
    · rw [List.getElem_append_left h0]
      exact fun j hj => keepT (told i h0 j hj)
    · have h4 : i < Q.length + 4 := by simpa using hi
      obtain ⟨t, rfl⟩ : ∃ t, i = Q.length + t := ⟨i - Q.length, by omega⟩
      rw [List.getElem_append_right (by omega)]
      simp only [show Q.length + t - Q.length = t from by omega]
      match t, (show t < 4 by omega) with
      | 0, _ => exact fun j hj => keepT (HM.typ j hj)
      | 1, _ => exact fun j hj => keepT (G1.typ HM j hj)
      | 2, _ => exact fun j hj => keepT (G2.typ HM j hj)
      | 3, _ => exact fun j hj => keepT (G3.typ HM j hj)
  · intro i hi
    by_cases h0 : i < Q.length
    · rw [List.getElem_append_left h0]
      exact H.short i h0
    · have h4 : i < Q.length + 4 := by simpa using hi
      obtain ⟨t, rfl⟩ : ∃ t, i = Q.length + t := ⟨i - Q.length, by omega⟩
      rw [List.getElem_append_right (by omega)]
      simp only [show Q.length + t - Q.length = t from by omega]
      match t, (show t < 4 by omega) with
      | 0, _ => show n ≤ 100; omega
      | 1, _ => show n + 1 ≤ 100; omega
      | 2, _ => show n + 2 ≤ 100; omega
      | 3, _ => show n + 3 ≤ 100; omega
  · have := H.four
    rw [e1]; omega
  · exact hk3.join hkall (fun _ _ e => Or.inl e) (fun _ _ e => by rcases e with e | e; exact Or.inr (Or.inr e); exact Or.inr (Or.inl e))
  · rcases hG with h | h
    · exact Or.inl h
    · exact Or.inr (by omega)

set_option maxHeartbeats 4000000 in
set_option maxRecDepth 100000 in
theorem keepF (bk n cap : Nat) (mv sv : Value) (ms : Int) (p : Option Addr) (ev : Value) (Q : List Els) (w : World) (hQ : Q.length ≤ 1000000000) (hn : n ≤ 64) (h : BookF w bk mv sv ms ev Q) (hr : Raw w p n cap) (hgQ : ∀ i (h : i < Q.length) j, HB Q[i].1 j → ¬ HB p j) :
    Calls Tryz.prog 61 #[.pointer (some ⟨bk, 2, none⟩), .slice p n cap] w fun e w' => e = .returned (.tuple #[]) ∧
      ∃ ev' Q', BookF w' bk mv sv ms ev' Q' ∧ Q'.length = Q.length + 4 ∧ Kept (fun j => HB p j ∨ j = bk ∨ ev.ownBlock = some j) w w' ∧ ∀ j, ev'.ownBlock = some j → ev.ownBlock = some j ∨ w.heap.size ≤ j := by
  obtain ⟨i1, hi1, hy0, hy1, hy2⟩ := info_parts info_ents
  have hsf := store_float Tryz.prog
  obtain ⟨ao, cp, rfl⟩ : ∃ ao cp, ev = .slice ao Q.length cp := by
    rcases h.own.2 with ⟨rfl, h0⟩ | ⟨g, cp, _, rfl, _⟩
    · exact ⟨none, 0, by rw [h0]⟩
    · exact ⟨_, _, rfl⟩
  obtain ⟨c0, c1, -, -⟩ := book_cells h.blk
  have H := hide h
  have HRW := hide hr
  have HGQ := hide hgQ
  have hcap := hr.cap
  clear h hr hgQ
  have hwr : IntKind.i64.wrap ((Q.length : Int) / 4) = (Q.length : Int) / 4 := wrap_id _ (by omega)
  go_enter Tryz.func61, Tryz.ntmps61
  go_wp2_with fail
  try rw [hwr]
  refine (badEntity_c ((Q.length : Int) / 4) _ (by omega)).mono ?_
  rintro e w1 ⟨rfl, q1⟩
  have K1 := hide q1
  clear q1 c0 c1 hwr
  have HKQ : Hid (∃ k : Int, k = (Q.length : Int) / 4) := ⟨_, rfl⟩
  obtain ⟨k, hk⟩ := HKQ.out
  clear HKQ
  rw [← hk]
  have HKK := hide hk
  clear hk
  have MN := hide (heap_alloc_new w1 (.cells #[.int .i64 (-1000 - k), .int .i64 0, .float .f32 0, .float .f32 0, .float .f32 0, .float .f32 0, .int .i64 7] 83))
  have KM := hide (K1.out.calm2 (Kept.alloc w1 (.cells #[.int .i64 (-1000 - k), .int .i64 0, .float .f32 0, .float .f32 0, .float .f32 0, .float .f32 0, .int .i64 7] 83)))
  have hw1 := K1.out.size
  go_wp2
  generalize w1.alloc (.cells #[.int .i64 (-1000 - k), .int .i64 0, .float .f32 0, .float .f32 0, .float .f32 0, .float .f32 0, .int .i64 7] 83) = W at *
  have hpw : Hid (∀ j, HB p j → typ w j 83) := fun j hj => (HRW.out.home k).typ j hj
  have hpm : Hid (¬ HB p w1.heap.size) := fun e => by have := typ_lt (hpw.out _ e); omega
  have HM0 : Hid (Home W p 0 cap k) := (HRW.out.home k).keep KM.out (fun _ _ e => e)
  go_loopw [5] (fun t wr => ∃ i : Nat, i ≤ n ∧ t = .int .i64 i ∧ Hid (Home wr p i cap k) ∧ Hid (Kept (HB p) W wr)) (fun t _ => n - (intOf t).toNat)
  case atStart => exact ⟨0, Nat.zero_le _, rfl, HM0, Kept.refl _ _⟩
  case round =>
    obtain ⟨i, hil, rfl, HE, HK⟩ := hrel
    clear HM0
    have MR : Hid (wr.heap[w1.heap.size]? = some (.cells #[.int .i64 (-1000 - k), .int .i64 0, .float .f32 0, .float .f32 0, .float .f32 0, .float .f32 0, .int .i64 7] 83 (0, 0))) := by show _ = _; rw [HK.out.block _ (heap_lt MN.out) hpm.out]; exact MN.out
    obtain ⟨m0, m1, m2, m3, m4, m5, m6⟩ := seven_cells MR.out
    by_cases hlt : i < n
    · obtain ⟨g, cur, rfl, hg, hcl, -, hct⟩ : ∃ g cur, p = some ⟨g, 0, none⟩ ∧ wr.heap[g]? = some (.cells (cur : List Value).toArray 83 (0, 0)) ∧ cur.length = cap * 7 ∧ i ≤ cap ∧ cur.take (i * 7) = rowM (mks i k) := by
        rcases HE.out with ⟨_, _, h3⟩ | hh
        · omega
        · exact hh
      have hb1 : (0 : Int) ≤ (i : Int) := by omega
      have hb2 : (i : Int) < (n : Int) := by omega
      have hal : i * 7 + 7 ≤ cur.length := by rw [hcl]; omega
      obtain ⟨u0, u1, u2, u3, u4, u5, u6, f0, f1, f2, f3, f4, f5, f6⟩ := seven_old hg (i * 7) hal
      have ffz : ∀ j, wr.frozen? ⟨g, j, none⟩ = false := fun j => by simp [World.frozen?, hg]
      have ST := hide (store7 hg (i * 7) (markM k) hal)
      have HG := hide hg
      clear hg
      go_wp2
      go_roundw
      case rel => exact ⟨i + 1, by omega, by go_num, Home.more hcl (by omega) hct ST.out.1, HK.out.join ST.out.2 (fun _ _ e => e) (fun j _ e => ⟨0, by rw [e]⟩)⟩
      case measure => simp [intOf]; omega
    · obtain rfl : i = n := by omega
      go_wp2_with (at_builtin; refine wpList_append_mark _ rfl (.tmp 26) (.tmp 28) rfl p i cap i k rfl (HE.out.keep (Kept.alloc wr _) (fun _ _ e => e)) (Nat.le_refl _) ⟨wr.heap.size, 0, none⟩ 1 1 rfl ?nw1 (by decide) (by omega) ?_)
      case nw1 => exact new_cells _ (rowM (mks 1 k)) _ _ rfl
      intro p1 cp1 wx a1 HM1 ha1 G1 KX1
      have KY1 : Hid (Kept (HB p) wr wx) := (Kept.alloc wr _).join KX1.out (fun _ _ e => e.elim) (fun _ _ e => e)
      have HK : Hid (Kept (HB p) W wx) := HK.out.join KY1.out (fun _ _ e => e) (fun _ _ e => e)
      have MR : Hid (wx.heap[w1.heap.size]? = some (.cells #[.int .i64 (-1000 - k), .int .i64 0, .float .f32 0, .float .f32 0, .float .f32 0, .float .f32 0, .int .i64 7] 83 (0, 0))) := by show _ = _; rw [HK.out.block _ (heap_lt MN.out) hpm.out]; exact MN.out
      clear KX1 KY1 HE m0 m1 m2 m3 m4 m5 m6
      obtain ⟨m0, m1, m2, m3, m4, m5, m6⟩ := seven_cells MR.out
      go_wp2_with (at_builtin; refine wpList_append_mark _ rfl (.tmp 30) (.tmp 33) rfl p i cap a1 k rfl (HM1.out.keep (Kept.alloc wx _) (fun _ _ e => e)) (ha1) ⟨wx.heap.size, 0, none⟩ 2 2 rfl ?nw2 (by decide) (by omega) ?_)
      case nw2 => exact new_cells _ (rowM (mks 2 k)) _ _ rfl
      intro p2 cp2 wy a2 HM2 ha2 G2 KX2
      have KY2 : Hid (Kept (HB p) wx wy) := (Kept.alloc wx _).join KX2.out (fun _ _ e => e.elim) (fun _ _ e => e)
      have HK : Hid (Kept (HB p) W wy) := HK.out.join KY2.out (fun _ _ e => e) (fun _ _ e => e)
      have MR : Hid (wy.heap[w1.heap.size]? = some (.cells #[.int .i64 (-1000 - k), .int .i64 0, .float .f32 0, .float .f32 0, .float .f32 0, .float .f32 0, .int .i64 7] 83 (0, 0))) := by show _ = _; rw [HK.out.block _ (heap_lt MN.out) hpm.out]; exact MN.out
      have G1 := hide (G1.out.keep KY2.out ha2)
      clear KX2 KY2 HM1 m0 m1 m2 m3 m4 m5 m6
      obtain ⟨m0, m1, m2, m3, m4, m5, m6⟩ := seven_cells MR.out
      go_wp2_with (at_builtin; refine wpList_append_mark _ rfl (.tmp 35) (.tmp 39) rfl p i cap a2 k rfl (HM2.out.keep (Kept.alloc wy _) (fun _ _ e => e)) ((by omega)) ⟨wy.heap.size, 0, none⟩ 3 3 rfl ?nw3 (by decide) (by omega) ?_)
      case nw3 => exact new_cells _ (rowM (mks 3 k)) _ _ rfl
      intro p3 cp3 wz a3 HM3 ha3 G3 KX3
      have KY3 : Hid (Kept (HB p) wy wz) := (Kept.alloc wy _).join KX3.out (fun _ _ e => e.elim) (fun _ _ e => e)
      have HK : Hid (Kept (HB p) W wz) := HK.out.join KY3.out (fun _ _ e => e) (fun _ _ e => e)
      have MR : Hid (wz.heap[w1.heap.size]? = some (.cells #[.int .i64 (-1000 - k), .int .i64 0, .float .f32 0, .float .f32 0, .float .f32 0, .float .f32 0, .int .i64 7] 83 (0, 0))) := by show _ = _; rw [HK.out.block _ (heap_lt MN.out) hpm.out]; exact MN.out
      have G1 := hide (G1.out.keep KY3.out ha3)
      have G2 := hide (G2.out.keep KY3.out ha3)
      clear KX3 KY3 HM2 m0 m1 m2 m3 m4 m5 m6
      obtain ⟨m0, m1, m2, m3, m4, m5, m6⟩ := seven_cells MR.out
      have K3 : Hid (Kept (HB p) w wz) := KM.out.join HK.out (fun _ _ e => e.elim) (fun _ _ e => e)
      have hkg : ∀ j, (Value.slice ao Q.length cp).ownBlock = some j → ¬ HB p j := fun j hj e => typ_ne (typ_own H.out.own j hj) (hpw.out j e) (by decide) rfl
      have HO : Hid (wz.ownsRow 0 36 1 (.slice ao Q.length cp) Q.length (Q.map se)) := owns_block H.out.own (fun j hj => K3.out.block j (owns_lt H.out.own j hj) (hkg j hj))
      have HBk : Hid (wz.heap[bk]? = some (.cells #[mv, sv, .slice ao Q.length cp, .slice none 0 0, .int .i64 ms] 51 (0, 0))) := by
        show _ = _
        rw [K3.out.block bk (heap_lt H.out.blk) (fun e => typ_ne (typ_blk H.out.blk) (hpw.out bk e) (by decide) rfl)]; exact H.out.blk
      obtain ⟨c0, c1, -, -⟩ := book_cells HBk.out
      clear hkg m0 m1 m2 m3 m4 m5 m6 HK MR
      go_wp2_with (at_builtin; refine wpList_append_mine _ rfl (.tmp 45) (.tmp 50) 47 rfl 36 i1 (.slice none 0 0) 1 24 Tryz.underlying47 hi1 hy0 hy1 hy2 rfl (by decide) _ _ _ rfl (HO.out.alloc _) ⟨wz.heap.size, 0, none⟩ 4 4 [se (p, i, cap), se (p1, i + 1, cp1), se (p2, i + 2, cp2), se (p3, i + 3, cp3)] rfl rfl ?nw4 ?oc4 (by decide) ?b41 ?b42 ?_)
      case nw4 => exact new_cells _ [se (p, i, cap), se (p1, i + 1, cp1), se (p2, i + 2, cp2), se (p3, i + 3, cp3)] _ _ rfl
      case oc4 => intro u hu; simp only [List.mem_cons, List.not_mem_nil, or_false] at hu; rcases hu with rfl | rfl | rfl | rfl <;> rfl
      case b41 => unfold maxLen; omega
      case b42 => omega
      intro G cp4 w4 hown4 hgrow4 hG4
      have R := hide (bookF_fin (c1 := cp1) (c2 := cp2) (c3 := cp3) H.out K3.out hpw.out HGQ.out hn HKK.out HM3.out (by omega) G1.out G2.out G3.out hgrow4 hown4 hG4)
      obtain ⟨d0, d1, e0, e1⟩ := book_cells R.out.1
      clear hown4 hgrow4 hG4 c0 c1 G1 G2 G3 HM3 K3 HO HBk
      go_wp2
      go_end0
      obtain ⟨_, r1, r2, r3⟩ := R.out
      refine ⟨rfl, _, _, r1, by simp, r2, fun j hj => ?_⟩
      simp only [Value.ownBlock, Option.some.injEq] at hj
      subst hj
      exact r3
end Go.Proofs.YtlfmfhmbkpnjbaaGreatDoor

namespace Go.Proofs.YtlfmfhmbkpnjbaaGreatDoor
open Go.RowKit

/-- A digit; a number by its digits to the base 16. -/
def hexc (d : Nat) : UInt8 := if d < 10 then UInt8.ofNat (48 + d) else UInt8.ofNat (87 + d)
def hexL (u : Nat) : List UInt8 := if u < 16 then [hexc u] else hexL (u / 16) ++ [hexc (u % 16)]
termination_by u
decreasing_by omega

theorem hexL_one {u : Nat} (h : u < 16) : hexL u = [hexc u] := by rw [hexL, if_pos h]
theorem hexL_more {u : Nat} (h : ¬ u < 16) : hexL u = hexL (u / 16) ++ [hexc (u % 16)] := by rw [hexL, if_neg h]

/-- The table of bits that is asked. -/
def Tab4 (w : World) : Prop := w.cell? ⟨6, 15, none⟩ = some (.int .u8 4)

set_option maxHeartbeats 1000000 in
set_option maxRecDepth 100000 in
theorem tz_c (w : World) (h : Tab4 w) : Calls Tryz.prog 163 #[.int .u64 16] w fun e w' => e = .returned (.int .i64 4) ∧ w' = w := by
  have hc : w.cell? ⟨6, 15, none⟩ = some (.int .u8 4) := h
  have key : IntKind.u64.wrap (bits BinOp.and IntKind.u64 16 (IntKind.u64.wrap (-16)) * 285870213051353865) / 288230376151711744 = 15 := by kernel_rfl
  go_enter Tryz.func163, Tryz.ntmps163
  go_wp2_with (simp only [key])
  go_ret
  exact ⟨rfl, rfl⟩

set_option maxHeartbeats 1000000 in
set_option maxRecDepth 100000 in
theorem tzz_c (w : World) (h : Tab4 w) : Calls Tryz.prog 159 #[.int .u64 16] w fun e w' => e = .returned (.int .i64 4) ∧ w' = w := by
  go_enter Tryz.func159, Tryz.ntmps159
  go_wp2_with fail
  refine (tz_c w h).mono ?_
  rintro e w1 ⟨rfl, rfl⟩
  go_wp2
  go_ret
  exact ⟨rfl, rfl⟩

set_option maxHeartbeats 1000000 in
set_option maxRecDepth 100000 in
theorem pow_c (w : World) : Calls Tryz.prog 158 #[.int .i64 16] w fun e w' => e = .returned (.bool true) ∧ w' = w := by
  have key : bits BinOp.and IntKind.i64 16 15 = 0 := by kernel_rfl
  go_enter Tryz.func158, Tryz.ntmps158
  go_wp2_with (simp only [key])
  go_ret
  exact ⟨rfl, rfl⟩

/-- What has been written at the array's end. -/
structure Digs (w : World) (g : Nat) (cur : List Value) (suf : List UInt8) : Prop where
  blk : w.heap[g]? = some (.cells cur.toArray 224 (0, 0))
  len : cur.length = 65
  row : cur.drop (65 - suf.length) = Lib.byteCells suf
  fit : suf.length ≤ 65

def digs : ByteArray := ⟨#[48, 49, 50, 51, 52, 53, 54, 55, 56, 57, 97, 98, 99, 100, 101, 102, 103, 104, 105, 106, 107, 108, 109, 110, 111, 112, 113, 114, 115, 116, 117, 118, 119, 120, 121, 122]⟩
theorem digs_fin : ∀ d : Fin 16, digs[d.val]'(Nat.lt_of_lt_of_le d.isLt (by decide)) = hexc d.val := by decide
theorem digs_at (d : Nat) (h : d < 16) (h' : d < digs.size) : digs[d]'h' = hexc d := digs_fin ⟨d, h⟩

theorem Digs.more {w : World} {g i : Nat} {cur : List Value} {suf : List UInt8} (h : Digs w g cur suf) (hi : i + suf.length = 65) (h1 : 1 ≤ i) (c : UInt8) : Digs (w.setCell ⟨g, i - 1, none⟩ (.int .u8 c.toNat)) g (cur.set (i - 1) (.int .u8 c.toNat)) (c :: suf) := by
  refine ⟨?_, by simpa using h.len, ?_, by simp; omega⟩
  · have := row_set h.blk (i - 1) (.int .u8 c.toNat)
    simpa using this
  · have h2 := h.row
    rw [show 65 - suf.length = i from by omega] at h2
    rw [show 65 - (c :: suf).length = i - 1 from by simp; omega]
    have hl : i - 1 < cur.length := by rw [h.len]; omega
    rw [List.drop_eq_getElem_cons (by simpa using hl), List.getElem_set_self, List.drop_set_of_lt (by omega), show i - 1 + 1 = i from by omega, h2]
    rfl

theorem hex_conv {w : World} {g i : Nat} {cur : List Value} {l : List UInt8} (h : Digs w g cur l) (hi : i + l.length = 65) : (convert 94 9 (.slice (some ⟨g, i, none⟩) (65 - i) (65 - i))).run Tryz.prog w = .ok (.string ⟨l.toArray⟩) w := by
  have h2 := h.row
  rw [show 65 - l.length = i from by omega] at h2
  have := run_convert_bytes_arg (P := Tryz.prog) w 94 5 Tryz.underlying94 Tryz.underlying5 g i (65 - i) (65 - i) (l.map (fun b => (b.toNat : Int))) (by simp; omega) (fun k hk => by
    rw [cell_block h.blk]
    have h3 : (cur.drop i)[k]? = (Lib.byteCells l)[k]? := by rw [h2]
    rw [List.getElem?_drop] at h3
    have hkl : k < l.length := by omega
    simp only [List.getElem?_toArray, h3, Lib.byteCells, List.getElem?_map, List.getElem?_eq_getElem hkl, Option.map_some, List.getD]
    rfl) 9 Tryz.underlying9
  have e1 : (l.map (fun b => (b.toNat : Int))).map (fun n => UInt8.ofNat n.toNat) = l := by
    rw [List.map_map]
    have : ((fun n : Int => UInt8.ofNat n.toNat) ∘ fun b : UInt8 => (b.toNat : Int)) = id := by funext b; simp
    rw [this, List.map_id]
  rw [this]
  unfold strOfNums
  rw [e1]

set_option maxHeartbeats 2000000 in
set_option maxRecDepth 100000 in
theorem bits_c (u : Nat) (w : World) (hu : u < 18446744073709551616) (h : Tab4 w) :
    Calls Tryz.prog 150 #[.slice none 0 0, .int .u64 u, .int .i64 16, .bool false, .bool false] w fun e w' => e = .returned (.tuple #[.slice none 0 0, .string ⟨(hexL u).toArray⟩]) ∧ Kept (fun _ => False) w w' := by
  have H := hide h
  clear h
  go_enter Tryz.func150, Tryz.ntmps150
  go_wp2_with fail
  refine (pow_c _).mono ?_
  rintro e w1 ⟨rfl, rfl⟩
  have HT : Hid (Tab4 (w.alloc (Obj.cells Tryz.zeroCells224 224))) := by
    show _ = _
    have hlt := World.block_lt_of_cell? w ⟨6, 15, none⟩ H.out
    rw [cell_keep (Kept.alloc w _) hlt (fun e => e)]; exact H.out
  have K0 := hide (Kept.alloc w (Obj.cells Tryz.zeroCells224 224))
  have D0 : Hid (Digs (w.alloc (Obj.cells Tryz.zeroCells224 224)) w.heap.size Tryz.zeroCells224.toList []) := ⟨by simpa using heap_alloc_new w (Obj.cells Tryz.zeroCells224 224), by kernel_rfl, by kernel_rfl, by decide⟩
  go_wp2_with fail
  refine (tzz_c _ HT.out).mono ?_
  rintro e w1 ⟨rfl, rfl⟩
  go_wp2
  generalize w.alloc (Obj.cells Tryz.zeroCells224 224) = W at *
  have hW := heap_lt D0.out.blk
  go_loopw [1, 13] (fun a b wr => ∃ (v i : Nat) (suf : List UInt8) (cur : List Value), a = .int .u64 v ∧ b = .int .i64 i ∧ i + suf.length = 65 ∧ suf.length ≤ 15 ∧ v < 16 ^ (16 - suf.length) ∧ Hid (hexL u = hexL v ++ suf) ∧ Hid (Digs wr w.heap.size cur suf) ∧ Hid (Kept (fun _ => False) w wr)) (fun a _ _ => (intOf a).toNat)
  case atStart => exact ⟨u, 65, [], _, rfl, rfl, rfl, by decide, by simpa using hu, (by show _ = _; simp), D0, K0⟩
  case round =>
    obtain ⟨v, i, suf, cur, rfl, rfl, his, hk, hv, HX, HD, HK⟩ := hrel
    clear D0
    have hv64 : v < 18446744073709551616 := Nat.lt_of_lt_of_le hv (by
      have : 16 ^ (16 - suf.length) ≤ 16 ^ 16 := Nat.pow_le_pow_right (by decide) (by omega)
      exact this)
    by_cases hge : 16 ≤ v
    · have h1 : (16 : Int) ≤ (v : Int) := by omega
      have hand : bits BinOp.and IntKind.u64 (v : Int) 15 = ((v % 16 : Nat) : Int) := by
        have := bits_and_u64_nat v 15 hv64 (by decide)
        rw [show (15 : Nat) = 2 ^ 4 - 1 from rfl, Nat.and_two_pow_sub_one_eq_mod] at this
        exact this
      have hk14 : suf.length ≤ 14 := by
        by_cases e : suf.length ≤ 14
        · exact e
        · have : suf.length = 15 := by omega
          rw [this] at hv
          simp at hv
          omega
      obtain ⟨u0, hu0⟩ : ∃ u0, wr.cell? ⟨w.heap.size, i - 1, none⟩ = some u0 := ⟨cur[i - 1]'(by rw [HD.out.len]; omega), by rw [cell_block HD.out.blk]; simp⟩
      have ffz : ∀ j, wr.frozen? ⟨w.heap.size, j, none⟩ = false := fun j => by simp [World.frozen?, HD.out.blk]
      have hi1 : (1 : Int) ≤ (i : Int) := by omega
      have hi2 : (i : Int) ≤ 65 := by omega
      have hm16 : v % 16 < 16 := Nat.mod_lt _ (by decide)
      go_wp2_with (simp only [hand])
      go_roundw
      case rel =>
        refine ⟨v / 16, i - 1, hexc (v % 16) :: suf, cur.set (i - 1) (.int .u8 (hexc (v % 16)).toNat), by go_num, by go_num, by simp; omega, by simp; omega, ?_, ?_, ?_, ?_⟩
        · simp only [List.length_cons]
          have e : 16 ^ (16 - suf.length) = 16 ^ (16 - (suf.length + 1)) * 16 := by rw [← Nat.pow_succ]; congr 1; omega
          rw [e] at hv
          exact Nat.div_lt_of_lt_mul (by rw [Nat.mul_comm]; exact hv)
        · show _ = _
          rw [HX.out, hexL_more (by omega), List.append_assoc]; rfl
        · have := HD.out.more his (by omega) (hexc (v % 16))
          rw [← digs_at (v % 16) hm16 (Nat.lt_of_lt_of_le hm16 (by decide))] at this ⊢
          exact this
        · exact HK.out.join (Kept.setCell wr _ _) (fun _ _ e => e) (fun j hj e => by have e' : j = w.heap.size := e; omega)
      case measure => simp [intOf]; omega
    · have h1 : ¬ (16 : Int) ≤ (v : Int) := by omega
      obtain ⟨u0, hu0⟩ : ∃ u0, wr.cell? ⟨w.heap.size, i - 1, none⟩ = some u0 := ⟨cur[i - 1]'(by rw [HD.out.len]; omega), by rw [cell_block HD.out.blk]; simp⟩
      have ffz : ∀ j, wr.frozen? ⟨w.heap.size, j, none⟩ = false := fun j => by simp [World.frozen?, HD.out.blk]
      have hi1 : (1 : Int) ≤ (i : Int) := by omega
      have hi2 : (i : Int) ≤ 65 := by omega
      have hv16 : v < 16 := by omega
      have hv36 : (v : Int) < 36 := by omega
      have HX2 : Hid (hexL u = hexc v :: suf) := by show _ = _; rw [HX.out, hexL_one hv16]; rfl
      have hs0 : (0 : Int) ≤ (i : Int) - 1 := by omega
      have hs1 : (i : Int) - 1 ≤ 65 := by omega
      have hs2 : (i : Int) - 1 ≤ ((Tryz.prog.arrayLen 224 : Nat) : Int) := hs1
      have HDX : Hid (Digs (wr.setCell ⟨w.heap.size, i - 1, none⟩ (.int .u8 ((digs[v]'(Nat.lt_of_lt_of_le hv16 (by decide)) : UInt8).toNat))) w.heap.size (cur.set (i - 1) (.int .u8 (hexc v).toNat)) (hexc v :: suf)) := by
        have := HD.out.more his (by omega) (hexc v)
        rw [← digs_at v hv16 (Nat.lt_of_lt_of_le hv16 (by decide))] at this ⊢
        exact this
      have HKX : Hid (Kept (fun _ => False) w (wr.setCell ⟨w.heap.size, i - 1, none⟩ (.int .u8 ((digs[v]'(Nat.lt_of_lt_of_le hv16 (by decide)) : UInt8).toNat)))) := HK.out.join (Kept.setCell wr _ _) (fun _ _ e => e) (fun j hj e => by have e' : j = w.heap.size := e; omega)
      unfold digs at HDX HKX
      go_wp2
      generalize wr.setCell ⟨w.heap.size, i - 1, none⟩ _ = wX at *
      have hcv := hex_conv HDX.out (i := i - 1) (by simp; omega)
      rw [hcv]
      simp only [Result.andThen]
      rw [Oper.upon_value]
      go_wp2
      go_ret2
      exact ⟨ret2 rfl (by rw [HX2.out]; rfl), HKX.out⟩

set_option maxHeartbeats 1000000 in
set_option maxRecDepth 100000 in
theorem fmtu_c (u : Nat) (w : World) (hu : u < 18446744073709551616) (h : Tab4 w) :
    Calls Tryz.prog 151 #[.int .u64 u, .int .i64 16] w fun e w' => e = .returned (.string ⟨(hexL u).toArray⟩) ∧ Kept (fun _ => False) w w' := by
  go_enter Tryz.func151, Tryz.ntmps151
  go_wp2_with fail
  refine (bits_c u w hu h).mono ?_
  rintro e w1 ⟨rfl, k1⟩
  have K1 := hide k1
  clear k1
  go_wp2
  go_ret
  exact ⟨rfl, K1.out⟩

set_option maxHeartbeats 1000000 in
set_option maxRecDepth 100000 in
theorem fmtU_c (u : Nat) (w : World) (hu : u < 18446744073709551616) (h : Tab4 w) :
    Calls Tryz.prog 136 #[.int .u64 u, .int .i64 16] w fun e w' => e = .returned (.string ⟨(hexL u).toArray⟩) ∧ Kept (fun _ => False) w w' := by
  go_enter Tryz.func136, Tryz.ntmps136
  go_wp2_with fail
  refine (fmtu_c u w hu h).mono ?_
  rintro e w1 ⟨rfl, k1⟩
  have K1 := hide k1
  clear k1
  go_wp2
  go_ret
  exact ⟨rfl, K1.out⟩

set_option maxHeartbeats 1000000 in
set_option maxRecDepth 100000 in
theorem bitsWord_c (u : Nat) (w : World) (hu : u < 18446744073709551616) (h : Tab4 w) :
    Calls Tryz.prog 118 #[.int .u64 u] w fun e w' => e = .returned (.string ⟨(hexL u).toArray⟩) ∧ Kept (fun _ => False) w w' := by
  go_enter Tryz.func118, Tryz.ntmps118
  go_wp2_with fail
  refine (fmtU_c u w hu h).mono ?_
  rintro e w1 ⟨rfl, k1⟩
  have K1 := hide k1
  clear k1
  go_wp2
  go_ret
  exact ⟨rfl, K1.out⟩

set_option maxHeartbeats 1000000 in
set_option maxRecDepth 100000 in
theorem floatWord_c (x : Nat) (w : World) (h : Tab4 w) :
    Calls Tryz.prog 95 #[.float .f32 x] w fun e w' => e = .returned (.string ⟨(hexL (x % 18446744073709551616)).toArray⟩) ∧ Kept (fun _ => False) w w' := by
  have hwr : IntKind.u64.wrap (x : Int) = ((x % 18446744073709551616 : Nat) : Int) := by rw [IntKind.wrap_u64]; omega
  have hbits : ∀ w : World, (callFunc 119 #[.float .f32 x]).run Tryz.prog w = .ok (.value (.int .u32 x)) w := fun w => by
    rw [run_callFunc_extern Tryz.func119 (by kernel_rfl) (by kernel_rfl) (by kernel_rfl) (e := Extern.MathFloatBits.float32bits) (by kernel_rfl)]
    rfl
  go_enter Tryz.func95, Tryz.ntmps95
  go_wp2_with (simp only [hwr])
  refine (bitsWord_c (x % 18446744073709551616) w (Nat.mod_lt _ (by decide)) h).mono ?_
  rintro e w1 ⟨rfl, k1⟩
  have K1 := hide k1
  clear k1
  go_wp2
  go_ret
  exact ⟨rfl, K1.out⟩
end Go.Proofs.YtlfmfhmbkpnjbaaGreatDoor

