import Derived.Test.YtlfmfhmbkpnjbaaGreatDoorPz12
import Derived.Test.YtlfmfhmbkpnjbaaGreatDoorPz13
import Derived.Test.YtlfmfhmbkpnjbaaGreatDoorPz10
namespace Go.Proofs.YtlfmfhmbkpnjbaaGreatDoor
open Go.RowKit

theorem book_cells {w : World} {c : Nat} {a b d e f : Value} {T : TypeId} (h : w.heap[c]? = some (.cells #[a, b, d, e, f] T (0, 0))) : w.cell? ⟨c, 2, none⟩ = some d ∧ w.cell? ⟨c, 3, none⟩ = some e ∧ w.frozen? ⟨c, 2, none⟩ = false ∧ w.frozen? ⟨c, 3, none⟩ = false := by
  obtain ⟨_, _, h2, h3, _, h5⟩ := five_cells h
  exact ⟨h2, h3, h5 2, h5 3⟩
theorem book_set {w : World} {c : Nat} {a b d e f : Value} {T : TypeId} (h : w.heap[c]? = some (.cells #[a, b, d, e, f] T (0, 0))) (u : Value) : (w.setCell ⟨c, 2, none⟩ u).heap[c]? = some (.cells #[a, b, u, e, f] T (0, 0)) := by
  have := row_set h 2 u
  simpa using this

/-- The book: lists of entities, each written full with its mark; lists of keys: none. -/
structure BookF (w : World) (bk : Nat) (mv sv : Value) (ms : Int) (ev : Value) (Q : List Els) : Prop where
  blk : w.heap[bk]? = some (.cells #[mv, sv, ev, .slice none 0 0, .int .i64 ms] 51 (0, 0))
  own : w.ownsRow 0 36 1 ev Q.length (Q.map se)
  rows : ∀ i (h : i < Q.length), Reads w Q[i].1 (mks Q[i].2.1 ((i : Int) / 4))
  here : ∀ i (h : i < Q.length) j, HB Q[i].1 j → typ w j 83
  short : ∀ i (h : i < Q.length), Q[i].2.1 ≤ 100
  four : Q.length % 4 = 0

set_option maxHeartbeats 400000 in
set_option maxRecDepth 100000 in
theorem wholeF_nil (bk : Nat) (mv sv : Value) (ms : Int) (w : World) (h : w.heap[bk]? = some (.cells #[mv, sv, .slice none 0 0, .slice none 0 0, .int .i64 ms] 51 (0, 0))) :
    Calls Tryz.prog 17 #[.pointer (some ⟨bk, 2, none⟩)] w fun e w' => e = .returned (.bool true) ∧ w' = w := by
  obtain ⟨c0, c1, -, -⟩ := book_cells h
  clear h
  go_enter Tryz.func17, Tryz.ntmps17
  go_wp2
  refine wp_loop_rounds 1 ?_
  rw [rounds_succ]
  go_wp2
  refine wp_loop_rounds 1 ?_
  rw [rounds_succ]
  go_wp2
  go_ret
  exact ⟨rfl, rfl⟩

set_option maxHeartbeats 2000000 in
set_option maxRecDepth 100000 in
theorem wholeF_row (bk G cp : Nat) (mv sv : Value) (ms : Int) (Q : List Els) (w : World) (hQ : Q.length ≤ 1000000000) (h : BookF w bk mv sv ms (.slice (some ⟨G, 0, none⟩) Q.length cp) Q) :
    Calls Tryz.prog 17 #[.pointer (some ⟨bk, 2, none⟩)] w fun e w' => e = .returned (.bool true) ∧ Kept (fun _ => False) w w' := by
  have H := hide h
  clear h
  go_enter Tryz.func17, Tryz.ntmps17
  go_wp2
  go_loopw [3] (fun t wr => ∃ i : Nat, i ≤ Q.length ∧ t = .int .i64 i ∧ Hid (Kept (fun _ => False) w wr)) (fun t _ => Q.length - (intOf t).toNat)
  case atStart => exact ⟨0, Nat.zero_le _, rfl, Kept.refl _ _⟩
  case round =>
    obtain ⟨i, hi, rfl, HK⟩ := hrel
    have BR : Hid (wr.heap[bk]? = some (.cells #[mv, sv, .slice (some ⟨G, 0, none⟩) Q.length cp, .slice none 0 0, .int .i64 ms] 51 (0, 0))) := by show _ = _; rw [HK.out.block _ (heap_lt H.out.blk) (fun e => e)]; exact H.out.blk
    obtain ⟨c0, c1, -, -⟩ := book_cells BR.out
    by_cases hlt : i < Q.length
    · have hG : G < w.heap.size := owns_lt H.out.own G rfl
      have d1 : w.cell? ⟨G, i, none⟩ = some (se Q[i]) := row_cell H.out.own i _ (by simp [hlt])
      have HRD := hide (H.out.rows i hlt)
      have hsh := H.out.short i hlt
      obtain ⟨⟨p, l, cp2⟩, hq⟩ : ∃ q, Q[i] = q := ⟨_, rfl⟩
      rw [hq] at d1 HRD hsh
      simp only [se] at d1 HRD hsh
      clear hq
      have hib1 : (0 : Int) ≤ (i : Int) := by omega
      have hib2 : (i : Int) < (Q.length : Int) := by omega
      have HD : Hid (∀ w', Kept (fun _ => False) w w' → w'.cell? ⟨bk, 2, none⟩ = some (.slice (some ⟨G, 0, none⟩) Q.length cp) ∧ w'.cell? ⟨G, i, none⟩ = some (.slice p l cp2)) := fun w' hk =>
        ⟨by rw [cell_keep hk (heap_lt H.out.blk) (fun e => e)]; exact (book_cells H.out.blk).1, by rw [cell_keep hk hG (fun e => e)]; exact d1⟩
      clear c0 c1 d1 BR
      obtain ⟨c0, d1⟩ := HD.out wr HK.out
      go_wp2
      clear c0 d1
      have HK0 := HK
      clear HK
      go_loopw [4] (fun t wr => ∃ j : Nat, j ≤ l ∧ t = .int .i64 j ∧ Hid (Kept (fun _ => False) w wr)) (fun t _ => l - (intOf t).toNat)
      case atStart => exact ⟨0, Nat.zero_le _, rfl, HK0⟩
      case round =>
        obtain ⟨j, hj, rfl, HK⟩ := hrel
        obtain ⟨c0, d1⟩ := HD.out _ HK.out
        by_cases hjl : j < l
        · have hjl2 : j < (mks l ((i : Int) / 4)).length := by rw [mks_len]; exact hjl
          obtain ⟨b, off, rfl, hb, e0, e1, e2, e3, e4, e5, e6⟩ := (HRD.out.calm HK.out).at j hjl2
          have hmk : (mks l ((i : Int) / 4))[j] = markM ((i : Int) / 4) := by simp [mks]
          rw [hmk] at e0 e1 e2 e3 e4 e5 e6
          simp only [markM] at e0 e1 e2 e3 e4 e5 e6
          have hne := neq_mob (markM ((i : Int) / 4)) (markM ((i : Int) / 4))
          rw [eqM_mark] at hne
          simp only [markM] at hne
          have hjb1 : (0 : Int) ≤ (j : Int) := by omega
          have hjb2 : (j : Int) < (l : Int) := by omega
          have CE : Hid (∀ w', Kept (fun _ => False) wr w' → w'.cell? ⟨bk, 2, none⟩ = some (.slice (some ⟨G, 0, none⟩) Q.length cp) ∧ w'.cell? ⟨G, i, none⟩ = some (.slice (some ⟨b, off, none⟩) l cp2) ∧ w'.cell? ⟨b, off + j * 7, none⟩ = some (.int .i64 (-1000 - (i : Int) / 4)) ∧ w'.cell? ⟨b, off + j * 7 + 1, none⟩ = some (.int .i64 0) ∧ w'.cell? ⟨b, off + j * 7 + 2, none⟩ = some (.float .f32 0) ∧ w'.cell? ⟨b, off + j * 7 + 3, none⟩ = some (.float .f32 0) ∧ w'.cell? ⟨b, off + j * 7 + 4, none⟩ = some (.float .f32 0) ∧ w'.cell? ⟨b, off + j * 7 + 5, none⟩ = some (.float .f32 0) ∧ w'.cell? ⟨b, off + j * 7 + 6, none⟩ = some (.int .i64 7)) := fun w' hk => by
            obtain ⟨f0, f1⟩ := HD.out w' (HK.out.calm2 hk)
            refine ⟨f0, f1, ?_, ?_, ?_, ?_, ?_, ?_, ?_⟩
            all_goals rw [cell_keep hk hb (fun e => e)]; assumption
          go_wp2
          have hwr : IntKind.i64.wrap ((i : Int) / 4) = (i : Int) / 4 := wrap_id _ (by omega)
          clear HD HRD H
          have hk0 : 0 ≤ (i : Int) / 4 ∧ (i : Int) / 4 ≤ 4611686018427387904 := by omega
          go_region_held3 (fun w' => w'.cell? ⟨bk, 2, none⟩ = some (.slice (some ⟨G, 0, none⟩) Q.length cp) ∧ w'.cell? ⟨G, i, none⟩ = some (.slice (some ⟨b, off, none⟩) l cp2) ∧ w'.cell? ⟨b, off + j * 7, none⟩ = some (.int .i64 (-1000 - (i : Int) / 4)) ∧ w'.cell? ⟨b, off + j * 7 + 1, none⟩ = some (.int .i64 0) ∧ w'.cell? ⟨b, off + j * 7 + 2, none⟩ = some (.float .f32 0) ∧ w'.cell? ⟨b, off + j * 7 + 3, none⟩ = some (.float .f32 0) ∧ w'.cell? ⟨b, off + j * 7 + 4, none⟩ = some (.float .f32 0) ∧ w'.cell? ⟨b, off + j * 7 + 5, none⟩ = some (.float .f32 0) ∧ w'.cell? ⟨b, off + j * 7 + 6, none⟩ = some (.int .i64 7)) (go_keep)
            ((go_at_call 33; (try rw [hwr]); refine (badEntity_c ((i : Int) / 4) _ hk0).mono ?_; rintro e w4 ⟨rfl, q4⟩; have K4 := hide ((Kept.drew wr).calm2 q4); obtain ⟨v0, v1, v2, v3, v4, v5, v6, v7, v8⟩ := CE.out w4 K4.out; clear q4))
          go_wp2
          go_roundw
          case rel => exact ⟨j + 1, by omega, by go_num, HK.out.calm2 K4.out⟩
          case measure => simp [intOf]; omega
        · go_wp2
          go_roundw
          case rel => exact ⟨i + 1, by omega, by go_num, HK⟩
          case measure => simp [intOf]; omega
    · go_wp2
      refine wp_loop_rounds 1 ?_
      rw [rounds_succ]
      go_wp2
      go_ret
      exact ⟨rfl, HK.out⟩

theorem wholeF (bk : Nat) (mv sv : Value) (ms : Int) (ev : Value) (Q : List Els) (w : World) (hQ : Q.length ≤ 1000000000) (h : BookF w bk mv sv ms ev Q) :
    Calls Tryz.prog 17 #[.pointer (some ⟨bk, 2, none⟩)] w fun e w' => e = .returned (.bool true) ∧ Kept (fun _ => False) w w' := by
  rcases h.own.2 with ⟨rfl, _⟩ | ⟨G, cp, _, rfl, _⟩
  · refine (wholeF_nil bk mv sv ms w h.blk).mono ?_
    rintro e w' ⟨rfl, rfl⟩
    exact ⟨rfl, Kept.refl _ _⟩
  · exact wholeF_row bk G cp mv sv ms Q w hQ h
end Go.Proofs.YtlfmfhmbkpnjbaaGreatDoor

namespace Go.Proofs.YtlfmfhmbkpnjbaaGreatDoor
open Go.RowKit

theorem bookF_fin {w w3 w4 : World} {bk n cap a G cp c1 c2 c3 : Nat} {mv sv : Value} {ms : Int} {p p1 p2 p3 : Option Addr} {ev : Value} {Q : List Els} {k : Int} {o : Obj} (H : BookF w bk mv sv ms ev Q) (hk3 : Kept (HB p) w w3) (hp : ∀ j, HB p j → typ w j 83)
    (hgQ : ∀ i (h : i < Q.length) j, HB Q[i].1 j → ¬ HB p j) (hn : n ≤ 64) (hk : k = (Q.length : Int) / 4) (HM : Home w3 p a cap k) (hna : n ≤ a) (G1 : Good w3 p p1 (n + 1) a k) (G2 : Good w3 p p2 (n + 2) a k) (G3 : Good w3 p p3 (n + 3) a k)
    (hgrow : (w3.alloc o).grownBy w4 ev.ownBlock) (hown : w4.ownsRow 0 36 1 (.slice (some ⟨G, 0, none⟩) (Q.length + 4) cp) (Q.length + 4) (Q.map se ++ [se (p, n, cap), se (p1, n + 1, c1), se (p2, n + 2, c2), se (p3, n + 3, c3)])) (hG : ev.ownBlock = some G ∨ w3.heap.size + 1 ≤ G) :
    w4.heap[bk]? = some (.cells #[mv, sv, ev, .slice none 0 0, .int .i64 ms] 51 (0, 0)) ∧
    BookF (w4.setCell ⟨bk, 2, none⟩ (.slice (some ⟨G, 0, none⟩) (Q.length + 4) cp)) bk mv sv ms (.slice (some ⟨G, 0, none⟩) (Q.length + 4) cp) (Q ++ [(p, n, cap), (p1, n + 1, c1), (p2, n + 2, c2), (p3, n + 3, c3)]) ∧
      Kept (fun j => HB p j ∨ j = bk ∨ ev.ownBlock = some j) w (w4.setCell ⟨bk, 2, none⟩ (.slice (some ⟨G, 0, none⟩) (Q.length + 4) cp)) ∧ (ev.ownBlock = some G ∨ w.heap.size ≤ G) := by
  have tb : typ w bk 51 := typ_blk H.blk
  have tk : ∀ j, ev.ownBlock = some j → typ w j 36 := fun j hj => typ_own H.own j hj
  have hbg : ¬ HB p bk := fun e => typ_ne tb (hp bk e) (by decide) rfl
  have tb3 : typ w3 bk 51 := typ_keep tb hk3 hbg
  have hek : ∀ j, ev.ownBlock = some j → ¬ HB p j := fun j hj e => typ_ne (tk j hj) (hp j e) (by decide) rfl
  have tk3 : ∀ j, ev.ownBlock = some j → typ w3 j 36 := fun j hj => typ_keep (tk j hj) hk3 (hek j hj)
  have hs3 := hk3.size
  have hka : Kept (fun j => ev.ownBlock = some j) w3 w4 := ((Kept.alloc w3 o).join (Kept.of_grown hgrow) (R := fun j => ev.ownBlock = some j) (fun _ _ e => e.elim) (fun _ _ e => e.symm))
  have hkb : ¬ ev.ownBlock = some bk := fun e => typ_ne (tk bk e) tb (by decide) rfl
  have hb4 : w4.heap[bk]? = some (.cells #[mv, sv, ev, .slice none 0 0, .int .i64 ms] 51 (0, 0)) := by
    rw [hka.block bk (typ_lt tb3) hkb, hk3.block bk (typ_lt tb) hbg]; exact H.blk
  have hGb : G ≠ bk := by
    rcases hG with h | h
    · exact fun e => hkb (by rw [h, e])
    · have := typ_lt tb3; omega
  have hkall : Kept (fun j => ev.ownBlock = some j ∨ j = bk) w3 (w4.setCell ⟨bk, 2, none⟩ (.slice (some ⟨G, 0, none⟩) (Q.length + 4) cp)) :=
    hka.join (Kept.setCell w4 _ _) (fun _ _ e => Or.inl e) (fun _ _ e => Or.inr e)
  have far : ∀ j, typ w3 j 83 → ¬ (ev.ownBlock = some j ∨ j = bk) := fun j hj e => by
    rcases e with e | e
    · exact typ_ne (tk3 j e) hj (by decide) rfl
    · exact typ_ne hj tb3 (by decide) e
  have keepR : ∀ {q : Option Addr} {L : List Mob}, Reads w3 q L → (∀ j, HB q j → typ w3 j 83) → Reads (w4.setCell ⟨bk, 2, none⟩ (.slice (some ⟨G, 0, none⟩) (Q.length + 4) cp)) q L :=
    fun hr ht => hr.keep hkall (fun b off e => far b (ht b ⟨off, e⟩))
  have keepT : ∀ {j : Nat}, typ w3 j 83 → typ (w4.setCell ⟨bk, 2, none⟩ (.slice (some ⟨G, 0, none⟩) (Q.length + 4) cp)) j 83 := fun ht => typ_keep ht hkall (far _ ht)
  have told : ∀ i (h : i < Q.length) j, HB Q[i].1 j → typ w3 j 83 := fun i h j hj => typ_keep (H.here i h j hj) hk3 (hgQ i h j hj)
  have hquad : ∀ t : Nat, t < 4 → ((Q.length + t : Nat) : Int) / 4 = k := by
    intro t ht
    have := H.four
    rw [hk]; omega
  have e1 : (Q ++ [(p, n, cap), (p1, n + 1, c1), (p2, n + 2, c2), (p3, n + 3, c3)]).length = Q.length + 4 := by simp
  refine ⟨hb4, ⟨book_set hb4 _, ?_, ?_, ?_, ?_, ?_⟩, ?_, ?_⟩
  · rw [e1, List.map_append]
    refine owns_block hown ?_
    intro j e
    simp only [Value.ownBlock, Option.some.injEq] at e
    subst e
    exact Below.heap_setCell _ _ _ _ hGb
  · intro i hi
    by_cases h0 : i < Q.length
    · rw [List.getElem_append_left h0]
      exact keepR ((H.rows i h0).keep hk3 (fun b off e => hgQ i h0 b ⟨off, e⟩)) (told i h0)
    · have h4 : i < Q.length + 4 := by simpa using hi
      obtain ⟨t, rfl⟩ : ∃ t, i = Q.length + t := ⟨i - Q.length, by omega⟩
      rw [List.getElem_append_right (by omega)]
      rw [hquad t (by omega)]
      simp only [show Q.length + t - Q.length = t from by omega]
      match t, (show t < 4 by omega) with
      | 0, _ => exact keepR (HM.reads n hna) (fun j hj => HM.typ j hj)
      | 1, _ => exact keepR (G1.reads HM) (fun j hj => G1.typ HM j hj)
      | 2, _ => exact keepR (G2.reads HM) (fun j hj => G2.typ HM j hj)
      | 3, _ => exact keepR (G3.reads HM) (fun j hj => G3.typ HM j hj)
  · intro i hi
    by_cases h0 : i < Q.length
    · rw [List.getElem_append_left h0]
      exact fun j hj => keepT (told i h0 j hj)
    · have h4 : i < Q.length + 4 := by simpa using hi
      obtain ⟨t, rfl⟩ : ∃ t, i = Q.length + t := ⟨i - Q.length, by omega⟩
      rw [List.getElem_append_right (by omega)]
      simp only [show Q.length + t - Q.length = t from by omega]
      match t, (show t < 4 by omega) with
      | 0, _ => exact fun j hj => keepT (HM.typ j hj)
      | 1, _ => exact fun j hj => keepT (G1.typ HM j hj)
      | 2, _ => exact fun j hj => keepT (G2.typ HM j hj)
      | 3, _ => exact fun j hj => keepT (G3.typ HM j hj)
  · intro i hi
    by_cases h0 : i < Q.length
    · rw [List.getElem_append_left h0]
      exact H.short i h0
    · have h4 : i < Q.length + 4 := by simpa using hi
      obtain ⟨t, rfl⟩ : ∃ t, i = Q.length + t := ⟨i - Q.length, by omega⟩
      rw [List.getElem_append_right (by omega)]
      simp only [show Q.length + t - Q.length = t from by omega]
      match t, (show t < 4 by omega) with
      | 0, _ => show n ≤ 100; omega
      | 1, _ => show n + 1 ≤ 100; omega
      | 2, _ => show n + 2 ≤ 100; omega
      | 3, _ => show n + 3 ≤ 100; omega
  · have := H.four
    rw [e1]; omega
  · exact hk3.join hkall (fun _ _ e => Or.inl e) (fun _ _ e => by rcases e with e | e; exact Or.inr (Or.inr e); exact Or.inr (Or.inl e))
  · rcases hG with h | h
    · exact Or.inl h
    · exact Or.inr (by omega)

set_option maxHeartbeats 4000000 in
set_option maxRecDepth 100000 in
theorem keepF (bk n cap : Nat) (mv sv : Value) (ms : Int) (p : Option Addr) (ev : Value) (Q : List Els) (w : World) (hQ : Q.length ≤ 1000000000) (hn : n ≤ 64) (h : BookF w bk mv sv ms ev Q) (hr : Raw w p n cap) (hgQ : ∀ i (h : i < Q.length) j, HB Q[i].1 j → ¬ HB p j) :
    Calls Tryz.prog 61 #[.pointer (some ⟨bk, 2, none⟩), .slice p n cap] w fun e w' => e = .returned (.tuple #[]) ∧
      ∃ ev' Q', BookF w' bk mv sv ms ev' Q' ∧ Q'.length = Q.length + 4 ∧ Kept (fun j => HB p j ∨ j = bk ∨ ev.ownBlock = some j) w w' ∧ ∀ j, ev'.ownBlock = some j → ev.ownBlock = some j ∨ w.heap.size ≤ j := by
  obtain ⟨i1, hi1, hy0, hy1, hy2⟩ := info_parts info_ents
  have hsf := store_float Tryz.prog
  obtain ⟨ao, cp, rfl⟩ : ∃ ao cp, ev = .slice ao Q.length cp := by
    rcases h.own.2 with ⟨rfl, h0⟩ | ⟨g, cp, _, rfl, _⟩
    · exact ⟨none, 0, by rw [h0]⟩
    · exact ⟨_, _, rfl⟩
  obtain ⟨c0, c1, -, -⟩ := book_cells h.blk
  have H := hide h
  have HRW := hide hr
  have HGQ := hide hgQ
  have hcap := hr.cap
  clear h hr hgQ
  have hwr : IntKind.i64.wrap ((Q.length : Int) / 4) = (Q.length : Int) / 4 := wrap_id _ (by omega)
  go_enter Tryz.func61, Tryz.ntmps61
  go_wp2_with fail
  try rw [hwr]
  refine (badEntity_c ((Q.length : Int) / 4) _ (by omega)).mono ?_
  rintro e w1 ⟨rfl, q1⟩
  have K1 := hide q1
  clear q1 c0 c1 hwr
  have HKQ : Hid (∃ k : Int, k = (Q.length : Int) / 4) := ⟨_, rfl⟩
  obtain ⟨k, hk⟩ := HKQ.out
  clear HKQ
  rw [← hk]
  have HKK := hide hk
  clear hk
  have MN := hide (heap_alloc_new w1 (.cells #[.int .i64 (-1000 - k), .int .i64 0, .float .f32 0, .float .f32 0, .float .f32 0, .float .f32 0, .int .i64 7] 83))
  have KM := hide (K1.out.calm2 (Kept.alloc w1 (.cells #[.int .i64 (-1000 - k), .int .i64 0, .float .f32 0, .float .f32 0, .float .f32 0, .float .f32 0, .int .i64 7] 83)))
  have hw1 := K1.out.size
  go_wp2
  generalize w1.alloc (.cells #[.int .i64 (-1000 - k), .int .i64 0, .float .f32 0, .float .f32 0, .float .f32 0, .float .f32 0, .int .i64 7] 83) = W at *
  have hpw : Hid (∀ j, HB p j → typ w j 83) := fun j hj => (HRW.out.home k).typ j hj
  have hpm : Hid (¬ HB p w1.heap.size) := fun e => by have := typ_lt (hpw.out _ e); omega
  have HM0 : Hid (Home W p 0 cap k) := (HRW.out.home k).keep KM.out (fun _ _ e => e)
  go_loopw [5] (fun t wr => ∃ i : Nat, i ≤ n ∧ t = .int .i64 i ∧ Hid (Home wr p i cap k) ∧ Hid (Kept (HB p) W wr)) (fun t _ => n - (intOf t).toNat)
  case atStart => exact ⟨0, Nat.zero_le _, rfl, HM0, Kept.refl _ _⟩
  case round =>
    obtain ⟨i, hil, rfl, HE, HK⟩ := hrel
    clear HM0
    have MR : Hid (wr.heap[w1.heap.size]? = some (.cells #[.int .i64 (-1000 - k), .int .i64 0, .float .f32 0, .float .f32 0, .float .f32 0, .float .f32 0, .int .i64 7] 83 (0, 0))) := by show _ = _; rw [HK.out.block _ (heap_lt MN.out) hpm.out]; exact MN.out
    obtain ⟨m0, m1, m2, m3, m4, m5, m6⟩ := seven_cells MR.out
    by_cases hlt : i < n
    · obtain ⟨g, cur, rfl, hg, hcl, -, hct⟩ : ∃ g cur, p = some ⟨g, 0, none⟩ ∧ wr.heap[g]? = some (.cells (cur : List Value).toArray 83 (0, 0)) ∧ cur.length = cap * 7 ∧ i ≤ cap ∧ cur.take (i * 7) = rowM (mks i k) := by
        rcases HE.out with ⟨_, _, h3⟩ | hh
        · omega
        · exact hh
      have hb1 : (0 : Int) ≤ (i : Int) := by omega
      have hb2 : (i : Int) < (n : Int) := by omega
      have hal : i * 7 + 7 ≤ cur.length := by rw [hcl]; omega
      obtain ⟨u0, u1, u2, u3, u4, u5, u6, f0, f1, f2, f3, f4, f5, f6⟩ := seven_old hg (i * 7) hal
      have ffz : ∀ j, wr.frozen? ⟨g, j, none⟩ = false := fun j => by simp [World.frozen?, hg]
      have ST := hide (store7 hg (i * 7) (markM k) hal)
      have HG := hide hg
      clear hg
      go_wp2
      go_roundw
      case rel => exact ⟨i + 1, by omega, by go_num, Home.more hcl (by omega) hct ST.out.1, HK.out.join ST.out.2 (fun _ _ e => e) (fun j _ e => ⟨0, by rw [e]⟩)⟩
      case measure => simp [intOf]; omega
    · obtain rfl : i = n := by omega
      go_wp2_with (at_builtin; refine wpList_append_mark _ rfl (.tmp 26) (.tmp 28) rfl p i cap i k rfl (HE.out.keep (Kept.alloc wr _) (fun _ _ e => e)) (Nat.le_refl _) ⟨wr.heap.size, 0, none⟩ 1 1 rfl ?nw1 (by decide) (by omega) ?_)
      case nw1 => exact new_cells _ (rowM (mks 1 k)) _ _ rfl
      intro p1 cp1 wx a1 HM1 ha1 G1 KX1
      have KY1 : Hid (Kept (HB p) wr wx) := (Kept.alloc wr _).join KX1.out (fun _ _ e => e.elim) (fun _ _ e => e)
      have HK : Hid (Kept (HB p) W wx) := HK.out.join KY1.out (fun _ _ e => e) (fun _ _ e => e)
      have MR : Hid (wx.heap[w1.heap.size]? = some (.cells #[.int .i64 (-1000 - k), .int .i64 0, .float .f32 0, .float .f32 0, .float .f32 0, .float .f32 0, .int .i64 7] 83 (0, 0))) := by show _ = _; rw [HK.out.block _ (heap_lt MN.out) hpm.out]; exact MN.out
      clear KX1 KY1 HE m0 m1 m2 m3 m4 m5 m6
      obtain ⟨m0, m1, m2, m3, m4, m5, m6⟩ := seven_cells MR.out
      go_wp2_with (at_builtin; refine wpList_append_mark _ rfl (.tmp 30) (.tmp 33) rfl p i cap a1 k rfl (HM1.out.keep (Kept.alloc wx _) (fun _ _ e => e)) (ha1) ⟨wx.heap.size, 0, none⟩ 2 2 rfl ?nw2 (by decide) (by omega) ?_)
      case nw2 => exact new_cells _ (rowM (mks 2 k)) _ _ rfl
      intro p2 cp2 wy a2 HM2 ha2 G2 KX2
      have KY2 : Hid (Kept (HB p) wx wy) := (Kept.alloc wx _).join KX2.out (fun _ _ e => e.elim) (fun _ _ e => e)
      have HK : Hid (Kept (HB p) W wy) := HK.out.join KY2.out (fun _ _ e => e) (fun _ _ e => e)
      have MR : Hid (wy.heap[w1.heap.size]? = some (.cells #[.int .i64 (-1000 - k), .int .i64 0, .float .f32 0, .float .f32 0, .float .f32 0, .float .f32 0, .int .i64 7] 83 (0, 0))) := by show _ = _; rw [HK.out.block _ (heap_lt MN.out) hpm.out]; exact MN.out
      have G1 := hide (G1.out.keep KY2.out ha2)
      clear KX2 KY2 HM1 m0 m1 m2 m3 m4 m5 m6
      obtain ⟨m0, m1, m2, m3, m4, m5, m6⟩ := seven_cells MR.out
      go_wp2_with (at_builtin; refine wpList_append_mark _ rfl (.tmp 35) (.tmp 39) rfl p i cap a2 k rfl (HM2.out.keep (Kept.alloc wy _) (fun _ _ e => e)) ((by omega)) ⟨wy.heap.size, 0, none⟩ 3 3 rfl ?nw3 (by decide) (by omega) ?_)
      case nw3 => exact new_cells _ (rowM (mks 3 k)) _ _ rfl
      intro p3 cp3 wz a3 HM3 ha3 G3 KX3
      have KY3 : Hid (Kept (HB p) wy wz) := (Kept.alloc wy _).join KX3.out (fun _ _ e => e.elim) (fun _ _ e => e)
      have HK : Hid (Kept (HB p) W wz) := HK.out.join KY3.out (fun _ _ e => e) (fun _ _ e => e)
      have MR : Hid (wz.heap[w1.heap.size]? = some (.cells #[.int .i64 (-1000 - k), .int .i64 0, .float .f32 0, .float .f32 0, .float .f32 0, .float .f32 0, .int .i64 7] 83 (0, 0))) := by show _ = _; rw [HK.out.block _ (heap_lt MN.out) hpm.out]; exact MN.out
      have G1 := hide (G1.out.keep KY3.out ha3)
      have G2 := hide (G2.out.keep KY3.out ha3)
      clear KX3 KY3 HM2 m0 m1 m2 m3 m4 m5 m6
      obtain ⟨m0, m1, m2, m3, m4, m5, m6⟩ := seven_cells MR.out
      have K3 : Hid (Kept (HB p) w wz) := KM.out.join HK.out (fun _ _ e => e.elim) (fun _ _ e => e)
      have hkg : ∀ j, (Value.slice ao Q.length cp).ownBlock = some j → ¬ HB p j := fun j hj e => typ_ne (typ_own H.out.own j hj) (hpw.out j e) (by decide) rfl
      have HO : Hid (wz.ownsRow 0 36 1 (.slice ao Q.length cp) Q.length (Q.map se)) := owns_block H.out.own (fun j hj => K3.out.block j (owns_lt H.out.own j hj) (hkg j hj))
      have HBk : Hid (wz.heap[bk]? = some (.cells #[mv, sv, .slice ao Q.length cp, .slice none 0 0, .int .i64 ms] 51 (0, 0))) := by
        show _ = _
        rw [K3.out.block bk (heap_lt H.out.blk) (fun e => typ_ne (typ_blk H.out.blk) (hpw.out bk e) (by decide) rfl)]; exact H.out.blk
      obtain ⟨c0, c1, -, -⟩ := book_cells HBk.out
      clear hkg m0 m1 m2 m3 m4 m5 m6 HK MR
      go_wp2_with (at_builtin; refine wpList_append_mine _ rfl (.tmp 45) (.tmp 50) 47 rfl 36 i1 (.slice none 0 0) 1 24 Tryz.underlying47 hi1 hy0 hy1 hy2 rfl (by decide) _ _ _ rfl (HO.out.alloc _) ⟨wz.heap.size, 0, none⟩ 4 4 [se (p, i, cap), se (p1, i + 1, cp1), se (p2, i + 2, cp2), se (p3, i + 3, cp3)] rfl rfl ?nw4 ?oc4 (by decide) ?b41 ?b42 ?_)
      case nw4 => exact new_cells _ [se (p, i, cap), se (p1, i + 1, cp1), se (p2, i + 2, cp2), se (p3, i + 3, cp3)] _ _ rfl
      case oc4 => intro u hu; simp only [List.mem_cons, List.not_mem_nil, or_false] at hu; rcases hu with rfl | rfl | rfl | rfl <;> rfl
      case b41 => unfold maxLen; omega
      case b42 => omega
      intro G cp4 w4 hown4 hgrow4 hG4
      have R := hide (bookF_fin (c1 := cp1) (c2 := cp2) (c3 := cp3) H.out K3.out hpw.out HGQ.out hn HKK.out HM3.out (by omega) G1.out G2.out G3.out hgrow4 hown4 hG4)
      obtain ⟨d0, d1, e0, e1⟩ := book_cells R.out.1
      clear hown4 hgrow4 hG4 c0 c1 G1 G2 G3 HM3 K3 HO HBk
      go_wp2
      go_end0
      obtain ⟨_, r1, r2, r3⟩ := R.out
      refine ⟨rfl, _, _, r1, by simp, r2, fun j hj => ?_⟩
      simp only [Value.ownBlock, Option.some.injEq] at hj
      subst hj
      exact r3
end Go.Proofs.YtlfmfhmbkpnjbaaGreatDoor

namespace Go.Proofs.YtlfmfhmbkpnjbaaGreatDoor
open Go.RowKit

/-- What is seen: tick, entities, error. -/
structure Sn where
  t : Int
  X : List Mob
  e : Int

theorem Raw.typ {w : World} {q : Option Addr} {n cq : Nat} (h : Raw w q n cq) (j : Nat) (hj : HB q j) : typ w j 83 := (h.home 0).typ j hj
theorem Raw.keep {w w' : World} {S : Nat → Prop} {q : Option Addr} {n cq : Nat} (h : Raw w q n cq) (hk : Kept S w w') (hS : ∀ j, HB q j → ¬ S j) : Raw w' q n cq := by
  rcases h with h | ⟨g, cur, h1, h2, h3⟩
  · exact Or.inl h
  · exact Or.inr ⟨g, cur, h1, by rw [hk.block g (heap_lt h2) (hS g ⟨0, h1⟩)]; exact h2, h3⟩

theorem sets_kept (w4 : World) (b8 : Nat) (u v : Value) : Kept (fun k => k = b8) w4 ((w4.setCell ⟨b8, 0, none⟩ u).setCell ⟨b8, 1, none⟩ v) := (Kept.setCell w4 _ u).join (Kept.setCell _ _ v) (fun _ _ e => e) (fun _ _ e => e)

/-- The answer is laid into a struct of the caller's. -/
structure Laid (w0 w5 : World) (b8 : Nat) (u v : Value) (q : Option Addr) (X : List Mob) : Prop where
  kept : Kept (fun _ => False) w0 w5
  blk : w5.heap[b8]? = some (.cells #[u, v] 38 (0, 0))
  reads : Reads w5 q X
  typs : ∀ j, HB q j → typ w5 j 83

theorem laid_set {w0 w4 : World} {b8 : Nat} {q : Option Addr} {X : List Mob} (k : Kept (fun _ => False) w0 w4) (hb : w0.heap.size ≤ b8) (h : w4.heap[b8]? = some (.cells #[.int .i64 0, .slice none 0 0] 38 (0, 0))) (rd : Reads w4 q X) (ht : ∀ j, HB q j → typ w4 j 83) (u v : Value) :
    Laid w0 ((w4.setCell ⟨b8, 0, none⟩ u).setCell ⟨b8, 1, none⟩ v) b8 u v q X :=
  ⟨two_kept k hb u v, two_sets h u v, rd.keep (sets_kept w4 b8 u v) (fun b off e => typ_ne (ht b ⟨off, e⟩) (typ_blk h) (by decide)), fun j hj => typ_keep (ht j hj) (sets_kept w4 b8 u v) (typ_ne (ht j hj) (typ_blk h) (by decide))⟩
theorem laid_new {w0 w4 : World} {q : Option Addr} {X : List Mob} (k : Kept (fun _ => False) w0 w4) (rd : Reads w4 q X) (ht : ∀ j, HB q j → typ w4 j 83) (u v : Value) :
    Laid w0 (w4.alloc (.cells #[u, v] 38)) w4.heap.size u v q X :=
  ⟨k.calm2 (Kept.alloc _ _), heap_alloc_new _ _, rd.calm (Kept.alloc _ _), fun j hj => typ_keep (ht j hj) (Kept.alloc _ _) (fun e => e)⟩

theorem block_reads {w : World} {g : Nat} {M : List Mob} (h : w.heap[g]? = some (.cells (rowM M).toArray 83 (0, 0))) : Reads w (some ⟨g, 0, none⟩) M := fun _ => ⟨g, 0, rfl, heap_lt h, fun j u hu => by rw [Nat.zero_add, cell_block h]; simpa using hu⟩
theorem Reads.pre {w : World} {p : Option Addr} {A B : List Mob} (h : Reads w p (A ++ B)) : Reads w p A := fun hA => by
  obtain ⟨b, off, h1, h2, h3⟩ := h (by intro e; exact hA (List.append_eq_nil_iff.1 e).1)
  refine ⟨b, off, h1, h2, fun j u hu => h3 j u ?_⟩
  rw [rowM_append, List.getElem?_append_left (List.getElem?_eq_some_iff.1 hu).1]; exact hu
end Go.Proofs.YtlfmfhmbkpnjbaaGreatDoor

namespace Go.Proofs.YtlfmfhmbkpnjbaaGreatDoor
open Go.RowKit

theorem find_at {L : List Mob} (hr : Rises L) (i : Nat) (hi : i < L.length) : findI L L[i].id = i ∧ findB L L[i].id = true := by
  have h1 : findI L L[i].id = i := findI_is L _ i (by omega) (fun j hj hji => hr j i hj hi hji) (fun _ => by omega)
  exact ⟨h1, findB_true i h1 hi rfl⟩

theorem plI_is (L : List Mob) (id : Int) (a : Nat) (ha : a ≤ L.length) (h1 : ∀ j (h : j < L.length), j < a → L[j].id ≠ id) (h2 : ∀ h : a < L.length, L[a].id = id) : plI L id = a := by
  induction L generalizing a with
  | nil => simp at ha; simp [plI, ha]
  | cons m r ih =>
    cases a with
    | zero => have := h2 (by simp); simp at this; simp [plI, this]
    | succ b =>
      have h0 := h1 0 (by simp) (by omega)
      simp only [List.getElem_cons_zero] at h0
      simp only [plI, h0, if_false]
      rw [ih b (by simpa using ha) (fun j hj hjb => by have := h1 (j + 1) (by simpa using hj) (by omega); simpa using this) (fun h => by have := h2 (by simpa using h); simpa using this)]

theorem pl_none {L : List Mob} {id : Int} (hr : Rises L) (hf : findB L id = false) : plR L id = -1 := by
  have h : plI L id = L.length := plI_is L id L.length (Nat.le_refl _) (fun j hj _ e => by
    have := (find_at hr j hj).2
    rw [e, hf] at this
    cases this) (fun h => absurd h (Nat.lt_irrefl _))
  unfold plR
  rw [h, if_neg (Nat.lt_irrefl _)]

theorem pl_some {L : List Mob} {id : Int} (hr : Rises L) (hf : findB L id = true) : ∃ h : findI L id < L.length, L[findI L id].id = id ∧ plR L id = (findI L id : Int) := by
  simp only [findB, decide_eq_true_eq] at hf
  obtain ⟨h, e⟩ := hf
  refine ⟨h, e, ?_⟩
  have h2 : plI L id = findI L id := plI_is L id _ (by omega) (fun j hj hji e2 => by have := hr j _ hj h hji; omega) (fun _ => e)
  unfold plR
  rw [h2, if_pos h]

end Go.Proofs.YtlfmfhmbkpnjbaaGreatDoor

namespace Go.Proofs.YtlfmfhmbkpnjbaaGreatDoor
open Go.RowKit

/-- A list of entities that the reference owns. -/
def OwnE (w : World) (base : Nat) (p : Option Addr) (cap : Nat) (L : List Mob) : Prop :=
  (p = none ∧ cap = 0 ∧ L = []) ∨ ∃ g cur, p = some ⟨g, 0, none⟩ ∧ base ≤ g ∧ cap ≤ maxLen ∧ RowAt w g L cap cur

theorem OwnE.row {w : World} {base : Nat} {p : Option Addr} {cap : Nat} {L : List Mob} (h : OwnE w base p cap L) : w.ownsRow base 83 7 (.slice p L.length cap) L.length (rowM L) := by
  refine ⟨rowM_length L, ?_⟩
  rcases h with ⟨rfl, rfl, rfl⟩ | ⟨g, cur, rfl, hb, hc, hr⟩
  · exact Or.inl ⟨rfl, rfl⟩
  · exact Or.inr ⟨g, cap, cur.toArray, rfl, hb, hr.blk, hr.short, hc, by simpa using hr.len, by simpa using hr.row⟩

theorem OwnE.of {w : World} {base : Nat} {v : Value} {L : List Mob} (h : w.ownsRow base 83 7 v L.length (rowM L)) : ∃ p cap, v = .slice p L.length cap ∧ OwnE w base p cap L := by
  rcases h.2 with ⟨rfl, h0⟩ | ⟨g, cap, cur, rfl, hb, hh, h1, h2, h3, h4⟩
  · have e := List.eq_nil_of_length_eq_zero h0
    exact ⟨none, 0, by rw [h0], Or.inl ⟨rfl, rfl, e⟩⟩
  · exact ⟨_, cap, rfl, Or.inr ⟨g, cur.toList, rfl, hb, h2, by simpa using hh, by simpa using h3, h4, h1⟩⟩

theorem OwnE.nil (w : World) (base : Nat) : OwnE w base none 0 [] := Or.inl ⟨rfl, rfl, rfl⟩
theorem OwnE.reads {w : World} {base : Nat} {p : Option Addr} {cap : Nat} {L : List Mob} (h : OwnE w base p cap L) : Reads w p L := owns_reads h.row
theorem OwnE.cap0 {w : World} {base : Nat} {p : Option Addr} {cap : Nat} {L : List Mob} (h : OwnE w base p cap L) : p = none → cap = 0 := by
  rcases h with ⟨_, h, _⟩ | ⟨g, cur, rfl, _⟩
  · exact fun _ => h
  · intro e; cases e
theorem OwnE.lt {w : World} {base : Nat} {p : Option Addr} {cap : Nat} {L : List Mob} (h : OwnE w base p cap L) (j : Nat) (hj : HB p j) : base ≤ j ∧ j < w.heap.size := by
  obtain ⟨off, e⟩ := hj
  rcases h with ⟨rfl, _, _⟩ | ⟨g, cur, rfl, hb, _, hr⟩
  · cases e
  · cases e; exact ⟨hb, heap_lt hr.blk⟩
theorem OwnE.typs {w : World} {base : Nat} {p : Option Addr} {cap : Nat} {L : List Mob} (h : OwnE w base p cap L) (j : Nat) (hj : HB p j) : typ w j 83 := by
  obtain ⟨off, e⟩ := hj
  rcases h with ⟨rfl, _, _⟩ | ⟨g, cur, rfl, hb, _, hr⟩
  · cases e
  · cases e; exact typ_blk hr.blk
theorem OwnE.keep {w w' : World} {S : Nat → Prop} {base : Nat} {p : Option Addr} {cap : Nat} {L : List Mob} (h : OwnE w base p cap L) (hk : Kept S w w') (hS : ∀ j, HB p j → ¬ S j) : OwnE w' base p cap L := by
  rcases h with h | ⟨g, cur, h1, h2, h3, h4⟩
  · exact Or.inl h
  · exact Or.inr ⟨g, cur, h1, h2, h3, by rw [hk.block g (heap_lt h4.blk) (hS g ⟨0, h1⟩)]; exact h4.blk, h4.len, h4.row, h4.short⟩
theorem OwnE.calm {w w' : World} {base : Nat} {p : Option Addr} {cap : Nat} {L : List Mob} (h : OwnE w base p cap L) (hk : Kept (fun _ => False) w w') : OwnE w' base p cap L := h.keep hk (fun _ _ e => e)
theorem OwnE.low {w : World} {base base' : Nat} {p : Option Addr} {cap : Nat} {L : List Mob} (h : OwnE w base p cap L) (hb : base' ≤ base) : OwnE w base' p cap L := by
  rcases h with h | ⟨g, cur, h1, h2, h3⟩
  · exact Or.inl h
  · exact Or.inr ⟨g, cur, h1, Nat.le_trans hb h2, h3⟩
theorem OwnE.there {w : World} {base : Nat} {p : Option Addr} {cap : Nat} {L : List Mob} (h : OwnE w base p cap L) (q : Nat) (hq : q < L.length) : ∃ g cur, p = some ⟨g, 0, none⟩ ∧ base ≤ g ∧ cap ≤ maxLen ∧ RowAt w g L cap cur := by
  rcases h with ⟨_, _, rfl⟩ | h
  · simp at hq
  · exact h

theorem RowAt.store {w : World} {g cap : Nat} {L L' : List Mob} {cur : List Value} (h : RowAt w g L cap cur) (j : Nat) (u : Value) (hl : L'.length = L.length) (hr : (rowM L).set j u = rowM L') :
    RowAt (w.setCell ⟨g, j, none⟩ u) g L' cap (cur.set j u) := by
  refine ⟨?_, by simpa using h.len, ?_, by rw [hl]; exact h.short⟩
  · rw [setCell_eq_setRow w g j _ 83 (0, 0) u h.blk]
    have := setRow_heap w g cur.toArray (cur.toArray.setIfInBounds j u) 83 (0, 0) h.blk
    simpa using this
  · rw [hl, ← hr, ← h.row, List.take_set]
theorem RowAt.warm {w : World} {g cap : Nat} {L : List Mob} {cur : List Value} (h : RowAt w g L cap cur) (j : Nat) : w.frozen? ⟨g, j, none⟩ = false := by simp [World.frozen?, h.blk]
theorem RowAt.calm' {w w' : World} {g cap : Nat} {L : List Mob} {cur : List Value} (h : RowAt w g L cap cur) (hk : Kept (fun _ => False) w w') : RowAt w' g L cap cur :=
  ⟨by rw [hk.block g (heap_lt h.blk) (fun e => e)]; exact h.blk, h.len, h.row, h.short⟩

theorem RowAt.at7 {w : World} {g cap : Nat} {L : List Mob} {cur : List Value} (h : RowAt w g L cap cur) (i : Nat) (hi : i < L.length) :
    w.cell? ⟨g, i * 7, none⟩ = some (.int .i64 L[i].id) ∧ w.cell? ⟨g, i * 7 + 1, none⟩ = some (.int .i64 L[i].team) ∧ w.cell? ⟨g, i * 7 + 2, none⟩ = some (.float .f32 L[i].x) ∧ w.cell? ⟨g, i * 7 + 3, none⟩ = some (.float .f32 L[i].y) ∧
    w.cell? ⟨g, i * 7 + 4, none⟩ = some (.float .f32 L[i].vx) ∧ w.cell? ⟨g, i * 7 + 5, none⟩ = some (.float .f32 L[i].vy) ∧ w.cell? ⟨g, i * 7 + 6, none⟩ = some (.int .i64 L[i].health) := by
  have hne : L ≠ [] := by intro e; subst e; simp at hi
  obtain ⟨b, off, e, _, h3⟩ := h.reads hne
  obtain ⟨rfl, rfl⟩ : g = b ∧ 0 = off := by simpa using e
  have h4 : ∀ j u, (rowM L)[j]? = some u → w.cell? ⟨g, j, none⟩ = some u := fun j u hu => by have := h3 j u hu; rwa [Nat.zero_add] at this
  obtain ⟨r0, r1, r2, r3, r4, r5, r6⟩ := rowM_get L i hi
  exact ⟨h4 _ _ r0, h4 _ _ r1, h4 _ _ r2, h4 _ _ r3, h4 _ _ r4, h4 _ _ r5, h4 _ _ r6⟩

/-- append of any list to one's own. -/
theorem wpList_append_list (w : World) {ops : Array Oper} {rest : List Oper} {o : Oper} {a : Act} {Q : Exit → Act → World → Prop} (hgd : o.guard = none) (s x : Operand)
    (ho : o.op = .call { callee := .builtin .append, args := #[s, x], argTypes := #[36, 36] }) (base : Nat) (p : Option Addr) (cap : Nat) (M : List Mob) (hs : a.eval s = .slice p M.length cap) (hown : OwnE w base p cap M)
    (q : Option Addr) (c : Nat) (A : List Mob) (hx : a.eval x = .slice q A.length c) (hq : q = none → c = 0) (hr : Reads w q A) (hb : M.length + A.length ≤ 1000) (hbase : base ≤ w.heap.size)
    (h : ∀ p' cap' w' R, Hid (R = M ++ A) → Hid (OwnE w' base p' cap' R) → Hid (Kept (HB p) w w') → wpList Tryz.prog ops Q rest (a.put o.dst (.slice p' R.length cap')) w') :
    wpList Tryz.prog ops Q (o :: rest) a w := by
  obtain ⟨i0, hi, hz0, hz1, hz2⟩ := info_parts info_mob
  have fin : ∀ v' w', w'.ownsRow base 83 7 v' (M.length + A.length) (rowM M ++ rowM A) → w.grownBy w' (Value.slice p M.length cap).ownBlock → wpList Tryz.prog ops Q rest (a.put o.dst v') w' := by
    intro v' w' ho' hg'
    rw [← rowM_append, ← List.length_append] at ho'
    obtain ⟨p', cap', rfl, hw⟩ := OwnE.of ho'
    refine h p' cap' w' (M ++ A) rfl hw ((Kept.of_grown hg').mono ?_ : Kept _ _ _)
    intro k _ e
    rcases hown with ⟨rfl, _, _⟩ | ⟨g, cur, rfl, _⟩
    · cases e
    · cases e; exact ⟨0, rfl⟩
  cases q with
  | none =>
    obtain rfl := hq rfl
    have hA : A = [] := by
      by_cases e : A = []
      · exact e
      · obtain ⟨_, _, e2, _⟩ := hr e; cases e2
    subst hA
    refine wpList_append_own_none hgd s x 36 ho base 83 i0 7 Tryz.underlying36 hi _ M.length (rowM M) hs hown.row hx ?_
    refine fin _ w (by simpa [rowM] using hown.row) ?_
    exact ⟨rfl, rfl, rfl, Nat.le_refl _, fun _ _ _ => rfl⟩
  | some ad =>
    by_cases hA : A = []
    · subst hA
      refine wpList_append_own w hgd s x 36 ho base 83 i0 _ 7 40 Tryz.underlying36 hi hz0 hz1 hz2 rfl (by decide) _ M.length (rowM M) hs hown.row ad 0 c [] hx rfl (fun j u hu => by simp at hu) (fun u hu => by simp at hu) (by unfold maxLen; omega) (by omega) hbase ?_
      intro v' w' ho' hg' _
      exact fin v' w' ho' hg'
    · obtain ⟨b, off, e, hbs, hcell⟩ := hr hA
      obtain rfl : ad = ⟨b, off, none⟩ := by simpa using e
      refine wpList_append_own w hgd s x 36 ho base 83 i0 _ 7 40 Tryz.underlying36 hi hz0 hz1 hz2 rfl (by decide) _ M.length (rowM M) hs hown.row ⟨b, off, none⟩ A.length c (rowM A) hx (rowM_length A) (fun j u hu => by rw [addr_add2]; exact hcell j u hu) (rowM_one A) (by unfold maxLen; omega) (by omega) hbase ?_
      intro v' w' ho' hg' _
      exact fin v' w' ho' hg'

set_option maxHeartbeats 1000000 in
set_option maxRecDepth 100000 in
theorem rmove_c (x v : Nat) (w : World) (hx : isNum x) (hv : okV v) : Calls Tryz.prog 90 #[.float .f32 x, .float .f32 v] w fun e w' => e = .returned (.tuple #[.float .f32 (movedF x v).1, .float .f32 (movedF x v).2]) ∧ w' = w := by
  obtain ⟨f1, -⟩ := fadd_ok hx hv
  obtain ⟨f2, o2⟩ := fmul_ok hv half_pos
  obtain ⟨f3, -⟩ := fmul_ok o2 slow_pos
  obtain ⟨f4, -⟩ := fmul_ok hv slow_pos
  have r1 : (binOp .add 55 (.float .f32 x) (.float .f32 v)).run Tryz.prog w = .ok (.float .f32 (fadd x v)) w := run_float_arith w .add _ .f32 x v _ f1
  have r2 : (binOp .mul 55 (.float .f32 v) (.float .f32 3204448256)).run Tryz.prog w = .ok (.float .f32 (fmul v 3204448256)) w := run_float_arith w .mul _ .f32 v _ _ f2
  have r3 : (binOp .mul 55 (.float .f32 (fmul v 3204448256)) (.float .f32 1061158912)).run Tryz.prog w = .ok (.float .f32 (fmul (fmul v 3204448256) 1061158912)) w := run_float_arith w .mul _ .f32 _ _ _ f3
  have r4 : (binOp .mul 55 (.float .f32 v) (.float .f32 1061158912)).run Tryz.prog w = .ok (.float .f32 (fmul v 1061158912)) w := run_float_arith w .mul _ .f32 v _ _ f4
  clear f1 f2 f3 f4 o2
  by_cases h1 : ford (fadd x v) 3296329728 = some .lt
  · have H : Hid (movedF x v = (3296329728, fmul (fmul v 3204448256) 1061158912)) := by show _ = _; unfold movedF; rw [if_pos h1]
    have b1 := ford_beq h1
    clear h1
    go_enter Tryz.func90, Tryz.ntmps90
    go_wp2
    go_ret2
    exact ⟨ret2 (by rw [H.out]; rfl) (by rw [H.out]; rfl), rfl⟩
  · have b1 := ford_bne h1
    by_cases h2 : ford (fadd x v) 1148846080 = some .gt
    · have H : Hid (movedF x v = (1148846080, fmul (fmul v 3204448256) 1061158912)) := by show _ = _; unfold movedF; rw [if_neg h1, if_pos h2]
      have b2 := ford_beq h2
      clear h1 h2
      go_enter Tryz.func90, Tryz.ntmps90
      go_wp2
      go_ret2
      exact ⟨ret2 (by rw [H.out]; rfl) (by rw [H.out]; rfl), rfl⟩
    · have H : Hid (movedF x v = (fadd x v, fmul v 1061158912)) := by show _ = _; unfold movedF; rw [if_neg h1, if_neg h2]
      have b2 := ford_bne h2
      clear h1 h2
      go_enter Tryz.func90, Tryz.ntmps90
      go_wp2
      go_ret2
      exact ⟨ret2 (by rw [H.out]; rfl) (by rw [H.out]; rfl), rfl⟩
end Go.Proofs.YtlfmfhmbkpnjbaaGreatDoor
