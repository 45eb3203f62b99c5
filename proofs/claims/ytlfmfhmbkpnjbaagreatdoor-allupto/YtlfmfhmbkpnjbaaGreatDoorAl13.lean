import Derived.Test.YtlfmfhmbkpnjbaaGreatDoorAl12
import Derived.Test.YtlfmfhmbkpnjbaaGreatDoorAl3
import Derived.Lib.FrozenHead
namespace Go.Proofs.YtlfmfhmbkpnjbaaGreatDoor
open Go.RowKit

theorem info_ents : (Tryz.prog.info? 36).map (fun i => (i.zero, i.size, i.bytes)) = some (some (.slice none 0 0), 1, 24) := by kernel_rfl

theorem two_set0 {w : World} {c : Nat} {a b : Value} {T : TypeId} (h : w.heap[c]? = some (.cells #[a, b] T (0, 0))) (u : Value) : (w.setCell ⟨c, 0, none⟩ u).heap[c]? = some (.cells #[u, b] T (0, 0)) := by
  rw [setCell_eq_setRow w c 0 #[a, b] T (0, 0) u h]
  exact setRow_heap w c _ _ T _ h

theorem Home.typ {w : World} {p : Option Addr} {a cap : Nat} {k : Int} (h : Home w p a cap k) (j : Nat) (hj : HB p j) : typ w j 83 := by
  obtain ⟨off, hj⟩ := hj
  rcases h with ⟨rfl, _⟩ | ⟨g, cur, rfl, h2, _⟩
  · cases hj
  · cases hj
    exact typ_blk h2

theorem Good.typ {w : World} {p p' : Option Addr} {l a cap : Nat} {k : Int} (h : Good w p p' l a k) (hh : Home w p a cap k) (j : Nat) (hj : HB p' j) : typ w j 83 := by
  rcases h with ⟨rfl, _⟩ | ⟨g', rfl, _, h3, _⟩
  · exact hh.typ j hj
  · obtain ⟨off, hj⟩ := hj
    cases hj
    exact h3

theorem bookE_fin {w w3 w4 : World} {bk n cap a G cp c1 c2 c3 : Nat} {p p1 p2 p3 : Option Addr} {ev : Value} {Q : List Els} {k : Int} {o : Obj} (H : BookE w bk ev Q) (hk3 : Kept (HB p) w w3) (hp : ∀ j, HB p j → typ w j 83)
    (hgQ : ∀ i (h : i < Q.length) j, HB Q[i].1 j → ¬ HB p j) (hn : n ≤ 64) (hk : k = (Q.length : Int) / 4) (HM : Home w3 p a cap k) (hna : n ≤ a) (G1 : Good w3 p p1 (n + 1) a k) (G2 : Good w3 p p2 (n + 2) a k) (G3 : Good w3 p p3 (n + 3) a k)
    (hgrow : (w3.alloc o).grownBy w4 ev.ownBlock) (hown : w4.ownsRow 0 36 1 (.slice (some ⟨G, 0, none⟩) (Q.length + 4) cp) (Q.length + 4) (Q.map se ++ [se (p, n, cap), se (p1, n + 1, c1), se (p2, n + 2, c2), se (p3, n + 3, c3)])) (hG : ev.ownBlock = some G ∨ w3.heap.size + 1 ≤ G) :
    w4.heap[bk]? = some (.cells #[ev, .slice none 0 0] 49 (0, 0)) ∧
    BookE (w4.setCell ⟨bk, 0, none⟩ (.slice (some ⟨G, 0, none⟩) (Q.length + 4) cp)) bk (.slice (some ⟨G, 0, none⟩) (Q.length + 4) cp) (Q ++ [(p, n, cap), (p1, n + 1, c1), (p2, n + 2, c2), (p3, n + 3, c3)]) ∧
      Kept (fun j => HB p j ∨ j = bk ∨ ev.ownBlock = some j) w (w4.setCell ⟨bk, 0, none⟩ (.slice (some ⟨G, 0, none⟩) (Q.length + 4) cp)) ∧ (ev.ownBlock = some G ∨ w.heap.size ≤ G) := by
  have tb : typ w bk 49 := typ_blk H.blk
  have tk : ∀ j, ev.ownBlock = some j → typ w j 36 := fun j hj => typ_own H.own j hj
  have hbg : ¬ HB p bk := fun e => typ_ne tb (hp bk e) (by decide) rfl
  have tb3 : typ w3 bk 49 := typ_keep tb hk3 hbg
  have hek : ∀ j, ev.ownBlock = some j → ¬ HB p j := fun j hj e => typ_ne (tk j hj) (hp j e) (by decide) rfl
  have tk3 : ∀ j, ev.ownBlock = some j → typ w3 j 36 := fun j hj => typ_keep (tk j hj) hk3 (hek j hj)
  have hs3 := hk3.size
  have hka : Kept (fun j => ev.ownBlock = some j) w3 w4 := ((Kept.alloc w3 o).join (Kept.of_grown hgrow) (R := fun j => ev.ownBlock = some j) (fun _ _ e => e.elim) (fun _ _ e => e.symm))
  have hkb : ¬ ev.ownBlock = some bk := fun e => typ_ne (tk bk e) tb (by decide) rfl
  have hb4 : w4.heap[bk]? = some (.cells #[ev, .slice none 0 0] 49 (0, 0)) := by
    rw [hka.block bk (typ_lt tb3) hkb, hk3.block bk (typ_lt tb) hbg]; exact H.blk
  have hGb : G ≠ bk := by
    rcases hG with h | h
    · exact fun e => hkb (by rw [h, e])
    · have := typ_lt tb3; omega
  have hkall : Kept (fun j => ev.ownBlock = some j ∨ j = bk) w3 (w4.setCell ⟨bk, 0, none⟩ (.slice (some ⟨G, 0, none⟩) (Q.length + 4) cp)) :=
    hka.join (Kept.setCell w4 _ _) (fun _ _ e => Or.inl e) (fun _ _ e => Or.inr e)
  have far : ∀ j, typ w3 j 83 → ¬ (ev.ownBlock = some j ∨ j = bk) := fun j hj e => by
    rcases e with e | e
    · exact typ_ne (tk3 j e) hj (by decide) rfl
    · exact typ_ne hj tb3 (by decide) e
  have keepR : ∀ {q : Option Addr} {L : List Mob}, Reads w3 q L → (∀ j, HB q j → typ w3 j 83) → Reads (w4.setCell ⟨bk, 0, none⟩ (.slice (some ⟨G, 0, none⟩) (Q.length + 4) cp)) q L :=
    fun hr ht => hr.keep hkall (fun b off e => far b (ht b ⟨off, e⟩))
  have keepT : ∀ {j : Nat}, typ w3 j 83 → typ (w4.setCell ⟨bk, 0, none⟩ (.slice (some ⟨G, 0, none⟩) (Q.length + 4) cp)) j 83 := fun ht => typ_keep ht hkall (far _ ht)
  have told : ∀ i (h : i < Q.length) j, HB Q[i].1 j → typ w3 j 83 := fun i h j hj => typ_keep (H.here i h j hj) hk3 (hgQ i h j hj)
  have hquad : ∀ t : Nat, t < 4 → ((Q.length + t : Nat) : Int) / 4 = k := by
    intro t ht
    have := H.four
    rw [hk]; omega
  have e1 : (Q ++ [(p, n, cap), (p1, n + 1, c1), (p2, n + 2, c2), (p3, n + 3, c3)]).length = Q.length + 4 := by simp
  refine ⟨hb4, ⟨two_set0 hb4 _, ?_, ?_, ?_, ?_, ?_⟩, ?_, ?_⟩
  · rw [e1, List.map_append]
    refine owns_block hown ?_
    intro j e
    simp only [Value.ownBlock, Option.some.injEq] at e
    subst e
    exact Below.heap_setCell _ _ _ _ hGb
  · intro i hi
    by_cases h0 : i < Q.length
    · rw [List.getElem_append_left h0]
      exact keepR ((H.rows i h0).keep hk3 (fun b off e => hgQ i h0 b ⟨off, e⟩)) (told i h0)
    · have h4 : i < Q.length + 4 := by simpa using hi
      obtain ⟨t, rfl⟩ : ∃ t, i = Q.length + t := ⟨i - Q.length, by omega⟩
      rw [List.getElem_append_right (by omega)]
      rw [hquad t (by omega)]
      simp only [show Q.length + t - Q.length = t from by omega]
      match t, (show t < 4 by omega) with
      | 0, _ => exact keepR (HM.reads n hna) (fun j hj => HM.typ j hj)
      | 1, _ => exact keepR (G1.reads HM) (fun j hj => G1.typ HM j hj)
      | 2, _ => exact keepR (G2.reads HM) (fun j hj => G2.typ HM j hj)
      | 3, _ => exact keepR (G3.reads HM) (fun j hj => G3.typ HM j hj)
  · intro i hi
    by_cases h0 : i < Q.length
    · rw [List.getElem_append_left h0]
      exact fun j hj => keepT (told i h0 j hj)
    · have h4 : i < Q.length + 4 := by simpa using hi
      obtain ⟨t, rfl⟩ : ∃ t, i = Q.length + t := ⟨i - Q.length, by omega⟩
      rw [List.getElem_append_right (by omega)]
      simp only [show Q.length + t - Q.length = t from by omega]
      match t, (show t < 4 by omega) with
      | 0, _ => exact fun j hj => keepT (HM.typ j hj)
      | 1, _ => exact fun j hj => keepT (G1.typ HM j hj)
      | 2, _ => exact fun j hj => keepT (G2.typ HM j hj)
      | 3, _ => exact fun j hj => keepT (G3.typ HM j hj)
  · intro i hi
    by_cases h0 : i < Q.length
    · rw [List.getElem_append_left h0]
      exact H.short i h0
    · have h4 : i < Q.length + 4 := by simpa using hi
      obtain ⟨t, rfl⟩ : ∃ t, i = Q.length + t := ⟨i - Q.length, by omega⟩
      rw [List.getElem_append_right (by omega)]
      simp only [show Q.length + t - Q.length = t from by omega]
      match t, (show t < 4 by omega) with
      | 0, _ => show n ≤ 100; omega
      | 1, _ => show n + 1 ≤ 100; omega
      | 2, _ => show n + 2 ≤ 100; omega
      | 3, _ => show n + 3 ≤ 100; omega
  · have := H.four
    rw [e1]; omega
  · exact hk3.join hkall (fun _ _ e => Or.inl e) (fun _ _ e => by rcases e with e | e; exact Or.inr (Or.inr e); exact Or.inr (Or.inl e))
  · rcases hG with h | h
    · exact Or.inl h
    · exact Or.inr (by omega)

/-- A list of entities that came out, as it came. -/
def Raw (w : World) (p : Option Addr) (n cap : Nat) : Prop :=
  (p = none ∧ n = 0 ∧ cap = 0) ∨ ∃ g cur, p = some ⟨g, 0, none⟩ ∧ w.heap[g]? = some (.cells (cur : List Value).toArray 83 (0, 0)) ∧ cur.length = cap * 7 ∧ n ≤ cap

theorem Raw.home {w : World} {p : Option Addr} {n cap : Nat} (h : Raw w p n cap) (k : Int) : Home w p 0 cap k := by
  rcases h with ⟨h1, _, h3⟩ | ⟨g, cur, h1, h2, h3, h4⟩
  · exact Or.inl ⟨h1, rfl, h3⟩
  · exact Or.inr ⟨g, cur, h1, h2, h3, Nat.zero_le _, by simp [mks, rowM]⟩
theorem Raw.cap {w : World} {p : Option Addr} {n cap : Nat} (h : Raw w p n cap) : n ≤ cap := by
  rcases h with ⟨_, h2, h3⟩ | ⟨g, cur, _, _, _, h4⟩ <;> omega

theorem Home.more {w' : World} {g i cap : Nat} {k : Int} {cur : List Value} (h2 : cur.length = cap * 7) (h3 : i < cap) (h5 : cur.take (i * 7) = rowM (mks i k)) (hw : w'.heap[g]? = some (.cells (splice cur (i * 7) (rowM [markM k])).toArray 83 (0, 0))) : Home w' (some ⟨g, 0, none⟩) (i + 1) cap k := by
  have l2 : (rowM [markM k]).length = 7 := rfl
  refine Or.inr ⟨g, _, rfl, hw, ?_, h3, splice_more cur i 1 i k h5 (Nat.le_refl _)⟩
  rw [length_splice _ _ _ (by rw [h2, l2]; omega), h2]

set_option maxHeartbeats 4000000 in
set_option maxRecDepth 100000 in
theorem keepE (bk n cap : Nat) (p : Option Addr) (ev : Value) (Q : List Els) (w : World) (hQ : Q.length ≤ 1000000000) (hn : n ≤ 64) (h : BookE w bk ev Q) (hr : Raw w p n cap) (hgQ : ∀ i (h : i < Q.length) j, HB Q[i].1 j → ¬ HB p j) :
    Calls Tryz.prog 61 #[.pointer (some ⟨bk, 0, none⟩), .slice p n cap] w fun e w' => e = .returned (.tuple #[]) ∧
      ∃ ev' Q', BookE w' bk ev' Q' ∧ Q'.length = Q.length + 4 ∧ Kept (fun j => HB p j ∨ j = bk ∨ ev.ownBlock = some j) w w' ∧ ∀ j, ev'.ownBlock = some j → ev.ownBlock = some j ∨ w.heap.size ≤ j := by
  obtain ⟨i1, hi1, hy0, hy1, hy2⟩ := info_parts info_ents
  have hsf := store_float Tryz.prog
  obtain ⟨ao, cp, rfl⟩ : ∃ ao cp, ev = .slice ao Q.length cp := by
    rcases h.own.2 with ⟨rfl, h0⟩ | ⟨g, cp, _, rfl, _⟩
    · exact ⟨none, 0, by rw [h0]⟩
    · exact ⟨_, _, rfl⟩
  obtain ⟨c0, c1, -, -⟩ := two_cells h.blk
  have H := hide h
  have HRW := hide hr
  have HGQ := hide hgQ
  have hcap := hr.cap
  clear h hr hgQ
  have hwr : IntKind.i64.wrap ((Q.length : Int) / 4) = (Q.length : Int) / 4 := wrap_id _ (by omega)
  go_enter Tryz.func61, Tryz.ntmps61
  go_wp2_with fail
  try rw [hwr]
  refine (badEntity_c ((Q.length : Int) / 4) _ (by omega)).mono ?_
  rintro e w1 ⟨rfl, q1⟩
  have K1 := hide q1
  clear q1 c0 c1 hwr
  have HKQ : Hid (∃ k : Int, k = (Q.length : Int) / 4) := ⟨_, rfl⟩
  obtain ⟨k, hk⟩ := HKQ.out
  clear HKQ
  rw [← hk]
  have HKK := hide hk
  clear hk
  have MN := hide (heap_alloc_new w1 (.cells #[.int .i64 (-1000 - k), .int .i64 0, .float .f32 0, .float .f32 0, .float .f32 0, .float .f32 0, .int .i64 7] 83))
  have KM := hide (K1.out.calm2 (Kept.alloc w1 (.cells #[.int .i64 (-1000 - k), .int .i64 0, .float .f32 0, .float .f32 0, .float .f32 0, .float .f32 0, .int .i64 7] 83)))
  have hw1 := K1.out.size
  go_wp2
  generalize w1.alloc (.cells #[.int .i64 (-1000 - k), .int .i64 0, .float .f32 0, .float .f32 0, .float .f32 0, .float .f32 0, .int .i64 7] 83) = W at *
  have hpw : Hid (∀ j, HB p j → typ w j 83) := fun j hj => (HRW.out.home k).typ j hj
  have hpm : Hid (¬ HB p w1.heap.size) := fun e => by have := typ_lt (hpw.out _ e); omega
  have HM0 : Hid (Home W p 0 cap k) := (HRW.out.home k).keep KM.out (fun _ _ e => e)
  go_loopw [5] (fun t wr => ∃ i : Nat, i ≤ n ∧ t = .int .i64 i ∧ Hid (Home wr p i cap k) ∧ Hid (Kept (HB p) W wr)) (fun t _ => n - (intOf t).toNat)
  case atStart => exact ⟨0, Nat.zero_le _, rfl, HM0, Kept.refl _ _⟩
  case round =>
    obtain ⟨i, hil, rfl, HE, HK⟩ := hrel
    clear HM0
    have MR : Hid (wr.heap[w1.heap.size]? = some (.cells #[.int .i64 (-1000 - k), .int .i64 0, .float .f32 0, .float .f32 0, .float .f32 0, .float .f32 0, .int .i64 7] 83 (0, 0))) := by show _ = _; rw [HK.out.block _ (heap_lt MN.out) hpm.out]; exact MN.out
    obtain ⟨m0, m1, m2, m3, m4, m5, m6⟩ := seven_cells MR.out
    by_cases hlt : i < n
    · obtain ⟨g, cur, rfl, hg, hcl, -, hct⟩ : ∃ g cur, p = some ⟨g, 0, none⟩ ∧ wr.heap[g]? = some (.cells (cur : List Value).toArray 83 (0, 0)) ∧ cur.length = cap * 7 ∧ i ≤ cap ∧ cur.take (i * 7) = rowM (mks i k) := by
        rcases HE.out with ⟨_, _, h3⟩ | hh
        · omega
        · exact hh
      have hb1 : (0 : Int) ≤ (i : Int) := by omega
      have hb2 : (i : Int) < (n : Int) := by omega
      have hal : i * 7 + 7 ≤ cur.length := by rw [hcl]; omega
      obtain ⟨u0, u1, u2, u3, u4, u5, u6, f0, f1, f2, f3, f4, f5, f6⟩ := seven_old hg (i * 7) hal
      have ffz : ∀ j, wr.frozen? ⟨g, j, none⟩ = false := fun j => by simp [World.frozen?, hg]
      have ST := hide (store7 hg (i * 7) (markM k) hal)
      have HG := hide hg
      clear hg
      go_wp2
      go_roundw
      case rel => exact ⟨i + 1, by omega, by go_num, Home.more hcl (by omega) hct ST.out.1, HK.out.join ST.out.2 (fun _ _ e => e) (fun j _ e => ⟨0, by rw [e]⟩)⟩
      case measure => simp [intOf]; omega
    · obtain rfl : i = n := by omega
      go_wp2_with (at_builtin; refine wpList_append_mark _ rfl (.tmp 26) (.tmp 28) rfl p i cap i k rfl (HE.out.keep (Kept.alloc wr _) (fun _ _ e => e)) (Nat.le_refl _) ⟨wr.heap.size, 0, none⟩ 1 1 rfl ?nw1 (by decide) (by omega) ?_)
      case nw1 => exact new_cells _ (rowM (mks 1 k)) _ _ rfl
      intro p1 cp1 wx a1 HM1 ha1 G1 KX1
      have KY1 : Hid (Kept (HB p) wr wx) := (Kept.alloc wr _).join KX1.out (fun _ _ e => e.elim) (fun _ _ e => e)
      have HK : Hid (Kept (HB p) W wx) := HK.out.join KY1.out (fun _ _ e => e) (fun _ _ e => e)
      have MR : Hid (wx.heap[w1.heap.size]? = some (.cells #[.int .i64 (-1000 - k), .int .i64 0, .float .f32 0, .float .f32 0, .float .f32 0, .float .f32 0, .int .i64 7] 83 (0, 0))) := by show _ = _; rw [HK.out.block _ (heap_lt MN.out) hpm.out]; exact MN.out
      clear KX1 KY1 HE m0 m1 m2 m3 m4 m5 m6
      obtain ⟨m0, m1, m2, m3, m4, m5, m6⟩ := seven_cells MR.out
      go_wp2_with (at_builtin; refine wpList_append_mark _ rfl (.tmp 30) (.tmp 33) rfl p i cap a1 k rfl (HM1.out.keep (Kept.alloc wx _) (fun _ _ e => e)) (ha1) ⟨wx.heap.size, 0, none⟩ 2 2 rfl ?nw2 (by decide) (by omega) ?_)
      case nw2 => exact new_cells _ (rowM (mks 2 k)) _ _ rfl
      intro p2 cp2 wy a2 HM2 ha2 G2 KX2
      have KY2 : Hid (Kept (HB p) wx wy) := (Kept.alloc wx _).join KX2.out (fun _ _ e => e.elim) (fun _ _ e => e)
      have HK : Hid (Kept (HB p) W wy) := HK.out.join KY2.out (fun _ _ e => e) (fun _ _ e => e)
      have MR : Hid (wy.heap[w1.heap.size]? = some (.cells #[.int .i64 (-1000 - k), .int .i64 0, .float .f32 0, .float .f32 0, .float .f32 0, .float .f32 0, .int .i64 7] 83 (0, 0))) := by show _ = _; rw [HK.out.block _ (heap_lt MN.out) hpm.out]; exact MN.out
      have G1 := hide (G1.out.keep KY2.out ha2)
      clear KX2 KY2 HM1 m0 m1 m2 m3 m4 m5 m6
      obtain ⟨m0, m1, m2, m3, m4, m5, m6⟩ := seven_cells MR.out
      go_wp2_with (at_builtin; refine wpList_append_mark _ rfl (.tmp 35) (.tmp 39) rfl p i cap a2 k rfl (HM2.out.keep (Kept.alloc wy _) (fun _ _ e => e)) ((by omega)) ⟨wy.heap.size, 0, none⟩ 3 3 rfl ?nw3 (by decide) (by omega) ?_)
      case nw3 => exact new_cells _ (rowM (mks 3 k)) _ _ rfl
      intro p3 cp3 wz a3 HM3 ha3 G3 KX3
      have KY3 : Hid (Kept (HB p) wy wz) := (Kept.alloc wy _).join KX3.out (fun _ _ e => e.elim) (fun _ _ e => e)
      have HK : Hid (Kept (HB p) W wz) := HK.out.join KY3.out (fun _ _ e => e) (fun _ _ e => e)
      have MR : Hid (wz.heap[w1.heap.size]? = some (.cells #[.int .i64 (-1000 - k), .int .i64 0, .float .f32 0, .float .f32 0, .float .f32 0, .float .f32 0, .int .i64 7] 83 (0, 0))) := by show _ = _; rw [HK.out.block _ (heap_lt MN.out) hpm.out]; exact MN.out
      have G1 := hide (G1.out.keep KY3.out ha3)
      have G2 := hide (G2.out.keep KY3.out ha3)
      clear KX3 KY3 HM2 m0 m1 m2 m3 m4 m5 m6
      obtain ⟨m0, m1, m2, m3, m4, m5, m6⟩ := seven_cells MR.out
      have K3 : Hid (Kept (HB p) w wz) := KM.out.join HK.out (fun _ _ e => e.elim) (fun _ _ e => e)
      have hkg : ∀ j, (Value.slice ao Q.length cp).ownBlock = some j → ¬ HB p j := fun j hj e => typ_ne (typ_own H.out.own j hj) (hpw.out j e) (by decide) rfl
      have HO : Hid (wz.ownsRow 0 36 1 (.slice ao Q.length cp) Q.length (Q.map se)) := owns_block H.out.own (fun j hj => K3.out.block j (owns_lt H.out.own j hj) (hkg j hj))
      have HBk : Hid (wz.heap[bk]? = some (.cells #[.slice ao Q.length cp, .slice none 0 0] 49 (0, 0))) := by
        show _ = _
        rw [K3.out.block bk (heap_lt H.out.blk) (fun e => typ_ne (typ_blk H.out.blk) (hpw.out bk e) (by decide) rfl)]; exact H.out.blk
      obtain ⟨c0, c1, -, -⟩ := two_cells HBk.out
      clear hkg m0 m1 m2 m3 m4 m5 m6 HK MR
      go_wp2_with (at_builtin; refine wpList_append_mine _ rfl (.tmp 45) (.tmp 50) 47 rfl 36 i1 (.slice none 0 0) 1 24 Tryz.underlying47 hi1 hy0 hy1 hy2 rfl (by decide) _ _ _ rfl (HO.out.alloc _) ⟨wz.heap.size, 0, none⟩ 4 4 [se (p, i, cap), se (p1, i + 1, cp1), se (p2, i + 2, cp2), se (p3, i + 3, cp3)] rfl rfl ?nw4 ?oc4 (by decide) ?b41 ?b42 ?_)
      case nw4 => exact new_cells _ [se (p, i, cap), se (p1, i + 1, cp1), se (p2, i + 2, cp2), se (p3, i + 3, cp3)] _ _ rfl
      case oc4 => intro u hu; simp only [List.mem_cons, List.not_mem_nil, or_false] at hu; rcases hu with rfl | rfl | rfl | rfl <;> rfl
      case b41 => unfold maxLen; omega
      case b42 => omega
      intro G cp4 w4 hown4 hgrow4 hG4
      have R := hide (bookE_fin (c1 := cp1) (c2 := cp2) (c3 := cp3) H.out K3.out hpw.out HGQ.out hn HKK.out HM3.out (by omega) G1.out G2.out G3.out hgrow4 hown4 hG4)
      obtain ⟨d0, d1, e0, e1⟩ := two_cells R.out.1
      clear hown4 hgrow4 hG4 c0 c1 G1 G2 G3 HM3 K3 HO HBk
      go_wp2
      go_end0
      obtain ⟨_, r1, r2, r3⟩ := R.out
      refine ⟨rfl, _, _, r1, by simp, r2, fun j hj => ?_⟩
      simp only [Value.ownBlock, Option.some.injEq] at hj
      subst hj
      exact r3
end Go.Proofs.YtlfmfhmbkpnjbaaGreatDoor

namespace Go.Proofs.YtlfmfhmbkpnjbaaGreatDoor
open Go.RowKit

theorem five_cells {w : World} {c : Nat} {a b d e f : Value} {T : TypeId} (h : w.heap[c]? = some (.cells #[a, b, d, e, f] T (0, 0))) : w.cell? ⟨c, 0, none⟩ = some a ∧ w.cell? ⟨c, 1, none⟩ = some b ∧ w.cell? ⟨c, 2, none⟩ = some d ∧ w.cell? ⟨c, 3, none⟩ = some e ∧ w.cell? ⟨c, 4, none⟩ = some f ∧ ∀ j, w.frozen? ⟨c, j, none⟩ = false := by
  refine ⟨?_, ?_, ?_, ?_, ?_, fun j => by simp [World.frozen?, h]⟩ <;> rw [cell_block h] <;> rfl
theorem row_set {w : World} {c : Nat} {xs : Array Value} {T : TypeId} (h : w.heap[c]? = some (.cells xs T (0, 0))) (j : Nat) (u : Value) : (w.setCell ⟨c, j, none⟩ u).heap[c]? = some (.cells (xs.setIfInBounds j u) T (0, 0)) := by
  rw [setCell_eq_setRow w c j _ T (0, 0) u h]
  exact setRow_heap w c xs (xs.setIfInBounds j u) T (0, 0) h

/-- A recorder's block, and the text that its builder holds. -/
structure Rec (w : World) (rb : Nat) (c0 c1 c2 ad buf : Value) (s : List UInt8) : Prop where
  blk : w.heap[rb]? = some (.cells #[c0, c1, c2, ad, buf] 98 (0, 0))
  own : w.ownsRowF 0 5 1 buf s.length (Lib.byteCells s)
  self : ad = .pointer none ∨ ad = .pointer (some ⟨rb, 3, none⟩)

theorem ownsF_block {w w' : World} {base : Nat} {e : TypeId} {size : Nat} {v : Value} {n : Nat} {xs : List Value} (h : w.ownsRowF base e size v n xs) (hb : ∀ g, v.ownBlock = some g → w'.heap[g]? = w.heap[g]?) : w'.ownsRowF base e size v n xs := by
  obtain ⟨h1, h2⟩ := h
  refine ⟨h1, ?_⟩
  rcases h2 with h2 | ⟨g, cap, cur, fz, hv, hg, hh, r⟩
  · exact Or.inl h2
  · exact Or.inr ⟨g, cap, cur, fz, hv, hg, by rw [hb g (by rw [hv]; rfl)]; exact hh, r⟩
theorem typ_ownF {w : World} {base : Nat} {e : TypeId} {size : Nat} {v : Value} {n : Nat} {xs : List Value} (h : w.ownsRowF base e size v n xs) (g : Nat) (hg : v.ownBlock = some g) : typ w g e := by
  rcases h.2 with ⟨rfl, _⟩ | ⟨g', cp, cur, fz, rfl, _, hh, _⟩
  · cases hg
  · simp only [Value.ownBlock, Option.some.injEq] at hg
    subst hg
    exact ⟨cur, fz, hh⟩
theorem Rec.keep {w w' : World} {S : Nat → Prop} {rb : Nat} {c0 c1 c2 ad buf : Value} {s : List UInt8} (h : Rec w rb c0 c1 c2 ad buf s) (k : Kept S w w') (h1 : ¬ S rb) (h2 : ∀ j, buf.ownBlock = some j → ¬ S j) : Rec w' rb c0 c1 c2 ad buf s :=
  ⟨by rw [k.block _ (heap_lt h.blk) h1]; exact h.blk, ownsF_block h.own (fun j hj => k.block j (h.own.lt j hj).2 (h2 j hj)), h.self⟩
theorem Rec.calm {w w' : World} {rb : Nat} {c0 c1 c2 ad buf : Value} {s : List UInt8} (h : Rec w rb c0 c1 c2 ad buf s) (k : Kept (fun _ => False) w w') : Rec w' rb c0 c1 c2 ad buf s := h.keep k (fun e => e) (fun _ _ e => e)
theorem Rec.ne {w : World} {rb : Nat} {c0 c1 c2 ad buf : Value} {s : List UInt8} (h : Rec w rb c0 c1 c2 ad buf s) : buf.ownBlock ≠ some rb := fun e => typ_ne (typ_ownF h.own rb e) (typ_blk h.blk) (by decide) rfl

theorem bytes_info : (Tryz.prog.info? 5).map (fun i => (i.zero, i.size, i.bytes)) = some (some (.int .u8 0), 1, 1) := by kernel_rfl
theorem builder_info : (Tryz.prog.info? 96).map (·.size) = some 2 := by kernel_rfl

/-- append of a text to bytes of one's own, whose head may be frozen: where the new row lies. -/
theorem run_append_mineF (w : World) (ty : TypeId) (v : Value) (n : Nat) (xs : List Value) (hown : w.ownsRowF 0 5 1 v n xs) (s : ByteArray) (hb : n + s.size ≤ 140737488355328) :
    ∃ v' w', (Builtin.append_ #[94, 9] ty #[v, .string s]).run Tryz.prog w = .ok v' w' ∧ w'.ownsRowF 0 5 1 v' (n + s.size) (xs ++ Lib.strCells s) ∧ w.grownBy w' v.ownBlock ∧ ∀ j, v'.ownBlock = some j → v.ownBlock = some j ∨ w.heap.size ≤ j := by
  obtain ⟨i, hi, hz, hs, hy⟩ := info_parts bytes_info
  have h63 : n + s.size ≤ maxLen := by unfold maxLen; omega
  obtain ⟨v', w', h1, h2, h3, h4⟩ := Lib.run_append_own_stringF (P := Tryz.prog) w 0 94 9 ty 5 i Tryz.underlying94 Tryz.underlying9 hi hz hs hy v n xs hown s h63 hb (Nat.zero_le _)
  refine ⟨v', w', h1, h2, h3, ?_⟩
  rcases hown.2 with ⟨rfl, rfl⟩ | ⟨g, cap, cur, fz, rfl, hbg, hg, hfz, hnc, hcm, hcs, htake⟩
  · obtain ⟨v2, w2, k1, k2, _⟩ := Lib.run_append_own_stringF (P := Tryz.prog) w w.heap.size 94 9 ty 5 i Tryz.underlying94 Tryz.underlying9 hi hz hs hy (.slice none 0 0) 0 xs ⟨hown.1, Or.inl ⟨rfl, rfl⟩⟩ s h63 hb (Nat.le_refl _)
    rw [h1] at k1
    obtain ⟨rfl, rfl⟩ : v' = v2 ∧ w' = w2 := by simpa using k1
    exact fun j hj => Or.inr (k2.lt j hj).1
  · by_cases hroom : n + s.size ≤ cap
    · have hr := Lib.run_append_room_stringF (P := Tryz.prog) w 94 9 ty 5 i Tryz.underlying94 Tryz.underlying9 hi hs g n cap cur fz hg (by simpa using hfz) s hroom (by simp only [Nat.mul_one] at hcs; omega)
      rw [h1] at hr
      obtain ⟨rfl, _⟩ : v' = _ ∧ w' = _ := by simpa using hr
      exact fun j hj => Or.inl hj
    · have hxl : xs.length = n := by simpa using hown.1
      have hr := Lib.run_append_grow_string (P := Tryz.prog) w 94 9 ty 5 i (.int .u8 0) Tryz.underlying94 Tryz.underlying9 hi hz ⟨g, 0, none⟩ n cap xs (by rw [hs]; simpa using hxl) (hown.cells (g := g) rfl) s (by omega) (by omega) (by rw [hy]; exact growslice_fits (by omega) (by omega))
      rw [h1] at hr
      obtain ⟨rfl, _⟩ : v' = _ ∧ w' = _ := by simpa using hr
      exact fun j hj => Or.inr (by simp only [Value.ownBlock, Option.some.injEq] at hj; omega)

theorem wpList_append_textF (w : World) {ops : Array Oper} {rest : List Oper} {o : Oper} {a : Act} {Q : Exit → Act → World → Prop} (hgd : o.guard = none) (sl x : Operand)
    (ho : o.op = .call { callee := .builtin .append, args := #[sl, x], argTypes := #[94, 9] }) (v : Value) (n : Nat) (xs : List Value) (hs : a.eval sl = v) (hown : w.ownsRowF 0 5 1 v n xs) (s : ByteArray) (hx : a.eval x = .string s)
    (hb : n + s.size ≤ 140737488355328)
    (h : ∀ v' w', Hid (w'.ownsRowF 0 5 1 v' (n + s.size) (xs ++ Lib.strCells s)) → Hid (w.grownBy w' v.ownBlock) → Hid (∀ j, v'.ownBlock = some j → v.ownBlock = some j ∨ w.heap.size ≤ j) → wpList Tryz.prog ops Q rest (a.put o.dst v') w') : wpList Tryz.prog ops Q (o :: rest) a w := by
  refine wpList_plain hgd fun K hK => ?_
  obtain ⟨v', w', hr, h2, h3, h4⟩ := run_append_mineF w o.type v n xs hown s hb
  unfold Oper.wp execOp
  simp only [ho, resolve, invoke, builtin, Sem.run_bind, Sem.run_pure, Result.andThen_ok, List.map_toArray, List.map_cons, List.map_nil, hs, hx, hr]
  exact hK _ _ (h v' w' h2 h3 h4)

set_option maxHeartbeats 1000000 in
set_option maxRecDepth 100000 in
theorem copy_used (rb : Nat) (w : World) (h : w.cell? ⟨rb, 3, none⟩ = some (.pointer (some ⟨rb, 3, none⟩))) :
    Calls Tryz.prog 62 #[.pointer (some ⟨rb, 3, none⟩)] w fun e w' => e = .returned (.tuple #[]) ∧ w' = w := by
  obtain ⟨j, hj, _⟩ := Option.map_eq_some_iff.1 builder_info
  go_enter Tryz.func62, Tryz.ntmps62
  go_wp2
  rw [Lib.run_neq_ptr_same w _ Tryz.underlying93 hj]
  go_wp2
  go_end0
  exact ⟨rfl, rfl⟩

set_option maxHeartbeats 1000000 in
set_option maxRecDepth 100000 in
theorem copy_fresh (rb : Nat) (w : World) (h : w.cell? ⟨rb, 3, none⟩ = some (.pointer none)) (hsh : w.shape? rb = some (98, 5)) (hfz : w.frozen? ⟨rb, 3, none⟩ = false) :
    Calls Tryz.prog 62 #[.pointer (some ⟨rb, 3, none⟩)] w fun e w' => e = .returned (.tuple #[]) ∧ w' = w.setCell ⟨rb, 3, none⟩ (.pointer (some ⟨rb, 3, none⟩)) := by
  obtain ⟨j, hj, hjs⟩ := Option.map_eq_some_iff.1 builder_info
  go_enter Tryz.func62, Tryz.ntmps62
  go_wp2
  rw [Lib.run_to_unsafe w ⟨rb, 3, none⟩ Tryz.underlying93 Tryz.underlying171 hj (by rw [hjs]; decide) hsh (show 3 < 5 by decide)]
  simp only [Result.andThen]
  rw [Oper.upon_value]
  go_wp2
  rw [run_callFunc_extern Tryz.func92 (by kernel_rfl) (by kernel_rfl) (by kernel_rfl) (e := Extern.AbiNoEscape.same) (by kernel_rfl)]
  rw [Lib.run_noEscape]
  simp only [Result.andThen]
  rw [Oper.upon_value]
  go_wp2
  rw [Lib.run_from_unsafe w ⟨rb, 3, none⟩ Tryz.underlying171 Tryz.underlying93 hj hsh (by kernel_rfl)]
  simp only [Result.andThen]
  rw [Oper.upon_value]
  go_wp2
  go_end0
  exact ⟨rfl, rfl⟩

set_option maxHeartbeats 1000000 in
set_option maxRecDepth 100000 in
theorem write_c (rb : Nat) (c0 c1 c2 ad buf : Value) (s : List UInt8) (x : ByteArray) (w : World) (h : Rec w rb c0 c1 c2 ad buf s) (hb : s.length + x.size ≤ 140737488355328) :
    Calls Tryz.prog 35 #[.pointer (some ⟨rb, 3, none⟩), .string x] w fun e w' => e = .returned (.tuple #[.int .i64 x.size, .nilIface]) ∧
      ∃ buf', Rec w' rb c0 c1 c2 (.pointer (some ⟨rb, 3, none⟩)) buf' (s ++ x.data.toList) ∧ Kept (fun j => j = rb ∨ buf.ownBlock = some j) w w' ∧ ∀ j, buf'.ownBlock = some j → buf.ownBlock = some j ∨ w.heap.size ≤ j := by
  have HC : Calls Tryz.prog 62 #[.pointer (some ⟨rb, 3, none⟩)] w fun e w' => e = .returned (.tuple #[]) ∧ Rec w' rb c0 c1 c2 (.pointer (some ⟨rb, 3, none⟩)) buf s ∧ Kept (fun j => j = rb) w w' ∧ w'.heap.size = w.heap.size := by
    obtain ⟨d0, d1, d2, d3, d4, df⟩ := five_cells h.blk
    rcases h.self with e | e
    · subst e
      refine (copy_fresh rb w d3 (by simp [World.shape?, h.blk]) (df 3)).mono ?_
      rintro e w' ⟨rfl, rfl⟩
      exact ⟨rfl, ⟨row_set h.blk 3 _, ownsF_block h.own (fun g hg => (Kept.setCell w _ _).block g (h.own.lt g hg).2 (fun e => h.ne (by rw [hg]; exact congrArg some e))), Or.inr rfl⟩, Kept.setCell w ⟨rb, 3, none⟩ _, by simp⟩
    · subst e
      refine (copy_used rb w d3).mono ?_
      rintro e w' ⟨rfl, rfl⟩
      exact ⟨rfl, h, Kept.refl _ _, rfl⟩
  have HH := hide h
  clear h
  go_enter Tryz.func35, Tryz.ntmps35
  go_wp2_with fail
  refine HC.mono ?_
  rintro e w1 ⟨rfl, r1, k1, hs1⟩
  have R1 := hide r1
  have K1 := hide k1
  obtain ⟨d0, d1, d2, d3, d4, df⟩ := five_cells r1.blk
  clear r1 k1 HC
  go_wp2_with (at_builtin; refine wpList_append_textF _ rfl (.tmp 12) (.tmp 13) rfl buf s.length (Lib.byteCells s) rfl R1.out.own x rfl hb ?_)
  intro buf' w2 O2 G2 M2
  have K2 : Hid (Kept (fun j => buf.ownBlock = some j) w1 w2) := (Kept.of_grown G2.out).mono (fun _ _ e => e.symm)
  have B2 : Hid (w2.heap[rb]? = some (.cells #[c0, c1, c2, .pointer (some ⟨rb, 3, none⟩), buf] 98 (0, 0))) := by show _ = _; rw [K2.out.block _ (heap_lt R1.out.blk) R1.out.ne]; exact R1.out.blk
  clear d0 d1 d2 d3 d4 df
  obtain ⟨d0, d1, d2, d3, d4, df⟩ := five_cells B2.out
  have O2' : Hid (w2.ownsRowF 0 5 1 buf' (s ++ x.data.toList).length (Lib.byteCells (s ++ x.data.toList))) := by
    have h1 : (s ++ x.data.toList).length = s.length + x.size := by rw [List.length_append, Array.length_toList]; rfl
    have h2 : Lib.byteCells (s ++ x.data.toList) = Lib.byteCells s ++ Lib.strCells x := by rw [Lib.strCells_eq]; simp [Lib.byteCells]
    show World.ownsRowF _ _ _ _ _ _ _
    rw [h1, h2]; exact O2.out
  obtain ⟨ao, n', cap, rfl⟩ : ∃ ao n' cap, buf' = .slice ao n' cap := by
    rcases O2.out.2 with ⟨hv, _⟩ | ⟨g, cap, cur, fz, hv, _⟩
    · exact ⟨_, _, _, hv⟩
    · exact ⟨_, _, _, hv⟩
  go_wp2
  go_ret2
  refine ⟨rfl, _, ⟨row_set B2.out 4 _, ?_, Or.inr rfl⟩, ?_, ?_⟩
  · exact ownsF_block O2'.out (fun g hg => (Kept.setCell w2 _ _).block g (O2'.out.lt g hg).2 (fun e => typ_ne (typ_ownF O2'.out g hg) (typ_blk B2.out) (by decide) e))
  · exact ((K1.out.join K2.out (R := fun j => j = rb ∨ buf.ownBlock = some j) (fun _ _ e => Or.inl e) (fun _ _ e => Or.inr e))).join (Kept.setCell w2 _ _) (fun _ _ e => e) (fun _ _ e => Or.inl e)
  · intro j hj
    rcases M2.out j hj with e | e
    · exact Or.inl e
    · exact Or.inr (by omega)

theorem Rec.froze {w : World} {rb g cap : Nat} {c0 c1 c2 ad : Value} {s : List UInt8} (h : Rec w rb c0 c1 c2 ad (.slice (some ⟨g, 0, none⟩) s.length cap) s) : Rec (w.freeze ⟨g, 0, none⟩ s.length) rb c0 c1 c2 ad (.slice (some ⟨g, 0, none⟩) s.length cap) s ∧ Kept (fun j => j = g) w (w.freeze ⟨g, 0, none⟩ s.length) := by
  have hne : g ≠ rb := fun e => h.ne (by rw [e]; rfl)
  unfold World.freeze
  split
  · exact ⟨h, Kept.refl _ _⟩
  · refine ⟨⟨?_, ⟨h.own.1, ?_⟩, h.self⟩, ⟨rfl, rfl, rfl, by simp, fun k hk hne => ?_⟩⟩
    · simp only [Array.getElem?_modify]
      rw [if_neg hne]; exact h.blk
    · rcases h.own.2 with ⟨hv, _⟩ | ⟨g', cap', cur, fz, hv, hbg, hg, hfz, rest⟩
      · cases hv
      · cases hv
        obtain ⟨lo, hi⟩ := fz
        refine Or.inr ⟨g, _, cur, (if lo == hi then (0, 0 + s.length) else (min lo 0, max hi (0 + s.length))), rfl, hbg, ?_, ?_, rest⟩
        · simp [Array.getElem?_modify, hg]
        · simp only at hfz
          split <;> simp <;> omega
    · simp only [Array.getElem?_modify]
      rw [if_neg (fun e => hne e.symm)]

set_option maxHeartbeats 1000000 in
set_option maxRecDepth 100000 in
theorem string_c (rb : Nat) (c0 c1 c2 ad buf : Value) (s : List UInt8) (w : World) (h : Rec w rb c0 c1 c2 ad buf s) (h0 : s ≠ []) :
    Calls Tryz.prog 37 #[.pointer (some ⟨rb, 3, none⟩)] w fun e w' => e = .returned (.string ⟨s.toArray⟩) ∧ Rec w' rb c0 c1 c2 ad buf s ∧ Kept (fun j => buf.ownBlock = some j) w w' := by
  have hl0 : s.length ≠ 0 := by simpa using h0
  have h' := h
  obtain ⟨g, cap, cur, fz, rfl, hbg, hg, hfz, hnc, hcm, hcs, htake⟩ : ∃ g cap cur fz, buf = .slice (some ⟨g, 0, none⟩) s.length cap ∧ 0 ≤ g ∧ w.heap[g]? = some (.cells cur 5 fz) ∧ fz.2 ≤ s.length * 1 ∧ s.length ≤ cap ∧ cap ≤ maxLen ∧ cur.size = cap * 1 ∧ cur.toList.take (s.length * 1) = Lib.byteCells s := by
    rcases h.own.2 with ⟨_, hz⟩ | ⟨g, cap, cur, fz, hv, r⟩
    · exact absurd hz hl0
    · exact ⟨g, cap, cur, fz, hv, r⟩
  have c1' : w.drew.cell? ⟨rb, 4, none⟩ = some (.slice (some ⟨g, 0, none⟩) s.length cap) := (five_cells (w := w.drew) h.blk).2.2.2.2.1
  have hSD : (Builtin.unsafeSliceData_ #[94] 140 #[.slice (some ⟨g, 0, none⟩) s.length cap]).run Tryz.prog w.drew = .ok (.pointer (some ⟨g, 0, none⟩)) w.drew :=
    Lib.run_unsafeSliceData_row _ _ _ _ _ _ (by omega)
  have hUS : (Builtin.unsafeString_ #[140, 3] 9 #[.pointer (some ⟨g, 0, none⟩), .int .i64 s.length]).run Tryz.prog w.drew = .ok (.string ⟨s.toArray⟩) (w.drew.freeze ⟨g, 0, none⟩ s.length) := by
    refine Lib.run_unsafeString_row w.drew 140 3 9 5 Tryz.underlying140 (by kernel_rfl) g cur.size (by have hg' : w.drew.heap[g]? = some (.cells cur 5 fz) := hg; simp [World.shape?, hg']) s h0 (by omega) (by unfold maxLen at hcm; omega) ?_
    intro j x hx
    exact h.own.cells (g := g) rfl j (.int .u8 x.toNat) (by simp [Lib.byteCells, hx])
  have hkeep : Hid (Rec (w.drew.freeze ⟨g, 0, none⟩ s.length) rb c0 c1 c2 ad (.slice (some ⟨g, 0, none⟩) s.length cap) s ∧ Kept (fun j => j = g) w.drew (w.drew.freeze ⟨g, 0, none⟩ s.length)) := Rec.froze (w := w.drew) (h'.calm (Kept.drew w))
  clear h h' hg htake hcs hcm hfz
  go_enter Tryz.func37, Tryz.ntmps37
  go_wp2
  go_region
  all_goals
    go_wp2
    go_ret
    exact ⟨rfl, hkeep.out.1, ((Kept.drew w).join hkeep.out.2 (R := fun j => j = g) (fun _ _ e => e.elim) (fun _ _ e => e)).mono (fun j _ e => by rw [e]; rfl)⟩
end Go.Proofs.YtlfmfhmbkpnjbaaGreatDoor
