import Derived.Test.YtgclehnhjjkdbaaGreatDoorEkeep
import Derived.Test.YtgclehnhjjkdbaaGreatDoorRefw
namespace Go.Proofs.YtgclehnhjjkdbaaGreatDoor
open Go.RowKit

/-- What is seen: tick, entities, error. -/
structure Sn where
  t : Int
  X : List Mob
  e : Int

theorem Raw.typ {w : World} {q : Option Addr} {n cq : Nat} (h : Raw w q n cq) (j : Nat) (hj : HB q j) : typ w j 52 := (h.home 0).typ j hj
theorem Raw.keep {w w' : World} {S : Nat → Prop} {q : Option Addr} {n cq : Nat} (h : Raw w q n cq) (hk : Kept S w w') (hS : ∀ j, HB q j → ¬ S j) : Raw w' q n cq := by
  rcases h with h | ⟨g, cur, h1, h2, h3⟩
  · exact Or.inl h
  · exact Or.inr ⟨g, cur, h1, by rw [hk.block g (heap_lt h2) (hS g ⟨0, h1⟩)]; exact h2, h3⟩

theorem sets_kept (w4 : World) (b8 : Nat) (u v : Value) : Kept (fun k => k = b8) w4 ((w4.setCell ⟨b8, 0, none⟩ u).setCell ⟨b8, 1, none⟩ v) := (Kept.setCell w4 _ u).join (Kept.setCell _ _ v) (fun _ _ e => e) (fun _ _ e => e)

/-- The answer is laid into a struct of the caller's. -/
structure Laid (w0 w5 : World) (b8 : Nat) (u v : Value) (q : Option Addr) (X : List Mob) : Prop where
  kept : Kept (fun _ => False) w0 w5
  blk : w5.heap[b8]? = some (.cells #[u, v] 56 (0, 0))
  reads : Reads w5 q X
  typs : ∀ j, HB q j → typ w5 j 52

theorem laid_set {w0 w4 : World} {b8 : Nat} {q : Option Addr} {X : List Mob} (k : Kept (fun _ => False) w0 w4) (hb : w0.heap.size ≤ b8) (h : w4.heap[b8]? = some (.cells #[.int .i64 0, .slice none 0 0] 56 (0, 0))) (rd : Reads w4 q X) (ht : ∀ j, HB q j → typ w4 j 52) (u v : Value) :
    Laid w0 ((w4.setCell ⟨b8, 0, none⟩ u).setCell ⟨b8, 1, none⟩ v) b8 u v q X :=
  ⟨two_kept k hb u v, two_sets h u v, rd.keep (sets_kept w4 b8 u v) (fun b off e => typ_ne (ht b ⟨off, e⟩) (typ_blk h) (by decide)), fun j hj => typ_keep (ht j hj) (sets_kept w4 b8 u v) (typ_ne (ht j hj) (typ_blk h) (by decide))⟩
theorem laid_new {w0 w4 : World} {q : Option Addr} {X : List Mob} (k : Kept (fun _ => False) w0 w4) (rd : Reads w4 q X) (ht : ∀ j, HB q j → typ w4 j 52) (u v : Value) :
    Laid w0 (w4.alloc (.cells #[u, v] 56)) w4.heap.size u v q X :=
  ⟨k.calm2 (Kept.alloc _ _), heap_alloc_new _ _, rd.calm (Kept.alloc _ _), fun j hj => typ_keep (ht j hj) (Kept.alloc _ _) (fun e => e)⟩

theorem block_reads {w : World} {g : Nat} {M : List Mob} (h : w.heap[g]? = some (.cells (rowM M).toArray 52 (0, 0))) : Reads w (some ⟨g, 0, none⟩) M := fun _ => ⟨g, 0, rfl, heap_lt h, fun j u hu => by rw [Nat.zero_add, cell_block h]; simpa using hu⟩
theorem Reads.pre {w : World} {p : Option Addr} {A B : List Mob} (h : Reads w p (A ++ B)) : Reads w p A := fun hA => by
  obtain ⟨b, off, h1, h2, h3⟩ := h (by intro e; exact hA (List.append_eq_nil_iff.1 e).1)
  refine ⟨b, off, h1, h2, fun j u hu => h3 j u ?_⟩
  rw [rowM_append, List.getElem?_append_left (List.getElem?_eq_some_iff.1 hu).1]; exact hu
end Go.Proofs.YtgclehnhjjkdbaaGreatDoor

namespace Go.Proofs.YtgclehnhjjkdbaaGreatDoor
open Go.RowKit

theorem find_at {L : List Mob} (hr : Rises L) (i : Nat) (hi : i < L.length) : findI L L[i].id = i ∧ findB L L[i].id = true := by
  have h1 : findI L L[i].id = i := findI_is L _ i (by omega) (fun j hj hji => hr j i hj hi hji) (fun _ => by omega)
  exact ⟨h1, findB_true i h1 hi rfl⟩

theorem plI_is (L : List Mob) (id : Int) (a : Nat) (ha : a ≤ L.length) (h1 : ∀ j (h : j < L.length), j < a → L[j].id ≠ id) (h2 : ∀ h : a < L.length, L[a].id = id) : plI L id = a := by
  induction L generalizing a with
  | nil => simp at ha; simp [plI, ha]
  | cons m r ih =>
    cases a with
    | zero => have := h2 (by simp); simp at this; simp [plI, this]
    | succ b =>
      have h0 := h1 0 (by simp) (by omega)
      simp only [List.getElem_cons_zero] at h0
      simp only [plI, h0, if_false]
      rw [ih b (by simpa using ha) (fun j hj hjb => by have := h1 (j + 1) (by simpa using hj) (by omega); simpa using this) (fun h => by have := h2 (by simpa using h); simpa using this)]

theorem pl_none {L : List Mob} {id : Int} (hr : Rises L) (hf : findB L id = false) : plR L id = -1 := by
  have h : plI L id = L.length := plI_is L id L.length (Nat.le_refl _) (fun j hj _ e => by
    have := (find_at hr j hj).2
    rw [e, hf] at this
    cases this) (fun h => absurd h (Nat.lt_irrefl _))
  unfold plR
  rw [h, if_neg (Nat.lt_irrefl _)]

theorem pl_some {L : List Mob} {id : Int} (hr : Rises L) (hf : findB L id = true) : ∃ h : findI L id < L.length, L[findI L id].id = id ∧ plR L id = (findI L id : Int) := by
  simp only [findB, decide_eq_true_eq] at hf
  obtain ⟨h, e⟩ := hf
  refine ⟨h, e, ?_⟩
  have h2 : plI L id = findI L id := plI_is L id _ (by omega) (fun j hj hji e2 => by have := hr j _ hj h hji; omega) (fun _ => e)
  unfold plR
  rw [h2, if_pos h]

end Go.Proofs.YtgclehnhjjkdbaaGreatDoor

namespace Go.Proofs.YtgclehnhjjkdbaaGreatDoor
open Go.RowKit

/-- A list of entities that the reference owns. -/
def OwnE (w : World) (base : Nat) (p : Option Addr) (cap : Nat) (L : List Mob) : Prop :=
  (p = none ∧ cap = 0 ∧ L = []) ∨ ∃ g cur, p = some ⟨g, 0, none⟩ ∧ base ≤ g ∧ cap ≤ maxLen ∧ RowAt w g L cap cur

theorem OwnE.row {w : World} {base : Nat} {p : Option Addr} {cap : Nat} {L : List Mob} (h : OwnE w base p cap L) : w.ownsRow base 52 7 (.slice p L.length cap) L.length (rowM L) := by
  refine ⟨rowM_length L, ?_⟩
  rcases h with ⟨rfl, rfl, rfl⟩ | ⟨g, cur, rfl, hb, hc, hr⟩
  · exact Or.inl ⟨rfl, rfl⟩
  · exact Or.inr ⟨g, cap, cur.toArray, rfl, hb, hr.blk, hr.short, hc, by simpa using hr.len, by simpa using hr.row⟩

theorem OwnE.of {w : World} {base : Nat} {v : Value} {L : List Mob} (h : w.ownsRow base 52 7 v L.length (rowM L)) : ∃ p cap, v = .slice p L.length cap ∧ OwnE w base p cap L := by
  rcases h.2 with ⟨rfl, h0⟩ | ⟨g, cap, cur, rfl, hb, hh, h1, h2, h3, h4⟩
  · have e := List.eq_nil_of_length_eq_zero h0
    exact ⟨none, 0, by rw [h0], Or.inl ⟨rfl, rfl, e⟩⟩
  · exact ⟨_, cap, rfl, Or.inr ⟨g, cur.toList, rfl, hb, h2, by simpa using hh, by simpa using h3, h4, h1⟩⟩

theorem OwnE.nil (w : World) (base : Nat) : OwnE w base none 0 [] := Or.inl ⟨rfl, rfl, rfl⟩
theorem OwnE.reads {w : World} {base : Nat} {p : Option Addr} {cap : Nat} {L : List Mob} (h : OwnE w base p cap L) : Reads w p L := owns_reads h.row
theorem OwnE.cap0 {w : World} {base : Nat} {p : Option Addr} {cap : Nat} {L : List Mob} (h : OwnE w base p cap L) : p = none → cap = 0 := by
  rcases h with ⟨_, h, _⟩ | ⟨g, cur, rfl, _⟩
  · exact fun _ => h
  · intro e; cases e
theorem OwnE.lt {w : World} {base : Nat} {p : Option Addr} {cap : Nat} {L : List Mob} (h : OwnE w base p cap L) (j : Nat) (hj : HB p j) : base ≤ j ∧ j < w.heap.size := by
  obtain ⟨off, e⟩ := hj
  rcases h with ⟨rfl, _, _⟩ | ⟨g, cur, rfl, hb, _, hr⟩
  · cases e
  · cases e; exact ⟨hb, heap_lt hr.blk⟩
theorem OwnE.typs {w : World} {base : Nat} {p : Option Addr} {cap : Nat} {L : List Mob} (h : OwnE w base p cap L) (j : Nat) (hj : HB p j) : typ w j 52 := by
  obtain ⟨off, e⟩ := hj
  rcases h with ⟨rfl, _, _⟩ | ⟨g, cur, rfl, hb, _, hr⟩
  · cases e
  · cases e; exact typ_blk hr.blk
theorem OwnE.keep {w w' : World} {S : Nat → Prop} {base : Nat} {p : Option Addr} {cap : Nat} {L : List Mob} (h : OwnE w base p cap L) (hk : Kept S w w') (hS : ∀ j, HB p j → ¬ S j) : OwnE w' base p cap L := by
  rcases h with h | ⟨g, cur, h1, h2, h3, h4⟩
  · exact Or.inl h
  · exact Or.inr ⟨g, cur, h1, h2, h3, by rw [hk.block g (heap_lt h4.blk) (hS g ⟨0, h1⟩)]; exact h4.blk, h4.len, h4.row, h4.short⟩
theorem OwnE.calm {w w' : World} {base : Nat} {p : Option Addr} {cap : Nat} {L : List Mob} (h : OwnE w base p cap L) (hk : Kept (fun _ => False) w w') : OwnE w' base p cap L := h.keep hk (fun _ _ e => e)
theorem OwnE.low {w : World} {base base' : Nat} {p : Option Addr} {cap : Nat} {L : List Mob} (h : OwnE w base p cap L) (hb : base' ≤ base) : OwnE w base' p cap L := by
  rcases h with h | ⟨g, cur, h1, h2, h3⟩
  · exact Or.inl h
  · exact Or.inr ⟨g, cur, h1, Nat.le_trans hb h2, h3⟩
theorem OwnE.there {w : World} {base : Nat} {p : Option Addr} {cap : Nat} {L : List Mob} (h : OwnE w base p cap L) (q : Nat) (hq : q < L.length) : ∃ g cur, p = some ⟨g, 0, none⟩ ∧ base ≤ g ∧ cap ≤ maxLen ∧ RowAt w g L cap cur := by
  rcases h with ⟨_, _, rfl⟩ | h
  · simp at hq
  · exact h

theorem RowAt.store {w : World} {g cap : Nat} {L L' : List Mob} {cur : List Value} (h : RowAt w g L cap cur) (j : Nat) (u : Value) (hl : L'.length = L.length) (hr : (rowM L).set j u = rowM L') :
    RowAt (w.setCell ⟨g, j, none⟩ u) g L' cap (cur.set j u) := by
  refine ⟨?_, by simpa using h.len, ?_, by rw [hl]; exact h.short⟩
  · rw [setCell_eq_setRow w g j _ 52 (0, 0) u h.blk]
    have := setRow_heap w g cur.toArray (cur.toArray.setIfInBounds j u) 52 (0, 0) h.blk
    simpa using this
  · rw [hl, ← hr, ← h.row, List.take_set]
theorem RowAt.warm {w : World} {g cap : Nat} {L : List Mob} {cur : List Value} (h : RowAt w g L cap cur) (j : Nat) : w.frozen? ⟨g, j, none⟩ = false := by simp [World.frozen?, h.blk]
theorem RowAt.calm' {w w' : World} {g cap : Nat} {L : List Mob} {cur : List Value} (h : RowAt w g L cap cur) (hk : Kept (fun _ => False) w w') : RowAt w' g L cap cur :=
  ⟨by rw [hk.block g (heap_lt h.blk) (fun e => e)]; exact h.blk, h.len, h.row, h.short⟩

theorem RowAt.at7 {w : World} {g cap : Nat} {L : List Mob} {cur : List Value} (h : RowAt w g L cap cur) (i : Nat) (hi : i < L.length) :
    w.cell? ⟨g, i * 7, none⟩ = some (.int .i64 L[i].id) ∧ w.cell? ⟨g, i * 7 + 1, none⟩ = some (.int .i64 L[i].team) ∧ w.cell? ⟨g, i * 7 + 2, none⟩ = some (.float .f32 L[i].x) ∧ w.cell? ⟨g, i * 7 + 3, none⟩ = some (.float .f32 L[i].y) ∧
    w.cell? ⟨g, i * 7 + 4, none⟩ = some (.float .f32 L[i].vx) ∧ w.cell? ⟨g, i * 7 + 5, none⟩ = some (.float .f32 L[i].vy) ∧ w.cell? ⟨g, i * 7 + 6, none⟩ = some (.int .i64 L[i].health) := by
  have hne : L ≠ [] := by intro e; subst e; simp at hi
  obtain ⟨b, off, e, _, h3⟩ := h.reads hne
  obtain ⟨rfl, rfl⟩ : g = b ∧ 0 = off := by simpa using e
  have h4 : ∀ j u, (rowM L)[j]? = some u → w.cell? ⟨g, j, none⟩ = some u := fun j u hu => by have := h3 j u hu; rwa [Nat.zero_add] at this
  obtain ⟨r0, r1, r2, r3, r4, r5, r6⟩ := rowM_get L i hi
  exact ⟨h4 _ _ r0, h4 _ _ r1, h4 _ _ r2, h4 _ _ r3, h4 _ _ r4, h4 _ _ r5, h4 _ _ r6⟩

/-- append of any list to one's own. -/
theorem wpList_append_list (w : World) {ops : Array Oper} {rest : List Oper} {o : Oper} {a : Act} {Q : Exit → Act → World → Prop} (hgd : o.guard = none) (s x : Operand)
    (ho : o.op = .call { callee := .builtin .append, args := #[s, x], argTypes := #[50, 50] }) (base : Nat) (p : Option Addr) (cap : Nat) (M : List Mob) (hs : a.eval s = .slice p M.length cap) (hown : OwnE w base p cap M)
    (q : Option Addr) (c : Nat) (A : List Mob) (hx : a.eval x = .slice q A.length c) (hq : q = none → c = 0) (hr : Reads w q A) (hb : M.length + A.length ≤ 1000) (hbase : base ≤ w.heap.size)
    (h : ∀ p' cap' w' R, Hid (R = M ++ A) → Hid (OwnE w' base p' cap' R) → Hid (Kept (HB p) w w') → wpList Tryz.prog ops Q rest (a.put o.dst (.slice p' R.length cap')) w') :
    wpList Tryz.prog ops Q (o :: rest) a w := by
  obtain ⟨i0, hi, hz0, hz1, hz2⟩ := info_parts info_mob
  have fin : ∀ v' w', w'.ownsRow base 52 7 v' (M.length + A.length) (rowM M ++ rowM A) → w.grownBy w' (Value.slice p M.length cap).ownBlock → wpList Tryz.prog ops Q rest (a.put o.dst v') w' := by
    intro v' w' ho' hg'
    rw [← rowM_append, ← List.length_append] at ho'
    obtain ⟨p', cap', rfl, hw⟩ := OwnE.of ho'
    refine h p' cap' w' (M ++ A) rfl hw ((Kept.of_grown hg').mono ?_ : Kept _ _ _)
    intro k _ e
    rcases hown with ⟨rfl, _, _⟩ | ⟨g, cur, rfl, _⟩
    · cases e
    · cases e; exact ⟨0, rfl⟩
  cases q with
  | none =>
    obtain rfl := hq rfl
    have hA : A = [] := by
      by_cases e : A = []
      · exact e
      · obtain ⟨_, _, e2, _⟩ := hr e; cases e2
    subst hA
    refine wpList_append_own_none hgd s x 50 ho base 52 i0 7 Tryz.underlying50 hi _ M.length (rowM M) hs hown.row hx ?_
    refine fin _ w (by simpa [rowM] using hown.row) ?_
    exact ⟨rfl, rfl, rfl, Nat.le_refl _, fun _ _ _ => rfl⟩
  | some ad =>
    by_cases hA : A = []
    · subst hA
      refine wpList_append_own w hgd s x 50 ho base 52 i0 _ 7 40 Tryz.underlying50 hi hz0 hz1 hz2 rfl (by decide) _ M.length (rowM M) hs hown.row ad 0 c [] hx rfl (fun j u hu => by simp at hu) (fun u hu => by simp at hu) (by unfold maxLen; omega) (by omega) hbase ?_
      intro v' w' ho' hg' _
      exact fin v' w' ho' hg'
    · obtain ⟨b, off, e, hbs, hcell⟩ := hr hA
      obtain rfl : ad = ⟨b, off, none⟩ := by simpa using e
      refine wpList_append_own w hgd s x 50 ho base 52 i0 _ 7 40 Tryz.underlying50 hi hz0 hz1 hz2 rfl (by decide) _ M.length (rowM M) hs hown.row ⟨b, off, none⟩ A.length c (rowM A) hx (rowM_length A) (fun j u hu => by rw [addr_add2]; exact hcell j u hu) (rowM_one A) (by unfold maxLen; omega) (by omega) hbase ?_
      intro v' w' ho' hg' _
      exact fin v' w' ho' hg'

set_option maxHeartbeats 1000000 in
set_option maxRecDepth 100000 in
theorem rmove_c (x v : Nat) (w : World) (hx : isNum x) (hv : okV v) : Calls Tryz.prog 36 #[.float .f32 x, .float .f32 v] w fun e w' => e = .returned (.tuple #[.float .f32 (movedF x v).1, .float .f32 (movedF x v).2]) ∧ w' = w := by
  obtain ⟨f1, -⟩ := fadd_ok hx hv
  obtain ⟨f2, o2⟩ := fmul_ok hv half_pos
  obtain ⟨f3, -⟩ := fmul_ok o2 slow_pos
  obtain ⟨f4, -⟩ := fmul_ok hv slow_pos
  have r1 : (binOp .add 37 (.float .f32 x) (.float .f32 v)).run Tryz.prog w = .ok (.float .f32 (fadd x v)) w := run_float_arith w .add _ .f32 x v _ f1
  have r2 : (binOp .mul 37 (.float .f32 v) (.float .f32 3204448256)).run Tryz.prog w = .ok (.float .f32 (fmul v 3204448256)) w := run_float_arith w .mul _ .f32 v _ _ f2
  have r3 : (binOp .mul 37 (.float .f32 (fmul v 3204448256)) (.float .f32 1061158912)).run Tryz.prog w = .ok (.float .f32 (fmul (fmul v 3204448256) 1061158912)) w := run_float_arith w .mul _ .f32 _ _ _ f3
  have r4 : (binOp .mul 37 (.float .f32 v) (.float .f32 1061158912)).run Tryz.prog w = .ok (.float .f32 (fmul v 1061158912)) w := run_float_arith w .mul _ .f32 v _ _ f4
  clear f1 f2 f3 f4 o2
  by_cases h1 : ford (fadd x v) 3296329728 = some .lt
  · have H : Hid (movedF x v = (3296329728, fmul (fmul v 3204448256) 1061158912)) := by show _ = _; unfold movedF; rw [if_pos h1]
    have b1 := ford_beq h1
    clear h1
    go_enter Tryz.func36, Tryz.ntmps36
    go_wp2
    go_ret2
    exact ⟨ret2 (by rw [H.out]; rfl) (by rw [H.out]; rfl), rfl⟩
  · have b1 := ford_bne h1
    by_cases h2 : ford (fadd x v) 1148846080 = some .gt
    · have H : Hid (movedF x v = (1148846080, fmul (fmul v 3204448256) 1061158912)) := by show _ = _; unfold movedF; rw [if_neg h1, if_pos h2]
      have b2 := ford_beq h2
      clear h1 h2
      go_enter Tryz.func36, Tryz.ntmps36
      go_wp2
      go_ret2
      exact ⟨ret2 (by rw [H.out]; rfl) (by rw [H.out]; rfl), rfl⟩
    · have H : Hid (movedF x v = (fadd x v, fmul v 1061158912)) := by show _ = _; unfold movedF; rw [if_neg h1, if_neg h2]
      have b2 := ford_bne h2
      clear h1 h2
      go_enter Tryz.func36, Tryz.ntmps36
      go_wp2
      go_ret2
      exact ⟨ret2 (by rw [H.out]; rfl) (by rw [H.out]; rfl), rfl⟩
end Go.Proofs.YtgclehnhjjkdbaaGreatDoor
