import Derived.Test.YtgclehnhjjkdbaaSnan
import Derived.Test.YtgclehnhjjkdbaaEkeep
namespace Go.Proofs.Ytgclehnhjjkdbaa
open Go.RowKit

/-- What is seen: tick, entities, error. -/
structure Sn where
  t : Int
  X : List Mob
  e : Int

open Classical in
noncomputable def seenR (t : Int) (L : List Mob) (id : Int) (far : Nat) : Sn :=
  if worldB t L = false then ⟨0, [], 2⟩ else if findB L id = false then ⟨0, [], 5⟩
  else if okV far ∧ (FloatKind.f32.format.order far 0 == some .lt) = false then ⟨t, L.filter (fun e => seesB (L.getD (findI L id) (markM 0)) e far), 0⟩ else ⟨0, [], 4⟩

theorem mob_eq {m : Mob} (h : mobB m = true) : eqM m m = true := by
  rw [mobB_ref] at h
  simp only [Bool.and_eq_true, refB] at h
  have fx : ∀ {x : Nat}, isNum x → feq x x = true := fun {x} hx => by
    have h1 : okV x := by obtain ⟨s, m, e, hr⟩ := hx; unfold okV; rw [hr]; rfl
    have := ord_self h1
    show Op.floatEq .f32 x x = true
    unfold Op.floatEq
    simpa using this
  have hp := mob_pl (m := m) (by rw [mobB_ref]; simp only [Bool.and_eq_true, refB]; exact h)
  have h1 := fx hp.x
  have h2 := fx hp.y
  have h3 := fx (fin_num h.1.1.1.1.1.1.1.2)
  have h4 := fx (fin_num h.1.1.1.1.1.1.2)
  simp [eqM, h1, h2, h3, h4]

theorem seenR_small (t : Int) (L : List Mob) (id : Int) (far : Nat) : (seenR t L id far).X.length ≤ 32 ∧ ∀ m ∈ (seenR t L id far).X, eqM m m = true := by
  unfold seenR
  split
  · exact ⟨Nat.zero_le _, fun m hm => by cases hm⟩
  · rename_i hb
    have hb : worldB t L = true := by simpa using hb
    split
    · exact ⟨Nat.zero_le _, fun m hm => by cases hm⟩
    · split
      · refine ⟨Nat.le_trans (List.length_filter_le _ _) (worldB_fine hb).2.2.short, fun m hm => ?_⟩
        have hm' := (List.mem_filter.1 hm).1
        obtain ⟨j, hj, rfl⟩ := List.getElem_of_mem hm'
        have h3 := hb
        simp only [worldB, decide_eq_true_eq] at h3
        exact mob_eq (h3.2.2 j hj hj).1
      · exact ⟨Nat.zero_le _, fun m hm => by cases hm⟩

theorem seen_any (t id : Int) (far : Nat) (p : Option Addr) (cap : Nat) (L : List Mob) (w : World) (hl : (L.length : Int) ≤ 4611686018427387903) (h : Reads w p L) :
    Calls Try.prog 23 #[.agg #[.int .i64 t, .slice p L.length cap], .int .i64 id, .float .f32 far] w fun e w' =>
      ∃ q cq, e = .returned (.tuple #[.agg #[.int .i64 (seenR t L id far).t, .slice q (seenR t L id far).X.length cq], .int .i64 (seenR t L id far).e]) ∧ Raw w' q (seenR t L id far).X.length cq ∧ Reads w' q (seenR t L id far).X ∧ (∀ j, HB q j → w.heap.size ≤ j) ∧ Kept (fun _ => False) w w' := by
  have none_ok : ∀ w' : World, Raw w' none 0 0 ∧ Reads w' none [] ∧ (∀ j, HB none j → w.heap.size ≤ j) := fun w' => ⟨Or.inl ⟨rfl, rfl, rfl⟩, fun h => absurd rfl h, fun j hj => by obtain ⟨_, e⟩ := hj; cases e⟩
  unfold seenR
  split
  · rename_i hb
    refine (seen_bad t id far p cap L w hl h hb).mono ?_
    rintro e w' ⟨rfl, hk⟩
    exact ⟨none, 0, rfl, (none_ok w').1, (none_ok w').2.1, (none_ok w').2.2, hk⟩
  · rename_i hb
    have hb : worldB t L = true := by simpa using hb
    split
    · rename_i hf
      refine (seen_none t id far p cap L w hl h hb hf).mono ?_
      rintro e w' ⟨rfl, hk⟩
      exact ⟨none, 0, rfl, (none_ok w').1, (none_ok w').2.1, (none_ok w').2.2, hk⟩
    · rename_i hf
      have hf : findB L id = true := by simpa using hf
      split
      · rename_i hok
        obtain ⟨hq, -, -⟩ := pl_some (rises_of (worldB_fine hb).2.2.rises) hf
        have eg : L.getD (findI L id) (markM 0) = L[findI L id] := by simp [List.getD, hq]
        rw [eg]
        refine (seen_ok t id far p cap L w h hb (findI L id) rfl hq hf hok.1 hok.2).mono ?_
        rintro e w' ⟨g, cur, hg, rfl, hr, hk⟩
        exact ⟨some ⟨g, 0, none⟩, _, rfl, Or.inr ⟨g, cur, rfl, hr.blk, hr.len, hr.short⟩, hr.reads, fun j hj => by obtain ⟨_, e⟩ := hj; cases e; exact hg, hk⟩
      · rename_i hok
        by_cases ho : okV far
        · have hlt : (FloatKind.f32.format.order far 0 == some .lt) = true := by
            cases hh : (FloatKind.f32.format.order far 0 == some .lt)
            · exact absurd ⟨ho, hh⟩ hok
            · rfl
          refine (seen_neg t id far p cap L w hl h hb hf ho hlt).mono ?_
          rintro e w' ⟨rfl, hk⟩
          exact ⟨none, 0, rfl, (none_ok w').1, (none_ok w').2.1, (none_ok w').2.2, hk⟩
        · refine (seen_nan t id far p cap L w hl h hb hf ho).mono ?_
          rintro e w' ⟨rfl, hk⟩
          exact ⟨none, 0, rfl, (none_ok w').1, (none_ok w').2.1, (none_ok w').2.2, hk⟩

theorem rseen_any (t id : Int) (far : Nat) (p : Option Addr) (cap : Nat) (L : List Mob) (w : World) (hl : (L.length : Int) ≤ 4611686018427387903) (h : Reads w p L) :
    Calls Try.prog 24 #[.agg #[.int .i64 t, .slice p L.length cap], .int .i64 id, .float .f32 far] w fun e w' =>
      ∃ q cq, e = .returned (.tuple #[.agg #[.int .i64 (seenR t L id far).t, .slice q (seenR t L id far).X.length cq], .int .i64 (seenR t L id far).e]) ∧ Reads w' q (seenR t L id far).X ∧ (∀ j, HB q j → typ w' j 57) ∧ Kept (fun _ => False) w w' := by
  have none_ok : ∀ w' : World, Reads w' none [] := fun w' h => absurd rfl h
  have none_t : ∀ w' : World, ∀ j, HB none j → typ w' j 57 := fun w' j hj => by obtain ⟨_, e⟩ := hj; cases e
  unfold seenR
  split
  · rename_i hb
    refine (rseen_bad t id far p cap L w hl h hb).mono ?_
    rintro e w' ⟨rfl, hk⟩
    exact ⟨none, 0, rfl, none_ok w', none_t w', hk⟩
  · rename_i hb
    have hb : worldB t L = true := by simpa using hb
    split
    · rename_i hf
      refine (rseen_none t id far p cap L w hl h hb hf).mono ?_
      rintro e w' ⟨rfl, hk⟩
      exact ⟨none, 0, rfl, none_ok w', none_t w', hk⟩
    · rename_i hf
      have hf : findB L id = true := by simpa using hf
      split
      · rename_i hok
        obtain ⟨hq, -, -⟩ := pl_some (rises_of (worldB_fine hb).2.2.rises) hf
        have eg : L.getD (findI L id) (markM 0) = L[findI L id] := by simp [List.getD, hq]
        rw [eg]
        refine (rseen_ok t id far p cap L w h hb (findI L id) rfl hq hf hok.1 hok.2).mono ?_
        rintro e w' ⟨v, rfl, hr, hk⟩
        obtain ⟨q, cq, rfl⟩ : ∃ q cq, v = .slice q (L.filter (fun e => seesB L[findI L id] e far)).length cq := by
          rcases hr.out.2 with ⟨hv, hn⟩ | ⟨g, cap', cur, hv, _⟩
          · exact ⟨none, 0, by rw [hv, hn]⟩
          · exact ⟨_, _, hv⟩
        exact ⟨q, cq, rfl, owns_reads hr.out, fun j hj => by obtain ⟨_, e⟩ := hj; subst e; rcases hr.out.2 with ⟨hv, _⟩ | ⟨g, cap', cur, hv, _, hh, _⟩; (· cases hv); (· cases hv; exact typ_blk hh), hk⟩
      · rename_i hok
        have hlt : (FloatKind.f32.format.order far 0 == some .lt) = true ∨ ((FloatKind.f32.format.order far 0 == some .lt) = false ∧ (FloatKind.f32.format.order far far != some .eq) = true) := by
          by_cases ho : okV far
          · left
            cases hh : (FloatKind.f32.format.order far 0 == some .lt)
            · exact absurd ⟨ho, hh⟩ hok
            · rfl
          · right
            exact ⟨by rw [nan_ord ho]; rfl, by rw [nan_ord ho]; rfl⟩
        refine (rseen_rng t id far p cap L w hl h hb hf hlt).mono ?_
        rintro e w' ⟨rfl, hk⟩
        exact ⟨none, 0, rfl, none_ok w', none_t w', hk⟩

theorem Raw.typ {w : World} {q : Option Addr} {n cq : Nat} (h : Raw w q n cq) (j : Nat) (hj : HB q j) : typ w j 57 := (h.home 0).typ j hj
theorem Raw.keep {w w' : World} {S : Nat → Prop} {q : Option Addr} {n cq : Nat} (h : Raw w q n cq) (hk : Kept S w w') (hS : ∀ j, HB q j → ¬ S j) : Raw w' q n cq := by
  rcases h with h | ⟨g, cur, h1, h2, h3⟩
  · exact Or.inl h
  · exact Or.inr ⟨g, cur, h1, by rw [hk.block g (heap_lt h2) (hS g ⟨0, h1⟩)]; exact h2, h3⟩

theorem sets_kept (w4 : World) (b8 : Nat) (u v : Value) : Kept (fun k => k = b8) w4 ((w4.setCell ⟨b8, 0, none⟩ u).setCell ⟨b8, 1, none⟩ v) := (Kept.setCell w4 _ u).join (Kept.setCell _ _ v) (fun _ _ e => e) (fun _ _ e => e)

/-- The answer is laid into a struct of the caller's. -/
structure Laid (w0 w5 : World) (b8 : Nat) (u v : Value) (q : Option Addr) (X : List Mob) : Prop where
  kept : Kept (fun _ => False) w0 w5
  blk : w5.heap[b8]? = some (.cells #[u, v] 40 (0, 0))
  reads : Reads w5 q X
  typs : ∀ j, HB q j → typ w5 j 57

theorem laid_set {w0 w4 : World} {b8 : Nat} {q : Option Addr} {X : List Mob} (k : Kept (fun _ => False) w0 w4) (hb : w0.heap.size ≤ b8) (h : w4.heap[b8]? = some (.cells #[.int .i64 0, .slice none 0 0] 40 (0, 0))) (rd : Reads w4 q X) (ht : ∀ j, HB q j → typ w4 j 57) (u v : Value) :
    Laid w0 ((w4.setCell ⟨b8, 0, none⟩ u).setCell ⟨b8, 1, none⟩ v) b8 u v q X :=
  ⟨two_kept k hb u v, two_sets h u v, rd.keep (sets_kept w4 b8 u v) (fun b off e => typ_ne (ht b ⟨off, e⟩) (typ_blk h) (by decide)), fun j hj => typ_keep (ht j hj) (sets_kept w4 b8 u v) (typ_ne (ht j hj) (typ_blk h) (by decide))⟩
theorem laid_new {w0 w4 : World} {q : Option Addr} {X : List Mob} (k : Kept (fun _ => False) w0 w4) (rd : Reads w4 q X) (ht : ∀ j, HB q j → typ w4 j 57) (u v : Value) :
    Laid w0 (w4.alloc (.cells #[u, v] 40)) w4.heap.size u v q X :=
  ⟨k.calm2 (Kept.alloc _ _), heap_alloc_new _ _, rd.calm (Kept.alloc _ _), fun j hj => typ_keep (ht j hj) (Kept.alloc _ _) (fun e => e)⟩

theorem block_reads {w : World} {g : Nat} {M : List Mob} (h : w.heap[g]? = some (.cells (rowM M).toArray 57 (0, 0))) : Reads w (some ⟨g, 0, none⟩) M := fun _ => ⟨g, 0, rfl, heap_lt h, fun j u hu => by rw [Nat.zero_add, cell_block h]; simpa using hu⟩
theorem Reads.pre {w : World} {p : Option Addr} {A B : List Mob} (h : Reads w p (A ++ B)) : Reads w p A := fun hA => by
  obtain ⟨b, off, h1, h2, h3⟩ := h (by intro e; exact hA (List.append_eq_nil_iff.1 e).1)
  refine ⟨b, off, h1, h2, fun j u hu => h3 j u ?_⟩
  rw [rowM_append, List.getElem?_append_left (List.getElem?_eq_some_iff.1 hu).1]; exact hu
end Go.Proofs.Ytgclehnhjjkdbaa
