import Derived.Test.YtlfmfhmbkpnjbaaSnan
import Derived.Test.YtlfmfhmbkpnjbaaLayp
namespace Go.Proofs.Ytlfmfhmbkpnjbaa
open Go.RowKit

open Classical in
noncomputable def seenR (t : Int) (L : List Mob) (id : Int) (far : Nat) : Sn :=
  if worldB t L = false then ⟨0, [], 2⟩ else if findB L id = false then ⟨0, [], 5⟩
  else if okV far ∧ (FloatKind.f32.format.order far 0 == some .lt) = false then ⟨t, L.filter (fun e => seesB (L.getD (findI L id) (markM 0)) e far), 0⟩ else ⟨0, [], 4⟩

theorem mob_eq {m : Mob} (h : mobB m = true) : eqM m m = true := by
  rw [mobB_ref] at h
  simp only [Bool.and_eq_true, refB] at h
  have fx : ∀ {x : Nat}, isNum x → feq x x = true := fun {x} hx => by
    have h1 : okV x := by obtain ⟨s, m, e, hr⟩ := hx; unfold okV; rw [hr]; rfl
    have := ord_self h1
    show Op.floatEq .f32 x x = true
    unfold Op.floatEq
    simpa using this
  have hp := mob_pl (m := m) (by rw [mobB_ref]; simp only [Bool.and_eq_true, refB]; exact h)
  have h1 := fx hp.x
  have h2 := fx hp.y
  have h3 := fx (fin_num h.1.1.1.1.1.1.1.2)
  have h4 := fx (fin_num h.1.1.1.1.1.1.2)
  simp [eqM, h1, h2, h3, h4]

theorem seenR_small (t : Int) (L : List Mob) (id : Int) (far : Nat) : (seenR t L id far).X.length ≤ 32 ∧ ∀ m ∈ (seenR t L id far).X, eqM m m = true := by
  unfold seenR
  split
  · exact ⟨Nat.zero_le _, fun m hm => by cases hm⟩
  · rename_i hb
    have hb : worldB t L = true := by simpa using hb
    split
    · exact ⟨Nat.zero_le _, fun m hm => by cases hm⟩
    · split
      · refine ⟨Nat.le_trans (List.length_filter_le _ _) (worldB_fine hb).2.2.short, fun m hm => ?_⟩
        have hm' := (List.mem_filter.1 hm).1
        obtain ⟨j, hj, rfl⟩ := List.getElem_of_mem hm'
        have h3 := hb
        simp only [worldB, decide_eq_true_eq] at h3
        exact mob_eq (h3.2.2 j hj hj).1
      · exact ⟨Nat.zero_le _, fun m hm => by cases hm⟩

theorem seen_any (t id : Int) (far : Nat) (p : Option Addr) (cap : Nat) (L : List Mob) (w : World) (hl : (L.length : Int) ≤ 4611686018427387903) (h : Reads w p L) :
    Calls Try.prog 23 #[.agg #[.int .i64 t, .slice p L.length cap], .int .i64 id, .float .f32 far] w fun e w' =>
      ∃ q cq, e = .returned (.tuple #[.agg #[.int .i64 (seenR t L id far).t, .slice q (seenR t L id far).X.length cq], .int .i64 (seenR t L id far).e]) ∧ Raw w' q (seenR t L id far).X.length cq ∧ Reads w' q (seenR t L id far).X ∧ (∀ j, HB q j → w.heap.size ≤ j) ∧ Kept (fun _ => False) w w' := by
  have none_ok : ∀ w' : World, Raw w' none 0 0 ∧ Reads w' none [] ∧ (∀ j, HB none j → w.heap.size ≤ j) := fun w' => ⟨Or.inl ⟨rfl, rfl, rfl⟩, fun h => absurd rfl h, fun j hj => by obtain ⟨_, e⟩ := hj; cases e⟩
  unfold seenR
  split
  · rename_i hb
    refine (seen_bad t id far p cap L w hl h hb).mono ?_
    rintro e w' ⟨rfl, hk⟩
    exact ⟨none, 0, rfl, (none_ok w').1, (none_ok w').2.1, (none_ok w').2.2, hk⟩
  · rename_i hb
    have hb : worldB t L = true := by simpa using hb
    split
    · rename_i hf
      refine (seen_none t id far p cap L w hl h hb hf).mono ?_
      rintro e w' ⟨rfl, hk⟩
      exact ⟨none, 0, rfl, (none_ok w').1, (none_ok w').2.1, (none_ok w').2.2, hk⟩
    · rename_i hf
      have hf : findB L id = true := by simpa using hf
      split
      · rename_i hok
        obtain ⟨hq, -, -⟩ := pl_some (rises_of (worldB_fine hb).2.2.rises) hf
        have eg : L.getD (findI L id) (markM 0) = L[findI L id] := by simp [List.getD, hq]
        rw [eg]
        refine (seen_ok t id far p cap L w h hb (findI L id) rfl hq hf hok.1 hok.2).mono ?_
        rintro e w' ⟨g, cur, hg, rfl, hr, hk⟩
        exact ⟨some ⟨g, 0, none⟩, _, rfl, Or.inr ⟨g, cur, rfl, hr.blk, hr.len, hr.short⟩, hr.reads, fun j hj => by obtain ⟨_, e⟩ := hj; cases e; exact hg, hk⟩
      · rename_i hok
        by_cases ho : okV far
        · have hlt : (FloatKind.f32.format.order far 0 == some .lt) = true := by
            cases hh : (FloatKind.f32.format.order far 0 == some .lt)
            · exact absurd ⟨ho, hh⟩ hok
            · rfl
          refine (seen_neg t id far p cap L w hl h hb hf ho hlt).mono ?_
          rintro e w' ⟨rfl, hk⟩
          exact ⟨none, 0, rfl, (none_ok w').1, (none_ok w').2.1, (none_ok w').2.2, hk⟩
        · refine (seen_nan t id far p cap L w hl h hb hf ho).mono ?_
          rintro e w' ⟨rfl, hk⟩
          exact ⟨none, 0, rfl, (none_ok w').1, (none_ok w').2.1, (none_ok w').2.2, hk⟩

theorem rseen_any (t id : Int) (far : Nat) (p : Option Addr) (cap : Nat) (L : List Mob) (w : World) (hl : (L.length : Int) ≤ 4611686018427387903) (h : Reads w p L) :
    Calls Try.prog 24 #[.agg #[.int .i64 t, .slice p L.length cap], .int .i64 id, .float .f32 far] w fun e w' =>
      ∃ q cq, e = .returned (.tuple #[.agg #[.int .i64 (seenR t L id far).t, .slice q (seenR t L id far).X.length cq], .int .i64 (seenR t L id far).e]) ∧ Reads w' q (seenR t L id far).X ∧ (∀ j, HB q j → typ w' j 57) ∧ Kept (fun _ => False) w w' := by
  have none_ok : ∀ w' : World, Reads w' none [] := fun w' h => absurd rfl h
  have none_t : ∀ w' : World, ∀ j, HB none j → typ w' j 57 := fun w' j hj => by obtain ⟨_, e⟩ := hj; cases e
  unfold seenR
  split
  · rename_i hb
    refine (rseen_bad t id far p cap L w hl h hb).mono ?_
    rintro e w' ⟨rfl, hk⟩
    exact ⟨none, 0, rfl, none_ok w', none_t w', hk⟩
  · rename_i hb
    have hb : worldB t L = true := by simpa using hb
    split
    · rename_i hf
      refine (rseen_none t id far p cap L w hl h hb hf).mono ?_
      rintro e w' ⟨rfl, hk⟩
      exact ⟨none, 0, rfl, none_ok w', none_t w', hk⟩
    · rename_i hf
      have hf : findB L id = true := by simpa using hf
      split
      · rename_i hok
        obtain ⟨hq, -, -⟩ := pl_some (rises_of (worldB_fine hb).2.2.rises) hf
        have eg : L.getD (findI L id) (markM 0) = L[findI L id] := by simp [List.getD, hq]
        rw [eg]
        refine (rseen_ok t id far p cap L w h hb (findI L id) rfl hq hf hok.1 hok.2).mono ?_
        rintro e w' ⟨v, rfl, hr, hk⟩
        obtain ⟨q, cq, rfl⟩ : ∃ q cq, v = .slice q (L.filter (fun e => seesB L[findI L id] e far)).length cq := by
          rcases hr.out.2 with ⟨hv, hn⟩ | ⟨g, cap', cur, hv, _⟩
          · exact ⟨none, 0, by rw [hv, hn]⟩
          · exact ⟨_, _, hv⟩
        exact ⟨q, cq, rfl, owns_reads hr.out, fun j hj => by obtain ⟨_, e⟩ := hj; subst e; rcases hr.out.2 with ⟨hv, _⟩ | ⟨g, cap', cur, hv, _, hh, _⟩; (· cases hv); (· cases hv; exact typ_blk hh), hk⟩
      · rename_i hok
        have hlt : (FloatKind.f32.format.order far 0 == some .lt) = true ∨ ((FloatKind.f32.format.order far 0 == some .lt) = false ∧ (FloatKind.f32.format.order far far != some .eq) = true) := by
          by_cases ho : okV far
          · left
            cases hh : (FloatKind.f32.format.order far 0 == some .lt)
            · exact absurd ⟨ho, hh⟩ hok
            · rfl
          · right
            exact ⟨by rw [nan_ord ho]; rfl, by rw [nan_ord ho]; rfl⟩
        refine (rseen_rng t id far p cap L w hl h hb hf hlt).mono ?_
        rintro e w' ⟨rfl, hk⟩
        exact ⟨none, 0, rfl, none_ok w', none_t w', hk⟩

end Go.Proofs.Ytlfmfhmbkpnjbaa
