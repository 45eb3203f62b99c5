import Derived.Test.YtlfmfhmbkpnjbaaPm31
import Derived.Test.YtlfmfhmbkpnjbaaPm32
import Derived.Test.YtlfmfhmbkpnjbaaPm19
namespace Go.Proofs.Ytlfmfhmbkpnjbaa
open Go.RowKit

open Classical in
noncomputable def seenR (t : Int) (L : List Mob) (id : Int) (far : Nat) : Sn :=
  if worldB t L = false then ⟨0, [], 2⟩ else if findB L id = false then ⟨0, [], 5⟩
  else if okV far ∧ (FloatKind.f32.format.order far 0 == some .lt) = false then ⟨t, L.filter (fun e => seesB (L.getD (findI L id) (markM 0)) e far), 0⟩ else ⟨0, [], 4⟩

theorem mob_eq {m : Mob} (h : mobB m = true) : eqM m m = true := by
  rw [mobB_ref] at h
  simp only [Bool.and_eq_true, refB] at h
  have fx : ∀ {x : Nat}, isNum x → feq x x = true := fun {x} hx => by
    have h1 : okV x := by obtain ⟨s, m, e, hr⟩ := hx; unfold okV; rw [hr]; rfl
    have := ord_self h1
    show Op.floatEq .f32 x x = true
    unfold Op.floatEq
    simpa using this
  have hp := mob_pl (m := m) (by rw [mobB_ref]; simp only [Bool.and_eq_true, refB]; exact h)
  have h1 := fx hp.x
  have h2 := fx hp.y
  have h3 := fx (fin_num h.1.1.1.1.1.1.1.2)
  have h4 := fx (fin_num h.1.1.1.1.1.1.2)
  simp [eqM, h1, h2, h3, h4]

theorem seenR_small (t : Int) (L : List Mob) (id : Int) (far : Nat) : (seenR t L id far).X.length ≤ 32 ∧ ∀ m ∈ (seenR t L id far).X, eqM m m = true := by
  unfold seenR
  split
  · exact ⟨Nat.zero_le _, fun m hm => by cases hm⟩
  · rename_i hb
    have hb : worldB t L = true := by simpa using hb
    split
    · exact ⟨Nat.zero_le _, fun m hm => by cases hm⟩
    · split
      · refine ⟨Nat.le_trans (List.length_filter_le _ _) (worldB_fine hb).2.2.short, fun m hm => ?_⟩
        have hm' := (List.mem_filter.1 hm).1
        obtain ⟨j, hj, rfl⟩ := List.getElem_of_mem hm'
        have h3 := hb
        simp only [worldB, decide_eq_true_eq] at h3
        exact mob_eq (h3.2.2 j hj hj).1
      · exact ⟨Nat.zero_le _, fun m hm => by cases hm⟩

theorem seen_any (t id : Int) (far : Nat) (p : Option Addr) (cap : Nat) (L : List Mob) (w : World) (hl : (L.length : Int) ≤ 4611686018427387903) (h : Reads w p L) :
    Calls Try.prog 23 #[.agg #[.int .i64 t, .slice p L.length cap], .int .i64 id, .float .f32 far] w fun e w' =>
      ∃ q cq, e = .returned (.tuple #[.agg #[.int .i64 (seenR t L id far).t, .slice q (seenR t L id far).X.length cq], .int .i64 (seenR t L id far).e]) ∧ Raw w' q (seenR t L id far).X.length cq ∧ Reads w' q (seenR t L id far).X ∧ (∀ j, HB q j → w.heap.size ≤ j) ∧ Kept (fun _ => False) w w' := by
  have none_ok : ∀ w' : World, Raw w' none 0 0 ∧ Reads w' none [] ∧ (∀ j, HB none j → w.heap.size ≤ j) := fun w' => ⟨Or.inl ⟨rfl, rfl, rfl⟩, fun h => absurd rfl h, fun j hj => by obtain ⟨_, e⟩ := hj; cases e⟩
  unfold seenR
  split
  · rename_i hb
    refine (seen_bad t id far p cap L w hl h hb).mono ?_
    rintro e w' ⟨rfl, hk⟩
    exact ⟨none, 0, rfl, (none_ok w').1, (none_ok w').2.1, (none_ok w').2.2, hk⟩
  · rename_i hb
    have hb : worldB t L = true := by simpa using hb
    split
    · rename_i hf
      refine (seen_none t id far p cap L w hl h hb hf).mono ?_
      rintro e w' ⟨rfl, hk⟩
      exact ⟨none, 0, rfl, (none_ok w').1, (none_ok w').2.1, (none_ok w').2.2, hk⟩
    · rename_i hf
      have hf : findB L id = true := by simpa using hf
      split
      · rename_i hok
        obtain ⟨hq, -, -⟩ := pl_some (rises_of (worldB_fine hb).2.2.rises) hf
        have eg : L.getD (findI L id) (markM 0) = L[findI L id] := by simp [List.getD, hq]
        rw [eg]
        refine (seen_ok t id far p cap L w h hb (findI L id) rfl hq hf hok.1 hok.2).mono ?_
        rintro e w' ⟨g, cur, hg, rfl, hr, hk⟩
        exact ⟨some ⟨g, 0, none⟩, _, rfl, Or.inr ⟨g, cur, rfl, hr.blk, hr.len, hr.short⟩, hr.reads, fun j hj => by obtain ⟨_, e⟩ := hj; cases e; exact hg, hk⟩
      · rename_i hok
        by_cases ho : okV far
        · have hlt : (FloatKind.f32.format.order far 0 == some .lt) = true := by
            cases hh : (FloatKind.f32.format.order far 0 == some .lt)
            · exact absurd ⟨ho, hh⟩ hok
            · rfl
          refine (seen_neg t id far p cap L w hl h hb hf ho hlt).mono ?_
          rintro e w' ⟨rfl, hk⟩
          exact ⟨none, 0, rfl, (none_ok w').1, (none_ok w').2.1, (none_ok w').2.2, hk⟩
        · refine (seen_nan t id far p cap L w hl h hb hf ho).mono ?_
          rintro e w' ⟨rfl, hk⟩
          exact ⟨none, 0, rfl, (none_ok w').1, (none_ok w').2.1, (none_ok w').2.2, hk⟩

theorem rseen_any (t id : Int) (far : Nat) (p : Option Addr) (cap : Nat) (L : List Mob) (w : World) (hl : (L.length : Int) ≤ 4611686018427387903) (h : Reads w p L) :
    Calls Try.prog 24 #[.agg #[.int .i64 t, .slice p L.length cap], .int .i64 id, .float .f32 far] w fun e w' =>
      ∃ q cq, e = .returned (.tuple #[.agg #[.int .i64 (seenR t L id far).t, .slice q (seenR t L id far).X.length cq], .int .i64 (seenR t L id far).e]) ∧ Reads w' q (seenR t L id far).X ∧ (∀ j, HB q j → typ w' j 57) ∧ Kept (fun _ => False) w w' := by
  have none_ok : ∀ w' : World, Reads w' none [] := fun w' h => absurd rfl h
  have none_t : ∀ w' : World, ∀ j, HB none j → typ w' j 57 := fun w' j hj => by obtain ⟨_, e⟩ := hj; cases e
  unfold seenR
  split
  · rename_i hb
    refine (rseen_bad t id far p cap L w hl h hb).mono ?_
    rintro e w' ⟨rfl, hk⟩
    exact ⟨none, 0, rfl, none_ok w', none_t w', hk⟩
  · rename_i hb
    have hb : worldB t L = true := by simpa using hb
    split
    · rename_i hf
      refine (rseen_none t id far p cap L w hl h hb hf).mono ?_
      rintro e w' ⟨rfl, hk⟩
      exact ⟨none, 0, rfl, none_ok w', none_t w', hk⟩
    · rename_i hf
      have hf : findB L id = true := by simpa using hf
      split
      · rename_i hok
        obtain ⟨hq, -, -⟩ := pl_some (rises_of (worldB_fine hb).2.2.rises) hf
        have eg : L.getD (findI L id) (markM 0) = L[findI L id] := by simp [List.getD, hq]
        rw [eg]
        refine (rseen_ok t id far p cap L w h hb (findI L id) rfl hq hf hok.1 hok.2).mono ?_
        rintro e w' ⟨v, rfl, hr, hk⟩
        obtain ⟨q, cq, rfl⟩ : ∃ q cq, v = .slice q (L.filter (fun e => seesB L[findI L id] e far)).length cq := by
          rcases hr.out.2 with ⟨hv, hn⟩ | ⟨g, cap', cur, hv, _⟩
          · exact ⟨none, 0, by rw [hv, hn]⟩
          · exact ⟨_, _, hv⟩
        exact ⟨q, cq, rfl, owns_reads hr.out, fun j hj => by obtain ⟨_, e⟩ := hj; subst e; rcases hr.out.2 with ⟨hv, _⟩ | ⟨g, cap', cur, hv, _, hh, _⟩; (· cases hv); (· cases hv; exact typ_blk hh), hk⟩
      · rename_i hok
        have hlt : (FloatKind.f32.format.order far 0 == some .lt) = true ∨ ((FloatKind.f32.format.order far 0 == some .lt) = false ∧ (FloatKind.f32.format.order far far != some .eq) = true) := by
          by_cases ho : okV far
          · left
            cases hh : (FloatKind.f32.format.order far 0 == some .lt)
            · exact absurd ⟨ho, hh⟩ hok
            · rfl
          · right
            exact ⟨by rw [nan_ord ho]; rfl, by rw [nan_ord ho]; rfl⟩
        refine (rseen_rng t id far p cap L w hl h hb hf hlt).mono ?_
        rintro e w' ⟨rfl, hk⟩
        exact ⟨none, 0, rfl, none_ok w', none_t w', hk⟩

end Go.Proofs.Ytlfmfhmbkpnjbaa

namespace Go.Proofs.Ytlfmfhmbkpnjbaa.opens
open Go.ChangeShapes Go.WideShapes Go.ChangeAt Go.RowKit Go.Deep
set_option linter.unusedVariables false
set_option maxRecDepth 100000

theorem cellsE : Try.prog.cellsOf 57 = 7 := by kernel_rfl
theorem cellsW : Try.prog.cellsOf 40 = 2 := by kernel_rfl
theorem cellsI : Try.prog.cellsOf 3 = 1 := by kernel_rfl
theorem cellsF : Try.prog.cellsOf 54 = 1 := by kernel_rfl
theorem cellsS : Try.prog.cellsOf 38 = 1 := by kernel_rfl

theorem trod_float {P : Program} {H : Type} {enc : TypeId × Value → H} {w : World} {base : Nat} {spare : Nat → Bool} {held : Bool} {fuel : Nat} {t : TypeId} {cs : List Value} {x : DataW H × List MemPlace} {k : FloatKind} (ht : P.underlying t = some (.float k)) (h : DataW.trod enc P w base spare held fuel t cs = some x) : ∃ n, cs = [.float k n] := by
  cases fuel with
  | zero => simp [DataW.trod] at h
  | succ n =>
    unfold DataW.trod at h
    rw [ht] at h
    split at h <;> simp_all

theorem one_le {H : Type} (d : DataW H) : 1 ≤ Rows.uptoBulk d := by
  cases d with
  | lit l => cases l <;> simp [Rows.uptoBulk]
  | _ => simp [Rows.uptoBulk]

theorem many_le {H : Type} (l : List (DataW H)) : l.length ≤ Rows.uptoBulkAll l := by
  induction l with
  | nil => exact Nat.zero_le _
  | cons x r ih =>
    have := one_le x
    simp only [Rows.uptoBulkAll, List.length_cons]
    omega

theorem mob_of {H : Type} {enc : TypeId × Value → H} {W : World} {spare : Nat → Bool} {held : Bool} {n : Nat} {cs : List Value} {x : DataW H × List MemPlace} (h : DataW.trod enc Try.prog W 0 spare held n 57 cs = some x) :
    ∃ m : Mob, cs = rowM [m] := by
  obtain ⟨xs, m, _, rfl, hl, hlen, hf⟩ := DataW.trod_struct Try.underlying57 h
  rw [cellsE] at hl
  match cs, hl, xs, hlen with
  | [c0, c1, c2, c3, c4, c5, c6], _, [y0, y1, y2, y3, y4, y5, y6], _ =>
    have f0 : DataW.trod enc Try.prog W 0 spare held m 3 [c0] = some y0 := by have := hf 0 _ rfl; simpa [cellsI] using this
    have f1 : DataW.trod enc Try.prog W 0 spare held m 3 [c1] = some y1 := by have := hf 1 _ rfl; simpa [cellsI] using this
    have f2 : DataW.trod enc Try.prog W 0 spare held m 54 [c2] = some y2 := by have := hf 2 _ rfl; simpa [cellsF] using this
    have f3 : DataW.trod enc Try.prog W 0 spare held m 54 [c3] = some y3 := by have := hf 3 _ rfl; simpa [cellsF] using this
    have f4 : DataW.trod enc Try.prog W 0 spare held m 54 [c4] = some y4 := by have := hf 4 _ rfl; simpa [cellsF] using this
    have f5 : DataW.trod enc Try.prog W 0 spare held m 54 [c5] = some y5 := by have := hf 5 _ rfl; simpa [cellsF] using this
    have f6 : DataW.trod enc Try.prog W 0 spare held m 3 [c6] = some y6 := by have := hf 6 _ rfl; simpa [cellsI] using this
    obtain ⟨k0, e0, _⟩ := DataW.trod_int Try.underlying3 f0
    obtain ⟨k1, e1, _⟩ := DataW.trod_int Try.underlying3 f1
    obtain ⟨k2, e2⟩ := trod_float Try.underlying54 f2
    obtain ⟨k3, e3⟩ := trod_float Try.underlying54 f3
    obtain ⟨k4, e4⟩ := trod_float Try.underlying54 f4
    obtain ⟨k5, e5⟩ := trod_float Try.underlying54 f5
    obtain ⟨k6, e6, _⟩ := DataW.trod_int Try.underlying3 f6
    simp only [List.cons.injEq, and_true] at e0 e1 e2 e3 e4 e5 e6
    subst e0 e1 e2 e3 e4 e5 e6
    exact ⟨⟨k0, k1, k2, k3, k4, k5, k6⟩, rfl⟩

/-- The entities that came in. -/
theorem mobs_at {W : World} {b off : Nat} (len : Nat) (hel : ∀ i, i < len → ∃ m : Mob, ∀ k, k < 7 → W.cell? ⟨b, off + i * 7 + k, none⟩ = (rowM [m])[k]?) :
    ∃ L : List Mob, L.length = len ∧ ∀ j u, (rowM L)[j]? = some u → W.cell? ⟨b, off + j, none⟩ = some u := by
  induction len with
  | zero => exact ⟨[], rfl, fun j u hu => by simp [rowM] at hu⟩
  | succ n ih =>
    obtain ⟨L, hl, hr⟩ := ih (fun i hi => hel i (by omega))
    obtain ⟨m, hm⟩ := hel n (by omega)
    refine ⟨L ++ [m], by simp [hl], fun j u hu => ?_⟩
    rw [rowM_append] at hu
    have hll : (rowM L).length = n * 7 := by rw [rowM_length, hl]
    by_cases hj : j < n * 7
    · rw [List.getElem?_append_left (by omega)] at hu
      exact hr j u hu
    · rw [List.getElem?_append_right (by omega), hll] at hu
      have h7 : j - n * 7 < 7 := (List.getElem?_eq_some_iff.1 hu).1
      have := hm (j - n * 7) h7
      rw [hu, show off + n * 7 + (j - n * 7) = off + j from by omega] at this
      exact this

theorem ents_of {H : Type} {enc : TypeId × Value → H} {W : World} {spare : Nat → Bool} {held : Bool} {fuel : Nat} {cs : List Value} {x : DataW H × List MemPlace} (h : DataW.trod enc Try.prog W 0 spare held fuel 38 cs = some x) :
    ∃ p cap, ∃ L : List Mob, cs = [.slice p L.length cap] ∧ Reads W p L ∧ L.length ≤ Rows.uptoBulk x.1 := by
  rcases open_slice Try.underlying38 h with ⟨hcs, _⟩ | ⟨a, len, cap, m, n, D, Pl, hcs, _, hl, _, hmm, hx, hel⟩
  · exact ⟨none, 0, [], hcs, fun h => absurd rfl h, Nat.zero_le _⟩
  · rw [cellsE] at hel
    have hlm : len ≤ m := by rw [hmm]; split <;> omega
    have hbulk : len ≤ Rows.uptoBulk x.1 := by
      have := many_le ((List.range len).map D)
      rw [hx]
      simp only [Rows.uptoBulk]
      simp only [List.length_map, List.length_range] at this
      omega
    by_cases hpos : 0 < len
    · obtain ⟨b, off, spot⟩ := a
      have hfirst : spot = none ∧ b < W.heap.size := by
        obtain ⟨cs', h1, h2⟩ := hel 0 (by omega)
        obtain ⟨m0, rfl⟩ := mob_of h2
        have h3 := (World.cells?_some h1).2.2 0 (by omega)
        have h4 : W.cell? (((⟨b, off, spot⟩ : Addr).add (0 * 7)).add 0) = some (.int .i64 m0.id) := h3
        simp only [Nat.zero_mul] at h4
        have e : ((⟨b, off, spot⟩ : Addr).add 0).add 0 = ⟨b, off, spot⟩ := by simp [Addr.add]
        rw [e] at h4
        exact ⟨World.cell?_spot h4, World.block_lt_of_cell? (w := W) (a := ⟨b, off, spot⟩) h4⟩
      obtain ⟨rfl, hb⟩ := hfirst
      obtain ⟨L, hLl, hr⟩ := mobs_at (W := W) (b := b) (off := off) len (fun i hi => by
        obtain ⟨cs', h1, h2⟩ := hel i (by omega)
        obtain ⟨m0, rfl⟩ := mob_of h2
        have hc := (World.cells?_some h1).2.2
        exact ⟨m0, fun k hk => by have := hc k hk; rwa [addr_add2, addr_add2] at this⟩)
      exact ⟨some ⟨b, off, none⟩, cap, L, by rw [hLl]; exact hcs, fun _ => ⟨b, off, rfl, hb, hr⟩, by rw [hLl]; exact hbulk⟩
    · obtain rfl : len = 0 := by omega
      exact ⟨some a, cap, [], hcs, fun h => absurd rfl h, Nat.zero_le _⟩

theorem ints_of {H : Type} {enc : TypeId × Value → H} {W : World} {spare : Nat → Bool} {held : Bool} {fuel : Nat} {cs : List Value} {x : DataW H × List MemPlace} (h : DataW.trod enc Try.prog W 0 spare held fuel 53 cs = some x) :
    ∃ p l c, cs = [.slice p l c] ∧ RI W p l ∧ l ≤ Rows.uptoBulk x.1 := by
  obtain ⟨p, l, c, rfl, _, hr⟩ := ticks.inner h
  refine ⟨p, l, c, rfl, hr, ?_⟩
  rcases open_slice Try.underlying53 h with ⟨hcs, _⟩ | ⟨a, len, cap, m, n, D, Pl, hcs, _, hl, _, hmm, hx, hel⟩
  · simp only [List.cons.injEq, Value.slice.injEq, and_true] at hcs
    rw [hcs.2.1]; exact Nat.zero_le _
  · simp only [List.cons.injEq, Value.slice.injEq, and_true] at hcs
    rw [hcs.2.1, hx]
    have := many_le ((List.range len).map D)
    simp only [Rows.uptoBulk]
    simp only [List.length_map, List.length_range] at this
    omega

end Go.Proofs.Ytlfmfhmbkpnjbaa.opens

namespace Go.Proofs.Ytlfmfhmbkpnjbaa
open Go.RowKit

set_option maxHeartbeats 1000000 in
set_option maxRecDepth 100000 in
theorem sameEntity_self (m : Mob) (w : World) : Calls Try.prog 56 #[.agg #[.int .i64 m.id, .int .i64 m.team, .float .f32 m.x, .float .f32 m.y, .float .f32 m.vx, .float .f32 m.vy, .int .i64 m.health], .agg #[.int .i64 m.id, .int .i64 m.team, .float .f32 m.x, .float .f32 m.y, .float .f32 m.vx, .float .f32 m.vy, .int .i64 m.health]] w fun e w' => e = .returned (.bool true) ∧ Kept (fun _ => False) w w' := by
  have HK := hide ((Kept.alloc w (.cells #[.int .i64 m.id, .int .i64 m.team, .float .f32 m.x, .float .f32 m.y, .float .f32 m.vx, .float .f32 m.vy, .int .i64 m.health] 57)).calm2 (Kept.alloc _ (.cells #[.int .i64 m.id, .int .i64 m.team, .float .f32 m.x, .float .f32 m.y, .float .f32 m.vx, .float .f32 m.vy, .int .i64 m.health] 57)))
  have n0 : (m.id == m.id) = true := by simp
  have n1 : (m.team == m.team) = true := by simp
  have n2 : (m.health == m.health) = true := by simp
  go_enter Try.func56, Try.ntmps56
  go_wp2_with fail
  refine (like_self _ _).mono ?_
  rintro e w' ⟨rfl, rfl⟩
  go_wp2_with fail
  refine (like_self _ _).mono ?_
  rintro e w' ⟨rfl, rfl⟩
  go_wp2_with fail
  refine (like_self _ _).mono ?_
  rintro e w' ⟨rfl, rfl⟩
  go_wp2_with fail
  refine (like_self _ _).mono ?_
  rintro e w' ⟨rfl, rfl⟩
  go_wp2
  go_ret
  exact ⟨rfl, HK.out⟩

end Go.Proofs.Ytlfmfhmbkpnjbaa

namespace Go.Proofs.Ytlfmfhmbkpnjbaa
open Go.RowKit

theorem makeAll (n : Nat) (hn : n ≤ 4000000) : ∃ cur0 : List Value, cur0.length = n * 7 ∧ ∀ w : World, (Instr.makeSlice 38 (.int .i64 (n : Int)) (.int .i64 (n : Int))).run Try.prog w = .ok (.slice (some ⟨w.heap.size, 0, none⟩) n n) (w.alloc (.cells cur0.toArray 57)) := by
  obtain ⟨i0, hi, hz0, hz1, hz2⟩ := info_parts info_mob
  refine ⟨(madeCells (Value.agg #[.int .i64 0, .int .i64 0, .float .f32 0, .float .f32 0, .float .f32 0, .float .f32 0, .int .i64 0]).cells (n * 7)).toList, ?_, fun w => ?_⟩
  · rw [Array.length_toList, size_madeCells]
  · have := run_make (P := Try.prog) w 38 57 i0 _ Try.underlying38 hi hz0 .i64 .i64 (n : Int) (n : Int) (by omega) (by omega) (by rw [hz2]; omega) (by omega)
    rw [hz1, Int.toNat_natCast] at this
    exact this

/-- The list that is lent: with eight marks behind it. -/
def lentL (L : List Mob) : List Mob := L ++ List.replicate 8 (markM 0)
theorem lentL_length (L : List Mob) : (lentL L).length = L.length + 8 := by simp [lentL]

theorem lentL_in (L : List Mob) (i : Nat) (h : i < L.length) (h' : i < (lentL L).length) : (lentL L)[i] = L[i] := by
  simp only [lentL]
  exact List.getElem_append_left h
theorem lentL_out (L : List Mob) (i : Nat) (h : L.length ≤ i) (h' : i < (lentL L).length) : (lentL L)[i] = markM 0 := by
  simp only [lentL]
  rw [List.getElem_append_right h, List.getElem_replicate]

structure LentAt (wr : World) (g : Nat) (L : List Mob) (i : Nat) (cu : List Value) : Prop where
  blk : wr.heap[g]? = some (.cells cu.toArray 57 (0, 0))
  len : cu.length = (L.length + 8) * 7
  row : cu.take (i * 7) = rowM ((lentL L).take i)

theorem LentAt.more {wr w' : World} {g : Nat} {L : List Mob} {i : Nat} {cu : List Value} (h : LentAt wr g L i cu) (hi : L.length ≤ i) (hi2 : i < L.length + 8) (hw : w'.heap[g]? = some (.cells (splice cu (i * 7) (rowM [markM 0])).toArray 57 (0, 0))) : LentAt w' g L (i + 1) (splice cu (i * 7) (rowM [markM 0])) := by
  have h7 : (rowM [markM 0]).length = 7 := rfl
  have hl := lentL_length L
  have hg : (lentL L)[i]'(by omega) = markM 0 := lentL_out L i hi (by omega)
  refine ⟨hw, by rw [length_splice _ _ _ (by rw [h.len, h7]; omega), h.len], ?_⟩
  rw [List.take_succ_eq_append_getElem (by omega), hg, rowM_append]
  unfold splice
  rw [← List.append_assoc, h.row, show (i + 1) * 7 = (rowM ((lentL L).take i) ++ rowM [markM 0]).length from by rw [← rowM_append, rowM_length, List.length_append, List.length_take, hl, show min i (L.length + 8) = i from by omega]; rfl, List.take_left]

set_option maxHeartbeats 2000000 in
set_option maxRecDepth 100000 in
theorem lent_c (p : Option Addr) (cap : Nat) (L : List Mob) (w : World) (hl : L.length ≤ 2000000) (h : Reads w p L) :
    Calls Try.prog 15 #[.slice p L.length cap] w fun e w' => e = .returned (.slice (some ⟨w.heap.size, 0, none⟩) (L.length + 8) (L.length + 8)) ∧ w'.heap[w.heap.size]? = some (.cells (rowM (lentL L)).toArray 57 (0, 0)) ∧ Kept (fun _ => False) w w' := by
  obtain ⟨i0, hi, hz0, hz1, hz2⟩ := info_parts info_mob
  obtain ⟨cur0, hc0, hmk⟩ := makeAll (L.length + 8) (by omega)
  have hmk' : ∀ w : World, (Instr.makeSlice 38 (.int .i64 ((L.length : Int) + 8)) (.int .i64 ((L.length : Int) + 8))).run Try.prog w = .ok (.slice (some ⟨w.heap.size, 0, none⟩) (L.length + 8) (L.length + 8)) (w.alloc (.cells cur0.toArray 57)) := fun w => hmk w
  have hsf := store_float Try.prog
  have HR := hide h
  clear h hmk
  have S1 : Hid (0 < L.length → some (⟨w.heap.size, 0, none⟩ : Addr) = some ⟨w.heap.size, 0, none⟩ ∧ ∃ ad, p = some ad ∧ ∀ j v, (rowM L)[j]? = some v → (w.alloc (.cells cur0.toArray 57)).cell? (ad.add j) = some v) := fun hpos => by
    obtain ⟨b, off, h1, h2, h3⟩ := (HR.out.calm (Kept.alloc w (.cells cur0.toArray 57))) (by intro e; simp [e] at hpos)
    exact ⟨rfl, ⟨b, off, none⟩, h1, fun j v hv => by rw [addr_add2]; exact h3 j v hv⟩
  have S2 : Hid (Nat.min L.length (L.length + 8) = L.length) := by show min _ _ = _; omega
  go_enter Try.func15, Try.ntmps15
  go_wp2_with (refine wpList_copy_any _ rfl (.tmp 9) (.tmp 10) 38 38 rfl 57 7 Try.underlying38 size_mob (some ⟨w.heap.size, 0, none⟩) p (L.length + 8) (L.length + 8) L.length cap (by simp [Act.eval]) (by simp [Act.eval]) w.heap.size 0 cur0 57 (heap_alloc_new w _) L.length S2.out (rowM L) (rowM_length L) S1.out (by rw [rowM_length, hc0]; omega) (rowM_one L) ?_)
  intro w1 HG1 HK1
  have K1 : Hid (Kept (fun _ => False) w w1) := (Kept.alloc w _).join HK1.out (fun _ _ e => e) (fun j hj e => by omega)
  have L1 : Hid (LentAt w1 w.heap.size L L.length (splice cur0 0 (rowM L))) := by
    refine ⟨HG1.out, by rw [length_splice _ _ _ (by rw [rowM_length, hc0]; omega), hc0], ?_⟩
    unfold splice lentL
    rw [List.take_zero, List.nil_append, ← rowM_length, List.take_left, List.take_left' rfl]
  clear HG1 HK1 hmk' S1 S2
  have hw0 : w.heap.size < w1.heap.size := heap_lt L1.out.blk
  go_wp2
  go_loopw [4] (fun a wr => ∃ i : Nat, ∃ cu : List Value, L.length ≤ i ∧ i ≤ L.length + 8 ∧ a = .int .i64 i ∧ Hid (LentAt wr w.heap.size L i cu) ∧ Hid (Kept (fun _ => False) w wr)) (fun a _ => L.length + 8 - (intOf a).toNat)
  case atStart => exact ⟨L.length, _, Nat.le_refl _, by omega, rfl, L1, K1⟩
  case round =>
    obtain ⟨i, cu, hil, hi8, rfl, HL, HK⟩ := hrel
    clear L1 K1
    by_cases hlt : i < L.length + 8
    · have hb1 : (0 : Int) ≤ (i : Int) := by omega
      have hb2 : (i : Int) < (L.length : Int) + 8 := by omega
      have hb3 : (i : Int) < ((L.length + 8 : Nat) : Int) := by omega
      go_wp2_with fail
      refine (badEntity_c 0 _ (by decide)).mono ?_
      rintro e w2 ⟨rfl, q2⟩
      have K2 := hide (HK.out.calm2 q2)
      have B2 := hide (show w2.heap[w.heap.size]? = some (.cells cu.toArray 57 (0, 0)) by rw [q2.block _ (heap_lt HL.out.blk) (fun e => e)]; exact HL.out.blk)
      have hal : i * 7 + 7 ≤ cu.length := by rw [HL.out.len]; omega
      obtain ⟨u0, u1, u2, u3, u4, u5, u6, f0, f1, f2, f3, f4, f5, f6⟩ := seven_old B2.out (i * 7) hal
      have ffz : ∀ j, w2.frozen? ⟨w.heap.size, j, none⟩ = false := fun j => by simp [World.frozen?, B2.out]
      have ST := hide (store7 B2.out (i * 7) (markM 0) hal)
      clear q2
      go_wp2
      go_roundw
      case rel => exact ⟨i + 1, _, by omega, by omega, by go_num, HL.out.more hil hlt ST.out.1, K2.out.join ST.out.2 (fun _ _ e => e) (fun j hj e => by omega)⟩
      case measure => simp [intOf]; omega
    · obtain rfl : i = L.length + 8 := by omega
      have HF : Hid (cu = rowM (lentL L)) := by
        show _ = _
        have h1 := HL.out.row
        rw [List.take_of_length_le (by rw [HL.out.len]; omega), List.take_of_length_le (by rw [lentL_length]; omega)] at h1
        exact h1
      go_wp2
      go_ret
      refine ⟨rfl, ?_, HK.out⟩
      rw [← HF.out]; exact HL.out.blk

set_option maxHeartbeats 4000000 in
set_option maxRecDepth 100000 in
theorem kept_c (p q : Option Addr) (cap capq : Nat) (L : List Mob) (w : World) (hl : L.length ≤ 2000000) (h : Reads w q L) (ho : Reads w p (lentL L)) :
    Calls Try.prog 20 #[.slice p (L.length + 8) cap, .slice q L.length capq] w fun e w' => e = .returned (.bool true) ∧ Kept (fun _ => False) w w' := by
  have hsf := store_float Try.prog
  have HR := hide h
  have HO := hide ho
  clear h ho
  have hll := lentL_length L
  go_enter Try.func20, Try.ntmps20
  go_wp2
  go_loopw [5] (fun a wr => ∃ i : Nat, i ≤ L.length + 8 ∧ a = .int .i64 i ∧ Hid (Kept (fun _ => False) w wr)) (fun a _ => L.length + 8 - (intOf a).toNat)
  case atStart => exact ⟨0, Nat.zero_le _, rfl, Kept.refl _ _⟩
  case round =>
    obtain ⟨i, hil, rfl, HK⟩ := hrel
    by_cases hlt : i < L.length + 8
    · have hb1 : (0 : Int) ≤ (i : Int) := by omega
      have hb2 : (i : Int) < (L.length : Int) + 8 := by omega
      have hb3 : (i : Int) < ((L.length + 8 : Nat) : Int) := by omega
      have hlt' : i < (lentL L).length := by omega
      go_wp2_with fail
      refine (badEntity_c 0 _ (by decide)).mono ?_
      rintro e w2 ⟨rfl, q2⟩
      have K2 := hide (HK.out.calm2 q2)
      clear q2
      by_cases hin : i < L.length
      · have hb4 : (i : Int) < (L.length : Int) := by omega
        have hg : (lentL L)[i] = L[i] := lentL_in L i hin hlt'
        obtain ⟨b, off, hp, hbs, c0, c1, c2, c3, c4, c5, c6⟩ := (HR.out.calm K2.out).at i hin
        obtain ⟨b', off', hp', hbs', d0, d1, d2, d3, d4, d5, d6⟩ := (HO.out.calm K2.out).at i hlt'
        rw [hg] at d0 d1 d2 d3 d4 d5 d6
        subst hp
        subst hp'
        have KN := hide (Kept.alloc w2 (.cells #[.int .i64 L[i].id, .int .i64 L[i].team, .float .f32 L[i].x, .float .f32 L[i].y, .float .f32 L[i].vx, .float .f32 L[i].vy, .int .i64 L[i].health] 57))
        have HN := hide (heap_alloc_new w2 (.cells #[.int .i64 L[i].id, .int .i64 L[i].team, .float .f32 L[i].x, .float .f32 L[i].y, .float .f32 L[i].vx, .float .f32 L[i].vy, .int .i64 L[i].health] 57))
        have CE : Hid (∀ w', Kept (fun _ => False) w2 w' → w'.cell? ⟨b', off' + i * 7, none⟩ = some (.int .i64 L[i].id) ∧ w'.cell? ⟨b', off' + i * 7 + 1, none⟩ = some (.int .i64 L[i].team) ∧ w'.cell? ⟨b', off' + i * 7 + 2, none⟩ = some (.float .f32 L[i].x) ∧ w'.cell? ⟨b', off' + i * 7 + 3, none⟩ = some (.float .f32 L[i].y) ∧ w'.cell? ⟨b', off' + i * 7 + 4, none⟩ = some (.float .f32 L[i].vx) ∧ w'.cell? ⟨b', off' + i * 7 + 5, none⟩ = some (.float .f32 L[i].vy) ∧ w'.cell? ⟨b', off' + i * 7 + 6, none⟩ = some (.int .i64 L[i].health)) := fun w' hk => by
          refine ⟨?_, ?_, ?_, ?_, ?_, ?_, ?_⟩
          all_goals rw [cell_keep hk hbs' (fun e => e)]; assumption
        clear d0 d1 d2 d3 d4 d5 d6 hg
        go_wp2
        obtain ⟨n0, n1, n2, n3, n4, n5, n6⟩ := seven_cells HN.out
        obtain ⟨s1, s2, s3, s4, s5, s6, s7⟩ := CE.out _ KN.out
        clear c0 c1 c2 c3 c4 c5 c6
        generalize w2.alloc (.cells #[.int .i64 L[i].id, .int .i64 L[i].team, .float .f32 L[i].x, .float .f32 L[i].y, .float .f32 L[i].vx, .float .f32 L[i].vy, .int .i64 L[i].health] 57) = wa at *
        generalize L[i] = m at *
        go_region_held3 (fun w' => w'.cell? ⟨b', off' + i * 7, none⟩ = some (.int .i64 m.id) ∧ w'.cell? ⟨b', off' + i * 7 + 1, none⟩ = some (.int .i64 m.team) ∧ w'.cell? ⟨b', off' + i * 7 + 2, none⟩ = some (.float .f32 m.x) ∧ w'.cell? ⟨b', off' + i * 7 + 3, none⟩ = some (.float .f32 m.y) ∧ w'.cell? ⟨b', off' + i * 7 + 4, none⟩ = some (.float .f32 m.vx) ∧ w'.cell? ⟨b', off' + i * 7 + 5, none⟩ = some (.float .f32 m.vy) ∧ w'.cell? ⟨b', off' + i * 7 + 6, none⟩ = some (.int .i64 m.health) ∧ w'.cell? ⟨w2.heap.size, 0, none⟩ = some (.int .i64 m.id) ∧ w'.cell? ⟨w2.heap.size, 1, none⟩ = some (.int .i64 m.team) ∧ w'.cell? ⟨w2.heap.size, 2, none⟩ = some (.float .f32 m.x) ∧ w'.cell? ⟨w2.heap.size, 3, none⟩ = some (.float .f32 m.y) ∧ w'.cell? ⟨w2.heap.size, 4, none⟩ = some (.float .f32 m.vx) ∧ w'.cell? ⟨w2.heap.size, 5, none⟩ = some (.float .f32 m.vy) ∧ w'.cell? ⟨w2.heap.size, 6, none⟩ = some (.int .i64 m.health)) (go_keep)
          ((go_at_call 56; refine (sameEntity_self m _).mono ?_; rintro e w4 ⟨rfl, q4⟩; have K4 := hide (KN.out.calm2 ((Kept.drew wa).calm2 q4)); have HN4 := hide (show w4.heap[w2.heap.size]? = some (.cells #[.int .i64 m.id, .int .i64 m.team, .float .f32 m.x, .float .f32 m.y, .float .f32 m.vx, .float .f32 m.vy, .int .i64 m.health] 57 (0, 0)) by rw [((Kept.drew wa).calm2 q4).block _ (heap_lt HN.out) (fun e => e)]; exact HN.out); obtain ⟨u0, u1, u2, u3, u4, u5, u6⟩ := seven_cells HN4.out; obtain ⟨v1, v2, v3, v4, v5, v6, v7⟩ := CE.out w4 K4.out; clear q4))
        clear s1 s2 s3 s4 s5 s6 s7 n0 n1 n2 n3 n4 n5 n6 v1 v2 v3 v4 v5 v6 v7 u0 u1 u2 u3 u4 u5 u6
        go_wp2
        go_roundw
        case rel => exact ⟨i + 1, by omega, by go_num, K2.out.calm2 K4.out⟩
        case measure => simp [intOf]; omega
      · have hb4 : ¬ (i : Int) < (L.length : Int) := by omega
        have hg : (lentL L)[i] = markM 0 := lentL_out L i (by omega) hlt'
        obtain ⟨b', off', hp', hbs', d0, d1, d2, d3, d4, d5, d6⟩ := (HO.out.calm K2.out).at i hlt'
        rw [hg] at d0 d1 d2 d3 d4 d5 d6
        subst hp'
        have KN := hide (Kept.alloc w2 (.cells #[.int .i64 (-1000), .int .i64 0, .float .f32 0, .float .f32 0, .float .f32 0, .float .f32 0, .int .i64 7] 57))
        have HN := hide (heap_alloc_new w2 (.cells #[.int .i64 (-1000), .int .i64 0, .float .f32 0, .float .f32 0, .float .f32 0, .float .f32 0, .int .i64 7] 57))
        have CE : Hid (∀ w', Kept (fun _ => False) w2 w' → w'.cell? ⟨b', off' + i * 7, none⟩ = some (.int .i64 (markM 0).id) ∧ w'.cell? ⟨b', off' + i * 7 + 1, none⟩ = some (.int .i64 (markM 0).team) ∧ w'.cell? ⟨b', off' + i * 7 + 2, none⟩ = some (.float .f32 (markM 0).x) ∧ w'.cell? ⟨b', off' + i * 7 + 3, none⟩ = some (.float .f32 (markM 0).y) ∧ w'.cell? ⟨b', off' + i * 7 + 4, none⟩ = some (.float .f32 (markM 0).vx) ∧ w'.cell? ⟨b', off' + i * 7 + 5, none⟩ = some (.float .f32 (markM 0).vy) ∧ w'.cell? ⟨b', off' + i * 7 + 6, none⟩ = some (.int .i64 (markM 0).health)) := fun w' hk => by
          refine ⟨?_, ?_, ?_, ?_, ?_, ?_, ?_⟩
          all_goals rw [cell_keep hk hbs' (fun e => e)]; assumption
        clear d0 d1 d2 d3 d4 d5 d6 hg
        go_wp2
        obtain ⟨n0, n1, n2, n3, n4, n5, n6⟩ := seven_cells HN.out
        obtain ⟨s1, s2, s3, s4, s5, s6, s7⟩ := CE.out _ KN.out
        simp only [markM, Int.sub_zero] at s1 s2 s3 s4 s5 s6 s7
        generalize w2.alloc (.cells #[.int .i64 (-1000), .int .i64 0, .float .f32 0, .float .f32 0, .float .f32 0, .float .f32 0, .int .i64 7] 57) = wa at *
        go_region_held3 (fun w' => w'.cell? ⟨b', off' + i * 7, none⟩ = some (.int .i64 (-1000)) ∧ w'.cell? ⟨b', off' + i * 7 + 1, none⟩ = some (.int .i64 0) ∧ w'.cell? ⟨b', off' + i * 7 + 2, none⟩ = some (.float .f32 0) ∧ w'.cell? ⟨b', off' + i * 7 + 3, none⟩ = some (.float .f32 0) ∧ w'.cell? ⟨b', off' + i * 7 + 4, none⟩ = some (.float .f32 0) ∧ w'.cell? ⟨b', off' + i * 7 + 5, none⟩ = some (.float .f32 0) ∧ w'.cell? ⟨b', off' + i * 7 + 6, none⟩ = some (.int .i64 7) ∧ w'.cell? ⟨w2.heap.size, 0, none⟩ = some (.int .i64 (-1000)) ∧ w'.cell? ⟨w2.heap.size, 1, none⟩ = some (.int .i64 0) ∧ w'.cell? ⟨w2.heap.size, 2, none⟩ = some (.float .f32 0) ∧ w'.cell? ⟨w2.heap.size, 3, none⟩ = some (.float .f32 0) ∧ w'.cell? ⟨w2.heap.size, 4, none⟩ = some (.float .f32 0) ∧ w'.cell? ⟨w2.heap.size, 5, none⟩ = some (.float .f32 0) ∧ w'.cell? ⟨w2.heap.size, 6, none⟩ = some (.int .i64 7)) (go_keep)
          ((go_at_call 56; refine (sameEntity_self (markM 0) _).mono ?_; rintro e w4 ⟨rfl, q4⟩; have K4 := hide (KN.out.calm2 ((Kept.drew wa).calm2 q4)); have HN4 := hide (show w4.heap[w2.heap.size]? = some (.cells #[.int .i64 (-1000), .int .i64 0, .float .f32 0, .float .f32 0, .float .f32 0, .float .f32 0, .int .i64 7] 57 (0, 0)) by rw [((Kept.drew wa).calm2 q4).block _ (heap_lt HN.out) (fun e => e)]; exact HN.out); obtain ⟨u0, u1, u2, u3, u4, u5, u6⟩ := seven_cells HN4.out; obtain ⟨v1, v2, v3, v4, v5, v6, v7⟩ := CE.out w4 K4.out; simp only [markM, Int.sub_zero] at v1 v2 v3 v4 v5 v6 v7; clear q4))
        clear s1 s2 s3 s4 s5 s6 s7 n0 n1 n2 n3 n4 n5 n6 v1 v2 v3 v4 v5 v6 v7 u0 u1 u2 u3 u4 u5 u6
        go_wp2
        go_roundw
        case rel => exact ⟨i + 1, by omega, by go_num, K2.out.calm2 K4.out⟩
        case measure => simp [intOf]; omega
    · go_wp2
      go_ret
      exact ⟨rfl, HK.out⟩
end Go.Proofs.Ytlfmfhmbkpnjbaa
