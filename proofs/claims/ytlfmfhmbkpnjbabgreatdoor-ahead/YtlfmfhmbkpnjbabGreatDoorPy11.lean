import Derived.Test.YtlfmfhmbkpnjbabGreatDoorPy10
import Derived.Test.YtlfmfhmbkpnjbabGreatDoorPy8
import Derived.Lib.AtoiAll
import Derived.Lib.Bytealg
namespace Go.Proofs.YtlfmfhmbkpnjbabGreatDoor
open Ieee

/-- The rung of a word. -/
def rung (v : Nat) : Nat := v % 2147483648
def neg (v : Nat) : Bool := v / 2147483648 % 2 == 1

theorem rung_word (s : Bool) (r : Nat) (h : r ≤ 2139095040) : rung (Ieee.single.word s r) = r := by
  unfold rung Format.word
  rw [sign_single]
  split <;> omega
theorem neg_word (s : Bool) (r : Nat) (h : r ≤ 2139095040) : neg (Ieee.single.word s r) = s := by
  unfold neg Format.word
  rw [sign_single]
  cases s
  · simp; omega
  · simp; omega

theorem log_small (r : Nat) (h : r ≠ 0) (h2 : r < 8388608) : r.log2 < 23 := (Nat.log2_lt h).2 (by simpa using h2)
theorem log_norm (r : Nat) (h1 : 8388608 ≤ r) (h2 : r < 16777216) : r.log2 = 23 := by
  have a : r.log2 < 24 := (Nat.log2_lt (by omega)).2 (by simpa using h2)
  have b : 23 ≤ r.log2 := (Nat.le_log2 (by omega)).2 (by simpa using h1)
  omega

/-- What a word stands for, and back. -/
theorem read_num (v : Nat) (h : rung v < 2139095040) : ∃ m e, Ieee.single.read v = .number (neg v) m e ∧ rungOf m e = rung v ∧ -149 ≤ e ∧ e ≤ 104 ∧ m ≤ 16777215 := by
  unfold Format.read
  rw [sign_single, bin_single, inf_single, least_single]
  simp only
  by_cases h1 : v % 2147483648 < 8388608
  · rw [if_pos h1]
    refine ⟨rung v, -149, rfl, ?_, by omega, by omega, by unfold rung; omega⟩
    have h1' : rung v < 8388608 := h1
    generalize rung v = r at *
    unfold rungOf
    by_cases h0 : r = 0
    · rw [if_pos h0, h0]
    · have hl := log_small r h0 h1'
      have e1 : lastOf r (-149) = -149 := by unfold lastOf; omega
      have e2 : keptOf r (-149) = r := by
        unfold keptOf
        rw [e1]
        simp only [Int.sub_self, Int.toNat_zero, Nat.shiftLeft_zero]
        exact cut_zero r
      rw [if_neg h0, e1, e2]
      simp only [Int.add_left_neg, Int.toNat_zero, Nat.zero_mul, Nat.zero_add]
      omega
  · have h' : v % 2147483648 < 2139095040 := h
    rw [if_neg h1, if_pos h']
    have hr : rung v = v % 2147483648 := rfl
    rw [← hr] at h1 ⊢
    generalize rung v = r at *
    refine ⟨8388608 + r % 8388608, -149 + ((r / 8388608 - 1 : Nat) : Int), rfl, ?_, by omega, by omega, by omega⟩
    have hq := Nat.div_add_mod r 8388608
    have hm := Nat.mod_lt r (show 0 < 8388608 by decide)
    have hq1 : 1 ≤ r / 8388608 := (Nat.le_div_iff_mul_le (by decide)).2 (by omega)
    generalize r / 8388608 = q at *
    generalize r % 8388608 = t at *
    have hl := log_norm (8388608 + t) (by omega) (by omega)
    unfold rungOf
    have e1 : lastOf (8388608 + t) (-149 + ((q - 1 : Nat) : Int)) = -149 + ((q - 1 : Nat) : Int) := by unfold lastOf; rw [hl]; omega
    have e2 : keptOf (8388608 + t) (-149 + ((q - 1 : Nat) : Int)) = 8388608 + t := by
      unfold keptOf
      rw [e1]
      simp only [Int.sub_self, Int.toNat_zero, Nat.shiftLeft_zero]
      exact cut_zero _
    rw [if_neg (by omega), e1, e2]
    omega

theorem num_iff (v : Nat) : isNum v ↔ rung v < 2139095040 := by
  constructor
  · rintro ⟨s, m, e, h⟩
    apply Nat.lt_of_not_le
    intro hr
    unfold Format.read at h
    rw [sign_single, bin_single, inf_single] at h
    simp only at h
    have hr' : 2139095040 ≤ v % 2147483648 := hr
    rw [if_neg (by omega), if_neg (by omega)] at h
    split at h <;> cases h
  · intro h
    obtain ⟨m, e, h1, _⟩ := read_num v h
    exact ⟨_, _, _, h1⟩

theorem num_word (s : Bool) (m : Nat) (i : Int) (h : rungOf m i < 2139095040) : isNum (Ieee.single.nearest s m i) := by
  rw [num_iff, nearest_rung, rung_word s _ (rungOf_le m i)]; exact h

/-- A product with a factor that is not above one. -/
theorem mul_small {v c : Nat} (hv : isNum v) {sc : Bool} {mc : Nat} {ec : Int} (hc : Ieee.single.read c = .number sc mc ec) (h1 : LeV mc ec 1 0) : rung (fmul v c) ≤ rung v ∧ isNum (fmul v c) ∧ neg (fmul v c) = (neg v ^^ sc) := by
  have hlt := (num_iff v).1 hv
  obtain ⟨m, e, hr, hrg, _⟩ := read_num v hlt
  have hf : fmul v c = Ieee.single.nearest (neg v ^^ sc) (m * mc) (e + ec) := by
    unfold fmul Format.mul
    rw [hr, hc]; rfl
  have hle : LeV (m * mc) (e + ec) m e := by
    refine leV_of (e + min ec 0) (by omega) (by omega) ?_
    have := h1 (min ec 0) (by omega) (by omega)
    rw [show (e + ec - (e + min ec 0)).toNat = (ec - min ec 0).toNat from by omega, show (e - (e + min ec 0)).toNat = (0 - min ec 0).toNat from by omega, Nat.mul_assoc]
    refine Nat.mul_le_mul_left m ?_
    rwa [Nat.one_mul] at this
  have hm := rung_mono _ _ _ _ hle
  rw [hrg] at hm
  have e1 : rung (fmul v c) = rungOf (m * mc) (e + ec) := by rw [hf, nearest_rung, rung_word _ _ (rungOf_le _ _)]
  refine ⟨by rw [e1]; exact hm, by rw [num_iff, e1]; omega, ?_⟩
  rw [hf, nearest_rung, neg_word _ _ (rungOf_le _ _)]

theorem slow_le : LeV 12582912 (-24) 1 0 := leV_of (-24) (by decide) (by decide) (by decide)
theorem half_le : LeV 8388608 (-24) 1 0 := leV_of (-24) (by decide) (by decide) (by decide)

theorem mul_slow {v : Nat} (hv : isNum v) : rung (fmul v 1061158912) ≤ rung v ∧ isNum (fmul v 1061158912) ∧ neg (fmul v 1061158912) = (neg v ^^ false) :=
  mul_small hv (sc := false) (mc := 12582912) (ec := -24) (by decide) slow_le
theorem mul_half {v : Nat} (hv : isNum v) : rung (fmul v 3204448256) ≤ rung v ∧ isNum (fmul v 3204448256) ∧ neg (fmul v 3204448256) = (neg v ^^ true) :=
  mul_small hv (sc := true) (mc := 8388608) (ec := -24) (by decide) half_le

theorem natAbs_signed (s : Bool) (m k : Nat) : (signed s m k).natAbs = m * 2 ^ k := by
  unfold signed
  rw [Nat.shiftLeft_eq]
  split
  · rw [Int.natAbs_neg, Int.natAbs_natCast]
  · rw [Int.natAbs_natCast]

/-- Numbers are not above the greatest. -/
theorem num_fin {v : Nat} (h : isNum v) : finB v = true := by
  obtain ⟨m, e, hr, _, h1, h2, h3⟩ := read_num v ((num_iff v).1 h)
  have key : 0 < 2 ^ (104 - e).toNat := Nat.two_pow_pos _
  have hm : m ≤ 16777215 * 2 ^ (104 - e).toNat := Nat.le_trans h3 (Nat.le_mul_of_pos_right _ key)
  have o1 : ford v 2139095039 = some (compare (signed (neg v) m (e - min e 104).toNat) (signed false 16777215 (104 - min e 104).toNat)) := by
    show (Ieee.single.read v).order (Ieee.single.read 2139095039) = _
    rw [hr, show Ieee.single.read 2139095039 = .number false 16777215 104 from by decide]; rfl
  have o2 : ford v (Op.negFloat .f32 2139095039) = some (compare (signed (neg v) m (e - min e 104).toNat) (signed true 16777215 (104 - min e 104).toNat)) := by
    show (Ieee.single.read v).order (Ieee.single.read _) = _
    rw [hr, show Ieee.single.read (Op.negFloat .f32 2139095039) = .number true 16777215 104 from by decide]; rfl
  have a1 := natAbs_signed (neg v) m (e - min e 104).toNat
  have a2 : signed false 16777215 (104 - min e 104).toNat = ((16777215 * 2 ^ (104 - e).toNat : Nat) : Int) := by unfold signed; rw [Nat.shiftLeft_eq, show min e 104 = e from by omega]; simp
  have a3 : signed true 16777215 (104 - min e 104).toNat = -((16777215 * 2 ^ (104 - e).toNat : Nat) : Int) := by unfold signed; rw [Nat.shiftLeft_eq, show min e 104 = e from by omega]; simp
  rw [show (e - min e 104).toNat = 0 from by omega, Nat.pow_zero, Nat.mul_one] at a1
  rw [show (e - min e 104).toNat = 0 from by omega, a2] at o1
  rw [show (e - min e 104).toNat = 0 from by omega, a3] at o2
  generalize signed (neg v) m 0 = x at *
  generalize 16777215 * 2 ^ (104 - e).toNat = y at *
  have g1 : fle v 2139095039 = true := by
    unfold fle
    rw [o1]
    have : x ≤ (y : Int) := by omega
    rcases Int.lt_or_eq_of_le this with q | q
    · simp [Int.compare_eq_lt.2 q]
    · simp [q]
  have g2 : fge v (Op.negFloat .f32 2139095039) = true := by
    unfold fge
    rw [o2]
    have : -(y : Int) ≤ x := by omega
    rcases Int.lt_or_eq_of_le this with q | q
    · simp [Int.compare_eq_gt.2 q]
    · simp [← q]
  unfold finB fitsB
  rw [g1, g2]; rfl

theorem leV_of_fits {p : Nat} (h : fitsB p 1120403456 = true) : ∃ s n j, Ieee.single.read p = .number s n j ∧ LeV n j 13107200 (-17) := by
  obtain ⟨n, j, hr, _⟩ := read_num p ((num_iff p).1 (push_num h))
  refine ⟨neg p, n, j, hr, leV_of (min j (-17)) (by omega) (by omega) ?_⟩
  have o1 : ford p 1120403456 = some (compare (signed (neg p) n (j - min j (-17)).toNat) (signed false 13107200 (-17 - min j (-17)).toNat)) := by
    show (Ieee.single.read p).order (Ieee.single.read 1120403456) = _
    rw [hr, show Ieee.single.read 1120403456 = .number false 13107200 (-17) from by decide]; rfl
  have o2 : ford p (Op.negFloat .f32 1120403456) = some (compare (signed (neg p) n (j - min j (-17)).toNat) (signed true 13107200 (-17 - min j (-17)).toNat)) := by
    show (Ieee.single.read p).order (Ieee.single.read _) = _
    rw [hr, show Ieee.single.read (Op.negFloat .f32 1120403456) = .number true 13107200 (-17) from by decide]; rfl
  have a1 := natAbs_signed (neg p) n (j - min j (-17)).toNat
  have a2 : signed false 13107200 (-17 - min j (-17)).toNat = ((13107200 * 2 ^ (-17 - min j (-17)).toNat : Nat) : Int) := by unfold signed; rw [Nat.shiftLeft_eq]; simp
  have a3 : signed true 13107200 (-17 - min j (-17)).toNat = -((13107200 * 2 ^ (-17 - min j (-17)).toNat : Nat) : Int) := by unfold signed; rw [Nat.shiftLeft_eq]; simp
  rw [a2] at o1
  rw [a3] at o2
  simp only [fitsB, fge, fle, o1, o2, Bool.and_eq_true, Bool.or_eq_true, beq_iff_eq, Option.some.injEq] at h
  rw [← a1]
  generalize signed (neg p) n (j - min j (-17)).toNat = x at *
  generalize 13107200 * 2 ^ (-17 - min j (-17)).toNat = y at *
  obtain ⟨h1, h2⟩ := h
  have g1 : -(y : Int) ≤ x := by
    rcases h1 with q | q
    · have := Int.compare_eq_gt.1 q; omega
    · have := Int.compare_eq_eq.1 q; omega
  have g2 : x ≤ (y : Int) := by
    rcases h2 with q | q
    · have := Int.compare_eq_lt.1 q; omega
    · have := Int.compare_eq_eq.1 q; omega
  omega

theorem rung_top : rungOf 268435441 100 = 2139095039 := by kernel_rfl

theorem add_fin {v p : Nat} (hv : isNum v) (hp : fitsB p 1120403456 = true) : isNum (fadd v p) := by
  obtain ⟨m, e, hr, _, h1, h2, h3⟩ := read_num v ((num_iff v).1 hv)
  obtain ⟨s, n, j, hr2, hle⟩ := leV_of_fits hp
  obtain ⟨tot, hs, hab⟩ : ∃ tot : Int, (∃ sg, fadd v p = Ieee.single.nearest sg tot.natAbs (min e j)) ∧ tot.natAbs ≤ m * 2 ^ (e - min e j).toNat + n * 2 ^ (j - min e j).toNat := by
    have hfa : fadd v p = Ieee.single.nearest (if signed (neg v) m (e - min e j).toNat + signed s n (j - min e j).toNat = 0 then neg v && s else decide (signed (neg v) m (e - min e j).toNat + signed s n (j - min e j).toNat < 0)) (signed (neg v) m (e - min e j).toNat + signed s n (j - min e j).toNat).natAbs (min e j) := by
      unfold fadd Format.add
      rw [hr, hr2]; rfl
    refine ⟨signed (neg v) m (e - min e j).toNat + signed s n (j - min e j).toNat, ⟨_, hfa⟩, ?_⟩
    rw [← natAbs_signed (neg v) m, ← natAbs_signed s n]; exact Int.natAbs_add_le _ _
  obtain ⟨sg, hf⟩ := hs
  rw [hf]
  apply num_word
  have hb : LeV tot.natAbs (min e j) 268435441 100 := by
    refine leV_of (min (min e j) (-17)) (by omega) (by omega) ?_
    generalize hc : min (min e j) (-17) = c at *
    have k1 := Nat.mul_le_mul_right (2 ^ (min e j - c).toNat) hab
    rw [Nat.add_mul, Nat.mul_assoc, Nat.mul_assoc, ← Nat.pow_add, ← Nat.pow_add, show (e - min e j).toNat + (min e j - c).toNat = (e - c).toNat from by omega, show (j - min e j).toNat + (min e j - c).toNat = (j - c).toNat from by omega] at k1
    have k2 : m * 2 ^ (e - c).toNat ≤ 268435440 * 2 ^ (100 - c).toNat := by
      refine Nat.le_trans (Nat.mul_le_mul h3 (Nat.pow_le_pow_right (by decide) (show (e - c).toNat ≤ 4 + (100 - c).toNat by omega))) ?_
      rw [Nat.pow_add, ← Nat.mul_assoc]
      exact Nat.le_refl _
    have k3 : n * 2 ^ (j - c).toNat ≤ 1 * 2 ^ (100 - c).toNat := by
      refine Nat.le_trans (hle c (by omega) (by omega)) ?_
      refine Nat.le_trans (Nat.mul_le_mul_right _ (show 13107200 ≤ 2 ^ 24 by decide)) ?_
      rw [← Nat.pow_add, Nat.one_mul]
      exact Nat.pow_le_pow_right (by decide) (by omega)
    have k4 : 268435440 * 2 ^ (100 - c).toNat + 1 * 2 ^ (100 - c).toNat = 268435441 * 2 ^ (100 - c).toNat := by rw [← Nat.add_mul]
    rw [← k4]
    exact Nat.le_trans k1 (Nat.add_le_add k2 k3)
  have := rung_mono _ _ _ _ hb
  rw [rung_top] at this
  omega

/-- The place behind a move fits; the way is a number. -/
theorem moved_fits {x v : Nat} (hx : isNum x) (hv : isNum v) : fitsB (movedF x v).1 1148846080 = true ∧ isNum (movedF x v).2 := by
  have o := (fadd_ok hx hv.ok).2
  unfold movedF
  split
  · exact ⟨show fitsB 3296329728 1148846080 = true by decide, (mul_slow (mul_half hv).2.1).2.1⟩
  · rename_i h1
    split
    · exact ⟨show fitsB 1148846080 1148846080 = true by decide, (mul_slow (mul_half hv).2.1).2.1⟩
    · rename_i h2
      refine ⟨?_, (mul_slow hv).2.1⟩
      have c1 : ∀ c s m e, Ieee.single.read c = .number s m e → ford (fadd x v) c ≠ none := by
        intro c s m e hc hn
        have : (Ieee.single.read (fadd x v)).order (Ieee.single.read c) = none := hn
        rw [hc] at this
        unfold okV at o
        cases hq : Ieee.single.read (fadd x v) with
        | number t n j => rw [hq] at this; cases this
        | infinity t => rw [hq] at this; cases this
        | nan t f => rw [hq] at o; cases o
      have d1 := c1 3296329728 true 16384000 (-14) (by decide)
      have d2 := c1 1148846080 false 16384000 (-14) (by decide)
      have e1 : Op.negFloat .f32 1148846080 = 3296329728 := by decide
      unfold fitsB fge fle
      rw [e1]
      show ((ford (fadd x v) 3296329728 == some .gt || ford (fadd x v) 3296329728 == some .eq) && (ford (fadd x v) 1148846080 == some .lt || ford (fadd x v) 1148846080 == some .eq)) = true
      generalize ford (fadd x v) 3296329728 = a at *
      generalize ford (fadd x v) 1148846080 = b at *
      cases a with
      | none => exact absurd rfl d1
      | some a =>
        cases b with
        | none => exact absurd rfl d2
        | some b => cases a <;> cases b <;> simp_all
end Go.Proofs.YtlfmfhmbkpnjbabGreatDoor

namespace Go.Proofs.YtlfmfhmbkpnjbabGreatDoor
open Go.RowKit

/-- The ways are numbers. -/
def FinL (L : List Mob) : Prop := ∀ m ∈ L, isNum m.vx ∧ isNum m.vy

theorem num_zero : isNum 0 := ⟨false, 0, -149, by decide⟩

theorem finL_set {L : List Mob} {i : Nat} {m : Mob} (h : FinL L) (hm : isNum m.vx ∧ isNum m.vy) : FinL (L.set i m) := by
  intro x hx
  rcases List.mem_or_eq_of_mem_set hx with hx | rfl
  · exact h x hx
  · exact hm

theorem doM_fin {L : List Mob} (c : Cmd) (h : FinL L) : FinL (doM L c) := by
  unfold doM
  split
  · split
    · intro x hx
      rcases List.mem_append.1 hx with hx | hx
      · exact h x (List.mem_of_mem_take hx)
      · rcases List.mem_cons.1 hx with rfl | hx
        · exact ⟨num_zero, num_zero⟩
        · exact h x (List.mem_of_mem_drop hx)
    · exact h
  · split
    · split
      · rename_i q
        have hl := findB_lt q.2
        rw [setAt_eq _ _ _ hl]
        have hm := h L[findI L c.id] (List.getElem_mem hl)
        have hp := q.1
        simp only [pushB, Bool.and_eq_true] at hp
        exact finL_set h ⟨add_fin hm.1 hp.1, add_fin hm.2 hp.2⟩
      · exact h
    · split
      · split
        · rename_i q
          have hl := findB_lt q.2
          rw [setAt_eq _ _ _ hl]
          exact finL_set h (h L[findI L c.id] (List.getElem_mem hl))
        · exact h
      · split
        · split
          · intro x hx
            rcases List.mem_append.1 hx with hx | hx
            · exact h x (List.mem_of_mem_take hx)
            · exact h x (List.mem_of_mem_drop hx)
          · exact h
        · exact h

theorem fold_fin (cs : List Cmd) (L : List Mob) (h : FinL L) : FinL (cs.foldl doM L) := by
  induction cs generalizing L with
  | nil => exact h
  | cons c r ih => exact ih (doM L c) (doM_fin c h)

theorem moveM_id (m : Mob) : (moveM m).id = m.id := rfl
theorem moveM_team (m : Mob) : (moveM m).team = m.team := rfl
theorem moveM_health (m : Mob) : (moveM m).health = m.health := rfl

theorem worldB_fin {t : Int} {L : List Mob} (h : worldB t L = true) : FinL L := by
  simp only [worldB, decide_eq_true_eq] at h
  intro m hm
  obtain ⟨j, hj, rfl⟩ := List.getElem_of_mem hm
  have := (h.2.2 j hj hj).1
  simp only [mobB, Bool.and_eq_true, decide_eq_true_eq] at this
  exact ⟨fin_num this.1.1.1.2, fin_num this.1.1.2⟩

theorem okTo_of {L : List Mob} (h1 : ∀ m ∈ L, mobB m = true) (h2 : (L.map Mob.id).Pairwise (· < ·)) : OkTo L L.length := by
  intro j hj _
  refine ⟨h1 _ (List.getElem_mem hj), fun k hk e => ?_⟩
  exact rises_of h2 k j hk hj (by omega)

/-- A world stays a world. -/
theorem worldB_next {t : Int} {L : List Mob} (cs : List Cmd) (h : worldB t L = true) (ht : t ≠ 500) : worldB (t + 1) (stepL cs L) = true := by
  obtain ⟨h0, h1, hF⟩ := worldB_fine h
  have hN := worldB_fin h
  have hF' := keep_fine (fold_fine cs L hF)
  have hN' : FinL (keepL (cs.foldl doM L)) := fun m hm => fold_fin cs L hN m (List.mem_filter.1 hm).1
  refine worldB_true _ _ ⟨by omega, by omega⟩ (okTo_of ?_ ?_)
  · intro m hm
    obtain ⟨a, ha, rfl⟩ := List.mem_map.1 hm
    have hm := hF'.mob a ha
    have hn := hN' a ha
    have hlive := (List.mem_filter.1 ha).2
    simp only [liveB, Bool.not_eq_true', decide_eq_false_iff_not] at hlive
    have mx := moved_fits hm.px hn.1
    have my := moved_fits hm.py hn.2
    simp only [mobB, Bool.and_eq_true, decide_eq_true_eq]
    refine ⟨⟨⟨⟨⟨⟨hm.id, hm.team⟩, ?_⟩, num_fin mx.2⟩, num_fin my.2⟩, ?_⟩, hm.high⟩
    · simp only [placeB, Bool.and_eq_true]; exact ⟨mx.1, my.1⟩
    · show 1 ≤ a.health; omega
  · have : (stepL cs L).map Mob.id = (keepL (cs.foldl doM L)).map Mob.id := by
      unfold stepL
      rw [List.map_map]
      rfl
    rw [this]; exact hF'.rises

theorem worldB_zero : worldB 0 [] = true := worldB_true 0 [] (by decide) (fun j hj _ => absurd hj (Nat.not_lt_zero j))
end Go.Proofs.YtlfmfhmbkpnjbabGreatDoor

namespace Go.Proofs.YtlfmfhmbkpnjbabGreatDoor
open Go.RowKit

/-- The ticks that came in. -/
def RT (w : World) (q : Option Addr) (n : Nat) : Prop :=
  0 < n → ∃ b off, q = some ⟨b, off, none⟩ ∧ b < w.heap.size ∧ ∀ j, j < n → ∃ pj nj cj, w.cell? ⟨b, off + j, none⟩ = some (.slice pj nj cj) ∧ ((nj : Nat) : Int) ≤ 9223372036854775807 ∧ RI w pj nj
theorem RT.calm {w w' : World} {q : Option Addr} {n : Nat} (h : RT w q n) (hk : Kept (fun _ => False) w w') : RT w' q n := by
  intro hn
  obtain ⟨b, off, h1, h2, h3⟩ := h hn
  refine ⟨b, off, h1, Nat.lt_of_lt_of_le h2 hk.size, fun j hj => ?_⟩
  obtain ⟨pj, nj, cj, q1, q2, q3⟩ := h3 j hj
  exact ⟨pj, nj, cj, by rw [cell_keep hk h2 (fun e => e)]; exact q1, q2, q3.calm hk⟩

/-- A world that was played. -/
structure Wd where
  t : Int
  p : Option Addr
  cap : Nat
  L : List Mob
def rowW : List Wd → List Value
  | [] => []
  | d :: r => .int .i64 d.t :: .slice d.p d.L.length d.cap :: rowW r
theorem rowW_length (L : List Wd) : (rowW L).length = L.length * 2 := by
  induction L with
  | nil => rfl
  | cons p r ih => simp only [rowW, List.length_cons, ih]; omega
theorem rowW_append (L M : List Wd) : rowW (L ++ M) = rowW L ++ rowW M := by
  induction L with
  | nil => rfl
  | cons p r ih => simp [rowW, ih]
theorem rowW_get (L : List Wd) (j : Nat) (h : j < L.length) : (rowW L)[j * 2]? = some (.int .i64 L[j].t) ∧ (rowW L)[j * 2 + 1]? = some (.slice L[j].p L[j].L.length L[j].cap) := by
  induction L generalizing j with
  | nil => simp at h
  | cons p r ih =>
    cases j with
    | zero => simp [rowW]
    | succ m =>
      have := ih m (by simpa using h)
      rw [show (m + 1) * 2 = m * 2 + 1 + 1 from by omega]
      simpa [rowW, Nat.add_assoc] using this
theorem rowW_one (L : List Wd) : ∀ u ∈ rowW L, u.oneCell' = true := by
  induction L with
  | nil => simp [rowW]
  | cons p r ih =>
    intro u hu
    simp only [rowW, List.mem_cons] at hu
    rcases hu with rfl | rfl | h
    · rfl
    · rfl
    · exact ih u h

structure Wd.Ok (w : World) (d : Wd) : Prop where
  reads : Reads w d.p d.L
  nil : d.p = none → d.cap = 0
  typ : ∀ b off, d.p = some ⟨b, off, none⟩ → typ w b 63
  good : worldB d.t d.L = true

theorem Wd.Ok.keep {w w' : World} {S : Nat → Prop} {d : Wd} (h : d.Ok w) (hk : Kept S w w') (hS : ∀ j, Go.Proofs.YtlfmfhmbkpnjbabGreatDoor.typ w j 63 → ¬ S j) : d.Ok w' :=
  ⟨h.reads.keep hk (fun b off e => hS b (h.typ b off e)), h.nil, fun b off e => typ_keep (h.typ b off e) hk (hS b (h.typ b off e)), h.good⟩

theorem Wd.Ok.short {w : World} {d : Wd} (h : d.Ok w) : d.L.length ≤ 32 := (worldB_fine h.good).2.2.short

theorem info_world : (Tryz.prog.info? 34).map (fun i => (i.zero, i.size, i.bytes)) = some (some (.agg #[.int .i64 0, .slice none 0 0]), 2, 32) := by kernel_rfl

def c7 : Cmd := ⟨1, 7, 0, 1065353216, 1073741824, 0⟩
theorem step7 : stepL [c7] [] = [moveM (newM 7 0 1065353216 1073741824)] := by
  have h1 : spawnB 7 0 1065353216 1073741824 = true := by decide
  have h2 : findB [] 7 = false := findB_out (by simp [findI])
  simp [stepL, doM, c7, h1, h2, findI, keepL, liveB, newM]

/-- All that was played, and where it lies. -/
structure Run (w wr : World) (WS : List Wd) (p : Option Addr) (cap : Nat) : Prop where
  own : wr.ownsRow w.heap.size 34 2 (.slice p WS.length cap) WS.length (rowW WS)
  ok : ∀ d ∈ WS, d.Ok wr
  tick : ∀ k (h : k < WS.length), WS[k].t = k
  kept : Kept (fun _ => False) w wr

theorem after_set {wr w4 : World} {g4 b8 : Nat} {M : List Mob} {cu : List Value} (k : Kept (fun _ => False) wr w4) (hb : wr.heap.size ≤ b8) (h : w4.heap[b8]? = some (.cells #[.int .i64 0, .slice none 0 0] 34 (0, 0))) (e : EntAt w4 g4 M cu) (u v : Value) :
    Kept (fun _ => False) wr ((w4.setCell ⟨b8, 0, none⟩ u).setCell ⟨b8, 1, none⟩ v) ∧ ((w4.setCell ⟨b8, 0, none⟩ u).setCell ⟨b8, 1, none⟩ v).heap[b8]? = some (.cells #[u, v] 34 (0, 0)) ∧ EntAt ((w4.setCell ⟨b8, 0, none⟩ u).setCell ⟨b8, 1, none⟩ v) g4 M cu := by
  have kk : Kept (fun k => k = b8) w4 ((w4.setCell ⟨b8, 0, none⟩ u).setCell ⟨b8, 1, none⟩ v) := (Kept.setCell w4 _ u).join (Kept.setCell _ _ v) (fun _ _ e => e) (fun _ _ e => e)
  exact ⟨two_kept k hb u v, two_sets h u v, e.keep kk (typ_ne (typ_blk e.blk) (typ_blk h) (by decide))⟩
theorem after_new {wr w4 : World} {g4 : Nat} {M : List Mob} {cu : List Value} (k : Kept (fun _ => False) wr w4) (e : EntAt w4 g4 M cu) (u v : Value) :
    Kept (fun _ => False) wr (w4.alloc (.cells #[u, v] 34)) ∧ (w4.alloc (.cells #[u, v] 34)).heap[w4.heap.size]? = some (.cells #[u, v] 34 (0, 0)) ∧ EntAt (w4.alloc (.cells #[u, v] 34)) g4 M cu :=
  ⟨k.calm2 (Kept.alloc _ _), heap_alloc_new _ _, e.calm (Kept.alloc _ _)⟩

theorem owns_up {w : World} {base : Nat} {e : TypeId} {size g n cap : Nat} {xs : List Value} (h : w.ownsRow 0 e size (.slice (some ⟨g, 0, none⟩) n cap) n xs) (hg : base ≤ g) : w.ownsRow base e size (.slice (some ⟨g, 0, none⟩) n cap) n xs := by
  refine ⟨h.1, ?_⟩
  rcases h.2 with ⟨e, _⟩ | ⟨g', cp, cur, e, _, r⟩
  · cases e
  · simp only [Value.slice.injEq, Option.some.injEq, Addr.mk.injEq] at e
    obtain ⟨⟨rfl, _⟩, _, rfl⟩ := e
    exact Or.inr ⟨g, cap, cur, rfl, hg, r⟩

/-- One more world. -/
theorem Run.more {w wr w5 w7 : World} {WS : List Wd} {g cap g' cap' B6 : Nat} {d : Wd} (R : Run w wr WS (some ⟨g, 0, none⟩) cap) (k5 : Kept (fun _ => False) wr w5) (hd : d.Ok w5) (ht : d.t = WS.length)
    (k7 : Kept (fun j => j = B6 ∨ j = g) w5 w7) (hB : typ w5 B6 34) (hb6 : w.heap.size ≤ B6) (own : w7.ownsRow 0 34 2 (.slice (some ⟨g', 0, none⟩) (WS.length + 1) cap') (WS.length + 1) (rowW WS ++ rowW [d])) (hg' : g' = g ∨ w5.heap.size ≤ g') :
    Run w w7 (WS ++ [d]) (some ⟨g', 0, none⟩) cap' := by
  have tg : typ w5 g 34 := typ_keep (typ_own R.own g rfl) k5 (fun e => e)
  have hgw := (R.own.lt g rfl).1
  have hS : ∀ j, typ w5 j 63 → ¬ (j = B6 ∨ j = g) := by
    rintro j hj (rfl | rfl)
    · exact typ_ne hj hB (by decide) rfl
    · exact typ_ne hj tg (by decide) rfl
  have s5 := k5.size
  have s0 := R.kept.size
  refine ⟨?_, ?_, ?_, ?_⟩
  · rw [List.length_append, rowW_append]
    exact owns_up own (by rcases hg' with rfl | h <;> omega)
  · intro x hx
    rcases List.mem_append.1 hx with hx | hx
    · exact ((R.ok x hx).keep k5 (fun _ _ e => e)).keep k7 hS
    · obtain rfl : x = d := by simpa using hx
      exact hd.keep k7 hS
  · intro k hk
    rw [List.length_append] at hk
    by_cases hlt : k < WS.length
    · rw [List.getElem_append_left hlt]; exact R.tick k hlt
    · rw [List.getElem_append_right (by omega)]
      obtain rfl : k = WS.length := by simp at hk; omega
      simpa using ht
  · refine (R.kept.calm2 k5).join k7 (fun _ _ e => e) (fun j hj e => ?_)
    rcases e with rfl | rfl <;> omega

end Go.Proofs.YtlfmfhmbkpnjbabGreatDoor

namespace Go.Proofs.YtlfmfhmbkpnjbabGreatDoor
open Go.RowKit

/-- A text, cut at the first of a sign. -/
def cutL (c : UInt8) : List UInt8 → List UInt8 × List UInt8 × Bool
  | [] => ([], [], false)
  | x :: r => if x = c then ([], r, true) else (x :: (cutL c r).1, (cutL c r).2.1, (cutL c r).2.2)
theorem cutL_hit (c : UInt8) (a b : List UInt8) (h : c ∉ a) : cutL c (a ++ c :: b) = (a, b, true) := by
  induction a with
  | nil => simp [cutL]
  | cons x r ih =>
    have hx : ¬ x = c := fun e => h (by simp [e])
    have := ih (fun e => h (by simp [e]))
    simp only [List.cons_append, cutL, if_neg hx, this]
theorem cutL_miss (c : UInt8) (a : List UInt8) (h : c ∉ a) : cutL c a = (a, [], false) := by
  induction a with
  | nil => rfl
  | cons x r ih =>
    have hx : ¬ x = c := fun e => h (by simp [e])
    have := ih (fun e => h (by simp [e]))
    simp only [cutL, if_neg hx, this]
theorem cutL_short (c : UInt8) (s : List UInt8) : (cutL c s).1.length ≤ s.length ∧ (cutL c s).2.1.length ≤ s.length ∧ ((cutL c s).2.2 = true → (cutL c s).2.1.length < s.length) := by
  induction s with
  | nil => simp [cutL]
  | cons x r ih =>
    by_cases h : x = c
    · simp [cutL, h]
    · simp only [cutL, if_neg h, List.length_cons]
      refine ⟨by omega, by omega, fun e => ?_⟩
      have := ih.2.2 e
      omega
theorem cutL_index (c : UInt8) (s : List UInt8) : (Lib.indexByte s c = -1 ∧ cutL c s = (s, [], false)) ∨ ∃ i : Nat, Lib.indexByte s c = (i : Int) ∧ i < s.length ∧ cutL c s = (s.take i, s.drop (i + 1), true) := by
  induction s with
  | nil => exact Or.inl ⟨rfl, rfl⟩
  | cons x r ih =>
    by_cases h : x = c
    · refine Or.inr ⟨0, ?_, by simp, by simp [cutL, h]⟩
      simp [Lib.indexByte, h]
    · rcases ih with ⟨h1, h2⟩ | ⟨i, h1, h2, h3⟩
      · refine Or.inl ⟨?_, by simp [cutL, h, h2]⟩
        simp [Lib.indexByte, h, h1]
      · refine Or.inr ⟨i + 1, ?_, by simp; omega, by simp [cutL, h, h3]⟩
        have hb : (x == c) = false := by simp [h]
        have hi : ((i : Int) == -1) = false := by simp
        simp [Lib.indexByte, hb, h1, hi]

/-! Numbers. -/
theorem parse_app (l m : List UInt8) (a v : Nat) (h : Lib.parseUint10 a l = .ok v) : Lib.parseUint10 a (l ++ m) = Lib.parseUint10 v m := by
  induction l generalizing a with
  | nil =>
    simp only [Lib.parseUint10] at h
    injection h with h
    simp [h]
  | cons c r ih =>
    simp only [Lib.parseUint10] at h
    simp only [List.cons_append, Lib.parseUint10]
    split at h
    · rename_i h1
      rw [if_pos h1]
      split at h
      · cases h
      · rename_i h2
        rw [if_neg h2]
        split at h
        · cases h
        · rename_i h3
          rw [if_neg h3]
          exact ih _ h
    · cases h
theorem decs_form (u : Nat) : Lib.decDigits u = (if u < 10 then [] else Lib.decDigits (u / 10)) ++ [UInt8.ofNat (48 + u % 10)] := by
  by_cases h : u < 10
  · rw [Lib.decDigits, dif_pos h, if_pos h, Nat.mod_eq_of_lt h]; rfl
  · rw [Lib.decDigits, dif_neg h, if_neg h]
theorem dec_parse (u : Nat) (h : u < 18446744073709551616) : Lib.parseUint10 0 (Lib.decDigits u) = .ok u := by
  induction u using Nat.strongRecOn with
  | _ u ih =>
    have key : Lib.parseUint10 (u / 10) [UInt8.ofNat (48 + u % 10)] = .ok u := by
      have e : (UInt8.ofNat (48 + u % 10)).toNat = 48 + u % 10 := by rw [UInt8.toNat_ofNat']; omega
      simp only [Lib.parseUint10, e]
      rw [if_pos (by omega), if_neg (by omega), if_neg (by omega)]
      congr 1
      omega
    rw [decs_form u]
    by_cases hu : u < 10
    · rw [if_pos hu, List.nil_append]
      rw [show u / 10 = 0 by omega] at key
      exact key
    · rw [if_neg hu, parse_app _ _ _ _ (ih (u / 10) (by omega) (by omega))]
      exact key
theorem dec_first (u : Nat) : ∃ c r, Lib.decDigits u = c :: r ∧ 48 ≤ c.toNat := by
  induction u using Nat.strongRecOn with
  | _ u ih =>
    rw [decs_form u]
    by_cases hu : u < 10
    · rw [if_pos hu]
      exact ⟨_, _, rfl, by rw [UInt8.toNat_ofNat']; omega⟩
    · rw [if_neg hu]
      obtain ⟨c, r, h1, h2⟩ := ih (u / 10) (by omega)
      exact ⟨c, r ++ _, by rw [h1]; rfl, h2⟩
theorem atoi_neg (D : List UInt8) (u : Nat) (h : Lib.parseMag D = .ok u) (hu : u ≤ 9223372036854775808) : Lib.atoiAll (45 :: D) = .ok (-(u : Int)) := by
  have e45 : (45 : UInt8).toNat = 45 := rfl
  unfold Lib.atoiAll
  dsimp only
  rw [if_pos (Or.inr e45), h]
  dsimp only
  rw [if_neg (fun e => e.1 e45), if_neg (fun e => by omega), if_pos e45]
theorem atoi_pos (c : UInt8) (r : List UInt8) (u : Nat) (hc : 48 ≤ c.toNat) (h : Lib.parseMag (c :: r) = .ok u) (hu : u < 9223372036854775808) : Lib.atoiAll (c :: r) = .ok (u : Int) := by
  have h45 : ¬ c.toNat = 45 := by omega
  unfold Lib.atoiAll
  dsimp only
  rw [if_neg (by omega), h]
  dsimp only
  rw [if_neg (fun e => by omega), if_neg (fun e => h45 e.1), if_neg h45]
theorem atoi_itoa (n : Int) (h : -9223372036854775808 ≤ n ∧ n ≤ 9223372036854775807) : Lib.atoiAll (Lib.itoa n) = .ok n := by
  unfold Lib.itoa
  split
  · rename_i hn
    obtain ⟨c, r, e, _⟩ := dec_first n.natAbs
    have hp := dec_parse n.natAbs (by omega)
    have hm : Lib.parseMag (Lib.decDigits n.natAbs) = .ok n.natAbs := by unfold Lib.parseMag; rw [if_neg (by rw [e]; simp)]; exact hp
    have := atoi_neg _ _ hm (by omega)
    rw [this]
    congr 1
    omega
  · rename_i hn
    obtain ⟨c, r, e, hc⟩ := dec_first n.toNat
    have hp := dec_parse n.toNat (by omega)
    have hm : Lib.parseMag (Lib.decDigits n.toNat) = .ok n.toNat := by unfold Lib.parseMag; rw [if_neg (by rw [e]; simp)]; exact hp
    rw [e] at hm ⊢
    have := atoi_pos _ _ _ hc hm (by omega)
    rw [this]
    congr 1
    omega

/-- A word as a number, if it is just as one is written. -/
def numL (x : List UInt8) : Option Int :=
  match Lib.atoiAll x with
  | .ok n => if Lib.itoa n = x then some n else none
  | _ => none
theorem numL_itoa (n : Int) (h : -9223372036854775808 ≤ n ∧ n ≤ 9223372036854775807) : numL (Lib.itoa n) = some n := by simp [numL, atoi_itoa n h]

/-- A sign of a number at base 16. -/
def hexD (c : Nat) : Option Nat :=
  if 48 ≤ c ∧ c ≤ 57 then some (c - 48) else if 97 ≤ c ∧ c ≤ 102 then some (c - 87) else if 65 ≤ c ∧ c ≤ 70 then some (c - 55) else none
def hexA (a : Nat) : List UInt8 → Option Nat
  | [] => some a
  | c :: r => match hexD c.toNat with
    | some d => if 4294967296 ≤ a * 16 + d then none else hexA (a * 16 + d) r
    | none => none
/-- A word as the bits of a number with a point, if it is just as one is written. -/
def bitsL (x : List UInt8) : Option Nat :=
  if x = [] then none else match hexA 0 x with
  | some u => if hexL u = x then some u else none
  | none => none
theorem hexA_app (l m : List UInt8) (a v : Nat) (h : hexA a l = some v) : hexA a (l ++ m) = hexA v m := by
  induction l generalizing a with
  | nil =>
    simp only [hexA] at h
    injection h with h
    simp [h]
  | cons c r ih =>
    simp only [hexA] at h
    simp only [List.cons_append, hexA]
    split at h
    · split at h
      · cases h
      · rename_i h2
        rw [if_neg h2]
        exact ih _ h
    · cases h
theorem hexA_lt (l : List UInt8) (a v : Nat) (ha : a < 4294967296) (h : hexA a l = some v) : v < 4294967296 := by
  induction l generalizing a with
  | nil =>
    simp only [hexA] at h
    injection h with h
    omega
  | cons c r ih =>
    simp only [hexA] at h
    split at h
    · split at h
      · cases h
      · exact ih _ (by omega) h
    · cases h
theorem hexD_hexc : ∀ d : Fin 16, hexD (hexc d.val).toNat = some d.val := by decide
theorem hexs_form (u : Nat) : hexL u = (if u < 16 then [] else hexL (u / 16)) ++ [hexc (u % 16)] := by
  by_cases h : u < 16
  · rw [hexL_one h, if_pos h, Nat.mod_eq_of_lt h]; rfl
  · rw [hexL_more h, if_neg h]
theorem hex_parse (u : Nat) (h : u < 4294967296) : hexA 0 (hexL u) = some u := by
  induction u using Nat.strongRecOn with
  | _ u ih =>
    have key : hexA (u / 16) [hexc (u % 16)] = some u := by
      have e := hexD_hexc ⟨u % 16, Nat.mod_lt _ (by decide)⟩
      simp only at e
      simp only [hexA, e]
      rw [if_neg (by omega)]
      congr 1
      omega
    rw [hexs_form u]
    by_cases hu : u < 16
    · rw [if_pos hu, List.nil_append]
      rw [show u / 16 = 0 by omega] at key
      exact key
    · rw [if_neg hu, hexA_app _ _ _ _ (ih (u / 16) (by omega) (by omega))]
      exact key
theorem bitsL_hex (u : Nat) (h : u < 4294967296) : bitsL (hexL u) = some u := by
  have hne : hexL u ≠ [] := by rw [hexs_form]; simp
  simp [bitsL, hne, hex_parse u h]

/-! A reader. -/
structure Rd where
  rest : List UInt8
  over : Bool
  broken : Bool
def Rd.bad (r : Rd) : Rd := ⟨r.rest, r.over, true⟩
def Rd.word (r : Rd) : List UInt8 × Rd :=
  if r.over = true then ([], ⟨r.rest, true, true⟩) else ((cutL 32 r.rest).1, ⟨(cutL 32 r.rest).2.1, !(cutL 32 r.rest).2.2, r.broken⟩)
def Rd.int (r : Rd) (lo hi : Int) : Int × Rd :=
  match numL r.word.1 with
  | some n => if lo ≤ n ∧ n ≤ hi then (n, r.word.2) else (0, r.word.2.bad)
  | none => (0, r.word.2.bad)
def Rd.any (r : Rd) : Int × Rd := r.int (-9223372036854775808) 9223372036854775807
def Rd.flt (r : Rd) : Nat × Rd :=
  match bitsL r.word.1 with
  | some u => (u, r.word.2)
  | none => (0, r.word.2.bad)
def Rd.cmd (r : Rd) : Cmd × Rd :=
  if r.any.1 = 1 then (⟨1, r.any.2.any.1, r.any.2.any.2.any.1, r.any.2.any.2.any.2.flt.1, r.any.2.any.2.any.2.flt.2.flt.1, 0⟩, r.any.2.any.2.any.2.flt.2.flt.2)
  else if r.any.1 = 2 then (⟨2, r.any.2.any.1, 0, r.any.2.any.2.flt.1, r.any.2.any.2.flt.2.flt.1, 0⟩, r.any.2.any.2.flt.2.flt.2)
  else if r.any.1 = 3 then (⟨3, r.any.2.any.1, 0, 0, 0, r.any.2.any.2.any.1⟩, r.any.2.any.2.any.2)
  else if r.any.1 = 4 then (⟨4, r.any.2.any.1, 0, 0, 0, 0⟩, r.any.2.any.2)
  else (⟨r.any.1, 0, 0, 0, 0, 0⟩, r.any.2)
def Rd.cmds (r : Rd) : Nat → List Cmd × Rd
  | 0 => ([], r)
  | k + 1 => ((r.cmds k).1 ++ [(r.cmds k).2.cmd.1], (r.cmds k).2.cmd.2)
def Rd.ent (r : Rd) : Mob × Rd :=
  (⟨r.any.1, r.any.2.any.1, r.any.2.any.2.flt.1, r.any.2.any.2.flt.2.flt.1, r.any.2.any.2.flt.2.flt.2.flt.1, r.any.2.any.2.flt.2.flt.2.flt.2.flt.1, r.any.2.any.2.flt.2.flt.2.flt.2.flt.2.any.1⟩,
    r.any.2.any.2.flt.2.flt.2.flt.2.flt.2.any.2)
def Rd.ents (r : Rd) : Nat → List Mob × Rd
  | 0 => ([], r)
  | k + 1 => ((r.ents k).1 ++ [(r.ents k).2.ent.1], (r.ents k).2.ent.2)
def Rd.cmdL (r : Rd) : List Cmd × Rd := (r.int 0 64).2.cmds (r.int 0 64).1.toNat
def Rd.entL (r : Rd) : List Mob × Rd := (r.int 0 32).2.ents (r.int 0 32).1.toNat
def Rd.done (r : Rd) : Bool := r.over && !r.broken
def Rd.of (l : List UInt8) : Rd := ⟨l, false, false⟩

/-- What a file tells. -/
structure Mt where
  ev : Nat
  cmds : List (List Cmd)
  whole : List (List Mob)
open Classical in
noncomputable def Mt.add (m : Mt) (l : List UInt8) : Option Mt :=
  if 500 ≤ m.cmds.length then none
  else if (m.cmds.length + 1) % m.ev = 0 then
    if worldB ((m.cmds.length : Int) + 1) (Rd.of l).cmdL.2.entL.1 = true ∧ (Rd.of l).cmdL.2.entL.2.done = true then some ⟨m.ev, m.cmds ++ [(Rd.of l).cmdL.1], m.whole ++ [(Rd.of l).cmdL.2.entL.1]⟩ else none
  else if (Rd.of l).cmdL.2.done = true then some ⟨m.ev, m.cmds ++ [(Rd.of l).cmdL.1], m.whole⟩ else none
noncomputable def Mt.adds (m : Mt) : List (List UInt8) → Option Mt
  | [] => some m
  | l :: r => match m.add l with
    | some m' => m'.adds r
    | none => none
/-- The lines that have their end. -/
def linesL (a : List UInt8) : List UInt8 → List (List UInt8)
  | [] => []
  | x :: r => if x = 10 then a :: linesL [] r else linesL (a ++ [x]) r
def encoreL : List UInt8 := [101, 110, 99, 111, 114, 101]
def everyL (l : List UInt8) : Option Nat :=
  if (Rd.of l).word.1 = encoreL ∧ ((Rd.of l).word.2.int 1 64).2.done = true then some ((Rd.of l).word.2.int 1 64).1.toNat else none
noncomputable def matchL (s : List UInt8) : Option Mt :=
  match linesL [] s with
  | [] => none
  | f :: r => match everyL f with
    | some ev => (Mt.mk ev [] [[]]).adds r
    | none => none

/-- The world at a tick. -/
noncomputable def fromM (css : List (List Cmd)) (b : Nat) (L : List Mob) : Nat → List Mob
  | 0 => L
  | k + 1 => stepL (css.getD (b + k) []) (fromM css b L k)
noncomputable def Mt.at (m : Mt) (t : Nat) : List Mob := fromM m.cmds (t / m.ev * m.ev) (m.whole.getD (t / m.ev) []) (t % m.ev)

/-- A match that can be played. -/
structure Mt.Ok (m : Mt) : Prop where
  ev : 1 ≤ m.ev ∧ m.ev ≤ 64
  len : m.cmds.length ≤ 500
  cmds : ∀ cs ∈ m.cmds, cs.length ≤ 64
  count : m.whole.length = m.cmds.length / m.ev + 1
  good : ∀ k (h : k < m.whole.length), worldB ((k * m.ev : Nat) : Int) m.whole[k] = true
theorem int_bounds (r : Rd) (lo hi : Int) (h : lo ≤ 0 ∧ 0 ≤ hi) : lo ≤ (r.int lo hi).1 ∧ (r.int lo hi).1 ≤ hi := by
  unfold Rd.int
  split
  · split
    · assumption
    · exact h
  · exact h
theorem cmds_length (r : Rd) (k : Nat) : (r.cmds k).1.length = k := by
  induction k with
  | zero => rfl
  | succ n ih => simp [Rd.cmds, ih]
theorem ents_length (r : Rd) (k : Nat) : (r.ents k).1.length = k := by
  induction k with
  | zero => rfl
  | succ n ih => simp [Rd.ents, ih]
theorem cmdL_short (r : Rd) : r.cmdL.1.length ≤ 64 := by
  have := int_bounds r 0 64 (by omega)
  unfold Rd.cmdL
  rw [cmds_length]
  omega
theorem Mt.add_ok {m m' : Mt} {l : List UInt8} (h : m.Ok) (ha : m.add l = some m') : m'.Ok ∧ m'.ev = m.ev ∧ m'.cmds.length = m.cmds.length + 1 := by
  have hev := h.ev
  unfold Mt.add at ha
  split at ha
  · cases ha
  · rename_i hl
    have hdiv : ∀ q, m.cmds.length / m.ev = q → (m.cmds.length + 1) / m.ev = if (m.cmds.length + 1) % m.ev = 0 then q + 1 else q := by
      intro q hq
      rw [Nat.succ_div]
      simp only [Nat.dvd_iff_mod_eq_zero, hq]
      split <;> rfl
    split at ha
    · rename_i h0
      split at ha
      · rename_i hw
        injection ha with ha
        subst ha
        refine ⟨⟨h.ev, by simp; omega, ?_, ?_, ?_⟩, rfl, by simp⟩
        · intro cs hc
          rcases List.mem_append.1 hc with hc | hc
          · exact h.cmds cs hc
          · simp only [List.mem_cons, List.not_mem_nil, or_false] at hc
            subst hc
            exact cmdL_short _
        · simp only [List.length_append, List.length_cons, List.length_nil, Nat.zero_add]
          rw [hdiv _ rfl, if_pos h0, h.count]
        · intro k hk
          simp only [List.length_append, List.length_cons, List.length_nil, Nat.zero_add] at hk
          by_cases hk' : k < m.whole.length
          · simp only [List.getElem_append_left hk']
            exact h.good k hk'
          · obtain rfl : k = m.whole.length := by omega
            simp only [List.getElem_append_right (Nat.le_refl _), Nat.sub_self, List.getElem_cons_zero]
            rw [show ((m.whole.length * m.ev : Nat) : Int) = (m.cmds.length : Int) + 1 from ?_]
            · exact hw.1
            · have := Nat.div_add_mod (m.cmds.length + 1) m.ev
              rw [h0, hdiv _ rfl, if_pos h0, Nat.mul_comm] at this
              rw [h.count]
              omega
      · cases ha
    · rename_i h0
      split at ha
      · injection ha with ha
        subst ha
        refine ⟨⟨h.ev, by simp; omega, ?_, ?_, h.good⟩, rfl, by simp⟩
        · intro cs hc
          rcases List.mem_append.1 hc with hc | hc
          · exact h.cmds cs hc
          · simp only [List.mem_cons, List.not_mem_nil, or_false] at hc
            subst hc
            exact cmdL_short _
        · simp only [List.length_append, List.length_cons, List.length_nil, Nat.zero_add]
          rw [hdiv _ rfl, if_neg h0, h.count]
      · cases ha
end Go.Proofs.YtlfmfhmbkpnjbabGreatDoor
