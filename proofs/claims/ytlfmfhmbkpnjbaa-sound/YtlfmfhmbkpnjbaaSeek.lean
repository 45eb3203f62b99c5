import Derived.Test.YtlfmfhmbkpnjbaaWok
namespace Go.Proofs.Ytlfmfhmbkpnjbaa
open Go.RowKit

def cmpI (x y : Int) : Int := if x < y then -1 else if y < x then 1 else 0

theorem isNaN_c (x : Int) (w : World) : Calls Try.prog 93 #[.int .i64 x] w fun e w' => e = .returned (.bool false) ∧ w' = w := by
  have h : (x != x) = false := by simp
  go_enter Try.func93, Try.ntmps93
  go_wp2
  go_ret
  exact ⟨rfl, rfl⟩

set_option maxHeartbeats 400000 in
theorem compare_c (x y : Int) (w : World) : Calls Try.prog 84 #[.int .i64 x, .int .i64 y] w fun e w' => e = .returned (.int .i64 (cmpI x y)) ∧ w' = w := by
  by_cases h1 : x < y
  · have H : Hid (cmpI x y = -1) := by show cmpI x y = -1; simp [cmpI, h1]
    go_enter Try.func84, Try.ntmps84
    go_wp2_with fail
    refine (isNaN_c _ _).mono ?_
    rintro e w' ⟨rfl, rfl⟩
    go_wp2_with fail
    refine (isNaN_c _ _).mono ?_
    rintro e w' ⟨rfl, rfl⟩
    go_wp2
    go_ret
    exact ⟨ret1 (by rw [H.out]; rfl), rfl⟩
  · by_cases h2 : y < x
    · have H : Hid (cmpI x y = 1) := by show cmpI x y = 1; simp [cmpI, h1, h2]
      go_enter Try.func84, Try.ntmps84
      go_wp2_with fail
      refine (isNaN_c _ _).mono ?_
      rintro e w' ⟨rfl, rfl⟩
      go_wp2_with fail
      refine (isNaN_c _ _).mono ?_
      rintro e w' ⟨rfl, rfl⟩
      go_wp2
      go_ret
      exact ⟨ret1 (by rw [H.out]; rfl), rfl⟩
    · have H : Hid (cmpI x y = 0) := by show cmpI x y = 0; simp [cmpI, h1, h2]
      go_enter Try.func84, Try.ntmps84
      go_wp2_with fail
      refine (isNaN_c _ _).mono ?_
      rintro e w' ⟨rfl, rfl⟩
      go_wp2_with fail
      refine (isNaN_c _ _).mono ?_
      rintro e w' ⟨rfl, rfl⟩
      go_wp2
      go_ret
      exact ⟨ret1 (by rw [H.out]; rfl), rfl⟩

set_option maxHeartbeats 400000 in
theorem byId_c (m : Mob) (id : Int) (w : World) : Calls Try.prog 83 #[.agg #[.int .i64 m.id, .int .i64 m.team, .float .f32 m.x, .float .f32 m.y, .float .f32 m.vx, .float .f32 m.vy, .int .i64 m.health], .int .i64 id] w fun e w' => e = .returned (.int .i64 (cmpI m.id id)) ∧ Kept (fun _ => False) w w' := by
  go_enter Try.func83, Try.ntmps83
  go_wp2_with fail
  refine (compare_c _ _ _).mono ?_
  rintro e w' ⟨rfl, rfl⟩
  go_wp2
  go_ret
  exact ⟨rfl, Kept.alloc w _⟩

/-- The IDs rise. -/
def Rises (L : List Mob) : Prop := ∀ i j (hi : i < L.length) (hj : j < L.length), i < j → L[i].id < L[j].id

theorem OkTo.rises {L : List Mob} (h : OkTo L L.length) : Rises L := by
  intro i j hi hj hij
  induction j with
  | zero => omega
  | succ k ih =>
    have h1 := (h (k + 1) hj hj).2 k (by omega) rfl
    by_cases e : i = k
    · subst e; exact h1
    · have := ih (by omega) (by omega); omega

/-- Where the entity of an ID stands, or would stand. -/
def findI : List Mob → Int → Nat
  | [], _ => 0
  | m :: r, id => if m.id < id then findI r id + 1 else 0

theorem findI_is (L : List Mob) (id : Int) (a : Nat) (ha : a ≤ L.length) (h1 : ∀ j (h : j < L.length), j < a → L[j].id < id) (h2 : ∀ (h : a < L.length), ¬ L[a].id < id) : findI L id = a := by
  induction L generalizing a with
  | nil => simp at ha; simp [findI, ha]
  | cons m r ih =>
    cases a with
    | zero => have := h2 (by simp); simp at this; simp [findI]; omega
    | succ k =>
      have h0 := h1 0 (by simp) (by omega)
      simp at h0
      simp only [findI, h0, if_true]
      rw [ih k (by simpa using ha) (fun j h hj => by have := h1 (j + 1) (by simpa using h) (by omega); simpa using this) (fun h => by have := h2 (by simpa using h); simpa using this)]

open Classical in
noncomputable def findB (L : List Mob) (id : Int) : Bool := decide (∃ h : findI L id < L.length, L[findI L id].id = id)
theorem findB_true {L : List Mob} {id : Int} (a : Nat) (ha : findI L id = a) (hl : a < L.length) (h : L[a].id = id) : findB L id = true := by
  subst ha; simp only [findB, decide_eq_true_eq]; exact ⟨hl, h⟩
theorem findB_ne {L : List Mob} {id : Int} (a : Nat) (ha : findI L id = a) (hl : a < L.length) (h : L[a].id ≠ id) : findB L id = false := by
  subst ha; simp only [findB, decide_eq_false_iff_not]; rintro ⟨_, e⟩; exact h e
theorem findB_out {L : List Mob} {id : Int} (h : L.length ≤ findI L id) : findB L id = false := by
  simp only [findB, decide_eq_false_iff_not]; rintro ⟨h', _⟩; omega

theorem cmp_lt {x y : Int} (h : x < y) : cmpI x y = -1 := by simp [cmpI, h]
theorem cmp_eq {x y : Int} (h : x = y) : cmpI x y = 0 := by simp [cmpI, h]
theorem cmp_gt {x y : Int} (h : y < x) : cmpI x y = 1 := by simp [cmpI, h, show ¬ x < y by omega]

set_option maxHeartbeats 2000000 in
set_option maxRecDepth 100000 in
theorem search_c (p : Option Addr) (cap : Nat) (id : Int) (L : List Mob) (w : World) (hl : (L.length : Int) ≤ 4611686018427387903) (hr : Rises L) (h : Reads w p L) :
    Calls Try.prog 82 #[.slice p L.length cap, .int .i64 id, .func (.func 83) #[] #[]] w fun e w' => e = .returned (.tuple #[.int .i64 (findI L id), .bool (findB L id)]) ∧ Kept (fun _ => False) w w' := by
  have HR := hide h
  have HS := hide hr
  clear h hr
  go_enter Try.func82, Try.ntmps82
  go_wp2
  go_loopw [9, 10] (fun a b wr => ∃ i j : Nat, i ≤ j ∧ j ≤ L.length ∧ a = .int .i64 i ∧ b = .int .i64 j ∧ Hid (∀ q (h : q < L.length), q < i → L[q].id < id) ∧ Hid (∀ (h : j < L.length), id ≤ L[j].id) ∧ Hid (Kept (fun _ => False) w wr)) (fun a b _ => (intOf b).toNat - (intOf a).toNat)
  case atStart => exact ⟨0, L.length, Nat.zero_le _, Nat.le_refl _, rfl, rfl, (fun _ _ h => absurd h (Nat.not_lt_zero _)), (fun h => absurd h (Nat.lt_irrefl _)), Kept.refl _ _⟩
  case round =>
    obtain ⟨i, j, hij, hjl, rfl, rfl, HI, HJ, HK⟩ := hrel
    by_cases hlt : i < j
    · obtain ⟨q, hq, hq1, hq2⟩ : ∃ q : Nat, ((i : Int) + (j : Int)) / 2 = (q : Int) ∧ i ≤ q ∧ q < j := ⟨(i + j) / 2, by omega, by omega, by omega⟩
      have hql : q < L.length := by omega
      obtain ⟨b, off, rfl, hb, c0, c1, c2, c3, c4, c5, c6⟩ := (HR.out.calm HK.out).at q hql
      have hb1 : (0 : Int) ≤ (q : Int) := by omega
      have hb2 : (q : Int) < (L.length : Int) := by omega
      by_cases hc : L[q].id < id
      · have hcm := cmp_lt hc
        have HI' : Hid (∀ k (h : k < L.length), k < q + 1 → L[k].id < id) := fun k h hk => by
          by_cases e : k = q
          · subst e; exact hc
          · have := HS.out k q h hql (by omega); omega
        clear hc
        go_wp2_with fail
        refine (byId_c L[q] id _).mono ?_
        rw [hcm]
        rintro e w1 ⟨rfl, q1⟩
        have HK1 := hide (HK.out.calm2 q1)
        clear q1 c0 c1 c2 c3 c4 c5 c6 hcm
        go_wp2
        go_roundw
        case rel => exact ⟨q + 1, j, by omega, by omega, by go_num, rfl, HI', HJ, HK1⟩
        case measure => simp [intOf]; omega
      · have hcm : (cmpI L[q].id id < 0) = False := by
          unfold cmpI
          rw [if_neg hc]
          split <;> simp
        have HJ' : Hid (∀ (h : q < L.length), id ≤ L[q].id) := fun _ => by omega
        clear hc
        have hcn : ¬ cmpI L[q].id id < 0 := by rw [hcm]; exact fun e => e
        generalize hgen : cmpI L[q].id id = cc at *
        have HG := hide hgen
        clear hgen hcm
        go_wp2_with fail
        refine (byId_c L[q] id _).mono ?_
        rw [HG.out]
        rintro e w1 ⟨rfl, q1⟩
        have HK1 := hide (HK.out.calm2 q1)
        clear q1 c0 c1 c2 c3 c4 c5 c6
        go_wp2
        go_roundw
        case rel => exact ⟨i, q, by omega, by omega, rfl, rfl, HI, HJ', HK1⟩
        case measure => simp [intOf]; omega
    · obtain rfl : i = j := by omega
      have HF : Hid (findI L id = i) := findI_is L id i hjl HI.out (fun h => by have := HJ.out h; omega)
      by_cases hil : i < L.length
      · obtain ⟨b, off, rfl, hb, c0, c1, c2, c3, c4, c5, c6⟩ := (HR.out.calm HK.out).at i hil
        have hb1 : (0 : Int) ≤ (i : Int) := by omega
        have hb2 : (i : Int) < (L.length : Int) := by omega
        by_cases he : L[i].id = id
        · have HB : Hid (findB L id = true) := findB_true i HF.out hil he
          have hcm := cmp_eq he
          clear he
          go_wp2_with fail
          refine (byId_c L[i] id _).mono ?_
          rw [hcm]
          rintro e w1 ⟨rfl, q1⟩
          have HK1 := hide (HK.out.calm2 q1)
          clear q1 c0 c1 c2 c3 c4 c5 c6 hcm
          go_wp2
          go_ret2
          exact ⟨ret2 (by rw [HF.out]; rfl) (by rw [HB.out]; rfl), HK1.out⟩
        · have HB : Hid (findB L id = false) := findB_ne i HF.out hil he
          have hcm := cmp_gt (show id < L[i].id by have := HJ.out hil; omega)
          clear he
          go_wp2_with fail
          refine (byId_c L[i] id _).mono ?_
          rw [hcm]
          rintro e w1 ⟨rfl, q1⟩
          have HK1 := hide (HK.out.calm2 q1)
          clear q1 c0 c1 c2 c3 c4 c5 c6 hcm
          go_wp2
          go_ret2
          exact ⟨ret2 (by rw [HF.out]; rfl) (by rw [HB.out]; rfl), HK1.out⟩
      · have HB : Hid (findB L id = false) := findB_out (by rw [HF.out]; omega)
        go_wp2
        go_ret2
        exact ⟨ret2 (by rw [HF.out]; rfl) (by rw [HB.out]; rfl), HK.out⟩

theorem find_c (p : Option Addr) (cap : Nat) (id : Int) (L : List Mob) (w : World) (hl : (L.length : Int) ≤ 4611686018427387903) (hr : Rises L) (h : Reads w p L) :
    Calls Try.prog 58 #[.slice p L.length cap, .int .i64 id] w fun e w' => e = .returned (.tuple #[.int .i64 (findI L id), .bool (findB L id)]) ∧ Kept (fun _ => False) w w' := by
  have HR := hide h
  have HS := hide hr
  clear h hr
  go_enter Try.func58, Try.ntmps58
  go_wp2_with fail
  refine (search_c p cap id L _ hl HS.out HR.out).mono ?_
  rintro e w1 ⟨rfl, q1⟩
  have HK1 := hide q1
  clear q1
  go_wp2
  go_ret2
  exact ⟨rfl, HK1.out⟩
end Go.Proofs.Ytlfmfhmbkpnjbaa
