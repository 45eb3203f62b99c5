import Derived.Test.YtlfmfhmbkpnjbaaDoorPd12
import Derived.Test.YtlfmfhmbkpnjbaaDoorPd13
import Derived.Test.YtlfmfhmbkpnjbaaDoorRows
import Derived.Test.YtlfmfhmbkpnjbaaDoorCards
import Derived.Test.YtlfmfhmbkpnjbaaDoorTie
import Derived.SevenTiedAt
import Derived.Deep.Slices
import Derived.ProofKit
import Derived.LaidMore
import Derived.OpenShut
import Derived.ShutString
import Derived.ChangeOld
import Derived.Below
import Derived.Stop.Joined
import Derived.Stop.LaidErr
import Derived.Lib.TrailingZeros
namespace Go.Proofs.YtlfmfhmbkpnjbaaDoor
open Go.RowKit

theorem u8_inj {a b : Nat} (ha : a < 256) (hb : b < 256) (h : UInt8.ofNat a = UInt8.ofNat b) : a = b := by
  have := congrArg UInt8.toNat h
  simp only [UInt8.toNat_ofNat'] at this
  omega

theorem dec_form (u : Nat) : Lib.decDigits u = (if u < 10 then [] else Lib.decDigits (u / 10)) ++ [UInt8.ofNat (48 + u % 10)] := by
  by_cases h : u < 10
  · rw [Lib.decDigits, dif_pos h, if_pos h, Nat.mod_eq_of_lt h]; rfl
  · rw [Lib.decDigits, dif_neg h, if_neg h]
theorem dec_ne (u : Nat) : Lib.decDigits u ≠ [] := by rw [dec_form]; simp
theorem dec_inj (u v : Nat) (h : Lib.decDigits u = Lib.decDigits v) : u = v := by
  induction u using Nat.strongRecOn generalizing v with
  | _ u ih =>
    rw [dec_form u, dec_form v] at h
    obtain ⟨h1, h2⟩ := List.append_inj' h rfl
    have h3 : u % 10 = v % 10 := by
      simp only [List.cons.injEq, and_true] at h2
      have := u8_inj (by omega) (by omega) h2
      omega
    by_cases hu : u < 10
    · by_cases hv : v < 10
      · omega
      · rw [if_pos hu, if_neg hv] at h1
        exact absurd h1.symm (dec_ne _)
    · by_cases hv : v < 10
      · rw [if_neg hu, if_pos hv] at h1
        exact absurd h1 (dec_ne _)
      · rw [if_neg hu, if_neg hv] at h1
        have := ih (u / 10) (by omega) (v / 10) h1
        omega
theorem dec_chars (u : Nat) : ∀ c ∈ Lib.decDigits u, 48 ≤ c.toNat := by
  induction u using Nat.strongRecOn with
  | _ u ih =>
    intro c hc
    rw [dec_form u] at hc
    rcases List.mem_append.1 hc with hc | hc
    · split at hc
      · cases hc
      · exact ih (u / 10) (by omega) c hc
    · simp only [List.mem_cons, List.not_mem_nil, or_false] at hc
      rw [hc, UInt8.toNat_ofNat']
      omega
theorem itoa_inj (a b : Int) (h : Lib.itoa a = Lib.itoa b) : a = b := by
  unfold Lib.itoa at h
  split at h
  · split at h
    · simp only [List.cons.injEq, true_and] at h
      have := dec_inj _ _ h
      omega
    · have := dec_chars b.toNat 45 (by rw [← h]; simp)
      exact absurd this (by decide)
  · split at h
    · have := dec_chars a.toNat 45 (by rw [h]; simp)
      exact absurd this (by decide)
    · have := dec_inj _ _ h
      omega

theorem hexc_fin : ∀ a b : Fin 16, hexc a.val = hexc b.val → a = b := by decide
theorem hexc_big : ∀ a : Fin 16, 48 ≤ (hexc a.val).toNat := by decide
theorem hex_form (u : Nat) : hexL u = (if u < 16 then [] else hexL (u / 16)) ++ [hexc (u % 16)] := by
  by_cases h : u < 16
  · rw [hexL_one h, if_pos h, Nat.mod_eq_of_lt h]; rfl
  · rw [hexL_more h, if_neg h]
theorem hex_ne (u : Nat) : hexL u ≠ [] := by rw [hex_form]; simp
theorem hex_inj (u v : Nat) (h : hexL u = hexL v) : u = v := by
  induction u using Nat.strongRecOn generalizing v with
  | _ u ih =>
    rw [hex_form u, hex_form v] at h
    obtain ⟨h1, h2⟩ := List.append_inj' h rfl
    have h3 : u % 16 = v % 16 := by
      simp only [List.cons.injEq, and_true] at h2
      have := hexc_fin ⟨u % 16, Nat.mod_lt _ (by decide)⟩ ⟨v % 16, Nat.mod_lt _ (by decide)⟩ h2
      simpa using this
    by_cases hu : u < 16
    · by_cases hv : v < 16
      · omega
      · rw [if_pos hu, if_neg hv] at h1
        exact absurd h1.symm (hex_ne _)
    · by_cases hv : v < 16
      · rw [if_neg hu, if_pos hv] at h1
        exact absurd h1 (hex_ne _)
      · rw [if_neg hu, if_neg hv] at h1
        have := ih (u / 16) (by omega) (v / 16) h1
        omega
theorem hex_chars (u : Nat) : ∀ c ∈ hexL u, 48 ≤ c.toNat := by
  induction u using Nat.strongRecOn with
  | _ u ih =>
    intro c hc
    rw [hex_form u] at hc
    rcases List.mem_append.1 hc with hc | hc
    · split at hc
      · cases hc
      · exact ih (u / 16) (by omega) c hc
    · simp only [List.mem_cons, List.not_mem_nil, or_false] at hc
      rw [hc]
      exact hexc_big ⟨u % 16, Nat.mod_lt _ (by decide)⟩

/-- A word without blanks and ends. -/
def Clean (x : ByteArray) : Prop := (32 : UInt8) ∉ x.data.toList ∧ (10 : UInt8) ∉ x.data.toList
theorem itoaW_clean (n : Int) : Clean (itoaW n) := by
  have key : ∀ c : UInt8, c.toNat < 45 → c ∉ Lib.itoa n := fun c hc hm => by
    unfold Lib.itoa at hm
    split at hm
    · rcases List.mem_cons.1 hm with rfl | hm
      · exact absurd hc (by decide)
      · have := dec_chars _ c hm; omega
    · have := dec_chars _ c hm; omega
  unfold Clean itoaW
  simp only
  exact ⟨key 32 (by decide), key 10 (by decide)⟩
theorem hexW_clean (x : Nat) : Clean (hexW x) := by
  have key : ∀ c : UInt8, c.toNat < 45 → c ∉ hexL (x % 18446744073709551616) := fun c hc hm => by have := hex_chars _ c hm; omega
  unfold Clean hexW
  simp only
  exact ⟨key 32 (by decide), key 10 (by decide)⟩
theorem itoaW_inj {a b : Int} (h : itoaW a = itoaW b) : a = b := by
  apply itoa_inj
  have := congrArg (fun x : ByteArray => x.data.toList) h
  simpa [itoaW] using this
theorem hexW_inj {x y : Nat} (hx : x < 18446744073709551616) (hy : y < 18446744073709551616) (h : hexW x = hexW y) : x = y := by
  have := congrArg (fun x : ByteArray => x.data.toList) h
  have := hex_inj _ _ (by simpa [hexW] using this)
  rwa [Nat.mod_eq_of_lt hx, Nat.mod_eq_of_lt hy] at this

/-- What is split by one sign is split in one way. -/
theorem split_one (s : UInt8) (a b x y : List UInt8) (ha : s ∉ a) (hb : s ∉ b) (h : a ++ s :: x = b ++ s :: y) : a = b ∧ x = y := by
  induction a generalizing b with
  | nil =>
    cases b with
    | nil => simpa using h
    | cons c r =>
      simp only [List.nil_append, List.cons_append, List.cons.injEq] at h
      exact absurd (by simp [h.1]) hb
  | cons c r ih =>
    cases b with
    | nil =>
      simp only [List.nil_append, List.cons_append, List.cons.injEq] at h
      exact absurd (by simp [← h.1]) ha
    | cons d q =>
      simp only [List.cons_append, List.cons.injEq] at h
      obtain ⟨h1, h2⟩ := ih q (fun e => ha (by simp [e])) (fun e => hb (by simp [e])) h.2
      exact ⟨by rw [h.1, h1], h2⟩

theorem join_two (x y : List UInt8) (r : List (List UInt8)) : Lib.join (x :: y :: r) [32] = x ++ 32 :: Lib.join (y :: r) [32] := by
  rw [Lib.join_cons, Lib.join_cons]
  unfold Lib.joinTail
  simp
theorem join_inj (xs ys : List (List UInt8)) (hx : ∀ x ∈ xs, (32 : UInt8) ∉ x) (hy : ∀ y ∈ ys, (32 : UInt8) ∉ y) (nx : xs ≠ []) (ny : ys ≠ []) (h : Lib.join xs [32] = Lib.join ys [32]) : xs = ys := by
  induction xs generalizing ys with
  | nil => exact absurd rfl nx
  | cons x r ih =>
    cases ys with
    | nil => exact absurd rfl ny
    | cons y q =>
      cases r with
      | nil =>
        cases q with
        | nil => rw [Lib.join_one, Lib.join_one] at h; rw [h]
        | cons z q =>
          rw [Lib.join_one, join_two] at h
          exact absurd (by rw [h]; simp) (hx x (by simp))
      | cons u r =>
        cases q with
        | nil =>
          rw [Lib.join_one, join_two] at h
          exact absurd (by rw [← h]; simp) (hy y (by simp))
        | cons z q =>
          rw [join_two, join_two] at h
          obtain ⟨h1, h2⟩ := split_one 32 x y _ _ (hx x (by simp)) (hy y (by simp)) h
          rw [h1, ih (z :: q) (fun a ha => hx a (by simp [ha])) (fun a ha => hy a (by simp [ha])) (by simp) (by simp) h2]
theorem join_end (xs : List (List UInt8)) (h : ∀ x ∈ xs, (10 : UInt8) ∉ x) : (10 : UInt8) ∉ Lib.join xs [32] := by
  induction xs with
  | nil => simp [Lib.join_nil]
  | cons x r ih =>
    cases r with
    | nil => rw [Lib.join_one]; exact h x (by simp)
    | cons y r =>
      rw [join_two]
      intro hm
      rcases List.mem_append.1 hm with hm | hm
      · exact h x (by simp) hm
      · rcases List.mem_cons.1 hm with hm | hm
        · exact absurd hm (by decide)
        · exact ih (fun a ha => h a (by simp [ha])) hm

theorem ba_inj {xs ys : List ByteArray} (h : xs.map (·.data.toList) = ys.map (·.data.toList)) : xs = ys := by
  induction xs generalizing ys with
  | nil => cases ys with
    | nil => rfl
    | cons y q => simp at h
  | cons x r ih => cases ys with
    | nil => simp at h
    | cons y q =>
      simp only [List.map_cons, List.cons.injEq] at h
      rw [ih h.2, ByteArray.ext (Array.ext' h.1)]

/-- A line, and what stands behind it, are told apart in one way. -/
theorem line_inj (xs ys : List ByteArray) (a b : List UInt8) (hx : ∀ x ∈ xs, Clean x) (hy : ∀ y ∈ ys, Clean y) (nx : xs ≠ []) (ny : ys ≠ []) (h : lineL xs ++ a = lineL ys ++ b) : xs = ys ∧ a = b := by
  unfold lineL at h
  rw [List.append_assoc, List.append_assoc] at h
  obtain ⟨h1, h2⟩ := split_one 10 _ _ a b (join_end _ (fun z hz => by obtain ⟨x, hm, rfl⟩ := List.mem_map.1 hz; exact (hx x hm).2)) (join_end _ (fun z hz => by obtain ⟨x, hm, rfl⟩ := List.mem_map.1 hz; exact (hy x hm).2)) h
  refine ⟨ba_inj (join_inj _ _ (fun z hz => by obtain ⟨x, hm, rfl⟩ := List.mem_map.1 hz; exact (hx x hm).1) (fun z hz => by obtain ⟨x, hm, rfl⟩ := List.mem_map.1 hz; exact (hy x hm).1) (by simpa using nx) (by simpa using ny) h1), h2⟩

theorem cmdW_clean (c : Cmd) : ∀ x ∈ cmdW c, Clean x := by
  unfold cmdW
  split
  · simp [itoaW_clean, hexW_clean]
  · split
    · simp [itoaW_clean, hexW_clean]
    · split
      · simp [itoaW_clean]
      · split
        · simp [itoaW_clean]
        · simp [itoaW_clean]
theorem tickW_clean (cs : List Cmd) (t : Int) (L : List Mob) (ev : Int) : ∀ x ∈ tickW cs t L ev, Clean x := by
  intro x hx
  unfold tickW headW at hx
  rcases List.mem_append.1 hx with hx | hx
  · rcases List.mem_cons.1 hx with rfl | hx
    · exact itoaW_clean _
    · obtain ⟨c, _, hx⟩ := List.mem_flatMap.1 hx
      exact cmdW_clean c x hx
  · split at hx
    · rcases List.mem_cons.1 hx with rfl | hx
      · exact itoaW_clean _
      · obtain ⟨m, _, hx⟩ := List.mem_flatMap.1 hx
        unfold entW at hx
        simp only [List.mem_cons, List.not_mem_nil, or_false] at hx
        rcases hx with rfl | rfl | rfl | rfl | rfl | rfl | rfl <;> first | exact itoaW_clean _ | exact hexW_clean _
    · cases hx

/-- Commands that do the same. -/
def SmallC (c : Cmd) : Prop := c.x < 18446744073709551616 ∧ c.y < 18446744073709551616
theorem cmdW_head (c : Cmd) : ∃ r, cmdW c = itoaW c.kind :: r := by
  unfold cmdW
  split
  · exact ⟨_, rfl⟩
  · split
    · exact ⟨_, rfl⟩
    · split
      · exact ⟨_, rfl⟩
      · split <;> exact ⟨_, rfl⟩
theorem cmdW_len {c d : Cmd} (h : c.kind = d.kind) : (cmdW c).length = (cmdW d).length := by
  unfold cmdW
  rw [h]
  split
  · rfl
  · split
    · rfl
    · split
      · rfl
      · split <;> rfl
theorem cmdW_do {c d : Cmd} (hc : SmallC c) (hd : SmallC d) (h : cmdW c = cmdW d) (L : List Mob) : doM L c = doM L d := by
  obtain ⟨r, hr⟩ := cmdW_head c
  obtain ⟨r', hr'⟩ := cmdW_head d
  have hk : c.kind = d.kind := by
    rw [hr, hr'] at h
    simp only [List.cons.injEq] at h
    exact itoaW_inj h.1
  clear hr hr'
  unfold cmdW at h
  unfold doM
  rw [← hk] at h ⊢
  split
  · rename_i k1
    rw [if_pos k1, if_pos k1] at h
    simp only [List.cons.injEq, and_true, true_and] at h
    rw [itoaW_inj h.1, itoaW_inj h.2.1, hexW_inj hc.1 hd.1 h.2.2.1, hexW_inj hc.2 hd.2 h.2.2.2]
  · rename_i k1
    split
    · rename_i k2
      rw [if_neg k1, if_neg k1, if_pos k2, if_pos k2] at h
      simp only [List.cons.injEq, and_true, true_and] at h
      rw [itoaW_inj h.1, hexW_inj hc.1 hd.1 h.2.1, hexW_inj hc.2 hd.2 h.2.2]
    · rename_i k2
      split
      · rename_i k3
        rw [if_neg k1, if_neg k1, if_neg k2, if_neg k2, if_pos k3, if_pos k3] at h
        simp only [List.cons.injEq, and_true, true_and] at h
        rw [itoaW_inj h.1, itoaW_inj h.2]
      · rename_i k3
        split
        · rename_i k4
          rw [if_neg k1, if_neg k1, if_neg k2, if_neg k2, if_neg k3, if_neg k3, if_pos k4, if_pos k4] at h
          simp only [List.cons.injEq, and_true, true_and] at h
          rw [itoaW_inj h]
        · rfl

theorem cmds_do (cs ds : List Cmd) (a b : List ByteArray) (hc : ∀ c ∈ cs, SmallC c) (hd : ∀ d ∈ ds, SmallC d) (hl : cs.length = ds.length) (h : cs.flatMap cmdW ++ a = ds.flatMap cmdW ++ b) (L : List Mob) : cs.foldl doM L = ds.foldl doM L := by
  induction cs generalizing ds L with
  | nil => cases ds with
    | nil => rfl
    | cons d q => simp at hl
  | cons c r ih => cases ds with
    | nil => simp at hl
    | cons d q =>
      simp only [List.flatMap_cons, List.append_assoc] at h
      obtain ⟨r1, hr1⟩ := cmdW_head c
      obtain ⟨r2, hr2⟩ := cmdW_head d
      have hk : c.kind = d.kind := by
        rw [hr1, hr2] at h
        simp only [List.cons_append, List.cons.injEq] at h
        exact itoaW_inj h.1
      obtain ⟨h1, h2⟩ := List.append_inj h (cmdW_len hk)
      simp only [List.foldl_cons]
      rw [cmdW_do (hc c (by simp)) (hd d (by simp)) h1 L]
      exact ih q (fun x hx => hc x (by simp [hx])) (fun x hx => hd x (by simp [hx])) (by simpa using hl) h2 _

theorem tick_step (cs ds : List Cmd) (t u : Int) (L M : List Mob) (ev : Int) (hc : ∀ c ∈ cs, SmallC c) (hd : ∀ d ∈ ds, SmallC d) (h : tickW cs t L ev = tickW ds u M ev) (X : List Mob) : stepL cs X = stepL ds X := by
  unfold tickW headW at h
  simp only [List.cons_append, List.cons.injEq] at h
  have hl : cs.length = ds.length := by have := itoaW_inj h.1; omega
  unfold stepL
  rw [cmds_do cs ds _ _ hc hd hl h.2 X]

/-- The lines of a file. -/
noncomputable def linesAt (ev : Int) (css : List (List Cmd)) (k : Nat) : List (List ByteArray) := (List.range k).map (fun j => tickW (css.getD j []) ((j : Int) + 1) (mobsAt css (j + 1)) ev)
theorem fileAt_lines (ev : Int) (css : List (List Cmd)) (k : Nat) : fileAt ev css k = lineL (firstW ev) ++ (linesAt ev css k).flatMap lineL := by
  induction k with
  | zero => simp [fileAt, linesAt]
  | succ n ih =>
    show fileAt ev css n ++ _ = _
    rw [ih, List.append_assoc]
    congr 1
    simp [linesAt, List.range_succ]
theorem lines_inj (A B : List (List ByteArray)) (hA : ∀ l ∈ A, (∀ x ∈ l, Clean x) ∧ l ≠ []) (hB : ∀ l ∈ B, (∀ x ∈ l, Clean x) ∧ l ≠ []) (h : A.flatMap lineL = B.flatMap lineL) : A = B := by
  induction A generalizing B with
  | nil => cases B with
    | nil => rfl
    | cons y q =>
      simp only [List.flatMap_nil, List.flatMap_cons] at h
      exact absurd h.symm (by unfold lineL; simp)
  | cons x r ih => cases B with
    | nil =>
      simp only [List.flatMap_nil, List.flatMap_cons] at h
      exact absurd h (by unfold lineL; simp)
    | cons y q =>
      simp only [List.flatMap_cons] at h
      obtain ⟨h1, h2⟩ := line_inj x y _ _ (hA x (by simp)).1 (hB y (by simp)).1 (hA x (by simp)).2 (hB y (by simp)).2 h
      rw [h1, ih q (fun l hl => hA l (by simp [hl])) (fun l hl => hB l (by simp [hl])) h2]

theorem file_inj (ev : Int) (css dss : List (List Cmd)) (k m : Nat) (hc : ∀ cs ∈ css, ∀ c ∈ cs, SmallC c) (hd : ∀ cs ∈ dss, ∀ c ∈ cs, SmallC c) (h : fileAt ev css k = fileAt ev dss m) : k = m ∧ ∀ j, j ≤ k → mobsAt css j = mobsAt dss j := by
  rw [fileAt_lines, fileAt_lines] at h
  have hl := List.append_cancel_left h
  have cl : ∀ (es : List (List Cmd)) (n : Nat), ∀ l ∈ linesAt ev es n, (∀ x ∈ l, Clean x) ∧ l ≠ [] := by
    intro es n l hl
    simp only [linesAt, List.mem_map] at hl
    obtain ⟨j, _, rfl⟩ := hl
    exact ⟨tickW_clean _ _ _ _, by simp [tickW, headW]⟩
  have e := lines_inj _ _ (cl css k) (cl dss m) hl
  have hkm : k = m := by
    have := congrArg List.length e
    simpa [linesAt] using this
  subst hkm
  have sm : ∀ (es : List (List Cmd)), (∀ cs ∈ es, ∀ c ∈ cs, SmallC c) → ∀ j, ∀ c ∈ es.getD j [], SmallC c := by
    intro es he j c hc
    by_cases hj : j < es.length
    · rw [show es.getD j [] = es[j] from by simp [List.getD, hj]] at hc
      exact he _ (List.getElem_mem hj) c hc
    · rw [show es.getD j [] = [] from by simp [List.getD, List.getElem?_eq_none (show es.length ≤ j by omega)]] at hc
      cases hc
  refine ⟨rfl, fun j hj => ?_⟩
  induction j with
  | zero => rfl
  | succ n ih =>
    have hn := ih (by omega)
    have ht : tickW (css.getD n []) ((n : Int) + 1) (mobsAt css (n + 1)) ev = tickW (dss.getD n []) ((n : Int) + 1) (mobsAt dss (n + 1)) ev := by
      have := congrArg (fun l => l[n]?) e
      simpa [linesAt, show n < k by omega] using this
    show stepL (css.getD n []) (mobsAt css n) = stepL (dss.getD n []) (mobsAt dss n)
    rw [← hn]
    exact tick_step _ _ _ _ _ _ ev (sm css hc n) (sm dss hd n) ht _

theorem way_small : ∀ k : Fin 201, floatOfInt .f32 ((k.val : Int) - 100) < 18446744073709551616 ∧ fmul (floatOfInt .f32 ((k.val : Int) - 100)) 1092616192 < 18446744073709551616 := by decide +kernel
theorem wayOf_small (z : Int) : wayOf z < 18446744073709551616 ∧ fmul (wayOf z) 1092616192 < 18446744073709551616 := way_small ⟨pickN_keep z 201, pickN_lt_keep z 201 (by decide)⟩
theorem cmdsOf_small (zs : List Int) : ∀ c ∈ cmdsOf zs, SmallC c := by
  intro c hc
  simp only [cmdsOf, List.mem_map] at hc
  obtain ⟨k, _, rfl⟩ := hc
  unfold cmdOf
  split
  · exact ⟨(wayOf_small _).2, (wayOf_small _).2⟩
  · exact ⟨(wayOf_small _).1, (wayOf_small _).1⟩
end Go.Proofs.YtlfmfhmbkpnjbaaDoor

namespace Go.Proofs.YtlfmfhmbkpnjbaaDoor
open Go.RowKit

theorem small_all (zss : List (List Int)) : ∀ cs ∈ zss.map cmdsOf, ∀ c ∈ cs, SmallC c := by
  intro cs hc
  obtain ⟨zs, _, rfl⟩ := List.mem_map.1 hc
  exact cmdsOf_small zs

theorem Match.calm {w w' w'' : World} {css : List (List Cmd)} {k g cap : Nat} {WS : List Wd} (h : Match w w' css k g cap WS) (k2 : Kept (fun _ => False) w' w'') : Match w w'' css k g cap WS :=
  ⟨h.run.keep k2 (fun _ _ e => e) (fun _ _ e => e) (fun _ e => e.elim), h.len, h.mobs, h.new⟩

set_option maxHeartbeats 4000000 in
set_option maxRecDepth 100000 in
theorem named_walk (every : Int) (q1 q2 : Option Addr) (zss1 zss2 : List (List Int)) (cap1 cap2 : Nat) (w : World) (he : I64 every) (hn1 : ((zss1.length : Nat) : Int) ≤ 9223372036854775807) (hn2 : ((zss2.length : Nat) : Int) ≤ 9223372036854775807) (h1 : RTZ w q1 zss1) (h2 : RTZ w q2 zss2) (hT : Tabs w) :
    Calls Tryd.prog 3 #[.int .i64 every, .slice q1 zss1.length cap1, .slice q2 zss2.length cap2] w fun e w' => e = .returned (.bool true) ∧ Below w.heap.size w w' := by
  have H1 := hide h1
  have H2 := hide h2
  have HT := hide hT
  clear h1 h2 hT
  go_enter Tryd.func3, Tryd.ntmps3
  go_wp2_with fail
  refine (recorded_c every q1 zss1 cap1 w he hn1 H1.out HT.out).mono ?_
  rintro e w1 ⟨g1, cp1, vs1, WS1, rfl, m1⟩
  have M1 := hide m1
  have K1 := hide m1.run.kept
  clear m1
  go_wp2_with fail
  refine (recorded_c every q1 zss1 cap1 w1 he hn1 (H1.out.calm K1.out) (HT.out.calm K1.out)).mono ?_
  rintro e w2 ⟨g2, cp2, vs2, WS2, rfl, m2⟩
  have K2 := hide (K1.out.calm2 m2.run.kept)
  have K12 := hide m2.run.kept
  clear m2
  go_wp2_with fail
  refine (recorded_c every q2 zss2 cap2 w2 he hn2 (H2.out.calm K2.out) (HT.out.calm K2.out)).mono ?_
  rintro e w3 ⟨g3, cp3, vs3, WS3, rfl, m3⟩
  have M3 := hide m3
  have K3 := hide (K2.out.calm2 m3.run.kept)
  have M1' := hide (M1.out.calm (K12.out.calm2 m3.run.kept))
  clear m3 M1 H1 H2
  have hnil1 : ∀ w : World, (binOp .eql 23 (.slice (some ⟨g1, 0, none⟩) WS1.length cp1) (.slice none 0 0)).run Tryd.prog w = .ok (.bool false) w := fun w => Lib.run_eql_slice_some_nil w _ _ _ Tryd.underlying23
  have hnil3 : ∀ w : World, (binOp .eql 23 (.slice (some ⟨g3, 0, none⟩) WS3.length cp3) (.slice none 0 0)).run Tryd.prog w = .ok (.bool false) w := fun w => Lib.run_eql_slice_some_nil w _ _ _ Tryd.underlying23
  have HI : Hid (fileAt (1 + (pickN_keep every 20 : Int)) (zss1.map cmdsOf) (min 60 zss1.length) = fileAt (1 + (pickN_keep every 20 : Int)) (zss2.map cmdsOf) (min 60 zss2.length) → WS1.length = WS3.length ∧ ∀ j (h1 : j < WS1.length) (h3 : j < WS3.length), WS1[j].t = WS3[j].t ∧ WS1[j].L = WS3[j].L) := fun hE => by
    obtain ⟨hk, hm⟩ := file_inj _ _ _ _ _ (small_all zss1) (small_all zss2) hE
    have hl1 := M1'.out.len
    have hl3 := M3.out.len
    refine ⟨by omega, fun j h1 h3 => ⟨by rw [M1'.out.run.tick j h1, M3.out.run.tick j h3], ?_⟩⟩
    rw [M1'.out.mobs j h1, M3.out.mobs j h3]
    exact hm j (by omega)
  generalize fileAt (1 + (pickN_keep every 20 : Int)) (zss1.map cmdsOf) (min 60 zss1.length) = A at *
  generalize fileAt (1 + (pickN_keep every 20 : Int)) (zss2.map cmdsOf) (min 60 zss2.length) = C at *
  go_wp2
  go_loopw [16, 17] (fun s a wr => ∃ (b : Bool) (i : Nat), s = .bool b ∧ a = .int .i64 i ∧ i ≤ WS1.length ∧ Hid (b = true → WS1.length = WS3.length) ∧ Hid (A = C → b = true) ∧ Hid (Kept (fun _ => False) w3 wr)) (fun _ a _ => WS1.length - (intOf a).toNat)
  case atStart =>
    refine ⟨((WS1.length : Int) == (WS3.length : Int)), 0, rfl, rfl, Nat.zero_le _, (fun e => ?_ : _ → _), (fun e => ?_ : _ → _), Kept.refl _ _⟩
    · have := of_decide_eq_true e
      omega
    · have := (HI.out e).1
      simp [this]
  case round =>
    obtain ⟨b, i, rfl, rfl, hil, HBL, HBE, HK⟩ := hrel
    by_cases hgo : i < WS1.length ∧ b = true
    · obtain ⟨hlt, rfl⟩ := hgo
      have hb1 : (0 : Int) ≤ (i : Int) := by omega
      have hb2 : (i : Int) < (WS1.length : Int) := by omega
      have hL := HBL.out rfl
      have hlt3 : i < WS3.length := by omega
      have hb3 : (i : Int) < (WS3.length : Int) := by omega
      have M1r := hide (M1'.out.calm HK.out)
      have M3r := hide (M3.out.calm HK.out)
      have HL := hide hL
      clear hL
      obtain ⟨x0, x1, x2⟩ := M1r.out.run.cells i hlt
      obtain ⟨y0, y1, y2⟩ := M3r.out.run.cells i hlt3
      have O1 := hide (M1r.out.run.ok WS1[i] (List.getElem_mem hlt))
      have O3 := hide (M3r.out.run.ok WS3[i] (List.getElem_mem hlt3))
      have HE : Hid (A = C → WS1[i].t = WS3[i].t ∧ WS1[i].L = WS3[i].L) := fun e => (HI.out e).2 i hlt hlt3
      have hle : i + 1 ≤ WS1.length := hlt
      have h61 : WS1.length ≤ 61 := by have := M1'.out.len; omega
      have hle2 : WS1.length - (i + 1) < WS1.length - i := by omega
      generalize WS1[i] = d1 at *
      generalize WS3[i] = d3 at *
      have hsh := O1.out.short
      have HQ := hide (mob_same O1.out.good)
      have CE : Hid (∀ w', Kept (fun _ => False) wr w' → w'.cell? ⟨g1, i * 2, none⟩ = some (.int .i64 d1.t) ∧ w'.cell? ⟨g1, i * 2 + 1, none⟩ = some (.slice d1.p d1.L.length d1.cap) ∧ w'.cell? ⟨g3, i * 2, none⟩ = some (.int .i64 d3.t) ∧ w'.cell? ⟨g3, i * 2 + 1, none⟩ = some (.slice d3.p d3.L.length d3.cap)) := fun w' hk =>
        ⟨by rw [cell_keep hk x0 (fun e => e)]; exact x1, by rw [cell_keep hk x0 (fun e => e)]; exact x2, by rw [cell_keep hk y0 (fun e => e)]; exact y1, by rw [cell_keep hk y0 (fun e => e)]; exact y2⟩
      go_wp2
      go_region_held3 (fun w' => w'.cell? ⟨g1, i * 2, none⟩ = some (.int .i64 d1.t) ∧ w'.cell? ⟨g1, i * 2 + 1, none⟩ = some (.slice d1.p d1.L.length d1.cap) ∧ w'.cell? ⟨g3, i * 2, none⟩ = some (.int .i64 d3.t) ∧ w'.cell? ⟨g3, i * 2 + 1, none⟩ = some (.slice d3.p d3.L.length d3.cap)) (go_keep)
        ((go_at_call 5; refine (same_k d1.t d3.t d1.p d3.p d1.cap d3.cap d1.L d3.L wr.drew (O1.out.reads.calm (Kept.drew wr)) (O3.out.reads.calm (Kept.drew wr)) hsh).mono ?_; rintro e w4 ⟨b4, rfl, hb4, k4⟩; have HB4 := hide hb4; have K4 := hide ((Kept.drew wr).calm2 k4); clear hb4 k4; obtain ⟨u1, u2, u3, u4⟩ := CE.out w4 K4.out))
      all_goals
        clear u1 u2 u3 u4 CE x1 x2 y1 y2
        go_wp2
        go_roundw
        case rel => exact ⟨b4, i + 1, rfl, by go_num, hle, (fun _ => HL.out), (fun e => HB4.out (HE.out e).1 (HE.out e).2 HQ.out), HK.out.calm2 K4.out⟩
        case measure => simp [intOf]; omega
    · have HKW := hide (K3.out.calm2 HK.out)
      by_cases hlt : i < WS1.length
      · have hbf : b = false := by
          cases b
          · rfl
          · exact absurd ⟨hlt, rfl⟩ hgo
        subst hbf
        have hne : A ≠ C := fun e => by have := HBE.out e; cases this
        have hb2 : (i : Int) < (WS1.length : Int) := by omega
        have hAC : (A == C) = false := by simpa using hne
        go_wp2
        go_ret
        exact ⟨ret1 (by simp), HKW.out.below _ (Nat.le_refl _) (fun _ _ e => e)⟩
      · have hb2 : ¬ (i : Int) < (WS1.length : Int) := by omega
        cases b
        · have hne : A ≠ C := fun e => by have := HBE.out e; cases this
          have hAC : (A == C) = false := by simpa using hne
          go_wp2
          go_ret
          exact ⟨ret1 (by simp), HKW.out.below _ (Nat.le_refl _) (fun _ _ e => e)⟩
        · go_wp2
          go_ret
          exact ⟨rfl, HKW.out.below _ (Nat.le_refl _) (fun _ _ e => e)⟩
end Go.Proofs.YtlfmfhmbkpnjbaaDoor

namespace Go.Proofs.YtlfmfhmbkpnjbaaDoor.namedP
open Go.ChangeShapes Go.WideShapes Go.ChangeAt Go.RowKit Go.Deep
set_option linter.unusedVariables false
set_option maxRecDepth 100000

theorem own : ownKnob Tryd.prog.godebug = none := by kernel_rfl
theorem laidOut : laidOutB Tryd.prog = true := by kernel_rfl
theorem cellsL : Tryd.prog.cellsOf 24 = 1 := by kernel_rfl

theorem inner {H : Type} {enc : TypeId × Value → H} {W : World} {spare : Nat → Bool} {held : Bool} {n : Nat} {cs : List Value} {x : DataW H × List MemPlace} (h : DataW.trod enc Tryd.prog W 0 spare held n 24 cs = some x) :
    ∃ p c, ∃ zs : List Int, cs = [.slice p zs.length c] ∧ ((zs.length : Nat) : Int) ≤ 9223372036854775807 ∧ RZ W p zs := by
  rcases open_ints Tryd.underlying24 Tryd.underlying3 (by kernel_rfl) h with ⟨hcs, _⟩ | ⟨x, l, c, zs, hcs, _, hl, hm, hz, _, hcell, hwz⟩
  · exact ⟨none, 0, [], hcs, by decide, fun e => absurd rfl e⟩
  · have hz' : l ≤ zs.length := by rw [hz]; split <;> omega
    have hlen : (zs.take l).length = l := by rw [List.length_take]; omega
    refine ⟨some x, c, zs.take l, by rw [hlen]; exact hcs, by rw [hlen]; unfold maxLen at hm; omega, fun hne => ?_⟩
    have hpos : 0 < l := by
      by_cases e : 0 < l
      · exact e
      · exact absurd (List.eq_nil_of_length_eq_zero (by rw [hlen]; omega)) hne
    obtain ⟨b, off, spot⟩ := x
    have h0 := hcell 0 (by omega)
    have e : (⟨b, off, spot⟩ : Addr).add 0 = ⟨b, off, spot⟩ := by simp [Addr.add]
    rw [e] at h0
    obtain rfl := World.cell?_spot h0
    refine ⟨b, off, rfl, World.block_lt_of_cell? (w := W) (a := ⟨b, off, none⟩) h0, fun j z hj => ?_⟩
    have hjl : j < l := by
      have := (List.getElem?_eq_some_iff.1 hj).1
      omega
    have hj' := hcell j (by omega)
    rw [addr_add2] at hj'
    have hzj : zs.getD j 0 = z := by
      rw [List.getElem?_take, if_pos hjl] at hj
      simp [List.getD, hj]
    rw [hzj] at hj'
    refine ⟨?_, hj'⟩
    have h6 := range_i64 hwz j
    have h7 : zs[j]?.getD 0 = z := hzj
    rw [h7] at h6
    exact h6

theorem lists_at {W : World} {b off : Nat} (n : Nat) (h : ∀ j, j < n → ∃ p c, ∃ zs : List Int, W.cell? ⟨b, off + j, none⟩ = some (.slice p zs.length c) ∧ ((zs.length : Nat) : Int) ≤ 9223372036854775807 ∧ RZ W p zs) :
    ∃ zss : List (List Int), zss.length = n ∧ ∀ j zs, zss[j]? = some zs → ∃ p c, W.cell? ⟨b, off + j, none⟩ = some (.slice p zs.length c) ∧ ((zs.length : Nat) : Int) ≤ 9223372036854775807 ∧ RZ W p zs := by
  induction n with
  | zero => exact ⟨[], rfl, fun j zs hj => by simp at hj⟩
  | succ m ih =>
    obtain ⟨zss, hl, hr⟩ := ih (fun j hj => h j (by omega))
    obtain ⟨p, c, zs, h1, h2, h3⟩ := h m (by omega)
    refine ⟨zss ++ [zs], by simp [hl], fun j ys hj => ?_⟩
    by_cases hlt : j < zss.length
    · rw [List.getElem?_append_left hlt] at hj
      exact hr j ys hj
    · have hjl := (List.getElem?_eq_some_iff.1 hj).1
      have hjm : j = m := by simp at hjl; omega
      subst hjm
      rw [List.getElem?_append_right (by omega), show j - zss.length = 0 from by omega] at hj
      obtain rfl : zs = ys := by simpa using hj
      exact ⟨p, c, h1, h2, h3⟩

theorem open_lists {H : Type} {enc : TypeId × Value → H} {W : World} {a0 : Option Addr} {len0 cap0 : Nat} {d0 : DataW H} {p0 : List MemPlace} (h0 : DataW.Trod enc Tryd.prog W 0 (fun _ => true) true 22 (.slice a0 len0 cap0) d0 p0) :
    ∃ zss : List (List Int), zss.length = len0 ∧ ((len0 : Nat) : Int) ≤ 9223372036854775807 ∧ RTZ W a0 zss := by
  obtain ⟨fuel, hf⟩ := h0
  rcases open_slice Tryd.underlying22 hf with ⟨hcs, _⟩ | ⟨a, len, cap, m, n, D, Pl, hcs, _, hl, hcm, hmm, hx, hel⟩
  · simp [Value.cells] at hcs
    obtain ⟨rfl, rfl, rfl⟩ := hcs
    exact ⟨[], rfl, by decide, fun e => absurd rfl e⟩
  · simp [Value.cells] at hcs
    obtain ⟨rfl, rfl, rfl⟩ := hcs
    rw [cellsL] at hel
    have hlm : len0 ≤ m := by rw [hmm]; split <;> omega
    have cell : ∀ j, j < len0 → ∃ p c, ∃ zs : List Int, W.cell? (a.add j) = some (.slice p zs.length c) ∧ ((zs.length : Nat) : Int) ≤ 9223372036854775807 ∧ RZ W p zs := by
      intro j hj
      obtain ⟨cs', h1, h2⟩ := hel j (by omega)
      obtain ⟨p, c, zs, rfl, q1, q2⟩ := inner h2
      have h3 := (World.cells?_some h1).2.2 0 (by omega)
      rw [Nat.mul_one] at h3
      have e : (a.add j).add 0 = a.add j := by simp [Addr.add]
      rw [e] at h3
      exact ⟨p, c, zs, h3, q1, q2⟩
    by_cases hpos : 0 < len0
    · obtain ⟨b, off, spot⟩ := a
      obtain ⟨p, c, zs, h3, _⟩ := cell 0 hpos
      have e : (⟨b, off, spot⟩ : Addr).add 0 = ⟨b, off, spot⟩ := by simp [Addr.add]
      rw [e] at h3
      obtain rfl := World.cell?_spot h3
      obtain ⟨zss, hz1, hz2⟩ := lists_at (W := W) (b := b) (off := off) len0 (fun j hj => by
        obtain ⟨p, c, zs, h4, h5, h6⟩ := cell j hj
        rw [addr_add2] at h4
        exact ⟨p, c, zs, h4, h5, h6⟩)
      exact ⟨zss, hz1, by unfold maxLen at hcm; omega, fun _ => ⟨b, off, rfl, World.block_lt_of_cell? (w := W) (a := ⟨b, off, none⟩) h3, hz2⟩⟩
    · exact ⟨[], by simp; omega, by omega, fun e => absurd rfl e⟩

/-- What is laid. -/
def laid3 : List (String × DataW Unit) := [("math/bits.deBruijn32tab", Rows.laid_math_bits_deBruijn32tab), ("math/bits.deBruijn64tab", Rows.laid_math_bits_deBruijn64tab), ("internal/strconv.uint64pow10", Rows.laid_internal_strconv_uint64pow10)]

theorem door_met (os : Os) (args : Array Value) : laidMetH Tryd.prog laid3 ((World.doorLaid Tryd.prog 4000 os).forCall (fun _ _ => 0) ⟨#[], args, []⟩).memory :=
  laidMetH_of_parts3 (fuel := 8) (laidMet_of_run' 8 (by kernel_rfl) (by kernel_rfl)) (by kernel_rfl) (by kernel_rfl)

theorem of_laid {W : World} (h : laidMetH Tryd.prog laid3 W) : Tabs W := by
  rw [MakeChecks.laidMetH_plain _ _ _ (by kernel_rfl)] at h
  have h2 := h.tail
  have h3 := h2.tail
  refine ⟨?_, ?_⟩
  · have t := Lib.tabIs_of_head (k := .u8) (zs := Lib.deBruijn64tab.map (fun n : Nat => (n : Int))) (g := 4) (t := 130) (e := 5) (n := 64) (by kernel_rfl) (by kernel_rfl) Tryd.underlying130 Tryd.underlying5 (by kernel_rfl) (by kernel_rfl) (h2 : laidMet Tryd.prog (("math/bits.deBruijn64tab", Lib.tabData .u8 (Lib.deBruijn64tab.map (fun n : Nat => (n : Int)))) :: _) W)
    have := t.cell (g := 4) (by kernel_rfl) 15 (by decide)
    exact this
  · exact Lib.tabIs_of_head (k := .u64) (zs := Lib.pow10Tab) (g := 2) (t := 125) (e := 110) (n := 20) (by kernel_rfl) (by kernel_rfl) Tryd.underlying125 Tryd.underlying110 (by kernel_rfl) (by kernel_rfl) (h3 : laidMet Tryd.prog (("internal/strconv.uint64pow10", Lib.tabData .u64 Lib.pow10Tab) :: _) W)

theorem lifted (os : Os) (started : os.Started) (H : Type) (enc : TypeId × Value → H) :
    ReturnsInHanded {} Tryd.checked os 3 .any (fun w args => (Rows.namedSpec.pre enc Tryd.prog Tryd.f3 [] false w args ∧ laidMetH Tryd.prog laid3 w) ∧ sizedMet enc Tryd.prog Tryd.f3 (OpenSpec.ofChange Rows.namedSpec) false w args)
      (Rows.namedSpec.post enc Tryd.prog Tryd.f3 false true false false) := by
  refine returnsInHanded_of_change_and (C := Tryd.checked) (X := fun w _ => laidMetH Tryd.prog laid3 w) (fun _ _ _ hh h => h.of_heap hh) own started (by kernel_rfl) Tryd.func3
    (ChangeSpec.witness_shaped (enc := enc) (C := Tryd.checked) (os := os) (X := fun w _ => laidMetH Tryd.prog laid3 w) false (World.doorLaid Tryd.prog 4000 os) #[.int .i64 0, .slice none 0 0, .slice none 0 0] 8 rfl (World.shaped_of_RefB (by kernel_rfl) (by kernel_rfl)) (by kernel_rfl) (by kernel_rfl) (by kernel_rfl) (door_met os _)) ?_
  intro W base args ds gs before hval0 hW _ _ hL _
  have hval : ∀ (j : Nat) t v, Tryd.f3.params[j]? = some t → args[j]? = some v → Value.okWide Tryd.prog W .any base t v := hval0
  have hW' := hW
  obtain ⟨p, q, hA0, hV, rfl, hfz, hnd⟩ := hW
  have hA : DataW.TrodAll enc Tryd.prog W 0 (fun _ => true) true Tryd.f3.params.toList args.toList ds p := hA0
  rw [Tryd.params3] at hA hval
  obtain ⟨v0, vs0, d0, ds0, p0, q0, hargs, rfl, rfl, h0, r0⟩ := trodAll_cons hA
  obtain ⟨v1, vs1, d1, ds1, p1, q1, rfl, rfl, rfl, h1, r1⟩ := trodAll_cons r0
  obtain ⟨v2, vs2, d2, ds2, p2, q2, rfl, rfl, rfl, h2, r2⟩ := trodAll_cons r1
  obtain ⟨rfl, rfl, rfl⟩ := trodAll_nil r2
  obtain rfl : args = #[v0, v1, v2] := by cases args; simp_all
  obtain ⟨rfl, rfl⟩ := trodVars_none hV
  obtain ⟨a1, len1, cap1, rfl⟩ := okWide_slice Tryd.underlying22 (hval 1 22 v1 rfl rfl)
  obtain ⟨a2, len2, cap2, rfl⟩ := okWide_slice Tryd.underlying22 (hval 2 22 v2 rfl rfl)
  have k1 := h1
  have k2 := h2
  have lt1 : ∀ x ∈ p1, x.block < W.heap.size := by obtain ⟨m, hm⟩ := k1; exact DataW.trod_lt m _ _ _ hm
  have lt2 : ∀ x ∈ p2, x.block < W.heap.size := by obtain ⟨m, hm⟩ := k2; exact DataW.trod_lt m _ _ _ hm
  obtain ⟨a0, rfl, rfl, rfl, w0⟩ := open_int Tryd.underlying3 (hval 0 3 v0 rfl rfl) h0
  clear hA0 hval0
  obtain ⟨zss1, rfl, hn1, hR1⟩ := open_lists h1
  obtain ⟨zss2, rfl, hn2, hR2⟩ := open_lists h2
  refine (named_walk a0 a1 a2 zss1 zss2 cap1 cap2 W (bounds_i64 w0) hn1 hn2 hR1 hR2 (of_laid hL)).mono fun e W' ⟨he, bel⟩ => ?_
  subst he
  exact ⟨_, rfl, _, _, _, [], _, [], hW', trodAll_mk1 (shut_bool Tryd.underlying4 _), (trodAll_cons_mk (shut_int Tryd.underlying3 w0) (trodAll_cons_mk (Below.trod laidOut (by kernel_rfl) (of_decide_eq_true (by kernel_rfl)) k1 bel lt1) (trodAll_cons_mk (Below.trod laidOut (by kernel_rfl) (of_decide_eq_true (by kernel_rfl)) k2 bel lt2) trodAll_mk0))), rfl, bel.frame _, fun h => by cases h⟩

theorem over : Rows.NamedSaid :=
  OpenClaim.holds_of_wide 3 Tryd.f3 rfl rfl rfl rfl rfl rfl rfl ⟨rfl, rfl, rfl, rfl, rfl⟩ rfl rfl rfl rfl rfl (by kernel_rfl) Tryd.func3 (by kernel_rfl)
    (of_decide_eq_true (by kernel_rfl)) (by unfold Func.isWrapper; first | (rw [if_pos (by decide +kernel)]; kernel_rfl) | (rw [if_neg (by decide +kernel)]; exact ⟨rfl, rfl⟩))
    (fun os started H enc _ => lifted os started H enc)
end Go.Proofs.YtlfmfhmbkpnjbaaDoor.namedP

namespace Go.Proofs.YtlfmfhmbkpnjbaaDoor
theorem named_holds : Rows.NamedCardSaid :=
  Claim7.holds_tied_plain_at .later [] [.data, .data, .data] true (true, "dc1f43daf0a5a52c1ab9db48fcd84401e891ab4bd3f0ed3d314a01bb2fbe8444") true
    namedP.over (fun _ h => by cases h) (by kernel_rfl) (fun _ h => by cases h) named_row_tie rfl ⟨rfl, rfl⟩ (by kernel_rfl) rfl
    (fun f fn hf hfn => by
      obtain rfl : f = 3 := Option.some.inj ((show Tryd.prog.funcNamed "encore/encorekeep.Named" = some 3 by kernel_rfl).symm.trans hf) |>.symm
      obtain rfl : fn = Tryd.f3 := (Option.some.inj (Tryd.func3.symm.trans hfn)).symm
      exact ⟨by kernel_rfl, fun j t ht => by
        rw [Tryd.params3] at ht
        have hm : t ∈ [3, 22, 22] := by simpa using Array.mem_of_getElem? ht
        have hall : ([3, 22, 22].all fun u => !Tryd.prog.wantsStandIn u) = true := by kernel_rfl
        exact (show Tryd.prog.wantsStandIn t = false by simpa using List.all_eq_true.1 hall t hm)⟩)
    (by kernel_rfl)
#print axioms named_holds
end Go.Proofs.YtlfmfhmbkpnjbaaDoor
