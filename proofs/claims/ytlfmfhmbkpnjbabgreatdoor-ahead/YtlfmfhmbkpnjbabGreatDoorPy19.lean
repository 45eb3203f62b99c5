import Derived.Test.YtlfmfhmbkpnjbabGreatDoorPy18
import Derived.Test.YtlfmfhmbkpnjbabGreatDoorPy11
namespace Go.Proofs.YtlfmfhmbkpnjbabGreatDoor
open Go.RowKit

theorem u8_inj {a b : Nat} (ha : a < 256) (hb : b < 256) (h : UInt8.ofNat a = UInt8.ofNat b) : a = b := by
  have := congrArg UInt8.toNat h
  simp only [UInt8.toNat_ofNat'] at this
  omega

theorem dec_form (u : Nat) : Lib.decDigits u = (if u < 10 then [] else Lib.decDigits (u / 10)) ++ [UInt8.ofNat (48 + u % 10)] := by
  by_cases h : u < 10
  · rw [Lib.decDigits, dif_pos h, if_pos h, Nat.mod_eq_of_lt h]; rfl
  · rw [Lib.decDigits, dif_neg h, if_neg h]
theorem dec_ne (u : Nat) : Lib.decDigits u ≠ [] := by rw [dec_form]; simp
theorem dec_inj (u v : Nat) (h : Lib.decDigits u = Lib.decDigits v) : u = v := by
  induction u using Nat.strongRecOn generalizing v with
  | _ u ih =>
    rw [dec_form u, dec_form v] at h
    obtain ⟨h1, h2⟩ := List.append_inj' h rfl
    have h3 : u % 10 = v % 10 := by
      simp only [List.cons.injEq, and_true] at h2
      have := u8_inj (by omega) (by omega) h2
      omega
    by_cases hu : u < 10
    · by_cases hv : v < 10
      · omega
      · rw [if_pos hu, if_neg hv] at h1
        exact absurd h1.symm (dec_ne _)
    · by_cases hv : v < 10
      · rw [if_neg hu, if_pos hv] at h1
        exact absurd h1 (dec_ne _)
      · rw [if_neg hu, if_neg hv] at h1
        have := ih (u / 10) (by omega) (v / 10) h1
        omega
theorem dec_chars (u : Nat) : ∀ c ∈ Lib.decDigits u, 48 ≤ c.toNat := by
  induction u using Nat.strongRecOn with
  | _ u ih =>
    intro c hc
    rw [dec_form u] at hc
    rcases List.mem_append.1 hc with hc | hc
    · split at hc
      · cases hc
      · exact ih (u / 10) (by omega) c hc
    · simp only [List.mem_cons, List.not_mem_nil, or_false] at hc
      rw [hc, UInt8.toNat_ofNat']
      omega
theorem itoa_inj (a b : Int) (h : Lib.itoa a = Lib.itoa b) : a = b := by
  unfold Lib.itoa at h
  split at h
  · split at h
    · simp only [List.cons.injEq, true_and] at h
      have := dec_inj _ _ h
      omega
    · have := dec_chars b.toNat 45 (by rw [← h]; simp)
      exact absurd this (by decide)
  · split at h
    · have := dec_chars a.toNat 45 (by rw [h]; simp)
      exact absurd this (by decide)
    · have := dec_inj _ _ h
      omega

theorem hexc_fin : ∀ a b : Fin 16, hexc a.val = hexc b.val → a = b := by decide
theorem hexc_big : ∀ a : Fin 16, 48 ≤ (hexc a.val).toNat := by decide
theorem hex_form (u : Nat) : hexL u = (if u < 16 then [] else hexL (u / 16)) ++ [hexc (u % 16)] := by
  by_cases h : u < 16
  · rw [hexL_one h, if_pos h, Nat.mod_eq_of_lt h]; rfl
  · rw [hexL_more h, if_neg h]
theorem hex_ne (u : Nat) : hexL u ≠ [] := by rw [hex_form]; simp
theorem hex_inj (u v : Nat) (h : hexL u = hexL v) : u = v := by
  induction u using Nat.strongRecOn generalizing v with
  | _ u ih =>
    rw [hex_form u, hex_form v] at h
    obtain ⟨h1, h2⟩ := List.append_inj' h rfl
    have h3 : u % 16 = v % 16 := by
      simp only [List.cons.injEq, and_true] at h2
      have := hexc_fin ⟨u % 16, Nat.mod_lt _ (by decide)⟩ ⟨v % 16, Nat.mod_lt _ (by decide)⟩ h2
      simpa using this
    by_cases hu : u < 16
    · by_cases hv : v < 16
      · omega
      · rw [if_pos hu, if_neg hv] at h1
        exact absurd h1.symm (hex_ne _)
    · by_cases hv : v < 16
      · rw [if_neg hu, if_pos hv] at h1
        exact absurd h1 (hex_ne _)
      · rw [if_neg hu, if_neg hv] at h1
        have := ih (u / 16) (by omega) (v / 16) h1
        omega
theorem hex_chars (u : Nat) : ∀ c ∈ hexL u, 48 ≤ c.toNat := by
  induction u using Nat.strongRecOn with
  | _ u ih =>
    intro c hc
    rw [hex_form u] at hc
    rcases List.mem_append.1 hc with hc | hc
    · split at hc
      · cases hc
      · exact ih (u / 16) (by omega) c hc
    · simp only [List.mem_cons, List.not_mem_nil, or_false] at hc
      rw [hc]
      exact hexc_big ⟨u % 16, Nat.mod_lt _ (by decide)⟩

/-- A word without blanks and ends. -/
def Clean (x : ByteArray) : Prop := (32 : UInt8) ∉ x.data.toList ∧ (10 : UInt8) ∉ x.data.toList
theorem itoaW_clean (n : Int) : Clean (itoaW n) := by
  have key : ∀ c : UInt8, c.toNat < 45 → c ∉ Lib.itoa n := fun c hc hm => by
    unfold Lib.itoa at hm
    split at hm
    · rcases List.mem_cons.1 hm with rfl | hm
      · exact absurd hc (by decide)
      · have := dec_chars _ c hm; omega
    · have := dec_chars _ c hm; omega
  unfold Clean itoaW
  simp only
  exact ⟨key 32 (by decide), key 10 (by decide)⟩
theorem hexW_clean (x : Nat) : Clean (hexW x) := by
  have key : ∀ c : UInt8, c.toNat < 45 → c ∉ hexL (x % 18446744073709551616) := fun c hc hm => by have := hex_chars _ c hm; omega
  unfold Clean hexW
  simp only
  exact ⟨key 32 (by decide), key 10 (by decide)⟩
theorem itoaW_inj {a b : Int} (h : itoaW a = itoaW b) : a = b := by
  apply itoa_inj
  have := congrArg (fun x : ByteArray => x.data.toList) h
  simpa [itoaW] using this
theorem hexW_inj {x y : Nat} (hx : x < 18446744073709551616) (hy : y < 18446744073709551616) (h : hexW x = hexW y) : x = y := by
  have := congrArg (fun x : ByteArray => x.data.toList) h
  have := hex_inj _ _ (by simpa [hexW] using this)
  rwa [Nat.mod_eq_of_lt hx, Nat.mod_eq_of_lt hy] at this

/-- What is split by one sign is split in one way. -/
theorem split_one (s : UInt8) (a b x y : List UInt8) (ha : s ∉ a) (hb : s ∉ b) (h : a ++ s :: x = b ++ s :: y) : a = b ∧ x = y := by
  induction a generalizing b with
  | nil =>
    cases b with
    | nil => simpa using h
    | cons c r =>
      simp only [List.nil_append, List.cons_append, List.cons.injEq] at h
      exact absurd (by simp [h.1]) hb
  | cons c r ih =>
    cases b with
    | nil =>
      simp only [List.nil_append, List.cons_append, List.cons.injEq] at h
      exact absurd (by simp [← h.1]) ha
    | cons d q =>
      simp only [List.cons_append, List.cons.injEq] at h
      obtain ⟨h1, h2⟩ := ih q (fun e => ha (by simp [e])) (fun e => hb (by simp [e])) h.2
      exact ⟨by rw [h.1, h1], h2⟩

theorem join_two (x y : List UInt8) (r : List (List UInt8)) : Lib.join (x :: y :: r) [32] = x ++ 32 :: Lib.join (y :: r) [32] := by
  rw [Lib.join_cons, Lib.join_cons]
  unfold Lib.joinTail
  simp
theorem join_inj (xs ys : List (List UInt8)) (hx : ∀ x ∈ xs, (32 : UInt8) ∉ x) (hy : ∀ y ∈ ys, (32 : UInt8) ∉ y) (nx : xs ≠ []) (ny : ys ≠ []) (h : Lib.join xs [32] = Lib.join ys [32]) : xs = ys := by
  induction xs generalizing ys with
  | nil => exact absurd rfl nx
  | cons x r ih =>
    cases ys with
    | nil => exact absurd rfl ny
    | cons y q =>
      cases r with
      | nil =>
        cases q with
        | nil => rw [Lib.join_one, Lib.join_one] at h; rw [h]
        | cons z q =>
          rw [Lib.join_one, join_two] at h
          exact absurd (by rw [h]; simp) (hx x (by simp))
      | cons u r =>
        cases q with
        | nil =>
          rw [Lib.join_one, join_two] at h
          exact absurd (by rw [← h]; simp) (hy y (by simp))
        | cons z q =>
          rw [join_two, join_two] at h
          obtain ⟨h1, h2⟩ := split_one 32 x y _ _ (hx x (by simp)) (hy y (by simp)) h
          rw [h1, ih (z :: q) (fun a ha => hx a (by simp [ha])) (fun a ha => hy a (by simp [ha])) (by simp) (by simp) h2]
theorem join_end (xs : List (List UInt8)) (h : ∀ x ∈ xs, (10 : UInt8) ∉ x) : (10 : UInt8) ∉ Lib.join xs [32] := by
  induction xs with
  | nil => simp [Lib.join_nil]
  | cons x r ih =>
    cases r with
    | nil => rw [Lib.join_one]; exact h x (by simp)
    | cons y r =>
      rw [join_two]
      intro hm
      rcases List.mem_append.1 hm with hm | hm
      · exact h x (by simp) hm
      · rcases List.mem_cons.1 hm with hm | hm
        · exact absurd hm (by decide)
        · exact ih (fun a ha => h a (by simp [ha])) hm

theorem ba_inj {xs ys : List ByteArray} (h : xs.map (·.data.toList) = ys.map (·.data.toList)) : xs = ys := by
  induction xs generalizing ys with
  | nil => cases ys with
    | nil => rfl
    | cons y q => simp at h
  | cons x r ih => cases ys with
    | nil => simp at h
    | cons y q =>
      simp only [List.map_cons, List.cons.injEq] at h
      rw [ih h.2, ByteArray.ext (Array.ext' h.1)]

/-- A line, and what stands behind it, are told apart in one way. -/
theorem line_inj (xs ys : List ByteArray) (a b : List UInt8) (hx : ∀ x ∈ xs, Clean x) (hy : ∀ y ∈ ys, Clean y) (nx : xs ≠ []) (ny : ys ≠ []) (h : lineL xs ++ a = lineL ys ++ b) : xs = ys ∧ a = b := by
  unfold lineL at h
  rw [List.append_assoc, List.append_assoc] at h
  obtain ⟨h1, h2⟩ := split_one 10 _ _ a b (join_end _ (fun z hz => by obtain ⟨x, hm, rfl⟩ := List.mem_map.1 hz; exact (hx x hm).2)) (join_end _ (fun z hz => by obtain ⟨x, hm, rfl⟩ := List.mem_map.1 hz; exact (hy x hm).2)) h
  refine ⟨ba_inj (join_inj _ _ (fun z hz => by obtain ⟨x, hm, rfl⟩ := List.mem_map.1 hz; exact (hx x hm).1) (fun z hz => by obtain ⟨x, hm, rfl⟩ := List.mem_map.1 hz; exact (hy x hm).1) (by simpa using nx) (by simpa using ny) h1), h2⟩

theorem cmdW_clean (c : Cmd) : ∀ x ∈ cmdW c, Clean x := by
  unfold cmdW
  split
  · simp [itoaW_clean, hexW_clean]
  · split
    · simp [itoaW_clean, hexW_clean]
    · split
      · simp [itoaW_clean]
      · split
        · simp [itoaW_clean]
        · simp [itoaW_clean]
theorem tickW_clean (cs : List Cmd) (t : Int) (L : List Mob) (ev : Int) : ∀ x ∈ tickW cs t L ev, Clean x := by
  intro x hx
  unfold tickW headW at hx
  rcases List.mem_append.1 hx with hx | hx
  · rcases List.mem_cons.1 hx with rfl | hx
    · exact itoaW_clean _
    · obtain ⟨c, _, hx⟩ := List.mem_flatMap.1 hx
      exact cmdW_clean c x hx
  · split at hx
    · rcases List.mem_cons.1 hx with rfl | hx
      · exact itoaW_clean _
      · obtain ⟨m, _, hx⟩ := List.mem_flatMap.1 hx
        unfold entW at hx
        simp only [List.mem_cons, List.not_mem_nil, or_false] at hx
        rcases hx with rfl | rfl | rfl | rfl | rfl | rfl | rfl <;> first | exact itoaW_clean _ | exact hexW_clean _
    · cases hx

/-- Commands that do the same. -/
def SmallC (c : Cmd) : Prop := c.x < 18446744073709551616 ∧ c.y < 18446744073709551616
theorem cmdW_head (c : Cmd) : ∃ r, cmdW c = itoaW c.kind :: r := by
  unfold cmdW
  split
  · exact ⟨_, rfl⟩
  · split
    · exact ⟨_, rfl⟩
    · split
      · exact ⟨_, rfl⟩
      · split <;> exact ⟨_, rfl⟩
theorem cmdW_len {c d : Cmd} (h : c.kind = d.kind) : (cmdW c).length = (cmdW d).length := by
  unfold cmdW
  rw [h]
  split
  · rfl
  · split
    · rfl
    · split
      · rfl
      · split <;> rfl
theorem cmdW_do {c d : Cmd} (hc : SmallC c) (hd : SmallC d) (h : cmdW c = cmdW d) (L : List Mob) : doM L c = doM L d := by
  obtain ⟨r, hr⟩ := cmdW_head c
  obtain ⟨r', hr'⟩ := cmdW_head d
  have hk : c.kind = d.kind := by
    rw [hr, hr'] at h
    simp only [List.cons.injEq] at h
    exact itoaW_inj h.1
  clear hr hr'
  unfold cmdW at h
  unfold doM
  rw [← hk] at h ⊢
  split
  · rename_i k1
    rw [if_pos k1, if_pos k1] at h
    simp only [List.cons.injEq, and_true, true_and] at h
    rw [itoaW_inj h.1, itoaW_inj h.2.1, hexW_inj hc.1 hd.1 h.2.2.1, hexW_inj hc.2 hd.2 h.2.2.2]
  · rename_i k1
    split
    · rename_i k2
      rw [if_neg k1, if_neg k1, if_pos k2, if_pos k2] at h
      simp only [List.cons.injEq, and_true, true_and] at h
      rw [itoaW_inj h.1, hexW_inj hc.1 hd.1 h.2.1, hexW_inj hc.2 hd.2 h.2.2]
    · rename_i k2
      split
      · rename_i k3
        rw [if_neg k1, if_neg k1, if_neg k2, if_neg k2, if_pos k3, if_pos k3] at h
        simp only [List.cons.injEq, and_true, true_and] at h
        rw [itoaW_inj h.1, itoaW_inj h.2]
      · rename_i k3
        split
        · rename_i k4
          rw [if_neg k1, if_neg k1, if_neg k2, if_neg k2, if_neg k3, if_neg k3, if_pos k4, if_pos k4] at h
          simp only [List.cons.injEq, and_true, true_and] at h
          rw [itoaW_inj h]
        · rfl

theorem cmds_do (cs ds : List Cmd) (a b : List ByteArray) (hc : ∀ c ∈ cs, SmallC c) (hd : ∀ d ∈ ds, SmallC d) (hl : cs.length = ds.length) (h : cs.flatMap cmdW ++ a = ds.flatMap cmdW ++ b) (L : List Mob) : cs.foldl doM L = ds.foldl doM L := by
  induction cs generalizing ds L with
  | nil => cases ds with
    | nil => rfl
    | cons d q => simp at hl
  | cons c r ih => cases ds with
    | nil => simp at hl
    | cons d q =>
      simp only [List.flatMap_cons, List.append_assoc] at h
      obtain ⟨r1, hr1⟩ := cmdW_head c
      obtain ⟨r2, hr2⟩ := cmdW_head d
      have hk : c.kind = d.kind := by
        rw [hr1, hr2] at h
        simp only [List.cons_append, List.cons.injEq] at h
        exact itoaW_inj h.1
      obtain ⟨h1, h2⟩ := List.append_inj h (cmdW_len hk)
      simp only [List.foldl_cons]
      rw [cmdW_do (hc c (by simp)) (hd d (by simp)) h1 L]
      exact ih q (fun x hx => hc x (by simp [hx])) (fun x hx => hd x (by simp [hx])) (by simpa using hl) h2 _

theorem tick_step (cs ds : List Cmd) (t u : Int) (L M : List Mob) (ev : Int) (hc : ∀ c ∈ cs, SmallC c) (hd : ∀ d ∈ ds, SmallC d) (h : tickW cs t L ev = tickW ds u M ev) (X : List Mob) : stepL cs X = stepL ds X := by
  unfold tickW headW at h
  simp only [List.cons_append, List.cons.injEq] at h
  have hl : cs.length = ds.length := by have := itoaW_inj h.1; omega
  unfold stepL
  rw [cmds_do cs ds _ _ hc hd hl h.2 X]

/-- The lines of a file. -/
noncomputable def linesAt (ev : Int) (css : List (List Cmd)) (k : Nat) : List (List ByteArray) := (List.range k).map (fun j => tickW (css.getD j []) ((j : Int) + 1) (mobsAt css (j + 1)) ev)
theorem fileAt_lines (ev : Int) (css : List (List Cmd)) (k : Nat) : fileAt ev css k = lineL (firstW ev) ++ (linesAt ev css k).flatMap lineL := by
  induction k with
  | zero => simp [fileAt, linesAt]
  | succ n ih =>
    show fileAt ev css n ++ _ = _
    rw [ih, List.append_assoc]
    congr 1
    simp [linesAt, List.range_succ]
theorem lines_inj (A B : List (List ByteArray)) (hA : ∀ l ∈ A, (∀ x ∈ l, Clean x) ∧ l ≠ []) (hB : ∀ l ∈ B, (∀ x ∈ l, Clean x) ∧ l ≠ []) (h : A.flatMap lineL = B.flatMap lineL) : A = B := by
  induction A generalizing B with
  | nil => cases B with
    | nil => rfl
    | cons y q =>
      simp only [List.flatMap_nil, List.flatMap_cons] at h
      exact absurd h.symm (by unfold lineL; simp)
  | cons x r ih => cases B with
    | nil =>
      simp only [List.flatMap_nil, List.flatMap_cons] at h
      exact absurd h (by unfold lineL; simp)
    | cons y q =>
      simp only [List.flatMap_cons] at h
      obtain ⟨h1, h2⟩ := line_inj x y _ _ (hA x (by simp)).1 (hB y (by simp)).1 (hA x (by simp)).2 (hB y (by simp)).2 h
      rw [h1, ih q (fun l hl => hA l (by simp [hl])) (fun l hl => hB l (by simp [hl])) h2]

theorem file_inj (ev : Int) (css dss : List (List Cmd)) (k m : Nat) (hc : ∀ cs ∈ css, ∀ c ∈ cs, SmallC c) (hd : ∀ cs ∈ dss, ∀ c ∈ cs, SmallC c) (h : fileAt ev css k = fileAt ev dss m) : k = m ∧ ∀ j, j ≤ k → mobsAt css j = mobsAt dss j := by
  rw [fileAt_lines, fileAt_lines] at h
  have hl := List.append_cancel_left h
  have cl : ∀ (es : List (List Cmd)) (n : Nat), ∀ l ∈ linesAt ev es n, (∀ x ∈ l, Clean x) ∧ l ≠ [] := by
    intro es n l hl
    simp only [linesAt, List.mem_map] at hl
    obtain ⟨j, _, rfl⟩ := hl
    exact ⟨tickW_clean _ _ _ _, by simp [tickW, headW]⟩
  have e := lines_inj _ _ (cl css k) (cl dss m) hl
  have hkm : k = m := by
    have := congrArg List.length e
    simpa [linesAt] using this
  subst hkm
  have sm : ∀ (es : List (List Cmd)), (∀ cs ∈ es, ∀ c ∈ cs, SmallC c) → ∀ j, ∀ c ∈ es.getD j [], SmallC c := by
    intro es he j c hc
    by_cases hj : j < es.length
    · rw [show es.getD j [] = es[j] from by simp [List.getD, hj]] at hc
      exact he _ (List.getElem_mem hj) c hc
    · rw [show es.getD j [] = [] from by simp [List.getD, List.getElem?_eq_none (show es.length ≤ j by omega)]] at hc
      cases hc
  refine ⟨rfl, fun j hj => ?_⟩
  induction j with
  | zero => rfl
  | succ n ih =>
    have hn := ih (by omega)
    have ht : tickW (css.getD n []) ((n : Int) + 1) (mobsAt css (n + 1)) ev = tickW (dss.getD n []) ((n : Int) + 1) (mobsAt dss (n + 1)) ev := by
      have := congrArg (fun l => l[n]?) e
      simpa [linesAt, show n < k by omega] using this
    show stepL (css.getD n []) (mobsAt css n) = stepL (dss.getD n []) (mobsAt dss n)
    rw [← hn]
    exact tick_step _ _ _ _ _ _ ev (sm css hc n) (sm dss hd n) ht _

theorem way_small : ∀ k : Fin 201, floatOfInt .f32 ((k.val : Int) - 100) < 18446744073709551616 ∧ fmul (floatOfInt .f32 ((k.val : Int) - 100)) 1092616192 < 18446744073709551616 := by decide +kernel
theorem wayOf_small (z : Int) : wayOf z < 18446744073709551616 ∧ fmul (wayOf z) 1092616192 < 18446744073709551616 := way_small ⟨pickN_keep z 201, pickN_lt_keep z 201 (by decide)⟩
theorem cmdsOf_small (zs : List Int) : ∀ c ∈ cmdsOf zs, SmallC c := by
  intro c hc
  simp only [cmdsOf, List.mem_map] at hc
  obtain ⟨k, _, rfl⟩ := hc
  unfold cmdOf
  split
  · exact ⟨(wayOf_small _).2, (wayOf_small _).2⟩
  · exact ⟨(wayOf_small _).1, (wayOf_small _).1⟩
end Go.Proofs.YtlfmfhmbkpnjbabGreatDoor

namespace Go.Proofs.YtlfmfhmbkpnjbabGreatDoor
open Go.RowKit

/-- A reader that stands ahead of some words. -/
def rdOf : List (List UInt8) → Rd
  | [] => ⟨[], true, false⟩
  | x :: r => ⟨Lib.join (x :: r) [32], false, false⟩
theorem word_rd (x : List UInt8) (r : List (List UInt8)) (h : (32 : UInt8) ∉ x) : (rdOf (x :: r)).word = (x, rdOf r) := by
  cases r with
  | nil =>
    unfold rdOf Rd.word
    simp only [Lib.join_one, cutL_miss 32 x h]
    rfl
  | cons y r =>
    unfold rdOf Rd.word
    simp only [join_two, cutL_hit 32 x _ h]
    rfl
theorem int_rd (n lo hi : Int) (r : List (List UInt8)) (h : -9223372036854775808 ≤ n ∧ n ≤ 9223372036854775807) (hl : lo ≤ n ∧ n ≤ hi) : (rdOf (Lib.itoa n :: r)).int lo hi = (n, rdOf r) := by
  have hc : (32 : UInt8) ∉ Lib.itoa n := (itoaW_clean n).1
  unfold Rd.int
  rw [word_rd _ _ hc]
  simp only [numL_itoa n h, hl, and_self, if_true]
theorem any_rd (n : Int) (r : List (List UInt8)) (h : -9223372036854775808 ≤ n ∧ n ≤ 9223372036854775807) : (rdOf (Lib.itoa n :: r)).any = (n, rdOf r) := int_rd n _ _ r h h
theorem flt_rd (u : Nat) (r : List (List UInt8)) (h : u < 4294967296) : (rdOf (hexL u :: r)).flt = (u, rdOf r) := by
  have hc : (32 : UInt8) ∉ hexL u := by
    intro hm
    have := hex_chars u _ hm
    exact absurd this (by decide)
  unfold Rd.flt
  rw [word_rd _ _ hc]
  simp only [bitsL_hex u h]

def listsOf (xs : List ByteArray) : List (List UInt8) := xs.map (·.data.toList)
theorem lists_itoa (n : Int) : (itoaW n).data.toList = Lib.itoa n := by simp [itoaW]
theorem lists_hex (u : Nat) (h : u < 4294967296) : (hexW u).data.toList = hexL u := by simp [hexW, Nat.mod_eq_of_lt (show u < 18446744073709551616 by omega)]

/-- A command as far as its kind uses it. -/
def normC (c : Cmd) : Cmd :=
  if c.kind = 1 then ⟨1, c.id, c.team, c.x, c.y, 0⟩ else if c.kind = 2 then ⟨2, c.id, 0, c.x, c.y, 0⟩ else if c.kind = 3 then ⟨3, c.id, 0, 0, 0, c.n⟩ else if c.kind = 4 then ⟨4, c.id, 0, 0, 0, 0⟩ else ⟨c.kind, 0, 0, 0, 0, 0⟩
theorem normC_do (c : Cmd) (L : List Mob) : doM L (normC c) = doM L c := by
  unfold normC doM
  by_cases h1 : c.kind = 1
  · simp [h1]
  · by_cases h2 : c.kind = 2
    · simp [h2]
    · by_cases h3 : c.kind = 3
      · simp [h3]
      · by_cases h4 : c.kind = 4
        · simp [h4]
        · simp [h1, h2, h3, h4]
theorem normC_step (cs : List Cmd) (L : List Mob) : stepL (cs.map normC) L = stepL cs L := by
  have : ∀ (cs : List Cmd) (L : List Mob), (cs.map normC).foldl doM L = cs.foldl doM L := by
    intro cs
    induction cs with
    | nil => intro L; rfl
    | cons c r ih => intro L; simp only [List.map_cons, List.foldl_cons, normC_do, ih]
  unfold stepL
  rw [this]

structure F32M (m : Mob) : Prop where
  x : m.x < 4294967296
  y : m.y < 4294967296
  vx : m.vx < 4294967296
  vy : m.vy < 4294967296

theorem cmd_rd (c : Cmd) (r : List (List UInt8)) (hI : IntC c) (hF : F32C c) : (rdOf (listsOf (cmdW c) ++ r)).cmd = (normC c, rdOf r) := by
  have hi := hI.id
  have ht := hI.team
  have hn := hI.n
  have hk := hI.kind
  unfold cmdW normC
  by_cases h1 : c.kind = 1
  · simp only [h1, if_true, listsOf, List.map_cons, List.map_nil, List.cons_append, List.nil_append, lists_itoa, lists_hex _ hF.x, lists_hex _ hF.y]
    unfold Rd.cmd
    simp only [any_rd 1 _ (by omega), any_rd _ _ hi, any_rd _ _ ht, flt_rd _ _ hF.x, flt_rd _ _ hF.y, if_true]
  · by_cases h2 : c.kind = 2
    · simp only [h2, if_true, listsOf, List.map_cons, List.map_nil, List.cons_append, List.nil_append, lists_itoa, lists_hex _ hF.x, lists_hex _ hF.y, show ¬ ((2 : Int) = 1) by decide, if_false]
      unfold Rd.cmd
      simp only [any_rd 2 _ (by omega), any_rd _ _ hi, flt_rd _ _ hF.x, flt_rd _ _ hF.y, if_true, show ¬ ((2 : Int) = 1) by decide, if_false]
    · by_cases h3 : c.kind = 3
      · simp only [h3, if_true, listsOf, List.map_cons, List.map_nil, List.cons_append, List.nil_append, lists_itoa, show ¬ ((3 : Int) = 1) by decide, show ¬ ((3 : Int) = 2) by decide, if_false]
        unfold Rd.cmd
        simp only [any_rd 3 _ (by omega), any_rd _ _ hi, any_rd _ _ hn, if_true, show ¬ ((3 : Int) = 1) by decide, show ¬ ((3 : Int) = 2) by decide, if_false]
      · by_cases h4 : c.kind = 4
        · simp only [h4, if_true, listsOf, List.map_cons, List.map_nil, List.cons_append, List.nil_append, lists_itoa, show ¬ ((4 : Int) = 1) by decide, show ¬ ((4 : Int) = 2) by decide, show ¬ ((4 : Int) = 3) by decide, if_false]
          unfold Rd.cmd
          simp only [any_rd 4 _ (by omega), any_rd _ _ hi, if_true, show ¬ ((4 : Int) = 1) by decide, show ¬ ((4 : Int) = 2) by decide, show ¬ ((4 : Int) = 3) by decide, if_false]
        · simp only [h1, h2, h3, h4, listsOf, List.map_cons, List.map_nil, List.cons_append, List.nil_append, lists_itoa, if_false]
          unfold Rd.cmd
          simp only [any_rd _ _ hk, h1, h2, h3, h4, if_false]
theorem cmds_rd (cs : List Cmd) (r : List (List UInt8)) (k : Nat) (hk : k ≤ cs.length) (hI : ∀ c ∈ cs, IntC c) (hF : ∀ c ∈ cs, F32C c) :
    (rdOf (listsOf (cs.flatMap cmdW) ++ r)).cmds k = ((cs.take k).map normC, rdOf (listsOf ((cs.drop k).flatMap cmdW) ++ r)) := by
  induction k with
  | zero => simp [Rd.cmds]
  | succ n ih =>
    have hn : n < cs.length := by omega
    simp only [Rd.cmds, ih (by omega)]
    have e : listsOf ((cs.drop n).flatMap cmdW) ++ r = listsOf (cmdW cs[n]) ++ (listsOf ((cs.drop (n + 1)).flatMap cmdW) ++ r) := by
      rw [List.drop_eq_getElem_cons hn, List.flatMap_cons]
      simp only [listsOf, List.map_append, List.append_assoc]
    rw [e, cmd_rd _ _ (hI _ (List.getElem_mem hn)) (hF _ (List.getElem_mem hn))]
    simp only [Prod.mk.injEq, and_true]
    rw [List.take_succ_eq_append_getElem hn, List.map_append]
    rfl
theorem cmdL_rd (cs : List Cmd) (r : List (List UInt8)) (hl : cs.length ≤ 64) (hI : ∀ c ∈ cs, IntC c) (hF : ∀ c ∈ cs, F32C c) : (rdOf (listsOf (headW cs) ++ r)).cmdL = (cs.map normC, rdOf r) := by
  have e : listsOf (headW cs) ++ r = Lib.itoa cs.length :: (listsOf (cs.flatMap cmdW) ++ r) := by simp [headW, listsOf, lists_itoa]
  unfold Rd.cmdL
  rw [e, int_rd cs.length 0 64 _ (by omega) (by omega)]
  have := cmds_rd cs r cs.length (Nat.le_refl _) hI hF
  simpa [listsOf] using this
theorem ent_rd (m : Mob) (r : List (List UInt8)) (hI : IntM m) (hF : F32M m) : (rdOf (listsOf (entW m) ++ r)).ent = (m, rdOf r) := by
  simp only [entW, listsOf, List.map_cons, List.map_nil, List.cons_append, List.nil_append, lists_itoa, lists_hex _ hF.x, lists_hex _ hF.y, lists_hex _ hF.vx, lists_hex _ hF.vy]
  unfold Rd.ent
  simp only [any_rd _ _ hI.id, any_rd _ _ hI.team, any_rd _ _ hI.health, flt_rd _ _ hF.x, flt_rd _ _ hF.y, flt_rd _ _ hF.vx, flt_rd _ _ hF.vy]
theorem ents_rd (L : List Mob) (r : List (List UInt8)) (k : Nat) (hk : k ≤ L.length) (hI : ∀ m ∈ L, IntM m) (hF : ∀ m ∈ L, F32M m) :
    (rdOf (listsOf (L.flatMap entW) ++ r)).ents k = (L.take k, rdOf (listsOf ((L.drop k).flatMap entW) ++ r)) := by
  induction k with
  | zero => simp [Rd.ents]
  | succ n ih =>
    have hn : n < L.length := by omega
    simp only [Rd.ents, ih (by omega)]
    have e : listsOf ((L.drop n).flatMap entW) ++ r = listsOf (entW L[n]) ++ (listsOf ((L.drop (n + 1)).flatMap entW) ++ r) := by
      rw [List.drop_eq_getElem_cons hn, List.flatMap_cons]
      simp only [listsOf, List.map_append, List.append_assoc]
    rw [e, ent_rd _ _ (hI _ (List.getElem_mem hn)) (hF _ (List.getElem_mem hn))]
    simp only [Prod.mk.injEq, and_true]
    exact (List.take_succ_eq_append_getElem hn).symm
theorem entL_rd (L : List Mob) (hl : L.length ≤ 32) (hI : ∀ m ∈ L, IntM m) (hF : ∀ m ∈ L, F32M m) : (rdOf (listsOf (itoaW L.length :: L.flatMap entW))).entL = (L, rdOf []) := by
  have e : listsOf (itoaW L.length :: L.flatMap entW) = Lib.itoa L.length :: (listsOf (L.flatMap entW) ++ []) := by simp [listsOf, lists_itoa]
  unfold Rd.entL
  rw [e, int_rd L.length 0 32 _ (by omega) (by omega)]
  have := ents_rd L [] L.length (Nat.le_refl _) hI hF
  simpa [listsOf] using this

/-- A line without its end. -/
def bodyL (xs : List ByteArray) : List UInt8 := Lib.join (listsOf xs) [32]
theorem body_line (xs : List ByteArray) : lineL xs = bodyL xs ++ [10] := rfl
theorem of_body (xs : List ByteArray) (h : xs ≠ []) : Rd.of (bodyL xs) = rdOf (listsOf xs) := by
  cases xs with
  | nil => exact absurd rfl h
  | cons x r => rfl
theorem body_clean (xs : List ByteArray) (h : ∀ x ∈ xs, Clean x) : (10 : UInt8) ∉ bodyL xs :=
  join_end _ (fun z hz => by obtain ⟨x, hm, rfl⟩ := List.mem_map.1 hz; exact (h x hm).2)

/-- The line of a tick goes on with its match. -/
theorem add_tick (m : Mt) (cs : List Cmd) (L : List Mob) (hlen : m.cmds.length < 500) (hl : cs.length ≤ 64) (hI : ∀ c ∈ cs, IntC c) (hF : ∀ c ∈ cs, F32C c)
    (hw : worldB ((m.cmds.length : Int) + 1) L = true) (hIM : ∀ x ∈ L, IntM x) (hFM : ∀ x ∈ L, F32M x) :
    m.add (bodyL (tickW cs ((m.cmds.length : Int) + 1) L m.ev)) = some ⟨m.ev, m.cmds ++ [cs.map normC], if (m.cmds.length + 1) % m.ev = 0 then m.whole ++ [L] else m.whole⟩ := by
  have h32 : L.length ≤ 32 := (worldB_fine hw).2.2.short
  have hm0 : ((m.cmds.length : Int) + 1) % (m.ev : Int) = (((m.cmds.length + 1) % m.ev : Nat) : Int) := by rw [Int.natCast_emod]; rfl
  have hmod : (((m.cmds.length : Int) + 1) % (m.ev : Int) = 0) ↔ (m.cmds.length + 1) % m.ev = 0 := by rw [hm0]; omega
  have ho := of_body (tickW cs ((m.cmds.length : Int) + 1) L m.ev) (by simp [tickW, headW])
  unfold Mt.add
  rw [if_neg (by omega), ho]
  by_cases h0 : (m.cmds.length + 1) % m.ev = 0
  · have e : listsOf (tickW cs ((m.cmds.length : Int) + 1) L m.ev) = listsOf (headW cs) ++ listsOf (itoaW L.length :: L.flatMap entW) := by
      unfold tickW
      rw [if_pos (hmod.2 h0)]
      simp [listsOf]
    rw [e, cmdL_rd cs _ hl hI hF]
    simp only [if_pos h0]
    rw [entL_rd L h32 hIM hFM]
    simp only [hw, true_and]
    rw [if_pos (show (rdOf []).done = true from rfl)]
  · have e : listsOf (tickW cs ((m.cmds.length : Int) + 1) L m.ev) = listsOf (headW cs) ++ [] := by
      unfold tickW
      rw [if_neg (fun q => h0 (hmod.1 q))]
      simp [listsOf]
    rw [e, cmdL_rd cs _ hl hI hF]
    simp only [if_neg h0]
    rw [if_pos (show (rdOf []).done = true from rfl)]
theorem every_first (ev : Nat) (h : 1 ≤ ev ∧ ev ≤ 64) : everyL (bodyL (firstW ev)) = some ev := by
  have ho := of_body (firstW ev) (by simp [firstW])
  have e : listsOf (firstW ev) = encoreL :: [Lib.itoa ev] := by simp [listsOf, firstW, lists_itoa, encoreL]
  unfold everyL
  rw [ho, e, word_rd _ _ (by decide), int_rd ev 1 64 _ (by omega) (by omega)]
  rw [if_pos ⟨rfl, rfl⟩]
  simp

theorem linesL_skip (a b : List UInt8) (acc : List UInt8) (h : (10 : UInt8) ∉ a) : linesL acc (a ++ 10 :: b) = (acc ++ a) :: linesL [] b := by
  induction a generalizing acc with
  | nil => simp [linesL]
  | cons x r ih =>
    have hx : ¬ x = 10 := fun e => h (by simp [e])
    simp only [List.cons_append, linesL, if_neg hx]
    rw [ih _ (fun e => h (by simp [e]))]
    simp
theorem linesL_none (a acc : List UInt8) (h : (10 : UInt8) ∉ a) : linesL acc a = [] := by
  induction a generalizing acc with
  | nil => rfl
  | cons x r ih =>
    have hx : ¬ x = 10 := fun e => h (by simp [e])
    simp only [linesL, if_neg hx]
    exact ih _ (fun e => h (by simp [e]))
theorem linesL_flat (ls : List (List ByteArray)) (t : List UInt8) (h : ∀ l ∈ ls, ∀ x ∈ l, Clean x) (ht : (10 : UInt8) ∉ t) : linesL [] (ls.flatMap lineL ++ t) = ls.map bodyL := by
  induction ls with
  | nil => simpa using linesL_none t [] ht
  | cons l r ih =>
    simp only [List.flatMap_cons, body_line, List.append_assoc, List.map_cons]
    rw [show bodyL l ++ ([10] ++ (List.flatMap lineL r ++ t)) = bodyL l ++ 10 :: (List.flatMap lineL r ++ t) from rfl, linesL_skip _ _ _ (body_clean l (h l (by simp)))]
    rw [ih (fun l hl => h l (by simp [hl]))]
    rfl

/-! Numbers with a point are words of 32 bits. -/
theorem word_lt (neg : Bool) (r : Nat) (h : r < 2147483648) : Ieee.single.word neg r < 4294967296 := by
  unfold Ieee.Format.word
  rw [sign_single]
  split <;> omega
theorem write_lt (d : Ieee.Datum) : Ieee.single.write d < 4294967296 := by
  have hi := inf_single
  cases d with
  | number s m e =>
    show Ieee.single.nearest s m e < _
    unfold Ieee.Format.nearest
    dsimp only
    split
    · exact word_lt _ _ (by omega)
    · refine word_lt _ _ (Nat.lt_of_le_of_lt (Nat.min_le_right ..) (by omega))
  | infinity s => exact word_lt _ _ (by omega)
  | nan s f =>
    show Ieee.single.word s (Ieee.single.infRung + f % Ieee.single.binade) < _
    have hb := bin_single
    have := Nat.mod_lt f (show 0 < Ieee.single.binade by omega)
    exact word_lt _ _ (by omega)
theorem fadd_lt (x y : Nat) : fadd x y < 4294967296 := by
  unfold fadd Ieee.Format.add
  cases (Ieee.Datum.sum (Ieee.single.read x) (Ieee.single.read y)) with
  | none => simp
  | some d => exact write_lt d
theorem fmul_lt (x y : Nat) : fmul x y < 4294967296 := by
  unfold fmul Ieee.Format.mul
  cases (Ieee.Datum.product (Ieee.single.read x) (Ieee.single.read y)) with
  | none => simp
  | some d => exact write_lt d
theorem moved_lt (x v : Nat) : (movedF x v).1 < 4294967296 ∧ (movedF x v).2 < 4294967296 := by
  unfold movedF
  split
  · exact ⟨show (3296329728 : Nat) < 4294967296 by decide, fmul_lt _ _⟩
  · split
    · exact ⟨show (1148846080 : Nat) < 4294967296 by decide, fmul_lt _ _⟩
    · exact ⟨fadd_lt _ _, fmul_lt _ _⟩
theorem doM_f32 (L : List Mob) (c : Cmd) (h : ∀ m ∈ L, F32M m) (hc : F32C c) : ∀ m ∈ doM L c, F32M m := by
  intro m hm
  unfold doM at hm
  have hset : ∀ (f : Mob → Mob) (i : Nat), (∀ m, F32M m → F32M (f m)) → m ∈ setAt L i f → F32M m := by
    intro f i hf hm
    unfold setAt at hm
    split at hm
    · rename_i x hx
      rcases List.mem_or_eq_of_mem_set hm with hm | rfl
      · exact h m hm
      · exact hf x (h x (List.mem_of_getElem? hx))
    · exact h m hm
  split at hm
  · split at hm
    · rcases List.mem_append.1 hm with hm | hm
      · exact h m (List.mem_of_mem_take hm)
      · rcases List.mem_cons.1 hm with rfl | hm
        · exact ⟨hc.x, hc.y, show (0 : Nat) < 4294967296 by decide, show (0 : Nat) < 4294967296 by decide⟩
        · exact h m (List.mem_of_mem_drop hm)
    · exact h m hm
  · split at hm
    · split at hm
      · refine hset _ _ ?_ hm
        exact fun m hm => ⟨hm.x, hm.y, fadd_lt _ _, fadd_lt _ _⟩
      · exact h m hm
    · split at hm
      · split at hm
        · refine hset _ _ ?_ hm
          exact fun m hm => ⟨hm.x, hm.y, hm.vx, hm.vy⟩
        · exact h m hm
      · split at hm
        · split at hm
          · rcases List.mem_append.1 hm with hm | hm
            · exact h m (List.mem_of_mem_take hm)
            · exact h m (List.mem_of_mem_drop hm)
          · exact h m hm
        · exact h m hm
theorem stepL_f32 (cs : List Cmd) (L : List Mob) (h : ∀ m ∈ L, F32M m) (hc : ∀ c ∈ cs, F32C c) : ∀ m ∈ stepL cs L, F32M m := by
  have hf : ∀ (cs : List Cmd) (L : List Mob), (∀ m ∈ L, F32M m) → (∀ c ∈ cs, F32C c) → ∀ m ∈ cs.foldl doM L, F32M m := by
    intro cs
    induction cs with
    | nil => intro L h _; exact h
    | cons c r ih => intro L h hc; exact ih _ (doM_f32 L c h (hc c (by simp))) (fun x hx => hc x (by simp [hx]))
  intro m hm
  unfold stepL at hm
  obtain ⟨x, hx, rfl⟩ := List.mem_map.1 hm
  have := hf cs L h hc x (List.mem_filter.1 hx).1
  exact ⟨(moved_lt _ _).1, (moved_lt _ _).1, (moved_lt _ _).2, (moved_lt _ _).2⟩

/-- What the file of a match tells. -/
noncomputable def recM (ev : Nat) (css : List (List Cmd)) (k : Nat) : Mt := ⟨ev, (List.range k).map (fun j => (css.getD j []).map normC), (List.range (k / ev + 1)).map (fun q => mobsAt css (q * ev))⟩
theorem adds_app (m : Mt) (a b : List (List UInt8)) : m.adds (a ++ b) = match m.adds a with | some m' => m'.adds b | none => none := by
  induction a generalizing m with
  | nil => rfl
  | cons x r ih =>
    simp only [List.cons_append, Mt.adds]
    cases m.add x with
    | none => rfl
    | some m' => exact ih m'
/-- Commands that can be written down. -/
structure CsOk (css : List (List Cmd)) : Prop where
  few : ∀ j, (css.getD j []).length ≤ 64
  int : ∀ j, ∀ c ∈ css.getD j [], IntC c
  f32 : ∀ j, ∀ c ∈ css.getD j [], F32C c
theorem mobs_f32 (css : List (List Cmd)) (h : CsOk css) (k : Nat) : ∀ m ∈ mobsAt css k, F32M m := by
  induction k with
  | zero => intro m hm; cases hm
  | succ n ih => exact stepL_f32 _ _ ih (h.f32 n)
theorem recM_len (ev : Nat) (css : List (List Cmd)) (k : Nat) : (recM ev css k).cmds.length = k := by simp [recM]
theorem mobsAt_world5 (css : List (List Cmd)) (k : Nat) (hk : k ≤ 500) : worldB (k : Int) (mobsAt css k) = true := by
  induction k with
  | zero => exact worldB_true 0 [] ⟨by decide, by decide⟩ (fun j hj _ => absurd hj (Nat.not_lt_zero _))
  | succ n ih =>
    have := worldB_next (css.getD n []) (ih (by omega)) (by omega)
    rw [show ((n + 1 : Nat) : Int) = (n : Int) + 1 from rfl]
    exact this
theorem recM_add (ev : Nat) (css : List (List Cmd)) (k : Nat) (hk : k < 500) (h : CsOk css) :
    (recM ev css k).add (bodyL (tickW (css.getD k []) ((k : Int) + 1) (mobsAt css (k + 1)) ev)) = some (recM ev css (k + 1)) := by
  have hw := mobsAt_world5 css (k + 1) (by omega)
  have hl := recM_len ev css k
  have := add_tick (recM ev css k) (css.getD k []) (mobsAt css (k + 1)) (by omega) (h.few k) (h.int k) (h.f32 k) (by rw [hl]; exact hw) (mob_int hw) (mobs_f32 css h (k + 1))
  rw [hl] at this
  refine this.trans (congrArg some ?_)
  unfold recM
  simp only [Mt.mk.injEq, true_and]
  refine ⟨by simp [List.range_succ], ?_⟩
  have hd : (k + 1) / ev = if (k + 1) % ev = 0 then k / ev + 1 else k / ev := by
    rw [Nat.succ_div]
    simp only [Nat.dvd_iff_mod_eq_zero]
    split <;> rfl
  by_cases h0 : (k + 1) % ev = 0
  · rw [if_pos h0]
    rw [if_pos h0] at hd
    have hm := Nat.div_add_mod (k + 1) ev
    rw [h0, hd, Nat.mul_comm] at hm
    rw [hd, List.range_succ (n := k / ev + 1), List.map_append]
    simp only [List.map_cons, List.map_nil]
    rw [show (k / ev + 1) * ev = k + 1 by omega]
  · rw [if_neg h0]
    rw [if_neg h0] at hd
    rw [hd]
theorem recM_adds (ev : Nat) (css : List (List Cmd)) (k : Nat) (hk : k ≤ 500) (h : CsOk css) :
    (Mt.mk ev [] [[]]).adds ((linesAt ev css k).map bodyL) = some (recM ev css k) := by
  induction k with
  | zero =>
    simp only [linesAt, List.range_zero, List.map_nil, Mt.adds]
    congr 1
    unfold recM
    simp [show (0 : Nat) / ev = 0 by simp, mobsAt]
  | succ n ih =>
    have e : linesAt ev css (n + 1) = linesAt ev css n ++ [tickW (css.getD n []) ((n : Int) + 1) (mobsAt css (n + 1)) ev] := by simp [linesAt, List.range_succ]
    rw [e, List.map_append, adds_app, ih (by omega)]
    simp only [List.map_cons, List.map_nil, Mt.adds]
    rw [recM_add ev css n (by omega) h]
theorem lines_clean (ev : Int) (css : List (List Cmd)) (k : Nat) : ∀ l ∈ linesAt ev css k, ∀ x ∈ l, Clean x := by
  intro l hl
  simp only [linesAt, List.mem_map] at hl
  obtain ⟨j, _, rfl⟩ := hl
  exact tickW_clean _ _ _ _
theorem first_clean (ev : Int) : ∀ x ∈ firstW ev, Clean x := by
  intro x hx
  simp only [firstW, List.mem_cons, List.not_mem_nil, or_false] at hx
  rcases hx with rfl | rfl
  · exact ⟨by decide, by decide⟩
  · exact itoaW_clean _
/-- The file of a match, and something behind it that has no end. -/
theorem matchL_file (ev : Nat) (css : List (List Cmd)) (k : Nat) (t : List UInt8) (he : 1 ≤ ev ∧ ev ≤ 64) (hk : k ≤ 500) (h : CsOk css) (ht : (10 : UInt8) ∉ t) :
    matchL (fileAt ev css k ++ t) = some (recM ev css k) := by
  have e : fileAt ev css k ++ t = (firstW ev :: linesAt ev css k).flatMap lineL ++ t := by rw [fileAt_lines]; simp
  unfold matchL
  rw [e, linesL_flat _ t ?_ ht]
  · simp only [List.map_cons, every_first ev he]
    exact recM_adds ev css k hk h
  · intro l hl
    rcases List.mem_cons.1 hl with rfl | hl
    · exact first_clean _
    · exact lines_clean _ _ _ l hl
/-- A text that is shorter than the first line. -/
theorem matchL_short (ev : Nat) (css : List (List Cmd)) (k n : Nat) (h : n < (fileAt ev css 0).length) : matchL ((fileAt ev css k).take n) = none := by
  have e : (fileAt ev css k).take n = (bodyL (firstW ev)).take n := by
    have h1 : fileAt ev css 0 = bodyL (firstW ev) ++ [10] := rfl
    rw [h1] at h
    simp only [List.length_append, List.length_cons, List.length_nil] at h
    rw [fileAt_lines, body_line, List.append_assoc, List.take_append_of_le_length (by omega)]
  have hc : (10 : UInt8) ∉ (bodyL (firstW ev)).take n := fun hm => body_clean _ (first_clean _) (List.mem_of_mem_take hm)
  unfold matchL
  rw [e, linesL_none _ _ hc]
/-- A cut file: as many ticks as lie in it wholly. -/
theorem file_cut (ev : Int) (css : List (List Cmd)) (k j n : Nat) (hj : j ≤ k) (h1 : (fileAt ev css j).length ≤ n) (h2 : j = k ∨ n < (fileAt ev css (j + 1)).length) :
    ∃ t, (fileAt ev css k).take n = fileAt ev css j ++ t ∧ (10 : UInt8) ∉ t := by
  have pre : ∀ d, ∃ r, fileAt ev css (j + d) = fileAt ev css j ++ r := by
    intro d
    induction d with
    | zero => exact ⟨[], by simp⟩
    | succ d ih =>
      obtain ⟨r, hr⟩ := ih
      exact ⟨r ++ lineL (tickW (css.getD (j + d) []) (((j + d : Nat) : Int) + 1) (mobsAt css (j + d + 1)) ev), by show fileAt ev css (j + d) ++ _ = _; rw [hr]; simp⟩
  rcases h2 with rfl | h2
  · exact ⟨[], by rw [List.take_of_length_le h1]; simp, by simp⟩
  · by_cases hjk : j = k
    · subst hjk
      exact ⟨[], by rw [List.take_of_length_le h1]; simp, by simp⟩
    · have pre1 : ∃ r, fileAt ev css k = fileAt ev css (j + 1) ++ r := by
        have : ∀ d, ∃ r, fileAt ev css (j + 1 + d) = fileAt ev css (j + 1) ++ r := by
          intro d
          induction d with
          | zero => exact ⟨[], by simp⟩
          | succ d ih =>
            obtain ⟨r, hr⟩ := ih
            exact ⟨r ++ lineL (tickW (css.getD (j + 1 + d) []) (((j + 1 + d : Nat) : Int) + 1) (mobsAt css (j + 1 + d + 1)) ev), by show fileAt ev css (j + 1 + d) ++ _ = _; rw [hr]; simp⟩
        have := this (k - (j + 1))
        rwa [show j + 1 + (k - (j + 1)) = k by omega] at this
      obtain ⟨r, hr⟩ := pre1
      refine ⟨(bodyL (tickW (css.getD j []) ((j : Int) + 1) (mobsAt css (j + 1)) ev)).take (n - (fileAt ev css j).length), ?_, ?_⟩
      · have h3 : fileAt ev css (j + 1) = fileAt ev css j ++ (bodyL (tickW (css.getD j []) ((j : Int) + 1) (mobsAt css (j + 1)) ev) ++ [10]) := rfl
        rw [h3] at h2
        simp only [List.length_append, List.length_cons, List.length_nil] at h2
        rw [hr, h3, List.append_assoc, List.append_assoc, List.take_append, List.take_of_length_le h1]
        congr 1
        rw [List.take_append_of_le_length (by omega)]
      · exact fun hm => body_clean _ (tickW_clean _ _ _ _) (List.mem_of_mem_take hm)
/-- The player of a file shows what was recorded. -/
theorem recM_at (ev : Nat) (css : List (List Cmd)) (k t : Nat) (ht : t ≤ k) : (recM ev css k).at t = mobsAt css t := by
  have hq : t / ev ≤ k / ev := Nat.div_le_div_right ht
  have hw : (recM ev css k).whole.getD (t / ev) [] = mobsAt css (t / ev * ev) := by
    unfold recM
    simp [List.getD, show t / ev < k / ev + 1 by omega]
  have key : ∀ d, t / ev * ev + d ≤ t → fromM (recM ev css k).cmds (t / ev * ev) (mobsAt css (t / ev * ev)) d = mobsAt css (t / ev * ev + d) := by
    intro d
    induction d with
    | zero => intro _; rfl
    | succ d ih =>
      intro hd
      have e2 : mobsAt css (t / ev * ev + (d + 1)) = stepL (css.getD (t / ev * ev + d) []) (mobsAt css (t / ev * ev + d)) := rfl
      rw [e2]
      show stepL _ (fromM _ _ _ d) = _
      rw [ih (by omega)]
      have : (recM ev css k).cmds.getD (t / ev * ev + d) [] = (css.getD (t / ev * ev + d) []).map normC := by
        unfold recM
        have hlt : t / ev * ev + d < k := by omega
        simp [List.getD, hlt]
      rw [this, normC_step]
  have hm := Nat.div_add_mod t ev
  unfold Mt.at
  show fromM _ (t / ev * ev) _ (t % ev) = _
  rw [show (recM ev css k).ev = ev from rfl, hw, key (t % ev) (by rw [Nat.mul_comm]; omega)]
  congr 1
  rw [Nat.mul_comm]
  omega
end Go.Proofs.YtlfmfhmbkpnjbabGreatDoor
