import Derived.Test.YtlfmfhmbkpnjbaaGreatDoorAl25
namespace Go.Proofs.YtlfmfhmbkpnjbaaGreatDoor
open Go.RowKit

theorem u8_inj {a b : Nat} (ha : a < 256) (hb : b < 256) (h : UInt8.ofNat a = UInt8.ofNat b) : a = b := by
  have := congrArg UInt8.toNat h
  simp only [UInt8.toNat_ofNat'] at this
  omega

theorem dec_form (u : Nat) : Lib.decDigits u = (if u < 10 then [] else Lib.decDigits (u / 10)) ++ [UInt8.ofNat (48 + u % 10)] := by
  by_cases h : u < 10
  · rw [Lib.decDigits, dif_pos h, if_pos h, Nat.mod_eq_of_lt h]; rfl
  · rw [Lib.decDigits, dif_neg h, if_neg h]
theorem dec_ne (u : Nat) : Lib.decDigits u ≠ [] := by rw [dec_form]; simp
theorem dec_inj (u v : Nat) (h : Lib.decDigits u = Lib.decDigits v) : u = v := by
  induction u using Nat.strongRecOn generalizing v with
  | _ u ih =>
    rw [dec_form u, dec_form v] at h
    obtain ⟨h1, h2⟩ := List.append_inj' h rfl
    have h3 : u % 10 = v % 10 := by
      simp only [List.cons.injEq, and_true] at h2
      have := u8_inj (by omega) (by omega) h2
      omega
    by_cases hu : u < 10
    · by_cases hv : v < 10
      · omega
      · rw [if_pos hu, if_neg hv] at h1
        exact absurd h1.symm (dec_ne _)
    · by_cases hv : v < 10
      · rw [if_neg hu, if_pos hv] at h1
        exact absurd h1 (dec_ne _)
      · rw [if_neg hu, if_neg hv] at h1
        have := ih (u / 10) (by omega) (v / 10) h1
        omega
theorem dec_chars (u : Nat) : ∀ c ∈ Lib.decDigits u, 48 ≤ c.toNat := by
  induction u using Nat.strongRecOn with
  | _ u ih =>
    intro c hc
    rw [dec_form u] at hc
    rcases List.mem_append.1 hc with hc | hc
    · split at hc
      · cases hc
      · exact ih (u / 10) (by omega) c hc
    · simp only [List.mem_cons, List.not_mem_nil, or_false] at hc
      rw [hc, UInt8.toNat_ofNat']
      omega
theorem itoa_inj (a b : Int) (h : Lib.itoa a = Lib.itoa b) : a = b := by
  unfold Lib.itoa at h
  split at h
  · split at h
    · simp only [List.cons.injEq, true_and] at h
      have := dec_inj _ _ h
      omega
    · have := dec_chars b.toNat 45 (by rw [← h]; simp)
      exact absurd this (by decide)
  · split at h
    · have := dec_chars a.toNat 45 (by rw [h]; simp)
      exact absurd this (by decide)
    · have := dec_inj _ _ h
      omega

theorem hexc_fin : ∀ a b : Fin 16, hexc a.val = hexc b.val → a = b := by decide
theorem hexc_big : ∀ a : Fin 16, 48 ≤ (hexc a.val).toNat := by decide
theorem hex_form (u : Nat) : hexL u = (if u < 16 then [] else hexL (u / 16)) ++ [hexc (u % 16)] := by
  by_cases h : u < 16
  · rw [hexL_one h, if_pos h, Nat.mod_eq_of_lt h]; rfl
  · rw [hexL_more h, if_neg h]
theorem hex_ne (u : Nat) : hexL u ≠ [] := by rw [hex_form]; simp
theorem hex_inj (u v : Nat) (h : hexL u = hexL v) : u = v := by
  induction u using Nat.strongRecOn generalizing v with
  | _ u ih =>
    rw [hex_form u, hex_form v] at h
    obtain ⟨h1, h2⟩ := List.append_inj' h rfl
    have h3 : u % 16 = v % 16 := by
      simp only [List.cons.injEq, and_true] at h2
      have := hexc_fin ⟨u % 16, Nat.mod_lt _ (by decide)⟩ ⟨v % 16, Nat.mod_lt _ (by decide)⟩ h2
      simpa using this
    by_cases hu : u < 16
    · by_cases hv : v < 16
      · omega
      · rw [if_pos hu, if_neg hv] at h1
        exact absurd h1.symm (hex_ne _)
    · by_cases hv : v < 16
      · rw [if_neg hu, if_pos hv] at h1
        exact absurd h1 (hex_ne _)
      · rw [if_neg hu, if_neg hv] at h1
        have := ih (u / 16) (by omega) (v / 16) h1
        omega
theorem hex_chars (u : Nat) : ∀ c ∈ hexL u, 48 ≤ c.toNat := by
  induction u using Nat.strongRecOn with
  | _ u ih =>
    intro c hc
    rw [hex_form u] at hc
    rcases List.mem_append.1 hc with hc | hc
    · split at hc
      · cases hc
      · exact ih (u / 16) (by omega) c hc
    · simp only [List.mem_cons, List.not_mem_nil, or_false] at hc
      rw [hc]
      exact hexc_big ⟨u % 16, Nat.mod_lt _ (by decide)⟩

/-- A word without blanks and ends. -/
def Clean (x : ByteArray) : Prop := (32 : UInt8) ∉ x.data.toList ∧ (10 : UInt8) ∉ x.data.toList
theorem itoaW_clean (n : Int) : Clean (itoaW n) := by
  have key : ∀ c : UInt8, c.toNat < 45 → c ∉ Lib.itoa n := fun c hc hm => by
    unfold Lib.itoa at hm
    split at hm
    · rcases List.mem_cons.1 hm with rfl | hm
      · exact absurd hc (by decide)
      · have := dec_chars _ c hm; omega
    · have := dec_chars _ c hm; omega
  unfold Clean itoaW
  simp only
  exact ⟨key 32 (by decide), key 10 (by decide)⟩
theorem hexW_clean (x : Nat) : Clean (hexW x) := by
  have key : ∀ c : UInt8, c.toNat < 45 → c ∉ hexL (x % 18446744073709551616) := fun c hc hm => by have := hex_chars _ c hm; omega
  unfold Clean hexW
  simp only
  exact ⟨key 32 (by decide), key 10 (by decide)⟩
theorem itoaW_inj {a b : Int} (h : itoaW a = itoaW b) : a = b := by
  apply itoa_inj
  have := congrArg (fun x : ByteArray => x.data.toList) h
  simpa [itoaW] using this
theorem hexW_inj {x y : Nat} (hx : x < 18446744073709551616) (hy : y < 18446744073709551616) (h : hexW x = hexW y) : x = y := by
  have := congrArg (fun x : ByteArray => x.data.toList) h
  have := hex_inj _ _ (by simpa [hexW] using this)
  rwa [Nat.mod_eq_of_lt hx, Nat.mod_eq_of_lt hy] at this

/-- What is split by one sign is split in one way. -/
theorem split_one (s : UInt8) (a b x y : List UInt8) (ha : s ∉ a) (hb : s ∉ b) (h : a ++ s :: x = b ++ s :: y) : a = b ∧ x = y := by
  induction a generalizing b with
  | nil =>
    cases b with
    | nil => simpa using h
    | cons c r =>
      simp only [List.nil_append, List.cons_append, List.cons.injEq] at h
      exact absurd (by simp [h.1]) hb
  | cons c r ih =>
    cases b with
    | nil =>
      simp only [List.nil_append, List.cons_append, List.cons.injEq] at h
      exact absurd (by simp [← h.1]) ha
    | cons d q =>
      simp only [List.cons_append, List.cons.injEq] at h
      obtain ⟨h1, h2⟩ := ih q (fun e => ha (by simp [e])) (fun e => hb (by simp [e])) h.2
      exact ⟨by rw [h.1, h1], h2⟩

theorem join_two (x y : List UInt8) (r : List (List UInt8)) : Lib.join (x :: y :: r) [32] = x ++ 32 :: Lib.join (y :: r) [32] := by
  rw [Lib.join_cons, Lib.join_cons]
  unfold Lib.joinTail
  simp
theorem join_inj (xs ys : List (List UInt8)) (hx : ∀ x ∈ xs, (32 : UInt8) ∉ x) (hy : ∀ y ∈ ys, (32 : UInt8) ∉ y) (nx : xs ≠ []) (ny : ys ≠ []) (h : Lib.join xs [32] = Lib.join ys [32]) : xs = ys := by
  induction xs generalizing ys with
  | nil => exact absurd rfl nx
  | cons x r ih =>
    cases ys with
    | nil => exact absurd rfl ny
    | cons y q =>
      cases r with
      | nil =>
        cases q with
        | nil => rw [Lib.join_one, Lib.join_one] at h; rw [h]
        | cons z q =>
          rw [Lib.join_one, join_two] at h
          exact absurd (by rw [h]; simp) (hx x (by simp))
      | cons u r =>
        cases q with
        | nil =>
          rw [Lib.join_one, join_two] at h
          exact absurd (by rw [← h]; simp) (hy y (by simp))
        | cons z q =>
          rw [join_two, join_two] at h
          obtain ⟨h1, h2⟩ := split_one 32 x y _ _ (hx x (by simp)) (hy y (by simp)) h
          rw [h1, ih (z :: q) (fun a ha => hx a (by simp [ha])) (fun a ha => hy a (by simp [ha])) (by simp) (by simp) h2]
theorem join_end (xs : List (List UInt8)) (h : ∀ x ∈ xs, (10 : UInt8) ∉ x) : (10 : UInt8) ∉ Lib.join xs [32] := by
  induction xs with
  | nil => simp [Lib.join_nil]
  | cons x r ih =>
    cases r with
    | nil => rw [Lib.join_one]; exact h x (by simp)
    | cons y r =>
      rw [join_two]
      intro hm
      rcases List.mem_append.1 hm with hm | hm
      · exact h x (by simp) hm
      · rcases List.mem_cons.1 hm with hm | hm
        · exact absurd hm (by decide)
        · exact ih (fun a ha => h a (by simp [ha])) hm

theorem ba_inj {xs ys : List ByteArray} (h : xs.map (·.data.toList) = ys.map (·.data.toList)) : xs = ys := by
  induction xs generalizing ys with
  | nil => cases ys with
    | nil => rfl
    | cons y q => simp at h
  | cons x r ih => cases ys with
    | nil => simp at h
    | cons y q =>
      simp only [List.map_cons, List.cons.injEq] at h
      rw [ih h.2, ByteArray.ext (Array.ext' h.1)]

/-- A line, and what stands behind it, are told apart in one way. -/
theorem line_inj (xs ys : List ByteArray) (a b : List UInt8) (hx : ∀ x ∈ xs, Clean x) (hy : ∀ y ∈ ys, Clean y) (nx : xs ≠ []) (ny : ys ≠ []) (h : lineL xs ++ a = lineL ys ++ b) : xs = ys ∧ a = b := by
  unfold lineL at h
  rw [List.append_assoc, List.append_assoc] at h
  obtain ⟨h1, h2⟩ := split_one 10 _ _ a b (join_end _ (fun z hz => by obtain ⟨x, hm, rfl⟩ := List.mem_map.1 hz; exact (hx x hm).2)) (join_end _ (fun z hz => by obtain ⟨x, hm, rfl⟩ := List.mem_map.1 hz; exact (hy x hm).2)) h
  refine ⟨ba_inj (join_inj _ _ (fun z hz => by obtain ⟨x, hm, rfl⟩ := List.mem_map.1 hz; exact (hx x hm).1) (fun z hz => by obtain ⟨x, hm, rfl⟩ := List.mem_map.1 hz; exact (hy x hm).1) (by simpa using nx) (by simpa using ny) h1), h2⟩

theorem cmdW_clean (c : Cmd) : ∀ x ∈ cmdW c, Clean x := by
  unfold cmdW
  split
  · simp [itoaW_clean, hexW_clean]
  · split
    · simp [itoaW_clean, hexW_clean]
    · split
      · simp [itoaW_clean]
      · split
        · simp [itoaW_clean]
        · simp [itoaW_clean]
theorem tickW_clean (cs : List Cmd) (t : Int) (L : List Mob) (ev : Int) : ∀ x ∈ tickW cs t L ev, Clean x := by
  intro x hx
  unfold tickW headW at hx
  rcases List.mem_append.1 hx with hx | hx
  · rcases List.mem_cons.1 hx with rfl | hx
    · exact itoaW_clean _
    · obtain ⟨c, _, hx⟩ := List.mem_flatMap.1 hx
      exact cmdW_clean c x hx
  · split at hx
    · rcases List.mem_cons.1 hx with rfl | hx
      · exact itoaW_clean _
      · obtain ⟨m, _, hx⟩ := List.mem_flatMap.1 hx
        unfold entW at hx
        simp only [List.mem_cons, List.not_mem_nil, or_false] at hx
        rcases hx with rfl | rfl | rfl | rfl | rfl | rfl | rfl <;> first | exact itoaW_clean _ | exact hexW_clean _
    · cases hx

/-- Commands that do the same. -/
def SmallC (c : Cmd) : Prop := c.x < 18446744073709551616 ∧ c.y < 18446744073709551616
theorem cmdW_head (c : Cmd) : ∃ r, cmdW c = itoaW c.kind :: r := by
  unfold cmdW
  split
  · exact ⟨_, rfl⟩
  · split
    · exact ⟨_, rfl⟩
    · split
      · exact ⟨_, rfl⟩
      · split <;> exact ⟨_, rfl⟩
theorem cmdW_len {c d : Cmd} (h : c.kind = d.kind) : (cmdW c).length = (cmdW d).length := by
  unfold cmdW
  rw [h]
  split
  · rfl
  · split
    · rfl
    · split
      · rfl
      · split <;> rfl
theorem cmdW_do {c d : Cmd} (hc : SmallC c) (hd : SmallC d) (h : cmdW c = cmdW d) (L : List Mob) : doM L c = doM L d := by
  obtain ⟨r, hr⟩ := cmdW_head c
  obtain ⟨r', hr'⟩ := cmdW_head d
  have hk : c.kind = d.kind := by
    rw [hr, hr'] at h
    simp only [List.cons.injEq] at h
    exact itoaW_inj h.1
  clear hr hr'
  unfold cmdW at h
  unfold doM
  rw [← hk] at h ⊢
  split
  · rename_i k1
    rw [if_pos k1, if_pos k1] at h
    simp only [List.cons.injEq, and_true, true_and] at h
    rw [itoaW_inj h.1, itoaW_inj h.2.1, hexW_inj hc.1 hd.1 h.2.2.1, hexW_inj hc.2 hd.2 h.2.2.2]
  · rename_i k1
    split
    · rename_i k2
      rw [if_neg k1, if_neg k1, if_pos k2, if_pos k2] at h
      simp only [List.cons.injEq, and_true, true_and] at h
      rw [itoaW_inj h.1, hexW_inj hc.1 hd.1 h.2.1, hexW_inj hc.2 hd.2 h.2.2]
    · rename_i k2
      split
      · rename_i k3
        rw [if_neg k1, if_neg k1, if_neg k2, if_neg k2, if_pos k3, if_pos k3] at h
        simp only [List.cons.injEq, and_true, true_and] at h
        rw [itoaW_inj h.1, itoaW_inj h.2]
      · rename_i k3
        split
        · rename_i k4
          rw [if_neg k1, if_neg k1, if_neg k2, if_neg k2, if_neg k3, if_neg k3, if_pos k4, if_pos k4] at h
          simp only [List.cons.injEq, and_true, true_and] at h
          rw [itoaW_inj h]
        · rfl

theorem cmds_do (cs ds : List Cmd) (a b : List ByteArray) (hc : ∀ c ∈ cs, SmallC c) (hd : ∀ d ∈ ds, SmallC d) (hl : cs.length = ds.length) (h : cs.flatMap cmdW ++ a = ds.flatMap cmdW ++ b) (L : List Mob) : cs.foldl doM L = ds.foldl doM L := by
  induction cs generalizing ds L with
  | nil => cases ds with
    | nil => rfl
    | cons d q => simp at hl
  | cons c r ih => cases ds with
    | nil => simp at hl
    | cons d q =>
      simp only [List.flatMap_cons, List.append_assoc] at h
      obtain ⟨r1, hr1⟩ := cmdW_head c
      obtain ⟨r2, hr2⟩ := cmdW_head d
      have hk : c.kind = d.kind := by
        rw [hr1, hr2] at h
        simp only [List.cons_append, List.cons.injEq] at h
        exact itoaW_inj h.1
      obtain ⟨h1, h2⟩ := List.append_inj h (cmdW_len hk)
      simp only [List.foldl_cons]
      rw [cmdW_do (hc c (by simp)) (hd d (by simp)) h1 L]
      exact ih q (fun x hx => hc x (by simp [hx])) (fun x hx => hd x (by simp [hx])) (by simpa using hl) h2 _

theorem tick_step (cs ds : List Cmd) (t u : Int) (L M : List Mob) (ev : Int) (hc : ∀ c ∈ cs, SmallC c) (hd : ∀ d ∈ ds, SmallC d) (h : tickW cs t L ev = tickW ds u M ev) (X : List Mob) : stepL cs X = stepL ds X := by
  unfold tickW headW at h
  simp only [List.cons_append, List.cons.injEq] at h
  have hl : cs.length = ds.length := by have := itoaW_inj h.1; omega
  unfold stepL
  rw [cmds_do cs ds _ _ hc hd hl h.2 X]

/-- The lines of a file. -/
noncomputable def linesAt (ev : Int) (css : List (List Cmd)) (k : Nat) : List (List ByteArray) := (List.range k).map (fun j => tickW (css.getD j []) ((j : Int) + 1) (mobsAt css (j + 1)) ev)
theorem fileAt_lines (ev : Int) (css : List (List Cmd)) (k : Nat) : fileAt ev css k = lineL (firstW ev) ++ (linesAt ev css k).flatMap lineL := by
  induction k with
  | zero => simp [fileAt, linesAt]
  | succ n ih =>
    show fileAt ev css n ++ _ = _
    rw [ih, List.append_assoc]
    congr 1
    simp [linesAt, List.range_succ]
theorem lines_inj (A B : List (List ByteArray)) (hA : ∀ l ∈ A, (∀ x ∈ l, Clean x) ∧ l ≠ []) (hB : ∀ l ∈ B, (∀ x ∈ l, Clean x) ∧ l ≠ []) (h : A.flatMap lineL = B.flatMap lineL) : A = B := by
  induction A generalizing B with
  | nil => cases B with
    | nil => rfl
    | cons y q =>
      simp only [List.flatMap_nil, List.flatMap_cons] at h
      exact absurd h.symm (by unfold lineL; simp)
  | cons x r ih => cases B with
    | nil =>
      simp only [List.flatMap_nil, List.flatMap_cons] at h
      exact absurd h (by unfold lineL; simp)
    | cons y q =>
      simp only [List.flatMap_cons] at h
      obtain ⟨h1, h2⟩ := line_inj x y _ _ (hA x (by simp)).1 (hB y (by simp)).1 (hA x (by simp)).2 (hB y (by simp)).2 h
      rw [h1, ih q (fun l hl => hA l (by simp [hl])) (fun l hl => hB l (by simp [hl])) h2]

theorem file_inj (ev : Int) (css dss : List (List Cmd)) (k m : Nat) (hc : ∀ cs ∈ css, ∀ c ∈ cs, SmallC c) (hd : ∀ cs ∈ dss, ∀ c ∈ cs, SmallC c) (h : fileAt ev css k = fileAt ev dss m) : k = m ∧ ∀ j, j ≤ k → mobsAt css j = mobsAt dss j := by
  rw [fileAt_lines, fileAt_lines] at h
  have hl := List.append_cancel_left h
  have cl : ∀ (es : List (List Cmd)) (n : Nat), ∀ l ∈ linesAt ev es n, (∀ x ∈ l, Clean x) ∧ l ≠ [] := by
    intro es n l hl
    simp only [linesAt, List.mem_map] at hl
    obtain ⟨j, _, rfl⟩ := hl
    exact ⟨tickW_clean _ _ _ _, by simp [tickW, headW]⟩
  have e := lines_inj _ _ (cl css k) (cl dss m) hl
  have hkm : k = m := by
    have := congrArg List.length e
    simpa [linesAt] using this
  subst hkm
  have sm : ∀ (es : List (List Cmd)), (∀ cs ∈ es, ∀ c ∈ cs, SmallC c) → ∀ j, ∀ c ∈ es.getD j [], SmallC c := by
    intro es he j c hc
    by_cases hj : j < es.length
    · rw [show es.getD j [] = es[j] from by simp [List.getD, hj]] at hc
      exact he _ (List.getElem_mem hj) c hc
    · rw [show es.getD j [] = [] from by simp [List.getD, List.getElem?_eq_none (show es.length ≤ j by omega)]] at hc
      cases hc
  refine ⟨rfl, fun j hj => ?_⟩
  induction j with
  | zero => rfl
  | succ n ih =>
    have hn := ih (by omega)
    have ht : tickW (css.getD n []) ((n : Int) + 1) (mobsAt css (n + 1)) ev = tickW (dss.getD n []) ((n : Int) + 1) (mobsAt dss (n + 1)) ev := by
      have := congrArg (fun l => l[n]?) e
      simpa [linesAt, show n < k by omega] using this
    show stepL (css.getD n []) (mobsAt css n) = stepL (dss.getD n []) (mobsAt dss n)
    rw [← hn]
    exact tick_step _ _ _ _ _ _ ev (sm css hc n) (sm dss hd n) ht _

theorem way_small : ∀ k : Fin 201, floatOfInt .f32 ((k.val : Int) - 100) < 18446744073709551616 ∧ fmul (floatOfInt .f32 ((k.val : Int) - 100)) 1092616192 < 18446744073709551616 := by decide +kernel
theorem wayOf_small (z : Int) : wayOf z < 18446744073709551616 ∧ fmul (wayOf z) 1092616192 < 18446744073709551616 := way_small ⟨pickN_keep z 201, pickN_lt_keep z 201 (by decide)⟩
theorem cmdsOf_small (zs : List Int) : ∀ c ∈ cmdsOf zs, SmallC c := by
  intro c hc
  simp only [cmdsOf, List.mem_map] at hc
  obtain ⟨k, _, rfl⟩ := hc
  unfold cmdOf
  split
  · exact ⟨(wayOf_small _).2, (wayOf_small _).2⟩
  · exact ⟨(wayOf_small _).1, (wayOf_small _).1⟩
end Go.Proofs.YtlfmfhmbkpnjbaaGreatDoor
