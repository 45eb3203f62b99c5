import Derived.Test.YtgclehnhjjkdbaaGreatDoorWords
namespace Go.Proofs.YtgclehnhjjkdbaaGreatDoor
open Go.RowKit

theorem decDigits_short (k u : Nat) (hk : 1 ≤ k) (h : u < 10 ^ k) : (Lib.decDigits u).length ≤ k := by
  induction k generalizing u with
  | zero => omega
  | succ k ih =>
    rw [Lib.decDigits]
    split
    · simp
    · rename_i hu
      have hk' : 1 ≤ k := by
        by_cases e : 1 ≤ k
        · exact e
        · have : k = 0 := by omega
          subst this
          simp at h
          omega
      have := ih (u / 10) hk' (Nat.div_lt_of_lt_mul (by rw [Nat.pow_succ, Nat.mul_comm] at h; exact h))
      simp
      omega
theorem hexL_short (k u : Nat) (hk : 1 ≤ k) (h : u < 16 ^ k) : (hexL u).length ≤ k := by
  induction k generalizing u with
  | zero => omega
  | succ k ih =>
    rw [hexL]
    split
    · simp
    · rename_i hu
      have hk' : 1 ≤ k := by
        by_cases e : 1 ≤ k
        · exact e
        · have : k = 0 := by omega
          subst this
          simp at h
          omega
      have := ih (u / 16) hk' (Nat.div_lt_of_lt_mul (by rw [Nat.pow_succ, Nat.mul_comm] at h; exact h))
      simp
      omega

/-- A word is short. -/
def Short (x : ByteArray) : Prop := x.data.toList.length ≤ 24
theorem itoaW_short (n : Int) (h : -9223372036854775808 ≤ n ∧ n ≤ 9223372036854775807) : Short (itoaW n) := by
  unfold Short itoaW Lib.itoa
  simp only
  split
  · have := decDigits_short 20 n.natAbs (by decide) (by
      have h1 : n.natAbs < 10000000000000000000 := by omega
      exact Nat.lt_of_lt_of_le h1 (by decide))
    simp
    omega
  · have := decDigits_short 20 n.toNat (by decide) (by
      have h1 : n.toNat < 10000000000000000000 := by omega
      exact Nat.lt_of_lt_of_le h1 (by decide))
    simp
    omega
theorem hexW_short (x : Nat) : Short (hexW x) := by
  unfold Short hexW
  have := hexL_short 16 (x % 18446744073709551616) (by decide) (Nat.mod_lt _ (by decide))
  simp
  omega
theorem cmdW_short (c : Cmd) (h : IntC c) : ∀ x ∈ cmdW c, Short x := by
  have h1 := itoaW_short c.kind h.kind
  have h2 := itoaW_short c.id h.id
  have h3 := itoaW_short c.team h.team
  have h4 := itoaW_short c.n h.n
  have h5 := hexW_short c.x
  have h6 := hexW_short c.y
  unfold cmdW
  split
  · simp [h1, h2, h3, h5, h6]
  · split
    · simp [h1, h2, h5, h6]
    · split
      · simp [h1, h2, h4]
      · split
        · simp [h1, h2]
        · simp [h1]
theorem entW_short (m : Mob) (h : IntM m) : ∀ x ∈ entW m, Short x := by
  have h1 := itoaW_short m.id h.id
  have h2 := itoaW_short m.team h.team
  have h3 := itoaW_short m.health h.health
  unfold entW
  simp [h1, h2, h3, hexW_short]
theorem cmdW_few (c : Cmd) : (cmdW c).length ≤ 5 := by
  unfold cmdW
  split
  · simp
  · split
    · simp
    · split
      · simp
      · split <;> simp

theorem cmdW_pos (c : Cmd) : 0 < (cmdW c).length := by
  unfold cmdW
  split
  · simp
  · split
    · simp
    · split
      · simp
      · split <;> simp

/-- A line. -/
def lineL (xs : List ByteArray) : List UInt8 := Lib.join (xs.map (·.data.toList)) [32] ++ [10]
theorem join_short (xs : List ByteArray) (h : ∀ x ∈ xs, Short x) : (Lib.join (xs.map (·.data.toList)) [32]).length ≤ xs.length * 25 := by
  cases xs with
  | nil => simp [Lib.join_nil]
  | cons x r =>
    rw [List.map_cons, Lib.join_cons, List.length_append]
    have hx : x.data.toList.length ≤ 24 := h x (by simp)
    have hr : (Lib.joinTail [32] (r.map (·.data.toList))).length ≤ r.length * 25 := by
      have hr' : ∀ y ∈ r, Short y := fun y hy => h y (by simp [hy])
      clear h hx
      unfold Lib.joinTail
      induction r with
      | nil => simp
      | cons y q ih =>
        have hy : y.data.toList.length ≤ 24 := hr' y (by simp)
        have := ih (fun z hz => hr' z (by simp [hz]))
        simp only [List.map_cons, List.flatten_cons, List.length_append, List.length_cons, List.length_nil] at this ⊢
        omega
    simp only [List.length_cons]
    omega

theorem rowS_length (l : List ByteArray) : (rowS l).length = l.length := by simp [rowS]
theorem rowS_append (a b : List ByteArray) : rowS (a ++ b) = rowS a ++ rowS b := by simp [rowS]
theorem rowS_one (l : List ByteArray) : ∀ u ∈ rowS l, u.oneCell' = true := by
  intro u hu
  simp only [rowS, List.mem_map] at hu
  obtain ⟨x, _, rfl⟩ := hu
  rfl
theorem info_str : (Tryz.prog.info? 9).map (fun i => (i.zero, i.size, i.bytes)) = some (some (.string ⟨#[]⟩), 1, 16) := by kernel_rfl

theorem ba_append (a b : List UInt8) : (⟨a.toArray⟩ : ByteArray) ++ ⟨b.toArray⟩ = ⟨(a ++ b).toArray⟩ := by
  apply ByteArray.ext
  simp [ByteArray.data_append]

set_option maxHeartbeats 1000000 in
set_option maxRecDepth 100000 in
theorem line_c (g cap : Nat) (xs : List ByteArray) (w : World) (h : ∀ j x, xs[j]? = some x → w.cell? ⟨g, j, none⟩ = some (.string x)) (hg : g < w.heap.size) (hn : xs.length ≤ 1000) (hcap : xs.length ≤ cap) (hs : ∀ x ∈ xs, Short x) :
    Calls Tryz.prog 39 #[.slice (some ⟨g, 0, none⟩) xs.length cap] w fun e w' => e = .returned (.string ⟨(lineL xs).toArray⟩) ∧ Kept (fun _ => False) w w' := by
  have hj := join_short xs hs
  have HJ := hide (Tryz.strings_Join g 0 cap xs ⟨#[32]⟩ w (fun j x hx => by rw [Nat.zero_add]; exact h j x hx) hg (by omega) hcap (by show (Lib.join (xs.map (·.data.toList)) [32]).length ≤ _; omega))
  go_enter Tryz.func39, Tryz.ntmps39
  go_wp2_with fail
  refine HJ.out.mono ?_
  rintro e w1 ⟨rfl, b1⟩
  have K1 := hide (Kept.of_below b1)
  clear b1 HJ
  go_wp2
  go_ret
  exact ⟨ret1 (congrArg Value.string (ba_append _ [10])), K1.out⟩

/-- The first line. -/
def firstW (ev : Int) : List ByteArray := [⟨#[101, 110, 99, 111, 114, 101]⟩, itoaW ev]

set_option maxHeartbeats 1000000 in
set_option maxRecDepth 100000 in
theorem firstLine_c (ev : Int) (w : World) (he : 1 ≤ ev ∧ ev ≤ 64) (h : Tabs w) :
    Calls Tryz.prog 28 #[.int .i64 ev] w fun e w' => e = .returned (.string ⟨(lineL (firstW ev)).toArray⟩) ∧ Kept (fun _ => False) w w' := by
  go_enter Tryz.func28, Tryz.ntmps28
  go_wp2_with fail
  refine (intWord_c ev w (by omega) h).mono ?_
  rintro e w1 ⟨rfl, k1⟩
  have K1 := hide k1
  clear k1
  have HB := heap_alloc_new w1 (.cells (rowS (firstW ev)).toArray 9)
  have HL := hide (line_c w1.heap.size 2 (firstW ev) (w1.alloc (.cells (rowS (firstW ev)).toArray 9)) (fun j x hx => by rw [cell_block HB]; simp [rowS, hx]) (by simp) (by simp [firstW]) (by simp [firstW]) (by
    intro x hx
    simp only [firstW, List.mem_cons, List.not_mem_nil, or_false] at hx
    rcases hx with rfl | rfl
    · show (6 : Nat) ≤ 24; decide
    · exact itoaW_short ev (by omega)))
  have K2 := hide (K1.out.calm2 (Kept.alloc w1 (.cells (rowS (firstW ev)).toArray 9)))
  clear HB
  go_wp2_with fail
  refine HL.out.mono ?_
  rintro e w2 ⟨rfl, k2⟩
  have K3 := hide (K2.out.calm2 k2)
  clear k2 HL
  go_wp2
  go_ret
  exact ⟨rfl, K3.out⟩

/-- The words of a tick. -/
def headW (cs : List Cmd) : List ByteArray := itoaW cs.length :: cs.flatMap cmdW
def tickW (cs : List Cmd) (t : Int) (L : List Mob) (ev : Int) : List ByteArray := headW cs ++ (if t % ev = 0 then itoaW L.length :: L.flatMap entW else [])

theorem words_take {α : Type} (L : List α) (f : α → List ByteArray) (i : Nat) (hi : i < L.length) : (L.take (i + 1)).flatMap f = (L.take i).flatMap f ++ f L[i] := by
  rw [List.take_succ_eq_append_getElem hi, List.flatMap_append]
  simp
theorem words_len {α : Type} (L : List α) (f : α → List ByteArray) (k : Nat) (h : ∀ x ∈ L, (f x).length ≤ k) : (L.flatMap f).length ≤ L.length * k := by
  induction L with
  | nil => simp
  | cons x r ih =>
    have h1 := h x (by simp)
    have h2 := ih (fun y hy => h y (by simp [hy]))
    simp only [List.flatMap_cons, List.length_append, List.length_cons]
    rw [Nat.add_mul]
    omega

/-- Words of one's own. -/
def OwnS (w : World) (base g cap : Nat) (X : List ByteArray) : Prop := w.ownsRow base 9 1 (.slice (some ⟨g, 0, none⟩) X.length cap) X.length (rowS X)
theorem OwnS.keep {w w' : World} {S : Nat → Prop} {base g cap : Nat} {X : List ByteArray} (h : OwnS w base g cap X) (k : Kept S w w') (hS : ¬ S g) : OwnS w' base g cap X :=
  owns_block h (fun j hj => k.block j (owns_lt h j hj) (by cases hj; exact hS))
theorem OwnS.calm {w w' : World} {base g cap : Nat} {X : List ByteArray} (h : OwnS w base g cap X) (k : Kept (fun _ => False) w w') : OwnS w' base g cap X := h.keep k (fun e => e)
theorem OwnS.new (w : World) (base : Nat) (X : List ByteArray) (hb : base ≤ w.heap.size) (hn : X.length ≤ 1000) : OwnS (w.alloc (.cells (rowS X).toArray 9)) base w.heap.size X.length X :=
  ⟨by simp [rowS], Or.inr ⟨w.heap.size, X.length, (rowS X).toArray, rfl, hb, heap_alloc_new w _, Nat.le_refl _, by unfold maxLen; omega, by simp [rowS], by simp only [Nat.mul_one]; exact List.take_of_length_le (by simp [rowS])⟩⟩
theorem OwnS.cells {w : World} {base g cap : Nat} {X : List ByteArray} (h : OwnS w base g cap X) : (∀ j x, X[j]? = some x → w.cell? ⟨g, j, none⟩ = some (.string x)) ∧ g < w.heap.size ∧ X.length ≤ cap ∧ base ≤ g := by
  rcases h.2 with ⟨e, _⟩ | ⟨g', c', cur, e, hb, hh, hc, _, _, ht⟩
  · cases e
  · cases e
    refine ⟨fun j x hx => ?_, heap_lt hh, hc, hb⟩
    have h1 : (rowS X)[j]? = some (.string x) := by simp [rowS, hx]
    rw [← ht, List.getElem?_take] at h1
    split at h1
    · rw [cell_block hh]; simpa using h1
    · cases h1

/-- Words more. -/
theorem wpList_append_words (w : World) {ops : Array Oper} {rest : List Oper} {o : Oper} {a : Act} {Q : Exit → Act → World → Prop} (hgd : o.guard = none) (s x : Operand)
    (ho : o.op = .call { callee := .builtin .append, args := #[s, x], argTypes := #[100, 100] }) (base g cap : Nat) (X : List ByteArray) (hs : a.eval s = .slice (some ⟨g, 0, none⟩) X.length cap) (hown : OwnS w base g cap X)
    (g2 c2 : Nat) (Y : List ByteArray) (hx : a.eval x = .slice (some ⟨g2, 0, none⟩) Y.length c2) (hY : HasW w g2 Y) (hb : X.length + Y.length ≤ 1000) (hpos : 0 < Y.length) (hbase : base ≤ w.heap.size)
    (h : ∀ g' cap' w' R, Hid (R = X ++ Y) → Hid (OwnS w' base g' cap' R) → Hid (Kept (fun k => k = g) w w') → wpList Tryz.prog ops Q rest (a.put o.dst (.slice (some ⟨g', 0, none⟩) R.length cap')) w') :
    wpList Tryz.prog ops Q (o :: rest) a w := by
  obtain ⟨i0, hi, hz0, hz1, hz2⟩ := info_parts info_str
  refine wpList_append_at w hgd s x 100 ho base 9 i0 _ 1 16 Tryz.underlying100 hi hz0 hz1 hz2 rfl (by decide) _ X.length (rowS X) hs hown ⟨g2, 0, none⟩ Y.length c2 (rowS Y) hx (by simp [rowS]) (fun j u hu => by rw [addr_add2, Nat.zero_add, cell_block hY]; simpa using hu) (rowS_one Y) hpos (by unfold maxLen; omega) (by omega) hbase ?_
  intro g' cap' w' hown' hgr
  have e : (X ++ Y).length = X.length + Y.length := List.length_append
  have := h g' cap' w' (X ++ Y) rfl (by show World.ownsRow _ _ _ _ _ _ _; rw [e, rowS_append]; exact hown') ((Kept.of_grown hgr).mono (fun k _ e => by cases e; rfl) : Kept _ _ _)
  rw [e] at this
  exact this
end Go.Proofs.YtgclehnhjjkdbaaGreatDoor
