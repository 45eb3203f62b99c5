import Derived.Test.YtlfmfhmbkpnjbaaRowp
import Derived.Test.YtlfmfhmbkpnjbaaLawp
namespace Go.Proofs.Ytlfmfhmbkpnjbaa
open Go.RowKit

/-- n marks. -/
def mks (n : Nat) (k : Int) : List Mob := List.replicate n (markM k)
theorem mks_len (n : Nat) (k : Int) : (mks n k).length = n := by simp [mks]
theorem mks_add (a b : Nat) (k : Int) : mks a k ++ mks b k = mks (a + b) k := by simp [mks]
theorem mks_take (a b : Nat) (k : Int) (h : a ≤ b) : (rowM (mks b k)).take (a * 7) = rowM (mks a k) := by
  have e : mks b k = mks a k ++ mks (b - a) k := by rw [mks_add]; congr 1; omega
  rw [e, rowM_append, List.take_left' (by rw [rowM_length, mks_len])]

/-- The block of a list. -/
def HB (p : Option Addr) : Nat → Prop := fun j => ∃ off, p = some ⟨j, off, none⟩

/-- The list that came out: its block's first a places are marks. -/
def Home (w : World) (p : Option Addr) (a cap : Nat) (k : Int) : Prop :=
  (p = none ∧ a = 0 ∧ cap = 0) ∨ ∃ g cur, p = some ⟨g, 0, none⟩ ∧ w.heap[g]? = some (.cells (cur : List Value).toArray 57 (0, 0)) ∧ cur.length = cap * 7 ∧ a ≤ cap ∧ cur.take (a * 7) = rowM (mks a k)

/-- A list of l marks: in that block, or in one of its own. -/
def Good (w : World) (p p' : Option Addr) (l a : Nat) (k : Int) : Prop :=
  (p' = p ∧ l ≤ a) ∨ ∃ g', p' = some ⟨g', 0, none⟩ ∧ ¬ HB p g' ∧ typ w g' 57 ∧ Reads w p' (mks l k)

theorem Good.keep {w w' : World} {p p' : Option Addr} {l a a' : Nat} {k : Int} (h : Good w p p' l a k) (hk : Kept (HB p) w w') (ha : a ≤ a') : Good w' p p' l a' k := by
  rcases h with ⟨h1, h2⟩ | ⟨g', h1, h2, h3⟩
  · exact Or.inl ⟨h1, Nat.le_trans h2 ha⟩
  · refine Or.inr ⟨g', h1, h2, typ_keep h3.1 hk h2, h3.2.keep hk (fun b off e => ?_)⟩
    rw [h1] at e
    cases e
    exact h2

theorem Home.reads {w : World} {p : Option Addr} {a cap : Nat} {k : Int} (h : Home w p a cap k) (l : Nat) (hl : l ≤ a) : Reads w p (mks l k) := by
  rcases h with ⟨h1, h2, h3⟩ | ⟨g, cur, h1, h2, h3, h4, h5⟩
  · obtain rfl : l = 0 := by omega
    intro hh
    simp [mks] at hh
  · subst h1
    have hr : RowAt w g (mks l k) cap cur := ⟨h2, h3, by
      rw [mks_len, ← mks_take l a k hl, ← h5, List.take_take]
      congr 1
      omega, by rw [mks_len]; omega⟩
    exact hr.reads

theorem Good.reads {w : World} {p p' : Option Addr} {l a cap : Nat} {k : Int} (h : Good w p p' l a k) (hh : Home w p a cap k) : Reads w p' (mks l k) := by
  rcases h with ⟨rfl, h2⟩ | ⟨g', h1, h2, h3⟩
  · exact hh.reads l h2
  · exact h3.2

theorem Home.keep {w w' : World} {S : Nat → Prop} {p : Option Addr} {a cap : Nat} {k : Int} (h : Home w p a cap k) (hk : Kept S w w') (hS : ∀ j, HB p j → ¬ S j) : Home w' p a cap k := by
  rcases h with h | ⟨g, cur, h1, h2, h3⟩
  · exact Or.inl h
  · exact Or.inr ⟨g, cur, h1, by rw [hk.block g (heap_lt h2) (hS g ⟨0, h1⟩)]; exact h2, h3⟩

theorem owns_reads {w : World} {base : Nat} {X : List Mob} {p : Option Addr} {n cap : Nat} (h : w.ownsRow base 57 7 (.slice p n cap) X.length (rowM X)) : Reads w p X := by
  intro hX
  rcases h.2 with ⟨_, h0⟩ | ⟨g, cp, cur, hv, hb, hh, _, _, _, h4⟩
  · exact absurd (List.eq_nil_of_length_eq_zero h0) (by intro e; subst e; simp at hX)
  · obtain ⟨rfl, -, -⟩ : p = some ⟨g, 0, none⟩ ∧ _ ∧ _ := by simpa using hv
    refine ⟨g, 0, rfl, heap_lt hh, fun j u hu => ?_⟩
    have hj := (List.getElem?_eq_some_iff.1 hu).1
    rw [rowM_length] at hj
    have e : (cur.toList.take (X.length * 7))[j]? = some u := by rw [h4]; exact hu
    rw [List.getElem?_take_of_lt hj] at e
    rw [Nat.zero_add, cell_block hh]
    simpa using e

theorem splice_same (cur : List Value) (n m a : Nat) (k : Int) (h : cur.take (a * 7) = rowM (mks a k)) (hn : n + m ≤ a) : splice cur (n * 7) (rowM (mks m k)) = cur := by
  have e : cur = rowM (mks n k) ++ (rowM (mks m k) ++ (rowM (mks (a - n - m) k) ++ cur.drop (a * 7))) := by
    conv => lhs; rw [← List.take_append_drop (a * 7) cur, h]
    rw [← List.append_assoc, ← List.append_assoc, ← rowM_append, ← rowM_append, mks_add, mks_add, show n + m + (a - n - m) = a from by omega]
  have l1 : (rowM (mks n k)).length = n * 7 := by rw [rowM_length, mks_len]
  have l2 : (rowM (mks m k)).length = m * 7 := by rw [rowM_length, mks_len]
  generalize hr : rowM (mks (a - n - m) k) ++ cur.drop (a * 7) = r at e
  clear hr h
  subst e
  unfold splice
  rw [List.take_left' l1, l2]
  rw [show n * 7 + m * 7 = (rowM (mks n k) ++ rowM (mks m k)).length from by rw [List.length_append, l1, l2]]
  simp only [← List.append_assoc]
  rw [List.drop_left]

theorem splice_more (cur : List Value) (n m a : Nat) (k : Int) (h : cur.take (a * 7) = rowM (mks a k)) (hn : n ≤ a) : (splice cur (n * 7) (rowM (mks m k))).take ((n + m) * 7) = rowM (mks (n + m) k) := by
  have e : cur.take (n * 7) = rowM (mks n k) := by
    rw [← mks_take n a k hn, ← h, List.take_take]
    congr 1
    omega
  have l2 : (rowM (mks n k) ++ rowM (mks m k)).length = (n + m) * 7 := by rw [← rowM_append, rowM_length, mks_add, mks_len]
  unfold splice
  rw [e, ← List.append_assoc, List.take_left' l2, ← rowM_append, mks_add]

set_option maxRecDepth 100000 in
theorem wpList_append_mark (w : World) {ops : Array Oper} {rest : List Oper} {o : Oper} {a : Act} {Q : Exit → Act → World → Prop} (hgd : o.guard = none) (s x : Operand)
    (ho : o.op = .call { callee := .builtin .append, args := #[s, x], argTypes := #[38, 38] }) (p : Option Addr) (n cap a0 : Nat) (k : Int) (hs : a.eval s = .slice p n cap) (H : Home w p a0 cap k) (hn : n ≤ a0)
    (ad : Addr) (m c : Nat) (hx : a.eval x = .slice (some ad) m c) (hnews : ∀ j u, (rowM (mks m k))[j]? = some u → w.cell? (ad.add j) = some u) (hm : 0 < m) (hb : n + m ≤ 1000)
    (h : ∀ p' cap' w' a', Hid (Home w' p a' cap k) → a0 ≤ a' → Hid (Good w' p p' (n + m) a' k) → Hid (Kept (HB p) w w') → wpList Try.prog ops Q rest (a.put o.dst (.slice p' (n + m) cap')) w') :
    wpList Try.prog ops Q (o :: rest) a w := by
  obtain ⟨i0, hi, hz0, hz1, hz2⟩ := info_parts info_mob
  have l2 : (rowM (mks m k)).length = m * 7 := by rw [rowM_length, mks_len]
  rcases H with ⟨rfl, rfl, rfl⟩ | ⟨g, cur, rfl, h2, h3, h4, h5⟩
  · obtain rfl : n = 0 := by omega
    refine wpList_append_at w hgd s x 38 ho w.heap.size 57 i0 _ 7 40 Try.underlying38 hi hz0 hz1 hz2 rfl (by decide) (.slice none 0 0) 0 [] hs ⟨rfl, Or.inl ⟨rfl, rfl⟩⟩ ad m c (rowM (mks m k)) hx l2 hnews (rowM_one _) hm (by unfold maxLen; omega) (by omega) (Nat.le_refl _) ?_
    intro g cap' w' hown hgr
    refine h _ cap' w' 0 (Or.inl ⟨rfl, rfl, rfl⟩) (Nat.le_refl _) (Or.inr ⟨g, rfl, (fun ⟨_, e⟩ => by cases e), typ_own hown g rfl, ?_⟩) ((Kept.of_grown hgr).mono (fun _ _ e => by cases e))
    rw [Nat.zero_add] at hown ⊢
    refine owns_reads (n := m) (cap := cap') (base := w.heap.size) ?_
    rw [mks_len]
    exact hown
  · by_cases hroom : n + m ≤ cap
    · refine wpList_append_here w hgd s x 38 ho 57 i0 7 Try.underlying38 hi hz1 g n cap cur h2 hs ad m c hx (rowM (mks m k)) l2 hnews (rowM_one _) hroom (by rw [l2, h3]; omega) ?_
      intro w' HW HK
      have hk : Kept (HB (some ⟨g, 0, none⟩)) w w' := HK.out.mono (fun j _ e => ⟨0, by rw [e]⟩)
      by_cases ha : n + m ≤ a0
      · refine h _ cap w' a0 (Or.inr ⟨g, cur, rfl, ?_, h3, h4, h5⟩) (Nat.le_refl _) (Or.inl ⟨rfl, ha⟩) hk
        rw [← splice_same cur n m a0 k h5 ha]; exact HW.out
      · refine h _ cap w' (n + m) (Or.inr ⟨g, _, rfl, HW.out, ?_, hroom, splice_more cur n m a0 k h5 hn⟩) (by omega) (Or.inl ⟨rfl, Nat.le_refl _⟩) hk
        rw [length_splice _ _ _ (by rw [h3, l2]; omega), h3]
    · have hr : RowAt w g (mks n k) cap cur := ⟨h2, h3, by
        rw [mks_len, ← mks_take n a0 k hn, ← h5, List.take_take]
        congr 1
        omega, by rw [mks_len]; omega⟩
      refine wpList_append_fresh w hgd s x 38 ho 57 i0 _ 7 40 Try.underlying38 hi hz0 hz1 hz2 rfl (by decide) ⟨g, 0, none⟩ n cap (rowM (mks n k)) hs (by rw [rowM_length, mks_len]) ?_ ad m c (rowM (mks m k)) hx l2 hnews (rowM_one _) hm (by omega) (by unfold maxLen; omega) (by omega) ?_
      · intro j u hu
        have hj := (List.getElem?_eq_some_iff.1 hu).1
        rw [addr_add, cell_block h2]
        have e : cur = rowM (mks n k) ++ cur.drop ((mks n k).length * 7) := by rw [← hr.row, List.take_append_drop]
        rw [e]
        simp [List.getElem?_append_left hj, hu]
      · intro g' cap' w' hown hgr
        have hk0 : Kept (fun _ => False) w w' := (Kept.of_grown hgr).mono (fun _ _ e => by cases e)
        have hg' := (hown.lt g' rfl).1
        refine h _ cap' w' a0 ((show Home w (some ⟨g, 0, none⟩) a0 cap k from Or.inr ⟨g, cur, rfl, h2, h3, h4, h5⟩).keep hk0 (fun _ _ e => e)) (Nat.le_refl _) (Or.inr ⟨g', rfl, (fun ⟨_, e⟩ => ?_), typ_own hown g' rfl, ?_⟩) (hk0.mono (fun _ _ e => e.elim))
        · cases e
          have := heap_lt h2
          omega
        · refine owns_reads (n := n + m) (cap := cap') (base := w.heap.size) ?_
          rw [mks_len, ← mks_add, rowM_append]
          exact hown
end Go.Proofs.Ytlfmfhmbkpnjbaa
