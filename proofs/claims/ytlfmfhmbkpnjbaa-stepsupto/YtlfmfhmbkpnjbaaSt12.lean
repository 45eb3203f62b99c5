import Derived.Test.YtlfmfhmbkpnjbaaSt8
import Derived.Test.YtlfmfhmbkpnjbaaSt9
import Derived.Test.YtlfmfhmbkpnjbaaSt11
import Derived.Test.YtlfmfhmbkpnjbaaSt7
namespace Go.Proofs.Ytlfmfhmbkpnjbaa
open Go.RowKit

/-- The mark of the list of a number. -/
def markM (k : Int) : Mob := { id := -1000 - k, team := 0, x := 0, y := 0, vx := 0, vy := 0, health := 7 }

set_option maxHeartbeats 400000 in
theorem badEntity_c (k : Int) (w : World) (hk : 0 ≤ k ∧ k ≤ 4611686018427387904) : Calls Try.prog 45 #[.int .i64 k] w fun e w' => e = .returned (.agg #[.int .i64 (-1000 - k), .int .i64 0, .float .f32 0, .float .f32 0, .float .f32 0, .float .f32 0, .int .i64 7]) ∧ Kept (fun _ => False) w w' := by
  have hsf := store_float Try.prog
  have hw : IntKind.i64.wrap (-1000 - k) = -1000 - k := wrap_id _ (by omega)
  go_enter Try.func45, Try.ntmps45
  go_wp2
  refine bodyPost_ret (v := .agg #[.int .i64 (-1000 - k), .int .i64 0, .float .f32 0, .float .f32 0, .float .f32 0, .float .f32 0, .int .i64 7]) (by simp [results, Try.results45, go_sem]) rfl ?_
  exact ⟨rfl, Kept.alloc w _⟩

/-- One number is like itself. -/
theorem like_self (x : Nat) (w : World) : Calls Try.prog 57 #[.float .f32 x, .float .f32 x] w fun e w' => e = .returned (.bool true) ∧ w' = w := by
  by_cases h : okV x
  · have h1 : (FloatKind.f32.format.order x x == some .eq) = true := by apply ford_beq; rw [ford_key h h, Int.compare_eq_eq.2 rfl]
    go_enter Try.func57, Try.ntmps57
    go_wp2
    go_ret
    exact ⟨rfl, rfl⟩
  · have h0 := nan_ord (c := x) h
    have h1 : (FloatKind.f32.format.order x x == some .eq) = false := by rw [h0]; rfl
    have h2 : (FloatKind.f32.format.order x x != some .eq) = true := by rw [h0]; rfl
    clear h0
    go_enter Try.func57, Try.ntmps57
    go_wp2
    go_ret
    exact ⟨rfl, rfl⟩

set_option maxHeartbeats 2000000 in
set_option maxRecDepth 100000 in
/-- Two worlds that are alike by the program's own equality. -/
theorem same_c (t : Int) (p p' : Option Addr) (cap cap' : Nat) (X : List Mob) (w : World) (h : Reads w p X) (h' : Reads w p' X) (hl : X.length ≤ 32) (he : ∀ m ∈ X, eqM m m = true) :
    Calls Try.prog 19 #[.agg #[.int .i64 t, .slice p X.length cap], .agg #[.int .i64 t, .slice p' X.length cap']] w fun e w' => e = .returned (.bool true) ∧ Kept (fun _ => False) w w' := by
  have HR := hide h
  have HR' := hide h'
  have HE := hide he
  clear h h' he
  have n0 : (t != t) = false := by simp
  have n1 : ((X.length : Int) != (X.length : Int)) = false := by simp
  have K0 := hide ((Kept.alloc w (.cells #[.int .i64 t, .slice p X.length cap] 40)).calm2 (Kept.alloc _ (.cells #[.int .i64 t, .slice p' X.length cap'] 40)))
  have A0 := hide (show ((w.alloc (.cells #[.int .i64 t, .slice p X.length cap] 40)).alloc (.cells #[.int .i64 t, .slice p' X.length cap'] 40)).heap[w.heap.size]? = some (.cells #[.int .i64 t, .slice p X.length cap] 40 (0, 0)) by rw [Below.heap_alloc _ _ _ (by simp)]; exact heap_alloc_new w _)
  have B0 : Hid (((w.alloc (.cells #[.int .i64 t, .slice p X.length cap] 40)).alloc (.cells #[.int .i64 t, .slice p' X.length cap'] 40)).heap[w.heap.size + 1]? = some (.cells #[.int .i64 t, .slice p' X.length cap'] 40 (0, 0))) := by
    have q := heap_alloc_new (w.alloc (.cells #[.int .i64 t, .slice p X.length cap] 40)) (.cells #[.int .i64 t, .slice p' X.length cap'] 40)
    rw [show (w.alloc (.cells #[.int .i64 t, .slice p X.length cap] 40)).heap.size = w.heap.size + 1 from by simp] at q
    exact q
  go_enter Try.func19, Try.ntmps19
  go_wp2
  generalize (w.alloc (.cells #[.int .i64 t, .slice p X.length cap] 40)).alloc (.cells #[.int .i64 t, .slice p' X.length cap'] 40) = W at *
  go_loopw [5] (fun a wr => ∃ i : Nat, i ≤ X.length ∧ a = .int .i64 i ∧ Hid (Kept (fun _ => False) W wr)) (fun a _ => X.length - (intOf a).toNat)
  case atStart => exact ⟨0, Nat.zero_le _, rfl, Kept.refl _ _⟩
  case round =>
    obtain ⟨i, hil, rfl, HK⟩ := hrel
    have AR : Hid (wr.heap[w.heap.size]? = some (.cells #[.int .i64 t, .slice p X.length cap] 40 (0, 0))) := by show _ = _; rw [HK.out.block _ (heap_lt A0.out) (fun e => e)]; exact A0.out
    have BR : Hid (wr.heap[w.heap.size + 1]? = some (.cells #[.int .i64 t, .slice p' X.length cap'] 40 (0, 0))) := by show _ = _; rw [HK.out.block _ (heap_lt B0.out) (fun e => e)]; exact B0.out
    obtain ⟨a0, a1, -, -⟩ := two_cells AR.out
    obtain ⟨b0, b1, -, -⟩ := two_cells BR.out
    have KW := hide (K0.out.calm2 HK.out)
    by_cases hlt : i < X.length
    · obtain ⟨b, off, hp, hb, c0, c1, c2, c3, c4, c5, c6⟩ := (HR.out.calm KW.out).at i hlt
      obtain ⟨b', off', hp', hb', d0, d1, d2, d3, d4, d5, d6⟩ := (HR'.out.calm KW.out).at i hlt
      have hne := neq_mob X[i] X[i]
      rw [HE.out X[i] (List.getElem_mem hlt)] at hne
      have hb1 : (0 : Int) ≤ (i : Int) := by omega
      have hb2 : (i : Int) < (X.length : Int) := by omega
      subst hp
      subst hp'
      go_wp2
      go_quiet (fail)
      go_wp2
      go_roundw
      case rel => exact ⟨i + 1, by omega, by go_num, HK.out.calm2 (Kept.drewN _ _)⟩
      case measure => simp [intOf]; omega
    · go_wp2
      go_ret
      exact ⟨rfl, KW.out⟩
theorem wpList_copy_any {P : Program} (w : World) {ops : Array Oper} {rest : List Oper} {o : Oper} {a : Act} {Q : Exit → Act → World → Prop} (hgd : o.guard = none) (d s : Operand) (dT sT : TypeId)
    (ho : o.op = .call { callee := .builtin .copy, args := #[d, s], argTypes := #[dT, sT] }) (elem : TypeId) (size : Nat) (hu : P.underlying dT = some (.slice elem)) (hsz : (P.info? elem).map (·.size) = some size)
    (dp sp : Option Addr) (dLen dCap sLen sCap : Nat) (hd : a.eval d = .slice dp dLen dCap) (hs : a.eval s = .slice sp sLen sCap)
    (g off : Nat) (cur : List Value) (t : TypeId) (hg : w.heap[g]? = some (.cells cur.toArray t (0, 0))) (n : Nat) (hn : Nat.min sLen dLen = n) (cs : List Value) (hcs : cs.length = n * size)
    (hpos : 0 < n → dp = some ⟨g, off, none⟩ ∧ ∃ ad, sp = some ad ∧ ∀ j v, cs[j]? = some v → w.cell? (ad.add j) = some v)
    (hfit : off + cs.length ≤ cur.length) (h1 : ∀ v ∈ cs, v.oneCell' = true)
    (h : ∀ w', Hid (w'.heap[g]? = some (.cells (splice cur off cs).toArray t (0, 0))) → Hid (Kept (fun k => k = g) w w') → wpList P ops Q rest (a.put o.dst (goInt n)) w') :
    wpList P ops Q (o :: rest) a w := by
  refine wpList_plain hgd fun K hK => ?_
  by_cases h0 : n = 0
  · subst h0
    obtain rfl : cs = [] := List.eq_nil_of_length_eq_zero (by simpa using hcs)
    have hrun := run_copy_zero (P := P) w dT sT o.type elem size dp sp dLen dCap sLen sCap hu hsz hn
    unfold Oper.wp
    simp [execOp, ho, resolve, invoke, builtin, hd, hs, hrun, Result.andThen]
    exact hK _ _ (h w (show _ = _ by simpa [splice] using hg) (Kept.refl _ _))
  · obtain ⟨rfl, ad, rfl, hsrc⟩ := hpos (by omega)
    have hrun := run_copy_size (P := P) w dT sT o.type elem size g off dLen dCap ad sLen sCap cur.toArray t n cs hu hsz hg hn hcs hsrc (by simpa using hfit) h1
    unfold Oper.wp
    simp [execOp, ho, resolve, invoke, builtin, hd, hs, hrun, Result.andThen]
    exact hK _ _ (h _ (show _ = _ by simpa [splice] using setRow_heap w g _ _ t _ hg) (Kept.setRow w g _))

end Go.Proofs.Ytlfmfhmbkpnjbaa

namespace Go.Proofs.Ytlfmfhmbkpnjbaa
open Go.RowKit

/-- n marks. -/
def mks (n : Nat) (k : Int) : List Mob := List.replicate n (markM k)
theorem mks_len (n : Nat) (k : Int) : (mks n k).length = n := by simp [mks]
theorem mks_add (a b : Nat) (k : Int) : mks a k ++ mks b k = mks (a + b) k := by simp [mks]
theorem mks_take (a b : Nat) (k : Int) (h : a ≤ b) : (rowM (mks b k)).take (a * 7) = rowM (mks a k) := by
  have e : mks b k = mks a k ++ mks (b - a) k := by rw [mks_add]; congr 1; omega
  rw [e, rowM_append, List.take_left' (by rw [rowM_length, mks_len])]

/-- The block of a list. -/
def HB (p : Option Addr) : Nat → Prop := fun j => ∃ off, p = some ⟨j, off, none⟩

/-- The list that came out: its block's first a places are marks. -/
def Home (w : World) (p : Option Addr) (a cap : Nat) (k : Int) : Prop :=
  (p = none ∧ a = 0 ∧ cap = 0) ∨ ∃ g cur, p = some ⟨g, 0, none⟩ ∧ w.heap[g]? = some (.cells (cur : List Value).toArray 57 (0, 0)) ∧ cur.length = cap * 7 ∧ a ≤ cap ∧ cur.take (a * 7) = rowM (mks a k)

/-- A list of l marks: in that block, or in one of its own. -/
def Good (w : World) (p p' : Option Addr) (l a : Nat) (k : Int) : Prop :=
  (p' = p ∧ l ≤ a) ∨ ∃ g', p' = some ⟨g', 0, none⟩ ∧ ¬ HB p g' ∧ typ w g' 57 ∧ Reads w p' (mks l k)

theorem Good.keep {w w' : World} {p p' : Option Addr} {l a a' : Nat} {k : Int} (h : Good w p p' l a k) (hk : Kept (HB p) w w') (ha : a ≤ a') : Good w' p p' l a' k := by
  rcases h with ⟨h1, h2⟩ | ⟨g', h1, h2, h3⟩
  · exact Or.inl ⟨h1, Nat.le_trans h2 ha⟩
  · refine Or.inr ⟨g', h1, h2, typ_keep h3.1 hk h2, h3.2.keep hk (fun b off e => ?_)⟩
    rw [h1] at e
    cases e
    exact h2

theorem Home.reads {w : World} {p : Option Addr} {a cap : Nat} {k : Int} (h : Home w p a cap k) (l : Nat) (hl : l ≤ a) : Reads w p (mks l k) := by
  rcases h with ⟨h1, h2, h3⟩ | ⟨g, cur, h1, h2, h3, h4, h5⟩
  · obtain rfl : l = 0 := by omega
    intro hh
    simp [mks] at hh
  · subst h1
    have hr : RowAt w g (mks l k) cap cur := ⟨h2, h3, by
      rw [mks_len, ← mks_take l a k hl, ← h5, List.take_take]
      congr 1
      omega, by rw [mks_len]; omega⟩
    exact hr.reads

theorem Good.reads {w : World} {p p' : Option Addr} {l a cap : Nat} {k : Int} (h : Good w p p' l a k) (hh : Home w p a cap k) : Reads w p' (mks l k) := by
  rcases h with ⟨rfl, h2⟩ | ⟨g', h1, h2, h3⟩
  · exact hh.reads l h2
  · exact h3.2

theorem Home.keep {w w' : World} {S : Nat → Prop} {p : Option Addr} {a cap : Nat} {k : Int} (h : Home w p a cap k) (hk : Kept S w w') (hS : ∀ j, HB p j → ¬ S j) : Home w' p a cap k := by
  rcases h with h | ⟨g, cur, h1, h2, h3⟩
  · exact Or.inl h
  · exact Or.inr ⟨g, cur, h1, by rw [hk.block g (heap_lt h2) (hS g ⟨0, h1⟩)]; exact h2, h3⟩

theorem owns_reads {w : World} {base : Nat} {X : List Mob} {p : Option Addr} {n cap : Nat} (h : w.ownsRow base 57 7 (.slice p n cap) X.length (rowM X)) : Reads w p X := by
  intro hX
  rcases h.2 with ⟨_, h0⟩ | ⟨g, cp, cur, hv, hb, hh, _, _, _, h4⟩
  · exact absurd (List.eq_nil_of_length_eq_zero h0) (by intro e; subst e; simp at hX)
  · obtain ⟨rfl, -, -⟩ : p = some ⟨g, 0, none⟩ ∧ _ ∧ _ := by simpa using hv
    refine ⟨g, 0, rfl, heap_lt hh, fun j u hu => ?_⟩
    have hj := (List.getElem?_eq_some_iff.1 hu).1
    rw [rowM_length] at hj
    have e : (cur.toList.take (X.length * 7))[j]? = some u := by rw [h4]; exact hu
    rw [List.getElem?_take_of_lt hj] at e
    rw [Nat.zero_add, cell_block hh]
    simpa using e

theorem splice_same (cur : List Value) (n m a : Nat) (k : Int) (h : cur.take (a * 7) = rowM (mks a k)) (hn : n + m ≤ a) : splice cur (n * 7) (rowM (mks m k)) = cur := by
  have e : cur = rowM (mks n k) ++ (rowM (mks m k) ++ (rowM (mks (a - n - m) k) ++ cur.drop (a * 7))) := by
    conv => lhs; rw [← List.take_append_drop (a * 7) cur, h]
    rw [← List.append_assoc, ← List.append_assoc, ← rowM_append, ← rowM_append, mks_add, mks_add, show n + m + (a - n - m) = a from by omega]
  have l1 : (rowM (mks n k)).length = n * 7 := by rw [rowM_length, mks_len]
  have l2 : (rowM (mks m k)).length = m * 7 := by rw [rowM_length, mks_len]
  generalize hr : rowM (mks (a - n - m) k) ++ cur.drop (a * 7) = r at e
  clear hr h
  subst e
  unfold splice
  rw [List.take_left' l1, l2]
  rw [show n * 7 + m * 7 = (rowM (mks n k) ++ rowM (mks m k)).length from by rw [List.length_append, l1, l2]]
  simp only [← List.append_assoc]
  rw [List.drop_left]

theorem splice_more (cur : List Value) (n m a : Nat) (k : Int) (h : cur.take (a * 7) = rowM (mks a k)) (hn : n ≤ a) : (splice cur (n * 7) (rowM (mks m k))).take ((n + m) * 7) = rowM (mks (n + m) k) := by
  have e : cur.take (n * 7) = rowM (mks n k) := by
    rw [← mks_take n a k hn, ← h, List.take_take]
    congr 1
    omega
  have l2 : (rowM (mks n k) ++ rowM (mks m k)).length = (n + m) * 7 := by rw [← rowM_append, rowM_length, mks_add, mks_len]
  unfold splice
  rw [e, ← List.append_assoc, List.take_left' l2, ← rowM_append, mks_add]

set_option maxRecDepth 100000 in
theorem wpList_append_mark (w : World) {ops : Array Oper} {rest : List Oper} {o : Oper} {a : Act} {Q : Exit → Act → World → Prop} (hgd : o.guard = none) (s x : Operand)
    (ho : o.op = .call { callee := .builtin .append, args := #[s, x], argTypes := #[38, 38] }) (p : Option Addr) (n cap a0 : Nat) (k : Int) (hs : a.eval s = .slice p n cap) (H : Home w p a0 cap k) (hn : n ≤ a0)
    (ad : Addr) (m c : Nat) (hx : a.eval x = .slice (some ad) m c) (hnews : ∀ j u, (rowM (mks m k))[j]? = some u → w.cell? (ad.add j) = some u) (hm : 0 < m) (hb : n + m ≤ 1000)
    (h : ∀ p' cap' w' a', Hid (Home w' p a' cap k) → a0 ≤ a' → Hid (Good w' p p' (n + m) a' k) → Hid (Kept (HB p) w w') → wpList Try.prog ops Q rest (a.put o.dst (.slice p' (n + m) cap')) w') :
    wpList Try.prog ops Q (o :: rest) a w := by
  obtain ⟨i0, hi, hz0, hz1, hz2⟩ := info_parts info_mob
  have l2 : (rowM (mks m k)).length = m * 7 := by rw [rowM_length, mks_len]
  rcases H with ⟨rfl, rfl, rfl⟩ | ⟨g, cur, rfl, h2, h3, h4, h5⟩
  · obtain rfl : n = 0 := by omega
    refine wpList_append_at w hgd s x 38 ho w.heap.size 57 i0 _ 7 40 Try.underlying38 hi hz0 hz1 hz2 rfl (by decide) (.slice none 0 0) 0 [] hs ⟨rfl, Or.inl ⟨rfl, rfl⟩⟩ ad m c (rowM (mks m k)) hx l2 hnews (rowM_one _) hm (by unfold maxLen; omega) (by omega) (Nat.le_refl _) ?_
    intro g cap' w' hown hgr
    refine h _ cap' w' 0 (Or.inl ⟨rfl, rfl, rfl⟩) (Nat.le_refl _) (Or.inr ⟨g, rfl, (fun ⟨_, e⟩ => by cases e), typ_own hown g rfl, ?_⟩) ((Kept.of_grown hgr).mono (fun _ _ e => by cases e))
    rw [Nat.zero_add] at hown ⊢
    refine owns_reads (n := m) (cap := cap') (base := w.heap.size) ?_
    rw [mks_len]
    exact hown
  · by_cases hroom : n + m ≤ cap
    · refine wpList_append_here w hgd s x 38 ho 57 i0 7 Try.underlying38 hi hz1 g n cap cur h2 hs ad m c hx (rowM (mks m k)) l2 hnews (rowM_one _) hroom (by rw [l2, h3]; omega) ?_
      intro w' HW HK
      have hk : Kept (HB (some ⟨g, 0, none⟩)) w w' := HK.out.mono (fun j _ e => ⟨0, by rw [e]⟩)
      by_cases ha : n + m ≤ a0
      · refine h _ cap w' a0 (Or.inr ⟨g, cur, rfl, ?_, h3, h4, h5⟩) (Nat.le_refl _) (Or.inl ⟨rfl, ha⟩) hk
        rw [← splice_same cur n m a0 k h5 ha]; exact HW.out
      · refine h _ cap w' (n + m) (Or.inr ⟨g, _, rfl, HW.out, ?_, hroom, splice_more cur n m a0 k h5 hn⟩) (by omega) (Or.inl ⟨rfl, Nat.le_refl _⟩) hk
        rw [length_splice _ _ _ (by rw [h3, l2]; omega), h3]
    · have hr : RowAt w g (mks n k) cap cur := ⟨h2, h3, by
        rw [mks_len, ← mks_take n a0 k hn, ← h5, List.take_take]
        congr 1
        omega, by rw [mks_len]; omega⟩
      refine wpList_append_fresh w hgd s x 38 ho 57 i0 _ 7 40 Try.underlying38 hi hz0 hz1 hz2 rfl (by decide) ⟨g, 0, none⟩ n cap (rowM (mks n k)) hs (by rw [rowM_length, mks_len]) ?_ ad m c (rowM (mks m k)) hx l2 hnews (rowM_one _) hm (by omega) (by unfold maxLen; omega) (by omega) ?_
      · intro j u hu
        have hj := (List.getElem?_eq_some_iff.1 hu).1
        rw [addr_add, cell_block h2]
        have e : cur = rowM (mks n k) ++ cur.drop ((mks n k).length * 7) := by rw [← hr.row, List.take_append_drop]
        rw [e]
        simp [List.getElem?_append_left hj, hu]
      · intro g' cap' w' hown hgr
        have hk0 : Kept (fun _ => False) w w' := (Kept.of_grown hgr).mono (fun _ _ e => by cases e)
        have hg' := (hown.lt g' rfl).1
        refine h _ cap' w' a0 ((show Home w (some ⟨g, 0, none⟩) a0 cap k from Or.inr ⟨g, cur, rfl, h2, h3, h4, h5⟩).keep hk0 (fun _ _ e => e)) (Nat.le_refl _) (Or.inr ⟨g', rfl, (fun ⟨_, e⟩ => ?_), typ_own hown g' rfl, ?_⟩) (hk0.mono (fun _ _ e => e.elim))
        · cases e
          have := heap_lt h2
          omega
        · refine owns_reads (n := n + m) (cap := cap') (base := w.heap.size) ?_
          rw [mks_len, ← mks_add, rowM_append]
          exact hown
end Go.Proofs.Ytlfmfhmbkpnjbaa

namespace Go.Proofs.Ytlfmfhmbkpnjbaa
open Go.RowKit

/-- A list that came out: where, its length, its capacity. -/
abbrev Els := Option Addr × Nat × Nat
def se (q : Els) : Value := .slice q.1 q.2.1 q.2.2

/-- The book: lists of entities, each written full with its mark; lists of keys: none. -/
structure BookE (w : World) (bk : Nat) (ev : Value) (Q : List Els) : Prop where
  blk : w.heap[bk]? = some (.cells #[ev, .slice none 0 0] 27 (0, 0))
  own : w.ownsRow 0 38 1 ev Q.length (Q.map se)
  rows : ∀ i (h : i < Q.length), Reads w Q[i].1 (mks Q[i].2.1 ((i : Int) / 4))
  here : ∀ i (h : i < Q.length) j, HB Q[i].1 j → typ w j 57
  short : ∀ i (h : i < Q.length), Q[i].2.1 ≤ 100
  four : Q.length % 4 = 0

theorem eqM_mark (k : Int) : eqM (markM k) (markM k) = true := by
  have h0 : feq 0 0 = true := by decide
  simp [eqM, markM, h0]

set_option maxHeartbeats 400000 in
set_option maxRecDepth 100000 in
theorem wholeE_nil (bk : Nat) (w : World) (h : w.heap[bk]? = some (.cells #[.slice none 0 0, .slice none 0 0] 27 (0, 0))) :
    Calls Try.prog 13 #[.pointer (some ⟨bk, 0, none⟩)] w fun e w' => e = .returned (.bool true) ∧ w' = w := by
  obtain ⟨c0, c1, -, -⟩ := two_cells h
  clear h
  go_enter Try.func13, Try.ntmps13
  go_wp2
  refine wp_loop_rounds 1 ?_
  rw [rounds_succ]
  go_wp2
  refine wp_loop_rounds 1 ?_
  rw [rounds_succ]
  go_wp2
  go_ret
  exact ⟨rfl, rfl⟩

set_option maxHeartbeats 2000000 in
set_option maxRecDepth 100000 in
theorem wholeE_row (bk G cp : Nat) (Q : List Els) (w : World) (hQ : Q.length ≤ 1000000000) (h : BookE w bk (.slice (some ⟨G, 0, none⟩) Q.length cp) Q) :
    Calls Try.prog 13 #[.pointer (some ⟨bk, 0, none⟩)] w fun e w' => e = .returned (.bool true) ∧ Kept (fun _ => False) w w' := by
  have H := hide h
  clear h
  go_enter Try.func13, Try.ntmps13
  go_wp2
  go_loopw [3] (fun t wr => ∃ i : Nat, i ≤ Q.length ∧ t = .int .i64 i ∧ Hid (Kept (fun _ => False) w wr)) (fun t _ => Q.length - (intOf t).toNat)
  case atStart => exact ⟨0, Nat.zero_le _, rfl, Kept.refl _ _⟩
  case round =>
    obtain ⟨i, hi, rfl, HK⟩ := hrel
    have BR : Hid (wr.heap[bk]? = some (.cells #[.slice (some ⟨G, 0, none⟩) Q.length cp, .slice none 0 0] 27 (0, 0))) := by show _ = _; rw [HK.out.block _ (heap_lt H.out.blk) (fun e => e)]; exact H.out.blk
    obtain ⟨c0, c1, -, -⟩ := two_cells BR.out
    by_cases hlt : i < Q.length
    · have hG : G < w.heap.size := owns_lt H.out.own G rfl
      have d1 : w.cell? ⟨G, i, none⟩ = some (se Q[i]) := row_cell H.out.own i _ (by simp [hlt])
      have HRD := hide (H.out.rows i hlt)
      have hsh := H.out.short i hlt
      obtain ⟨⟨p, l, cp2⟩, hq⟩ : ∃ q, Q[i] = q := ⟨_, rfl⟩
      rw [hq] at d1 HRD hsh
      simp only [se] at d1 HRD hsh
      clear hq
      have hib1 : (0 : Int) ≤ (i : Int) := by omega
      have hib2 : (i : Int) < (Q.length : Int) := by omega
      have HD : Hid (∀ w', Kept (fun _ => False) w w' → w'.cell? ⟨bk, 0, none⟩ = some (.slice (some ⟨G, 0, none⟩) Q.length cp) ∧ w'.cell? ⟨G, i, none⟩ = some (.slice p l cp2)) := fun w' hk =>
        ⟨by rw [cell_keep hk (heap_lt H.out.blk) (fun e => e)]; exact (two_cells H.out.blk).1, by rw [cell_keep hk hG (fun e => e)]; exact d1⟩
      clear c0 c1 d1 BR
      obtain ⟨c0, d1⟩ := HD.out wr HK.out
      go_wp2
      clear c0 d1
      have HK0 := HK
      clear HK
      go_loopw [4] (fun t wr => ∃ j : Nat, j ≤ l ∧ t = .int .i64 j ∧ Hid (Kept (fun _ => False) w wr)) (fun t _ => l - (intOf t).toNat)
      case atStart => exact ⟨0, Nat.zero_le _, rfl, HK0⟩
      case round =>
        obtain ⟨j, hj, rfl, HK⟩ := hrel
        obtain ⟨c0, d1⟩ := HD.out _ HK.out
        by_cases hjl : j < l
        · have hjl2 : j < (mks l ((i : Int) / 4)).length := by rw [mks_len]; exact hjl
          obtain ⟨b, off, rfl, hb, e0, e1, e2, e3, e4, e5, e6⟩ := (HRD.out.calm HK.out).at j hjl2
          have hmk : (mks l ((i : Int) / 4))[j] = markM ((i : Int) / 4) := by simp [mks]
          rw [hmk] at e0 e1 e2 e3 e4 e5 e6
          simp only [markM] at e0 e1 e2 e3 e4 e5 e6
          have hne := neq_mob (markM ((i : Int) / 4)) (markM ((i : Int) / 4))
          rw [eqM_mark] at hne
          simp only [markM] at hne
          have hjb1 : (0 : Int) ≤ (j : Int) := by omega
          have hjb2 : (j : Int) < (l : Int) := by omega
          have CE : Hid (∀ w', Kept (fun _ => False) wr w' → w'.cell? ⟨bk, 0, none⟩ = some (.slice (some ⟨G, 0, none⟩) Q.length cp) ∧ w'.cell? ⟨G, i, none⟩ = some (.slice (some ⟨b, off, none⟩) l cp2) ∧ w'.cell? ⟨b, off + j * 7, none⟩ = some (.int .i64 (-1000 - (i : Int) / 4)) ∧ w'.cell? ⟨b, off + j * 7 + 1, none⟩ = some (.int .i64 0) ∧ w'.cell? ⟨b, off + j * 7 + 2, none⟩ = some (.float .f32 0) ∧ w'.cell? ⟨b, off + j * 7 + 3, none⟩ = some (.float .f32 0) ∧ w'.cell? ⟨b, off + j * 7 + 4, none⟩ = some (.float .f32 0) ∧ w'.cell? ⟨b, off + j * 7 + 5, none⟩ = some (.float .f32 0) ∧ w'.cell? ⟨b, off + j * 7 + 6, none⟩ = some (.int .i64 7)) := fun w' hk => by
            obtain ⟨f0, f1⟩ := HD.out w' (HK.out.calm2 hk)
            refine ⟨f0, f1, ?_, ?_, ?_, ?_, ?_, ?_, ?_⟩
            all_goals rw [cell_keep hk hb (fun e => e)]; assumption
          go_wp2
          have hwr : IntKind.i64.wrap ((i : Int) / 4) = (i : Int) / 4 := wrap_id _ (by omega)
          clear HD HRD H
          have hk0 : 0 ≤ (i : Int) / 4 ∧ (i : Int) / 4 ≤ 4611686018427387904 := by omega
          go_region_held3 (fun w' => w'.cell? ⟨bk, 0, none⟩ = some (.slice (some ⟨G, 0, none⟩) Q.length cp) ∧ w'.cell? ⟨G, i, none⟩ = some (.slice (some ⟨b, off, none⟩) l cp2) ∧ w'.cell? ⟨b, off + j * 7, none⟩ = some (.int .i64 (-1000 - (i : Int) / 4)) ∧ w'.cell? ⟨b, off + j * 7 + 1, none⟩ = some (.int .i64 0) ∧ w'.cell? ⟨b, off + j * 7 + 2, none⟩ = some (.float .f32 0) ∧ w'.cell? ⟨b, off + j * 7 + 3, none⟩ = some (.float .f32 0) ∧ w'.cell? ⟨b, off + j * 7 + 4, none⟩ = some (.float .f32 0) ∧ w'.cell? ⟨b, off + j * 7 + 5, none⟩ = some (.float .f32 0) ∧ w'.cell? ⟨b, off + j * 7 + 6, none⟩ = some (.int .i64 7)) (go_keep)
            ((go_at_call 45; (try rw [hwr]); refine (badEntity_c ((i : Int) / 4) _ hk0).mono ?_; rintro e w4 ⟨rfl, q4⟩; have K4 := hide ((Kept.drew wr).calm2 q4); obtain ⟨v0, v1, v2, v3, v4, v5, v6, v7, v8⟩ := CE.out w4 K4.out; clear q4))
          go_wp2
          go_roundw
          case rel => exact ⟨j + 1, by omega, by go_num, HK.out.calm2 K4.out⟩
          case measure => simp [intOf]; omega
        · go_wp2
          go_roundw
          case rel => exact ⟨i + 1, by omega, by go_num, HK⟩
          case measure => simp [intOf]; omega
    · go_wp2
      refine wp_loop_rounds 1 ?_
      rw [rounds_succ]
      go_wp2
      go_ret
      exact ⟨rfl, HK.out⟩

theorem wholeE (bk : Nat) (ev : Value) (Q : List Els) (w : World) (hQ : Q.length ≤ 1000000000) (h : BookE w bk ev Q) :
    Calls Try.prog 13 #[.pointer (some ⟨bk, 0, none⟩)] w fun e w' => e = .returned (.bool true) ∧ Kept (fun _ => False) w w' := by
  rcases h.own.2 with ⟨rfl, _⟩ | ⟨G, cp, _, rfl, _⟩
  · refine (wholeE_nil bk w h.blk).mono ?_
    rintro e w' ⟨rfl, rfl⟩
    exact ⟨rfl, Kept.refl _ _⟩
  · exact wholeE_row bk G cp Q w hQ h
end Go.Proofs.Ytlfmfhmbkpnjbaa
