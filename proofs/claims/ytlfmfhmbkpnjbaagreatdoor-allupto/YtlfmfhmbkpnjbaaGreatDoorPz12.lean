import Derived.Test.YtlfmfhmbkpnjbaaGreatDoorPz8
import Derived.Test.YtlfmfhmbkpnjbaaGreatDoorPz9
import Derived.Test.YtlfmfhmbkpnjbaaGreatDoorPz11
import Derived.Test.YtlfmfhmbkpnjbaaGreatDoorPz7
namespace Go.Proofs.YtlfmfhmbkpnjbaaGreatDoor
open Go.RowKit

/-- The mark of the list of a number. -/
def markM (k : Int) : Mob := { id := -1000 - k, team := 0, x := 0, y := 0, vx := 0, vy := 0, health := 7 }

set_option maxHeartbeats 400000 in
theorem badEntity_c (k : Int) (w : World) (hk : 0 ≤ k ∧ k ≤ 4611686018427387904) : Calls Tryz.prog 33 #[.int .i64 k] w fun e w' => e = .returned (.agg #[.int .i64 (-1000 - k), .int .i64 0, .float .f32 0, .float .f32 0, .float .f32 0, .float .f32 0, .int .i64 7]) ∧ Kept (fun _ => False) w w' := by
  have hsf := store_float Tryz.prog
  have hw : IntKind.i64.wrap (-1000 - k) = -1000 - k := wrap_id _ (by omega)
  go_enter Tryz.func33, Tryz.ntmps33
  go_wp2
  refine bodyPost_ret (v := .agg #[.int .i64 (-1000 - k), .int .i64 0, .float .f32 0, .float .f32 0, .float .f32 0, .float .f32 0, .int .i64 7]) (by simp [results, Tryz.results33, go_sem]) rfl ?_
  exact ⟨rfl, Kept.alloc w _⟩

/-- One number is like itself. -/
theorem like_self (x : Nat) (w : World) : Calls Tryz.prog 91 #[.float .f32 x, .float .f32 x] w fun e w' => e = .returned (.bool true) ∧ w' = w := by
  by_cases h : okV x
  · have h1 : (FloatKind.f32.format.order x x == some .eq) = true := by apply ford_beq; rw [ford_key h h, Int.compare_eq_eq.2 rfl]
    go_enter Tryz.func91, Tryz.ntmps91
    go_wp2
    go_ret
    exact ⟨rfl, rfl⟩
  · have h0 := nan_ord (c := x) h
    have h1 : (FloatKind.f32.format.order x x == some .eq) = false := by rw [h0]; rfl
    have h2 : (FloatKind.f32.format.order x x != some .eq) = true := by rw [h0]; rfl
    clear h0
    go_enter Tryz.func91, Tryz.ntmps91
    go_wp2
    go_ret
    exact ⟨rfl, rfl⟩

set_option maxHeartbeats 2000000 in
set_option maxRecDepth 100000 in
/-- Two worlds that are alike by the program's own equality. -/
theorem same_c (t : Int) (p p' : Option Addr) (cap cap' : Nat) (X : List Mob) (w : World) (h : Reads w p X) (h' : Reads w p' X) (hl : X.length ≤ 32) (he : ∀ m ∈ X, eqM m m = true) :
    Calls Tryz.prog 59 #[.agg #[.int .i64 t, .slice p X.length cap], .agg #[.int .i64 t, .slice p' X.length cap']] w fun e w' => e = .returned (.bool true) ∧ Kept (fun _ => False) w w' := by
  have HR := hide h
  have HR' := hide h'
  have HE := hide he
  clear h h' he
  have n0 : (t != t) = false := by simp
  have n1 : ((X.length : Int) != (X.length : Int)) = false := by simp
  have K0 := hide ((Kept.alloc w (.cells #[.int .i64 t, .slice p X.length cap] 38)).calm2 (Kept.alloc _ (.cells #[.int .i64 t, .slice p' X.length cap'] 38)))
  have A0 := hide (show ((w.alloc (.cells #[.int .i64 t, .slice p X.length cap] 38)).alloc (.cells #[.int .i64 t, .slice p' X.length cap'] 38)).heap[w.heap.size]? = some (.cells #[.int .i64 t, .slice p X.length cap] 38 (0, 0)) by rw [Below.heap_alloc _ _ _ (by simp)]; exact heap_alloc_new w _)
  have B0 : Hid (((w.alloc (.cells #[.int .i64 t, .slice p X.length cap] 38)).alloc (.cells #[.int .i64 t, .slice p' X.length cap'] 38)).heap[w.heap.size + 1]? = some (.cells #[.int .i64 t, .slice p' X.length cap'] 38 (0, 0))) := by
    have q := heap_alloc_new (w.alloc (.cells #[.int .i64 t, .slice p X.length cap] 38)) (.cells #[.int .i64 t, .slice p' X.length cap'] 38)
    rw [show (w.alloc (.cells #[.int .i64 t, .slice p X.length cap] 38)).heap.size = w.heap.size + 1 from by simp] at q
    exact q
  go_enter Tryz.func59, Tryz.ntmps59
  go_wp2
  generalize (w.alloc (.cells #[.int .i64 t, .slice p X.length cap] 38)).alloc (.cells #[.int .i64 t, .slice p' X.length cap'] 38) = W at *
  go_loopw [5] (fun a wr => ∃ i : Nat, i ≤ X.length ∧ a = .int .i64 i ∧ Hid (Kept (fun _ => False) W wr)) (fun a _ => X.length - (intOf a).toNat)
  case atStart => exact ⟨0, Nat.zero_le _, rfl, Kept.refl _ _⟩
  case round =>
    obtain ⟨i, hil, rfl, HK⟩ := hrel
    have AR : Hid (wr.heap[w.heap.size]? = some (.cells #[.int .i64 t, .slice p X.length cap] 38 (0, 0))) := by show _ = _; rw [HK.out.block _ (heap_lt A0.out) (fun e => e)]; exact A0.out
    have BR : Hid (wr.heap[w.heap.size + 1]? = some (.cells #[.int .i64 t, .slice p' X.length cap'] 38 (0, 0))) := by show _ = _; rw [HK.out.block _ (heap_lt B0.out) (fun e => e)]; exact B0.out
    obtain ⟨a0, a1, -, -⟩ := two_cells AR.out
    obtain ⟨b0, b1, -, -⟩ := two_cells BR.out
    have KW := hide (K0.out.calm2 HK.out)
    by_cases hlt : i < X.length
    · obtain ⟨b, off, hp, hb, c0, c1, c2, c3, c4, c5, c6⟩ := (HR.out.calm KW.out).at i hlt
      obtain ⟨b', off', hp', hb', d0, d1, d2, d3, d4, d5, d6⟩ := (HR'.out.calm KW.out).at i hlt
      have hne := neq_mob X[i] X[i]
      rw [HE.out X[i] (List.getElem_mem hlt)] at hne
      have hb1 : (0 : Int) ≤ (i : Int) := by omega
      have hb2 : (i : Int) < (X.length : Int) := by omega
      subst hp
      subst hp'
      go_wp2
      go_quiet (fail)
      go_wp2
      go_roundw
      case rel => exact ⟨i + 1, by omega, by go_num, HK.out.calm2 (Kept.drewN _ _)⟩
      case measure => simp [intOf]; omega
    · go_wp2
      go_ret
      exact ⟨rfl, KW.out⟩
theorem wpList_copy_any {P : Program} (w : World) {ops : Array Oper} {rest : List Oper} {o : Oper} {a : Act} {Q : Exit → Act → World → Prop} (hgd : o.guard = none) (d s : Operand) (dT sT : TypeId)
    (ho : o.op = .call { callee := .builtin .copy, args := #[d, s], argTypes := #[dT, sT] }) (elem : TypeId) (size : Nat) (hu : P.underlying dT = some (.slice elem)) (hsz : (P.info? elem).map (·.size) = some size)
    (dp sp : Option Addr) (dLen dCap sLen sCap : Nat) (hd : a.eval d = .slice dp dLen dCap) (hs : a.eval s = .slice sp sLen sCap)
    (g off : Nat) (cur : List Value) (t : TypeId) (hg : w.heap[g]? = some (.cells cur.toArray t (0, 0))) (n : Nat) (hn : Nat.min sLen dLen = n) (cs : List Value) (hcs : cs.length = n * size)
    (hpos : 0 < n → dp = some ⟨g, off, none⟩ ∧ ∃ ad, sp = some ad ∧ ∀ j v, cs[j]? = some v → w.cell? (ad.add j) = some v)
    (hfit : off + cs.length ≤ cur.length) (h1 : ∀ v ∈ cs, v.oneCell' = true)
    (h : ∀ w', Hid (w'.heap[g]? = some (.cells (splice cur off cs).toArray t (0, 0))) → Hid (Kept (fun k => k = g) w w') → wpList P ops Q rest (a.put o.dst (goInt n)) w') :
    wpList P ops Q (o :: rest) a w := by
  refine wpList_plain hgd fun K hK => ?_
  by_cases h0 : n = 0
  · subst h0
    obtain rfl : cs = [] := List.eq_nil_of_length_eq_zero (by simpa using hcs)
    have hrun := run_copy_zero (P := P) w dT sT o.type elem size dp sp dLen dCap sLen sCap hu hsz hn
    unfold Oper.wp
    simp [execOp, ho, resolve, invoke, builtin, hd, hs, hrun, Result.andThen]
    exact hK _ _ (h w (show _ = _ by simpa [splice] using hg) (Kept.refl _ _))
  · obtain ⟨rfl, ad, rfl, hsrc⟩ := hpos (by omega)
    have hrun := run_copy_size (P := P) w dT sT o.type elem size g off dLen dCap ad sLen sCap cur.toArray t n cs hu hsz hg hn hcs hsrc (by simpa using hfit) h1
    unfold Oper.wp
    simp [execOp, ho, resolve, invoke, builtin, hd, hs, hrun, Result.andThen]
    exact hK _ _ (h _ (show _ = _ by simpa [splice] using setRow_heap w g _ _ t _ hg) (Kept.setRow w g _))

end Go.Proofs.YtlfmfhmbkpnjbaaGreatDoor

namespace Go.Proofs.YtlfmfhmbkpnjbaaGreatDoor
open Go.RowKit

/-- n marks. -/
def mks (n : Nat) (k : Int) : List Mob := List.replicate n (markM k)
theorem mks_len (n : Nat) (k : Int) : (mks n k).length = n := by simp [mks]
theorem mks_add (a b : Nat) (k : Int) : mks a k ++ mks b k = mks (a + b) k := by simp [mks]
theorem mks_take (a b : Nat) (k : Int) (h : a ≤ b) : (rowM (mks b k)).take (a * 7) = rowM (mks a k) := by
  have e : mks b k = mks a k ++ mks (b - a) k := by rw [mks_add]; congr 1; omega
  rw [e, rowM_append, List.take_left' (by rw [rowM_length, mks_len])]

/-- The block of a list. -/
def HB (p : Option Addr) : Nat → Prop := fun j => ∃ off, p = some ⟨j, off, none⟩

/-- The list that came out: its block's first a places are marks. -/
def Home (w : World) (p : Option Addr) (a cap : Nat) (k : Int) : Prop :=
  (p = none ∧ a = 0 ∧ cap = 0) ∨ ∃ g cur, p = some ⟨g, 0, none⟩ ∧ w.heap[g]? = some (.cells (cur : List Value).toArray 83 (0, 0)) ∧ cur.length = cap * 7 ∧ a ≤ cap ∧ cur.take (a * 7) = rowM (mks a k)

/-- A list of l marks: in that block, or in one of its own. -/
def Good (w : World) (p p' : Option Addr) (l a : Nat) (k : Int) : Prop :=
  (p' = p ∧ l ≤ a) ∨ ∃ g', p' = some ⟨g', 0, none⟩ ∧ ¬ HB p g' ∧ typ w g' 83 ∧ Reads w p' (mks l k)

theorem Good.keep {w w' : World} {p p' : Option Addr} {l a a' : Nat} {k : Int} (h : Good w p p' l a k) (hk : Kept (HB p) w w') (ha : a ≤ a') : Good w' p p' l a' k := by
  rcases h with ⟨h1, h2⟩ | ⟨g', h1, h2, h3⟩
  · exact Or.inl ⟨h1, Nat.le_trans h2 ha⟩
  · refine Or.inr ⟨g', h1, h2, typ_keep h3.1 hk h2, h3.2.keep hk (fun b off e => ?_)⟩
    rw [h1] at e
    cases e
    exact h2

theorem Home.reads {w : World} {p : Option Addr} {a cap : Nat} {k : Int} (h : Home w p a cap k) (l : Nat) (hl : l ≤ a) : Reads w p (mks l k) := by
  rcases h with ⟨h1, h2, h3⟩ | ⟨g, cur, h1, h2, h3, h4, h5⟩
  · obtain rfl : l = 0 := by omega
    intro hh
    simp [mks] at hh
  · subst h1
    have hr : RowAt w g (mks l k) cap cur := ⟨h2, h3, by
      rw [mks_len, ← mks_take l a k hl, ← h5, List.take_take]
      congr 1
      omega, by rw [mks_len]; omega⟩
    exact hr.reads

theorem Good.reads {w : World} {p p' : Option Addr} {l a cap : Nat} {k : Int} (h : Good w p p' l a k) (hh : Home w p a cap k) : Reads w p' (mks l k) := by
  rcases h with ⟨rfl, h2⟩ | ⟨g', h1, h2, h3⟩
  · exact hh.reads l h2
  · exact h3.2

theorem Home.keep {w w' : World} {S : Nat → Prop} {p : Option Addr} {a cap : Nat} {k : Int} (h : Home w p a cap k) (hk : Kept S w w') (hS : ∀ j, HB p j → ¬ S j) : Home w' p a cap k := by
  rcases h with h | ⟨g, cur, h1, h2, h3⟩
  · exact Or.inl h
  · exact Or.inr ⟨g, cur, h1, by rw [hk.block g (heap_lt h2) (hS g ⟨0, h1⟩)]; exact h2, h3⟩

theorem owns_reads {w : World} {base : Nat} {X : List Mob} {p : Option Addr} {n cap : Nat} (h : w.ownsRow base 83 7 (.slice p n cap) X.length (rowM X)) : Reads w p X := by
  intro hX
  rcases h.2 with ⟨_, h0⟩ | ⟨g, cp, cur, hv, hb, hh, _, _, _, h4⟩
  · exact absurd (List.eq_nil_of_length_eq_zero h0) (by intro e; subst e; simp at hX)
  · obtain ⟨rfl, -, -⟩ : p = some ⟨g, 0, none⟩ ∧ _ ∧ _ := by simpa using hv
    refine ⟨g, 0, rfl, heap_lt hh, fun j u hu => ?_⟩
    have hj := (List.getElem?_eq_some_iff.1 hu).1
    rw [rowM_length] at hj
    have e : (cur.toList.take (X.length * 7))[j]? = some u := by rw [h4]; exact hu
    rw [List.getElem?_take_of_lt hj] at e
    rw [Nat.zero_add, cell_block hh]
    simpa using e

theorem splice_same (cur : List Value) (n m a : Nat) (k : Int) (h : cur.take (a * 7) = rowM (mks a k)) (hn : n + m ≤ a) : splice cur (n * 7) (rowM (mks m k)) = cur := by
  have e : cur = rowM (mks n k) ++ (rowM (mks m k) ++ (rowM (mks (a - n - m) k) ++ cur.drop (a * 7))) := by
    conv => lhs; rw [← List.take_append_drop (a * 7) cur, h]
    rw [← List.append_assoc, ← List.append_assoc, ← rowM_append, ← rowM_append, mks_add, mks_add, show n + m + (a - n - m) = a from by omega]
  have l1 : (rowM (mks n k)).length = n * 7 := by rw [rowM_length, mks_len]
  have l2 : (rowM (mks m k)).length = m * 7 := by rw [rowM_length, mks_len]
  generalize hr : rowM (mks (a - n - m) k) ++ cur.drop (a * 7) = r at e
  clear hr h
  subst e
  unfold splice
  rw [List.take_left' l1, l2]
  rw [show n * 7 + m * 7 = (rowM (mks n k) ++ rowM (mks m k)).length from by rw [List.length_append, l1, l2]]
  simp only [← List.append_assoc]
  rw [List.drop_left]

theorem splice_more (cur : List Value) (n m a : Nat) (k : Int) (h : cur.take (a * 7) = rowM (mks a k)) (hn : n ≤ a) : (splice cur (n * 7) (rowM (mks m k))).take ((n + m) * 7) = rowM (mks (n + m) k) := by
  have e : cur.take (n * 7) = rowM (mks n k) := by
    rw [← mks_take n a k hn, ← h, List.take_take]
    congr 1
    omega
  have l2 : (rowM (mks n k) ++ rowM (mks m k)).length = (n + m) * 7 := by rw [← rowM_append, rowM_length, mks_add, mks_len]
  unfold splice
  rw [e, ← List.append_assoc, List.take_left' l2, ← rowM_append, mks_add]

set_option maxRecDepth 100000 in
theorem wpList_append_mark (w : World) {ops : Array Oper} {rest : List Oper} {o : Oper} {a : Act} {Q : Exit → Act → World → Prop} (hgd : o.guard = none) (s x : Operand)
    (ho : o.op = .call { callee := .builtin .append, args := #[s, x], argTypes := #[36, 36] }) (p : Option Addr) (n cap a0 : Nat) (k : Int) (hs : a.eval s = .slice p n cap) (H : Home w p a0 cap k) (hn : n ≤ a0)
    (ad : Addr) (m c : Nat) (hx : a.eval x = .slice (some ad) m c) (hnews : ∀ j u, (rowM (mks m k))[j]? = some u → w.cell? (ad.add j) = some u) (hm : 0 < m) (hb : n + m ≤ 1000)
    (h : ∀ p' cap' w' a', Hid (Home w' p a' cap k) → a0 ≤ a' → Hid (Good w' p p' (n + m) a' k) → Hid (Kept (HB p) w w') → wpList Tryz.prog ops Q rest (a.put o.dst (.slice p' (n + m) cap')) w') :
    wpList Tryz.prog ops Q (o :: rest) a w := by
  obtain ⟨i0, hi, hz0, hz1, hz2⟩ := info_parts info_mob
  have l2 : (rowM (mks m k)).length = m * 7 := by rw [rowM_length, mks_len]
  rcases H with ⟨rfl, rfl, rfl⟩ | ⟨g, cur, rfl, h2, h3, h4, h5⟩
  · obtain rfl : n = 0 := by omega
    refine wpList_append_at w hgd s x 36 ho w.heap.size 83 i0 _ 7 40 Tryz.underlying36 hi hz0 hz1 hz2 rfl (by decide) (.slice none 0 0) 0 [] hs ⟨rfl, Or.inl ⟨rfl, rfl⟩⟩ ad m c (rowM (mks m k)) hx l2 hnews (rowM_one _) hm (by unfold maxLen; omega) (by omega) (Nat.le_refl _) ?_
    intro g cap' w' hown hgr
    refine h _ cap' w' 0 (Or.inl ⟨rfl, rfl, rfl⟩) (Nat.le_refl _) (Or.inr ⟨g, rfl, (fun ⟨_, e⟩ => by cases e), typ_own hown g rfl, ?_⟩) ((Kept.of_grown hgr).mono (fun _ _ e => by cases e))
    rw [Nat.zero_add] at hown ⊢
    refine owns_reads (n := m) (cap := cap') (base := w.heap.size) ?_
    rw [mks_len]
    exact hown
  · by_cases hroom : n + m ≤ cap
    · refine wpList_append_here w hgd s x 36 ho 83 i0 7 Tryz.underlying36 hi hz1 g n cap cur h2 hs ad m c hx (rowM (mks m k)) l2 hnews (rowM_one _) hroom (by rw [l2, h3]; omega) ?_
      intro w' HW HK
      have hk : Kept (HB (some ⟨g, 0, none⟩)) w w' := HK.out.mono (fun j _ e => ⟨0, by rw [e]⟩)
      by_cases ha : n + m ≤ a0
      · refine h _ cap w' a0 (Or.inr ⟨g, cur, rfl, ?_, h3, h4, h5⟩) (Nat.le_refl _) (Or.inl ⟨rfl, ha⟩) hk
        rw [← splice_same cur n m a0 k h5 ha]; exact HW.out
      · refine h _ cap w' (n + m) (Or.inr ⟨g, _, rfl, HW.out, ?_, hroom, splice_more cur n m a0 k h5 hn⟩) (by omega) (Or.inl ⟨rfl, Nat.le_refl _⟩) hk
        rw [length_splice _ _ _ (by rw [h3, l2]; omega), h3]
    · have hr : RowAt w g (mks n k) cap cur := ⟨h2, h3, by
        rw [mks_len, ← mks_take n a0 k hn, ← h5, List.take_take]
        congr 1
        omega, by rw [mks_len]; omega⟩
      refine wpList_append_fresh w hgd s x 36 ho 83 i0 _ 7 40 Tryz.underlying36 hi hz0 hz1 hz2 rfl (by decide) ⟨g, 0, none⟩ n cap (rowM (mks n k)) hs (by rw [rowM_length, mks_len]) ?_ ad m c (rowM (mks m k)) hx l2 hnews (rowM_one _) hm (by omega) (by unfold maxLen; omega) (by omega) ?_
      · intro j u hu
        have hj := (List.getElem?_eq_some_iff.1 hu).1
        rw [addr_add, cell_block h2]
        have e : cur = rowM (mks n k) ++ cur.drop ((mks n k).length * 7) := by rw [← hr.row, List.take_append_drop]
        rw [e]
        simp [List.getElem?_append_left hj, hu]
      · intro g' cap' w' hown hgr
        have hk0 : Kept (fun _ => False) w w' := (Kept.of_grown hgr).mono (fun _ _ e => by cases e)
        have hg' := (hown.lt g' rfl).1
        refine h _ cap' w' a0 ((show Home w (some ⟨g, 0, none⟩) a0 cap k from Or.inr ⟨g, cur, rfl, h2, h3, h4, h5⟩).keep hk0 (fun _ _ e => e)) (Nat.le_refl _) (Or.inr ⟨g', rfl, (fun ⟨_, e⟩ => ?_), typ_own hown g' rfl, ?_⟩) (hk0.mono (fun _ _ e => e.elim))
        · cases e
          have := heap_lt h2
          omega
        · refine owns_reads (n := n + m) (cap := cap') (base := w.heap.size) ?_
          rw [mks_len, ← mks_add, rowM_append]
          exact hown
end Go.Proofs.YtlfmfhmbkpnjbaaGreatDoor

namespace Go.Proofs.YtlfmfhmbkpnjbaaGreatDoor
open Go.RowKit

/-- A list that came out: where, its length, its capacity. -/
abbrev Els := Option Addr × Nat × Nat
def se (q : Els) : Value := .slice q.1 q.2.1 q.2.2

/-- The book: lists of entities, each written full with its mark; lists of keys: none. -/
structure BookE (w : World) (bk : Nat) (ev : Value) (Q : List Els) : Prop where
  blk : w.heap[bk]? = some (.cells #[ev, .slice none 0 0] 49 (0, 0))
  own : w.ownsRow 0 36 1 ev Q.length (Q.map se)
  rows : ∀ i (h : i < Q.length), Reads w Q[i].1 (mks Q[i].2.1 ((i : Int) / 4))
  here : ∀ i (h : i < Q.length) j, HB Q[i].1 j → typ w j 83
  short : ∀ i (h : i < Q.length), Q[i].2.1 ≤ 100
  four : Q.length % 4 = 0

theorem eqM_mark (k : Int) : eqM (markM k) (markM k) = true := by
  have h0 : feq 0 0 = true := by decide
  simp [eqM, markM, h0]

set_option maxHeartbeats 400000 in
set_option maxRecDepth 100000 in
theorem wholeE_nil (bk : Nat) (w : World) (h : w.heap[bk]? = some (.cells #[.slice none 0 0, .slice none 0 0] 49 (0, 0))) :
    Calls Tryz.prog 17 #[.pointer (some ⟨bk, 0, none⟩)] w fun e w' => e = .returned (.bool true) ∧ w' = w := by
  obtain ⟨c0, c1, -, -⟩ := two_cells h
  clear h
  go_enter Tryz.func17, Tryz.ntmps17
  go_wp2
  refine wp_loop_rounds 1 ?_
  rw [rounds_succ]
  go_wp2
  refine wp_loop_rounds 1 ?_
  rw [rounds_succ]
  go_wp2
  go_ret
  exact ⟨rfl, rfl⟩

set_option maxHeartbeats 2000000 in
set_option maxRecDepth 100000 in
theorem wholeE_row (bk G cp : Nat) (Q : List Els) (w : World) (hQ : Q.length ≤ 1000000000) (h : BookE w bk (.slice (some ⟨G, 0, none⟩) Q.length cp) Q) :
    Calls Tryz.prog 17 #[.pointer (some ⟨bk, 0, none⟩)] w fun e w' => e = .returned (.bool true) ∧ Kept (fun _ => False) w w' := by
  have H := hide h
  clear h
  go_enter Tryz.func17, Tryz.ntmps17
  go_wp2
  go_loopw [3] (fun t wr => ∃ i : Nat, i ≤ Q.length ∧ t = .int .i64 i ∧ Hid (Kept (fun _ => False) w wr)) (fun t _ => Q.length - (intOf t).toNat)
  case atStart => exact ⟨0, Nat.zero_le _, rfl, Kept.refl _ _⟩
  case round =>
    obtain ⟨i, hi, rfl, HK⟩ := hrel
    have BR : Hid (wr.heap[bk]? = some (.cells #[.slice (some ⟨G, 0, none⟩) Q.length cp, .slice none 0 0] 49 (0, 0))) := by show _ = _; rw [HK.out.block _ (heap_lt H.out.blk) (fun e => e)]; exact H.out.blk
    obtain ⟨c0, c1, -, -⟩ := two_cells BR.out
    by_cases hlt : i < Q.length
    · have hG : G < w.heap.size := owns_lt H.out.own G rfl
      have d1 : w.cell? ⟨G, i, none⟩ = some (se Q[i]) := row_cell H.out.own i _ (by simp [hlt])
      have HRD := hide (H.out.rows i hlt)
      have hsh := H.out.short i hlt
      obtain ⟨⟨p, l, cp2⟩, hq⟩ : ∃ q, Q[i] = q := ⟨_, rfl⟩
      rw [hq] at d1 HRD hsh
      simp only [se] at d1 HRD hsh
      clear hq
      have hib1 : (0 : Int) ≤ (i : Int) := by omega
      have hib2 : (i : Int) < (Q.length : Int) := by omega
      have HD : Hid (∀ w', Kept (fun _ => False) w w' → w'.cell? ⟨bk, 0, none⟩ = some (.slice (some ⟨G, 0, none⟩) Q.length cp) ∧ w'.cell? ⟨G, i, none⟩ = some (.slice p l cp2)) := fun w' hk =>
        ⟨by rw [cell_keep hk (heap_lt H.out.blk) (fun e => e)]; exact (two_cells H.out.blk).1, by rw [cell_keep hk hG (fun e => e)]; exact d1⟩
      clear c0 c1 d1 BR
      obtain ⟨c0, d1⟩ := HD.out wr HK.out
      go_wp2
      clear c0 d1
      have HK0 := HK
      clear HK
      go_loopw [4] (fun t wr => ∃ j : Nat, j ≤ l ∧ t = .int .i64 j ∧ Hid (Kept (fun _ => False) w wr)) (fun t _ => l - (intOf t).toNat)
      case atStart => exact ⟨0, Nat.zero_le _, rfl, HK0⟩
      case round =>
        obtain ⟨j, hj, rfl, HK⟩ := hrel
        obtain ⟨c0, d1⟩ := HD.out _ HK.out
        by_cases hjl : j < l
        · have hjl2 : j < (mks l ((i : Int) / 4)).length := by rw [mks_len]; exact hjl
          obtain ⟨b, off, rfl, hb, e0, e1, e2, e3, e4, e5, e6⟩ := (HRD.out.calm HK.out).at j hjl2
          have hmk : (mks l ((i : Int) / 4))[j] = markM ((i : Int) / 4) := by simp [mks]
          rw [hmk] at e0 e1 e2 e3 e4 e5 e6
          simp only [markM] at e0 e1 e2 e3 e4 e5 e6
          have hne := neq_mob (markM ((i : Int) / 4)) (markM ((i : Int) / 4))
          rw [eqM_mark] at hne
          simp only [markM] at hne
          have hjb1 : (0 : Int) ≤ (j : Int) := by omega
          have hjb2 : (j : Int) < (l : Int) := by omega
          have CE : Hid (∀ w', Kept (fun _ => False) wr w' → w'.cell? ⟨bk, 0, none⟩ = some (.slice (some ⟨G, 0, none⟩) Q.length cp) ∧ w'.cell? ⟨G, i, none⟩ = some (.slice (some ⟨b, off, none⟩) l cp2) ∧ w'.cell? ⟨b, off + j * 7, none⟩ = some (.int .i64 (-1000 - (i : Int) / 4)) ∧ w'.cell? ⟨b, off + j * 7 + 1, none⟩ = some (.int .i64 0) ∧ w'.cell? ⟨b, off + j * 7 + 2, none⟩ = some (.float .f32 0) ∧ w'.cell? ⟨b, off + j * 7 + 3, none⟩ = some (.float .f32 0) ∧ w'.cell? ⟨b, off + j * 7 + 4, none⟩ = some (.float .f32 0) ∧ w'.cell? ⟨b, off + j * 7 + 5, none⟩ = some (.float .f32 0) ∧ w'.cell? ⟨b, off + j * 7 + 6, none⟩ = some (.int .i64 7)) := fun w' hk => by
            obtain ⟨f0, f1⟩ := HD.out w' (HK.out.calm2 hk)
            refine ⟨f0, f1, ?_, ?_, ?_, ?_, ?_, ?_, ?_⟩
            all_goals rw [cell_keep hk hb (fun e => e)]; assumption
          go_wp2
          have hwr : IntKind.i64.wrap ((i : Int) / 4) = (i : Int) / 4 := wrap_id _ (by omega)
          clear HD HRD H
          have hk0 : 0 ≤ (i : Int) / 4 ∧ (i : Int) / 4 ≤ 4611686018427387904 := by omega
          go_region_held3 (fun w' => w'.cell? ⟨bk, 0, none⟩ = some (.slice (some ⟨G, 0, none⟩) Q.length cp) ∧ w'.cell? ⟨G, i, none⟩ = some (.slice (some ⟨b, off, none⟩) l cp2) ∧ w'.cell? ⟨b, off + j * 7, none⟩ = some (.int .i64 (-1000 - (i : Int) / 4)) ∧ w'.cell? ⟨b, off + j * 7 + 1, none⟩ = some (.int .i64 0) ∧ w'.cell? ⟨b, off + j * 7 + 2, none⟩ = some (.float .f32 0) ∧ w'.cell? ⟨b, off + j * 7 + 3, none⟩ = some (.float .f32 0) ∧ w'.cell? ⟨b, off + j * 7 + 4, none⟩ = some (.float .f32 0) ∧ w'.cell? ⟨b, off + j * 7 + 5, none⟩ = some (.float .f32 0) ∧ w'.cell? ⟨b, off + j * 7 + 6, none⟩ = some (.int .i64 7)) (go_keep)
            ((go_at_call 33; (try rw [hwr]); refine (badEntity_c ((i : Int) / 4) _ hk0).mono ?_; rintro e w4 ⟨rfl, q4⟩; have K4 := hide ((Kept.drew wr).calm2 q4); obtain ⟨v0, v1, v2, v3, v4, v5, v6, v7, v8⟩ := CE.out w4 K4.out; clear q4))
          go_wp2
          go_roundw
          case rel => exact ⟨j + 1, by omega, by go_num, HK.out.calm2 K4.out⟩
          case measure => simp [intOf]; omega
        · go_wp2
          go_roundw
          case rel => exact ⟨i + 1, by omega, by go_num, HK⟩
          case measure => simp [intOf]; omega
    · go_wp2
      refine wp_loop_rounds 1 ?_
      rw [rounds_succ]
      go_wp2
      go_ret
      exact ⟨rfl, HK.out⟩

theorem wholeE (bk : Nat) (ev : Value) (Q : List Els) (w : World) (hQ : Q.length ≤ 1000000000) (h : BookE w bk ev Q) :
    Calls Tryz.prog 17 #[.pointer (some ⟨bk, 0, none⟩)] w fun e w' => e = .returned (.bool true) ∧ Kept (fun _ => False) w w' := by
  rcases h.own.2 with ⟨rfl, _⟩ | ⟨G, cp, _, rfl, _⟩
  · refine (wholeE_nil bk w h.blk).mono ?_
    rintro e w' ⟨rfl, rfl⟩
    exact ⟨rfl, Kept.refl _ _⟩
  · exact wholeE_row bk G cp Q w hQ h
end Go.Proofs.YtlfmfhmbkpnjbaaGreatDoor

namespace Go.Proofs.YtlfmfhmbkpnjbaaGreatDoor
open Go.RowKit

theorem info_ents : (Tryz.prog.info? 36).map (fun i => (i.zero, i.size, i.bytes)) = some (some (.slice none 0 0), 1, 24) := by kernel_rfl

theorem two_set0 {w : World} {c : Nat} {a b : Value} {T : TypeId} (h : w.heap[c]? = some (.cells #[a, b] T (0, 0))) (u : Value) : (w.setCell ⟨c, 0, none⟩ u).heap[c]? = some (.cells #[u, b] T (0, 0)) := by
  rw [setCell_eq_setRow w c 0 #[a, b] T (0, 0) u h]
  exact setRow_heap w c _ _ T _ h

theorem Home.typ {w : World} {p : Option Addr} {a cap : Nat} {k : Int} (h : Home w p a cap k) (j : Nat) (hj : HB p j) : typ w j 83 := by
  obtain ⟨off, hj⟩ := hj
  rcases h with ⟨rfl, _⟩ | ⟨g, cur, rfl, h2, _⟩
  · cases hj
  · cases hj
    exact typ_blk h2

theorem Good.typ {w : World} {p p' : Option Addr} {l a cap : Nat} {k : Int} (h : Good w p p' l a k) (hh : Home w p a cap k) (j : Nat) (hj : HB p' j) : typ w j 83 := by
  rcases h with ⟨rfl, _⟩ | ⟨g', rfl, _, h3, _⟩
  · exact hh.typ j hj
  · obtain ⟨off, hj⟩ := hj
    cases hj
    exact h3

theorem bookE_fin {w w3 w4 : World} {bk n cap a G cp c1 c2 c3 : Nat} {p p1 p2 p3 : Option Addr} {ev : Value} {Q : List Els} {k : Int} {o : Obj} (H : BookE w bk ev Q) (hk3 : Kept (HB p) w w3) (hp : ∀ j, HB p j → typ w j 83)
    (hgQ : ∀ i (h : i < Q.length) j, HB Q[i].1 j → ¬ HB p j) (hn : n ≤ 64) (hk : k = (Q.length : Int) / 4) (HM : Home w3 p a cap k) (hna : n ≤ a) (G1 : Good w3 p p1 (n + 1) a k) (G2 : Good w3 p p2 (n + 2) a k) (G3 : Good w3 p p3 (n + 3) a k)
    (hgrow : (w3.alloc o).grownBy w4 ev.ownBlock) (hown : w4.ownsRow 0 36 1 (.slice (some ⟨G, 0, none⟩) (Q.length + 4) cp) (Q.length + 4) (Q.map se ++ [se (p, n, cap), se (p1, n + 1, c1), se (p2, n + 2, c2), se (p3, n + 3, c3)])) (hG : ev.ownBlock = some G ∨ w3.heap.size + 1 ≤ G) :
    w4.heap[bk]? = some (.cells #[ev, .slice none 0 0] 49 (0, 0)) ∧
    BookE (w4.setCell ⟨bk, 0, none⟩ (.slice (some ⟨G, 0, none⟩) (Q.length + 4) cp)) bk (.slice (some ⟨G, 0, none⟩) (Q.length + 4) cp) (Q ++ [(p, n, cap), (p1, n + 1, c1), (p2, n + 2, c2), (p3, n + 3, c3)]) ∧
      Kept (fun j => HB p j ∨ j = bk ∨ ev.ownBlock = some j) w (w4.setCell ⟨bk, 0, none⟩ (.slice (some ⟨G, 0, none⟩) (Q.length + 4) cp)) ∧ (ev.ownBlock = some G ∨ w.heap.size ≤ G) := by
  have tb : typ w bk 49 := typ_blk H.blk
  have tk : ∀ j, ev.ownBlock = some j → typ w j 36 := fun j hj => typ_own H.own j hj
  have hbg : ¬ HB p bk := fun e => typ_ne tb (hp bk e) (by decide) rfl
  have tb3 : typ w3 bk 49 := typ_keep tb hk3 hbg
  have hek : ∀ j, ev.ownBlock = some j → ¬ HB p j := fun j hj e => typ_ne (tk j hj) (hp j e) (by decide) rfl
  have tk3 : ∀ j, ev.ownBlock = some j → typ w3 j 36 := fun j hj => typ_keep (tk j hj) hk3 (hek j hj)
  have hs3 := hk3.size
  have hka : Kept (fun j => ev.ownBlock = some j) w3 w4 := ((Kept.alloc w3 o).join (Kept.of_grown hgrow) (R := fun j => ev.ownBlock = some j) (fun _ _ e => e.elim) (fun _ _ e => e.symm))
  have hkb : ¬ ev.ownBlock = some bk := fun e => typ_ne (tk bk e) tb (by decide) rfl
  have hb4 : w4.heap[bk]? = some (.cells #[ev, .slice none 0 0] 49 (0, 0)) := by
    rw [hka.block bk (typ_lt tb3) hkb, hk3.block bk (typ_lt tb) hbg]; exact H.blk
  have hGb : G ≠ bk := by
    rcases hG with h | h
    · exact fun e => hkb (by rw [h, e])
    · have := typ_lt tb3; omega
  have hkall : Kept (fun j => ev.ownBlock = some j ∨ j = bk) w3 (w4.setCell ⟨bk, 0, none⟩ (.slice (some ⟨G, 0, none⟩) (Q.length + 4) cp)) :=
    hka.join (Kept.setCell w4 _ _) (fun _ _ e => Or.inl e) (fun _ _ e => Or.inr e)
  have far : ∀ j, typ w3 j 83 → ¬ (ev.ownBlock = some j ∨ j = bk) := fun j hj e => by
    rcases e with e | e
    · exact typ_ne (tk3 j e) hj (by decide) rfl
    · exact typ_ne hj tb3 (by decide) e
  have keepR : ∀ {q : Option Addr} {L : List Mob}, Reads w3 q L → (∀ j, HB q j → typ w3 j 83) → Reads (w4.setCell ⟨bk, 0, none⟩ (.slice (some ⟨G, 0, none⟩) (Q.length + 4) cp)) q L :=
    fun hr ht => hr.keep hkall (fun b off e => far b (ht b ⟨off, e⟩))
  have keepT : ∀ {j : Nat}, typ w3 j 83 → typ (w4.setCell ⟨bk, 0, none⟩ (.slice (some ⟨G, 0, none⟩) (Q.length + 4) cp)) j 83 := fun ht => typ_keep ht hkall (far _ ht)
  have told : ∀ i (h : i < Q.length) j, HB Q[i].1 j → typ w3 j 83 := fun i h j hj => typ_keep (H.here i h j hj) hk3 (hgQ i h j hj)
  have hquad : ∀ t : Nat, t < 4 → ((Q.length + t : Nat) : Int) / 4 = k := by
    intro t ht
    have := H.four
    rw [hk]; omega
  have e1 : (Q ++ [(p, n, cap), (p1, n + 1, c1), (p2, n + 2, c2), (p3, n + 3, c3)]).length = Q.length + 4 := by simp
  refine ⟨hb4, ⟨two_set0 hb4 _, ?_, ?_, ?_, ?_, ?_⟩, ?_, ?_⟩
  · rw [e1, List.map_append]
    refine owns_block hown ?_
    intro j e
    simp only [Value.ownBlock, Option.some.injEq] at e
    subst e
    exact Below.heap_setCell _ _ _ _ hGb
  · intro i hi
    by_cases h0 : i < Q.length
    · rw [List.getElem_append_left h0]
      exact keepR ((H.rows i h0).keep hk3 (fun b off e => hgQ i h0 b ⟨off, e⟩)) (told i h0)
    · have h4 : i < Q.length + 4 := by simpa using hi
      obtain ⟨t, rfl⟩ : ∃ t, i = Q.length + t := ⟨i - Q.length, by omega⟩
      rw [List.getElem_append_right (by omega)]
      rw [hquad t (by omega)]
      simp only [show Q.length + t - Q.length = t from by omega]
      match t, (show t < 4 by omega) with
      | 0, _ => exact keepR (HM.reads n hna) (fun j hj => HM.typ j hj)
      | 1, _ => exact keepR (G1.reads HM) (fun j hj => G1.typ HM j hj)
      | 2, _ => exact keepR (G2.reads HM) (fun j hj => G2.typ HM j hj)
      | 3, _ => exact keepR (G3.reads HM) (fun j hj => G3.typ HM j hj)
  · intro i hi
    by_cases h0 : i < Q.length
    · rw [List.getElem_append_left h0]
      exact fun j hj => keepT (told i h0 j hj)
    · have h4 : i < Q.length + 4 := by simpa using hi
      obtain ⟨t, rfl⟩ : ∃ t, i = Q.length + t := ⟨i - Q.length, by omega⟩
      rw [List.getElem_append_right (by omega)]
      simp only [show Q.length + t - Q.length = t from by omega]
      match t, (show t < 4 by omega) with
      | 0, _ => exact fun j hj => keepT (HM.typ j hj)
      | 1, _ => exact fun j hj => keepT (G1.typ HM j hj)
      | 2, _ => exact fun j hj => keepT (G2.typ HM j hj)
      | 3, _ => exact fun j hj => keepT (G3.typ HM j hj)
  · intro i hi
    by_cases h0 : i < Q.length
    · rw [List.getElem_append_left h0]
      exact H.short i h0
    · have h4 : i < Q.length + 4 := by simpa using hi
      obtain ⟨t, rfl⟩ : ∃ t, i = Q.length + t := ⟨i - Q.length, by omega⟩
      rw [List.getElem_append_right (by omega)]
      simp only [show Q.length + t - Q.length = t from by omega]
      match t, (show t < 4 by omega) with
      | 0, _ => show n ≤ 100; omega
      | 1, _ => show n + 1 ≤ 100; omega
      | 2, _ => show n + 2 ≤ 100; omega
      | 3, _ => show n + 3 ≤ 100; omega
  · have := H.four
    rw [e1]; omega
  · exact hk3.join hkall (fun _ _ e => Or.inl e) (fun _ _ e => by rcases e with e | e; exact Or.inr (Or.inr e); exact Or.inr (Or.inl e))
  · rcases hG with h | h
    · exact Or.inl h
    · exact Or.inr (by omega)

/-- A list of entities that came out, as it came. -/
def Raw (w : World) (p : Option Addr) (n cap : Nat) : Prop :=
  (p = none ∧ n = 0 ∧ cap = 0) ∨ ∃ g cur, p = some ⟨g, 0, none⟩ ∧ w.heap[g]? = some (.cells (cur : List Value).toArray 83 (0, 0)) ∧ cur.length = cap * 7 ∧ n ≤ cap

theorem Raw.home {w : World} {p : Option Addr} {n cap : Nat} (h : Raw w p n cap) (k : Int) : Home w p 0 cap k := by
  rcases h with ⟨h1, _, h3⟩ | ⟨g, cur, h1, h2, h3, h4⟩
  · exact Or.inl ⟨h1, rfl, h3⟩
  · exact Or.inr ⟨g, cur, h1, h2, h3, Nat.zero_le _, by simp [mks, rowM]⟩
theorem Raw.cap {w : World} {p : Option Addr} {n cap : Nat} (h : Raw w p n cap) : n ≤ cap := by
  rcases h with ⟨_, h2, h3⟩ | ⟨g, cur, _, _, _, h4⟩ <;> omega

theorem Home.more {w' : World} {g i cap : Nat} {k : Int} {cur : List Value} (h2 : cur.length = cap * 7) (h3 : i < cap) (h5 : cur.take (i * 7) = rowM (mks i k)) (hw : w'.heap[g]? = some (.cells (splice cur (i * 7) (rowM [markM k])).toArray 83 (0, 0))) : Home w' (some ⟨g, 0, none⟩) (i + 1) cap k := by
  have l2 : (rowM [markM k]).length = 7 := rfl
  refine Or.inr ⟨g, _, rfl, hw, ?_, h3, splice_more cur i 1 i k h5 (Nat.le_refl _)⟩
  rw [length_splice _ _ _ (by rw [h2, l2]; omega), h2]

set_option maxHeartbeats 4000000 in
set_option maxRecDepth 100000 in
theorem keepE (bk n cap : Nat) (p : Option Addr) (ev : Value) (Q : List Els) (w : World) (hQ : Q.length ≤ 1000000000) (hn : n ≤ 64) (h : BookE w bk ev Q) (hr : Raw w p n cap) (hgQ : ∀ i (h : i < Q.length) j, HB Q[i].1 j → ¬ HB p j) :
    Calls Tryz.prog 61 #[.pointer (some ⟨bk, 0, none⟩), .slice p n cap] w fun e w' => e = .returned (.tuple #[]) ∧
      ∃ ev' Q', BookE w' bk ev' Q' ∧ Q'.length = Q.length + 4 ∧ Kept (fun j => HB p j ∨ j = bk ∨ ev.ownBlock = some j) w w' ∧ ∀ j, ev'.ownBlock = some j → ev.ownBlock = some j ∨ w.heap.size ≤ j := by
  obtain ⟨i1, hi1, hy0, hy1, hy2⟩ := info_parts info_ents
  have hsf := store_float Tryz.prog
  obtain ⟨ao, cp, rfl⟩ : ∃ ao cp, ev = .slice ao Q.length cp := by
    rcases h.own.2 with ⟨rfl, h0⟩ | ⟨g, cp, _, rfl, _⟩
    · exact ⟨none, 0, by rw [h0]⟩
    · exact ⟨_, _, rfl⟩
  obtain ⟨c0, c1, -, -⟩ := two_cells h.blk
  have H := hide h
  have HRW := hide hr
  have HGQ := hide hgQ
  have hcap := hr.cap
  clear h hr hgQ
  have hwr : IntKind.i64.wrap ((Q.length : Int) / 4) = (Q.length : Int) / 4 := wrap_id _ (by omega)
  go_enter Tryz.func61, Tryz.ntmps61
  go_wp2_with fail
  try rw [hwr]
  refine (badEntity_c ((Q.length : Int) / 4) _ (by omega)).mono ?_
  rintro e w1 ⟨rfl, q1⟩
  have K1 := hide q1
  clear q1 c0 c1 hwr
  have HKQ : Hid (∃ k : Int, k = (Q.length : Int) / 4) := ⟨_, rfl⟩
  obtain ⟨k, hk⟩ := HKQ.out
  clear HKQ
  rw [← hk]
  have HKK := hide hk
  clear hk
  have MN := hide (heap_alloc_new w1 (.cells #[.int .i64 (-1000 - k), .int .i64 0, .float .f32 0, .float .f32 0, .float .f32 0, .float .f32 0, .int .i64 7] 83))
  have KM := hide (K1.out.calm2 (Kept.alloc w1 (.cells #[.int .i64 (-1000 - k), .int .i64 0, .float .f32 0, .float .f32 0, .float .f32 0, .float .f32 0, .int .i64 7] 83)))
  have hw1 := K1.out.size
  go_wp2
  generalize w1.alloc (.cells #[.int .i64 (-1000 - k), .int .i64 0, .float .f32 0, .float .f32 0, .float .f32 0, .float .f32 0, .int .i64 7] 83) = W at *
  have hpw : Hid (∀ j, HB p j → typ w j 83) := fun j hj => (HRW.out.home k).typ j hj
  have hpm : Hid (¬ HB p w1.heap.size) := fun e => by have := typ_lt (hpw.out _ e); omega
  have HM0 : Hid (Home W p 0 cap k) := (HRW.out.home k).keep KM.out (fun _ _ e => e)
  go_loopw [5] (fun t wr => ∃ i : Nat, i ≤ n ∧ t = .int .i64 i ∧ Hid (Home wr p i cap k) ∧ Hid (Kept (HB p) W wr)) (fun t _ => n - (intOf t).toNat)
  case atStart => exact ⟨0, Nat.zero_le _, rfl, HM0, Kept.refl _ _⟩
  case round =>
    obtain ⟨i, hil, rfl, HE, HK⟩ := hrel
    clear HM0
    have MR : Hid (wr.heap[w1.heap.size]? = some (.cells #[.int .i64 (-1000 - k), .int .i64 0, .float .f32 0, .float .f32 0, .float .f32 0, .float .f32 0, .int .i64 7] 83 (0, 0))) := by show _ = _; rw [HK.out.block _ (heap_lt MN.out) hpm.out]; exact MN.out
    obtain ⟨m0, m1, m2, m3, m4, m5, m6⟩ := seven_cells MR.out
    by_cases hlt : i < n
    · obtain ⟨g, cur, rfl, hg, hcl, -, hct⟩ : ∃ g cur, p = some ⟨g, 0, none⟩ ∧ wr.heap[g]? = some (.cells (cur : List Value).toArray 83 (0, 0)) ∧ cur.length = cap * 7 ∧ i ≤ cap ∧ cur.take (i * 7) = rowM (mks i k) := by
        rcases HE.out with ⟨_, _, h3⟩ | hh
        · omega
        · exact hh
      have hb1 : (0 : Int) ≤ (i : Int) := by omega
      have hb2 : (i : Int) < (n : Int) := by omega
      have hal : i * 7 + 7 ≤ cur.length := by rw [hcl]; omega
      obtain ⟨u0, u1, u2, u3, u4, u5, u6, f0, f1, f2, f3, f4, f5, f6⟩ := seven_old hg (i * 7) hal
      have ffz : ∀ j, wr.frozen? ⟨g, j, none⟩ = false := fun j => by simp [World.frozen?, hg]
      have ST := hide (store7 hg (i * 7) (markM k) hal)
      have HG := hide hg
      clear hg
      go_wp2
      go_roundw
      case rel => exact ⟨i + 1, by omega, by go_num, Home.more hcl (by omega) hct ST.out.1, HK.out.join ST.out.2 (fun _ _ e => e) (fun j _ e => ⟨0, by rw [e]⟩)⟩
      case measure => simp [intOf]; omega
    · obtain rfl : i = n := by omega
      go_wp2_with (at_builtin; refine wpList_append_mark _ rfl (.tmp 26) (.tmp 28) rfl p i cap i k rfl (HE.out.keep (Kept.alloc wr _) (fun _ _ e => e)) (Nat.le_refl _) ⟨wr.heap.size, 0, none⟩ 1 1 rfl ?nw1 (by decide) (by omega) ?_)
      case nw1 => exact new_cells _ (rowM (mks 1 k)) _ _ rfl
      intro p1 cp1 wx a1 HM1 ha1 G1 KX1
      have KY1 : Hid (Kept (HB p) wr wx) := (Kept.alloc wr _).join KX1.out (fun _ _ e => e.elim) (fun _ _ e => e)
      have HK : Hid (Kept (HB p) W wx) := HK.out.join KY1.out (fun _ _ e => e) (fun _ _ e => e)
      have MR : Hid (wx.heap[w1.heap.size]? = some (.cells #[.int .i64 (-1000 - k), .int .i64 0, .float .f32 0, .float .f32 0, .float .f32 0, .float .f32 0, .int .i64 7] 83 (0, 0))) := by show _ = _; rw [HK.out.block _ (heap_lt MN.out) hpm.out]; exact MN.out
      clear KX1 KY1 HE m0 m1 m2 m3 m4 m5 m6
      obtain ⟨m0, m1, m2, m3, m4, m5, m6⟩ := seven_cells MR.out
      go_wp2_with (at_builtin; refine wpList_append_mark _ rfl (.tmp 30) (.tmp 33) rfl p i cap a1 k rfl (HM1.out.keep (Kept.alloc wx _) (fun _ _ e => e)) (ha1) ⟨wx.heap.size, 0, none⟩ 2 2 rfl ?nw2 (by decide) (by omega) ?_)
      case nw2 => exact new_cells _ (rowM (mks 2 k)) _ _ rfl
      intro p2 cp2 wy a2 HM2 ha2 G2 KX2
      have KY2 : Hid (Kept (HB p) wx wy) := (Kept.alloc wx _).join KX2.out (fun _ _ e => e.elim) (fun _ _ e => e)
      have HK : Hid (Kept (HB p) W wy) := HK.out.join KY2.out (fun _ _ e => e) (fun _ _ e => e)
      have MR : Hid (wy.heap[w1.heap.size]? = some (.cells #[.int .i64 (-1000 - k), .int .i64 0, .float .f32 0, .float .f32 0, .float .f32 0, .float .f32 0, .int .i64 7] 83 (0, 0))) := by show _ = _; rw [HK.out.block _ (heap_lt MN.out) hpm.out]; exact MN.out
      have G1 := hide (G1.out.keep KY2.out ha2)
      clear KX2 KY2 HM1 m0 m1 m2 m3 m4 m5 m6
      obtain ⟨m0, m1, m2, m3, m4, m5, m6⟩ := seven_cells MR.out
      go_wp2_with (at_builtin; refine wpList_append_mark _ rfl (.tmp 35) (.tmp 39) rfl p i cap a2 k rfl (HM2.out.keep (Kept.alloc wy _) (fun _ _ e => e)) ((by omega)) ⟨wy.heap.size, 0, none⟩ 3 3 rfl ?nw3 (by decide) (by omega) ?_)
      case nw3 => exact new_cells _ (rowM (mks 3 k)) _ _ rfl
      intro p3 cp3 wz a3 HM3 ha3 G3 KX3
      have KY3 : Hid (Kept (HB p) wy wz) := (Kept.alloc wy _).join KX3.out (fun _ _ e => e.elim) (fun _ _ e => e)
      have HK : Hid (Kept (HB p) W wz) := HK.out.join KY3.out (fun _ _ e => e) (fun _ _ e => e)
      have MR : Hid (wz.heap[w1.heap.size]? = some (.cells #[.int .i64 (-1000 - k), .int .i64 0, .float .f32 0, .float .f32 0, .float .f32 0, .float .f32 0, .int .i64 7] 83 (0, 0))) := by show _ = _; rw [HK.out.block _ (heap_lt MN.out) hpm.out]; exact MN.out
      have G1 := hide (G1.out.keep KY3.out ha3)
      have G2 := hide (G2.out.keep KY3.out ha3)
      clear KX3 KY3 HM2 m0 m1 m2 m3 m4 m5 m6
      obtain ⟨m0, m1, m2, m3, m4, m5, m6⟩ := seven_cells MR.out
      have K3 : Hid (Kept (HB p) w wz) := KM.out.join HK.out (fun _ _ e => e.elim) (fun _ _ e => e)
      have hkg : ∀ j, (Value.slice ao Q.length cp).ownBlock = some j → ¬ HB p j := fun j hj e => typ_ne (typ_own H.out.own j hj) (hpw.out j e) (by decide) rfl
      have HO : Hid (wz.ownsRow 0 36 1 (.slice ao Q.length cp) Q.length (Q.map se)) := owns_block H.out.own (fun j hj => K3.out.block j (owns_lt H.out.own j hj) (hkg j hj))
      have HBk : Hid (wz.heap[bk]? = some (.cells #[.slice ao Q.length cp, .slice none 0 0] 49 (0, 0))) := by
        show _ = _
        rw [K3.out.block bk (heap_lt H.out.blk) (fun e => typ_ne (typ_blk H.out.blk) (hpw.out bk e) (by decide) rfl)]; exact H.out.blk
      obtain ⟨c0, c1, -, -⟩ := two_cells HBk.out
      clear hkg m0 m1 m2 m3 m4 m5 m6 HK MR
      go_wp2_with (at_builtin; refine wpList_append_mine _ rfl (.tmp 45) (.tmp 50) 47 rfl 36 i1 (.slice none 0 0) 1 24 Tryz.underlying47 hi1 hy0 hy1 hy2 rfl (by decide) _ _ _ rfl (HO.out.alloc _) ⟨wz.heap.size, 0, none⟩ 4 4 [se (p, i, cap), se (p1, i + 1, cp1), se (p2, i + 2, cp2), se (p3, i + 3, cp3)] rfl rfl ?nw4 ?oc4 (by decide) ?b41 ?b42 ?_)
      case nw4 => exact new_cells _ [se (p, i, cap), se (p1, i + 1, cp1), se (p2, i + 2, cp2), se (p3, i + 3, cp3)] _ _ rfl
      case oc4 => intro u hu; simp only [List.mem_cons, List.not_mem_nil, or_false] at hu; rcases hu with rfl | rfl | rfl | rfl <;> rfl
      case b41 => unfold maxLen; omega
      case b42 => omega
      intro G cp4 w4 hown4 hgrow4 hG4
      have R := hide (bookE_fin (c1 := cp1) (c2 := cp2) (c3 := cp3) H.out K3.out hpw.out HGQ.out hn HKK.out HM3.out (by omega) G1.out G2.out G3.out hgrow4 hown4 hG4)
      obtain ⟨d0, d1, e0, e1⟩ := two_cells R.out.1
      clear hown4 hgrow4 hG4 c0 c1 G1 G2 G3 HM3 K3 HO HBk
      go_wp2
      go_end0
      obtain ⟨_, r1, r2, r3⟩ := R.out
      refine ⟨rfl, _, _, r1, by simp, r2, fun j hj => ?_⟩
      simp only [Value.ownBlock, Option.some.injEq] at hj
      subst hj
      exact r3
end Go.Proofs.YtlfmfhmbkpnjbaaGreatDoor
