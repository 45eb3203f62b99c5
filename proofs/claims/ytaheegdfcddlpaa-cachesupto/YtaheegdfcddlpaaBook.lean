import Derived.Test.YtaheegdfcddlpaaBase
import Derived.Test.YtaheegdfcddlpaaRows
namespace Go.Proofs.Ytaheegdfcddlpaa
open Go.RowKit

abbrev Lst := Nat × Nat × Nat
/-- A list that came out: its block, its length, its capacity. -/
def sv (q : Lst) : Value := .slice (some ⟨q.1, 0, none⟩) q.2.1 q.2.2

/-- The book: lists of entities: none; lists of keys, each written full with its mark. -/
structure BookAt (w : World) (bk : Nat) (kv : Value) (Q : List Lst) : Prop where
  blk : w.heap[bk]? = some (.cells #[.slice none 0 0, kv] 27 (0, 0))
  own : w.ownsRow 0 38 1 kv Q.length (Q.map sv)
  rows : ∀ i (h : i < Q.length), ∃ cur, w.heap[Q[i].1]? = some (.cells cur 3 (0, 0)) ∧ ∀ j, j < Q[i].2.1 → cur[j]? = some (.int .i64 (-1000 - (i : Int) / 4))
  short : ∀ i (h : i < Q.length), Q[i].2.1 ≤ 100
  four : Q.length % 4 = 0

theorem book_cells {w : World} {bk : Nat} {a b : Value} {T : TypeId} (h : w.heap[bk]? = some (.cells #[a, b] T (0, 0))) : w.cell? ⟨bk, 0, none⟩ = some a ∧ w.cell? ⟨bk, 1, none⟩ = some b := ⟨(two_cells h).1, (two_cells h).2.1⟩

set_option maxHeartbeats 400000 in
set_option maxRecDepth 100000 in
theorem whole_nil (bk : Nat) (w : World) (h : w.heap[bk]? = some (.cells #[.slice none 0 0, .slice none 0 0] 27 (0, 0))) :
    Calls Try.prog 8 #[.pointer (some ⟨bk, 0, none⟩)] w fun e w' => e = .returned (.bool true) ∧ w' = w := by
  obtain ⟨c0, c1⟩ := book_cells h
  clear h
  go_enter Try.func8, Try.ntmps8
  go_wp2
  refine wp_loop_rounds 1 ?_
  rw [rounds_succ]
  go_wp2
  refine wp_loop_rounds 1 ?_
  rw [rounds_succ]
  go_wp2
  go_ret
  exact ⟨rfl, rfl⟩

set_option maxHeartbeats 800000 in
set_option maxRecDepth 100000 in
theorem whole_row (bk G cp : Nat) (Q : List Lst) (w : World) (hQ : Q.length ≤ 1000000000) (h : BookAt w bk (.slice (some ⟨G, 0, none⟩) Q.length cp) Q) :
    Calls Try.prog 8 #[.pointer (some ⟨bk, 0, none⟩)] w fun e w' => e = .returned (.bool true) ∧ w' = w := by
  obtain ⟨c0, c1⟩ := book_cells h.blk
  have H := hide h
  clear h
  go_enter Try.func8, Try.ntmps8
  go_wp2
  refine wp_loop_rounds 1 ?_
  rw [rounds_succ]
  go_wp2
  go_loop [5] (fun t => ∃ i : Nat, i ≤ Q.length ∧ t = .int .i64 i) (fun t => Q.length - (intOf t).toNat)
  case atStart => exact ⟨0, Nat.zero_le _, rfl⟩
  case round =>
    obtain ⟨i, hi, rfl⟩ := hrel
    by_cases hlt : i < Q.length
    · have d1 : w.cell? ⟨G, i, none⟩ = some (sv Q[i]) := row_cell H.out.own i _ (by simp [hlt])
      obtain ⟨cur, b1, hcur⟩ := H.out.rows i hlt
      have hsh := H.out.short i hlt
      obtain ⟨⟨g, l, cp2⟩, hq⟩ : ∃ q, Q[i] = q := ⟨_, rfl⟩
      rw [hq] at d1 b1 hcur hsh
      simp only [sv] at d1 b1 hcur hsh
      have hc : Hid (∀ j, j < l → w.cell? ⟨g, j, none⟩ = some (.int .i64 (-1000 - (i : Int) / 4))) := fun j hj => by rw [cell_block b1]; exact hcur j hj
      clear b1 hcur hq
      go_wp2
      go_loop [6] (fun t => ∃ j : Nat, j ≤ l ∧ t = .int .i64 j) (fun t => l - (intOf t).toNat)
      case atStart => exact ⟨0, Nat.zero_le _, rfl⟩
      case round =>
        obtain ⟨j, hj, rfl⟩ := hrel
        by_cases hjl : j < l
        · have e1 := hc.out j hjl
          go_wp2
          go_round
          case rel => exact ⟨j + 1, by omega, by go_num⟩
          case measure => simp [intOf]; omega
        · go_wp2
          go_round
          case rel => exact ⟨i + 1, by omega, by go_num⟩
          case measure => simp [intOf]; omega
    · go_wp2
      go_ret
      exact ⟨rfl, rfl⟩

theorem whole_any (bk : Nat) (kv : Value) (Q : List Lst) (w : World) (hQ : Q.length ≤ 1000000000) (h : BookAt w bk kv Q) :
    Calls Try.prog 8 #[.pointer (some ⟨bk, 0, none⟩)] w fun e w' => e = .returned (.bool true) ∧ w' = w := by
  rcases h.own.2 with ⟨rfl, _⟩ | ⟨G, cp, _, rfl, _⟩
  · exact whole_nil bk w h.blk
  · exact whole_row bk G cp Q w hQ h
/-- A row that is there is written over from its head. -/
def FillAt (g : Nat) (w wr : World) (T : TypeId) (ks : List Value) (i : Nat) : Prop :=
  ∃ xs : List Value, xs.length = ks.length ∧ xs.take i = ks.take i ∧ wr.heap[g]? = some (.cells xs.toArray T (0, 0)) ∧ Kept (fun j => j = g) w wr

theorem FillAt.cell {g : Nat} {w wr : World} {T : TypeId} {ks : List Value} {i : Nat} (h : FillAt g w wr T ks i) (hi : i < ks.length) : ∃ old, wr.cell? ⟨g, i, none⟩ = some old ∧ wr.frozen? ⟨g, i, none⟩ = false := by
  obtain ⟨xs, h1, _, h3, _⟩ := h
  refine ⟨xs[i], ?_, by simp [World.frozen?, h3]⟩
  rw [cell_block h3]
  simp [show i < xs.length by omega]

theorem FillAt.step {g : Nat} {w wr : World} {T : TypeId} {ks : List Value} {i : Nat} (h : FillAt g w wr T ks i) (u : Value) (hu : ks[i]? = some u) : FillAt g w (wr.setCell ⟨g, i, none⟩ u) T ks (i + 1) := by
  obtain ⟨xs, h1, h2, h3, h4⟩ := h
  have hi : i < ks.length := (List.getElem?_eq_some_iff.1 hu).1
  refine ⟨xs.set i u, by simpa using h1, ?_, ?_, ?_⟩
  · apply List.ext_getElem?
    intro j
    simp only [List.getElem?_take]
    by_cases hj : j < i + 1
    · simp only [hj, if_true]
      by_cases hji : j = i
      · subst hji; rw [List.getElem?_set_self (by omega), hu]
      · rw [List.getElem?_set_ne (by omega)]
        have := congrArg (·[j]?) h2
        simpa [List.getElem?_take, show j < i by omega] using this
    · simp [hj]
  · rw [setCell_eq_setRow wr _ i _ T (0, 0) u h3]
    have := setRow_heap wr g xs.toArray (xs.toArray.setIfInBounds i u) T (0, 0) h3
    simpa using this
  · exact h4.join (Kept.setCell wr _ u) (fun _ _ e => e) (fun j hj e => e)

theorem FillAt.done {g : Nat} {w wr : World} {T : TypeId} {ks : List Value} {i : Nat} (h : FillAt g w wr T ks i) (hi : ks.length ≤ i) : wr.heap[g]? = some (.cells ks.toArray T (0, 0)) ∧ Kept (fun j => j = g) w wr := by
  obtain ⟨xs, h1, h2, h3, h4⟩ := h
  rw [List.take_of_length_le (by omega), List.take_of_length_le hi] at h2
  subst h2
  exact ⟨h3, h4⟩

/-- n marks. -/
def marks (n : Nat) (m : Int) : List Value := List.replicate n (.int .i64 m)
theorem marks_len (n : Nat) (m : Int) : (marks n m).length = n := by simp [marks]
theorem marks_get (n : Nat) (m : Int) (j : Nat) (h : j < n) : (marks n m)[j]? = some (.int .i64 m) := by simp [marks, h]
theorem marks_mem (n : Nat) (m : Int) (j : Nat) (u : Value) (h : (marks n m)[j]? = some u) : u = .int .i64 m := by
  have := List.mem_of_getElem? h
  exact List.eq_of_mem_replicate this
theorem marks_one (n : Nat) (m : Int) : ∀ u ∈ marks n m, u.oneCell' = true := by
  intro u hu
  rw [List.eq_of_mem_replicate hu]; rfl
theorem marks_add (a b : Nat) (m : Int) : marks a m ++ marks b m = marks (a + b) m := by simp [marks]

/-- A row of marks. -/
def Marked (w : World) (g l : Nat) (m : Int) : Prop := ∃ cur, w.heap[g]? = some (.cells cur 3 (0, 0)) ∧ ∀ j, j < l → cur[j]? = some (.int .i64 m)

theorem Marked.keep {w w' : World} {g l : Nat} {m : Int} {S : Nat → Prop} (h : Marked w g l m) (hk : Kept S w w') (hS : ¬ S g) : Marked w' g l m := by
  obtain ⟨cur, h1, h2⟩ := h
  exact ⟨cur, by rw [hk.block g (heap_lt h1) hS]; exact h1, h2⟩

theorem Marked.cells {w : World} {g l : Nat} {m : Int} (h : Marked w g l m) : ∀ j u, (marks l m)[j]? = some u → w.cell? ((⟨g, 0, none⟩ : Addr).add j) = some u := by
  obtain ⟨cur, h1, h2⟩ := h
  intro j u hu
  have hj : j < l := by have := (List.getElem?_eq_some_iff.1 hu).1; rwa [marks_len] at this
  rw [addr_add, cell_block h1, h2 j hj, marks_mem l m j u hu]

theorem Marked.lt {w : World} {g l : Nat} {m : Int} (h : Marked w g l m) : g < w.heap.size := by
  obtain ⟨cur, h1, _⟩ := h
  exact heap_lt h1

theorem marked_own {w : World} {base : Nat} {v : Value} {l : Nat} {m : Int} (h : w.ownsRow base 3 1 v l (marks l m)) (hl : 0 < l) : ∃ g cp, v = .slice (some ⟨g, 0, none⟩) l cp ∧ base ≤ g ∧ Marked w g l m := by
  rcases h.2 with ⟨_, h0⟩ | ⟨g, cp, cur, hv, hb, hh, _, _, _, h4⟩
  · omega
  · refine ⟨g, cp, hv, hb, cur, hh, fun j hj => ?_⟩
    have e : (cur.toList.take (l * 1))[j]? = some (.int .i64 m) := by rw [h4]; exact marks_get l m j hj
    rw [List.getElem?_take_of_lt (by omega)] at e
    simpa using e

end Go.Proofs.Ytaheegdfcddlpaa
