import Derived.Test.YtlfmfhmbkpnjbabGreatDoorPy9
import Derived.Test.YtlfmfhmbkpnjbabGreatDoorPy11
import Derived.Test.YtlfmfhmbkpnjbabGreatDoorPy1
import Derived.Test.YtlfmfhmbkpnjbabGreatDoorRows
import Derived.Lib.Walk
import Derived.Lib.ConvBytes
import Derived.Lib.ParseIntBMem
import Derived.Lib.Hide
import Derived.Laws.Strings3
import Derived.Laws.Closers25
import Derived.Laws.Closers25b
import Derived.BigCall
import Derived.BigGuard
namespace Go.Proofs.YtlfmfhmbkpnjbabGreatDoor
open Go.RowKit

/-- The library's tables, and its two errors. -/
structure Errs (w : World) : Prop where
  tabs : Tabs w
  syn : ∃ te pe, w.cell? ⟨2, 0, none⟩ = some (.iface te pe)
  rng : ∃ te pe, w.cell? ⟨3, 0, none⟩ = some (.iface te pe)
theorem Errs.keep {w w' : World} {S : Nat → Prop} (h : Errs w) (k : Kept S w w') (h1 : ¬ S 6) (h2 : ¬ S 4) (h3 : ¬ S 2) (h4 : ¬ S 3) : Errs w' := by
  obtain ⟨te, pe, hs⟩ := h.syn
  obtain ⟨tr, pr, hr⟩ := h.rng
  exact ⟨h.tabs.keep k h1 h2, ⟨te, pe, by rw [cell_keep k (World.block_lt_of_cell? w _ hs) h3]; exact hs⟩, ⟨tr, pr, by rw [cell_keep k (World.block_lt_of_cell? w _ hr) h4]; exact hr⟩⟩
theorem Errs.calm {w w' : World} (h : Errs w) (k : Kept (fun _ => False) w w') : Errs w' := h.keep k (fun e => e) (fun e => e) (fun e => e) (fun e => e)

/-- A text of some bytes. -/
abbrev baL (l : List UInt8) : ByteArray := ⟨l.toArray⟩
theorem baL_size (l : List UInt8) : (baL l).size = l.length := by show l.toArray.size = _; simp
theorem baL_list (l : List UInt8) : (baL l).data.toList = l := by simp
theorem baL_inj {a b : List UInt8} (h : baL a = baL b) : a = b := by
  have := congrArg (fun x : ByteArray => x.data.toList) h
  simpa using this
theorem baL_beq (a b : List UInt8) : ((baL a).toList == (baL b).toList) = decide (a = b) := by
  rw [ByteArray.toList_eq, ByteArray.toList_eq]
  by_cases h : a = b <;> simp [h]

set_option maxHeartbeats 1000000 in
set_option maxRecDepth 100000 in
/-- Where a sign stands. -/
theorem index1_c (s : ByteArray) (c : UInt8) (w : World) :
    Calls Tryz.prog 69 #[.string s, .string ⟨#[c]⟩] w fun e w' => e = .returned (.int .i64 (Lib.indexByte s.data.toList c)) ∧ w' = w := by
  have hz : ((⟨#[c]⟩ : ByteArray).size : Int) = 1 := rfl
  have hcc : ((c.toNat : Int).toNat.toUInt8) = c := by simp
  by_cases hs : (⟨#[c]⟩ : ByteArray) = s
  · subst hs
    have he : Lib.indexByte (⟨#[c]⟩ : ByteArray).data.toList c = 0 := by simp [Lib.indexByte]
    rw [he]
    go_enter Tryz.func69, Tryz.ntmps69
    go_wp2_with fail
    go_ret
    exact ⟨rfl, rfl⟩
  · have hb : ([c] == s.toList) = false := by
      rw [beq_eq_false_iff_ne]
      intro e
      apply hs
      apply bytes_inj
      rw [← e]
      simp [ByteArray.toList_eq]
    go_enter Tryz.func69, Tryz.ntmps69
    go_wp2_with fail
    refine (Tryz.stringslite_IndexByte s c.toNat w).mono ?_
    rintro e w' ⟨rfl, rfl⟩
    rw [hcc]
    go_wp2
    go_ret
    exact ⟨rfl, rfl⟩

set_option maxHeartbeats 1000000 in
set_option maxRecDepth 100000 in
/-- strings.Cut at one sign. -/
theorem cut0_c (s : List UInt8) (c : UInt8) (w : World) (hl : (s.length : Int) ≤ 4611686018427387904) :
    Calls Tryz.prog 45 #[.string (baL s), .string ⟨#[c]⟩] w fun e w' => e = .returned (.tuple #[.string (baL (cutL c s).1), .string (baL (cutL c s).2.1), .bool (cutL c s).2.2]) ∧ Kept (fun _ => False) w w' := by
  have hz : ((⟨#[c]⟩ : ByteArray).size : Int) = 1 := rfl
  have hsz := baL_size s
  rcases cutL_index c s with ⟨h1, h2⟩ | ⟨i, h1, h2, h3⟩
  · rw [h2]
    go_enter Tryz.func45, Tryz.ntmps45
    go_wp2_with fail
    refine (index1_c (baL s) c w).mono ?_
    rintro e w' ⟨rfl, rfl⟩
    rw [baL_list, h1]
    go_wp2
    go_ret3
    exact ⟨rfl, Kept.refl _ _⟩
  · have e1 : baL (s.take i) = (baL s).extract 0 i := by rw [Lib.extract_eq]; simp
    have e2 : baL (s.drop (i + 1)) = (baL s).extract (i + 1) (baL s).size := by
      rw [Lib.extract_eq, baL_list, List.take_of_length_le (by rw [List.length_drop, hsz]; exact Nat.le_refl _)]
    rw [h3]
    simp only [e1, e2]
    have c1 : (0 : Int) ≤ (i : Int) := by omega
    have c2 : (i : Int) ≤ ((baL s).size : Int) := by rw [hsz]; omega
    have c3 : (0 : Int) ≤ (i : Int) + 1 := by omega
    have c4 : (i : Int) + 1 ≤ ((baL s).size : Int) := by rw [hsz]; omega
    have HH := hide h1
    have HS := hide hsz
    clear e1 e2 h1 h3 hsz
    generalize hS : baL s = S at *
    go_enter Tryz.func45, Tryz.ntmps45
    go_wp2_with fail
    refine (index1_c S c w).mono ?_
    rintro e w' ⟨rfl, rfl⟩
    rw [show S.data.toList = s from by rw [← hS], HH.out]
    go_wp2
    go_quiet (fail)
    go_wp2
    go_ret3
    exact ⟨rfl, Kept.drewN _ _⟩

set_option maxHeartbeats 1000000 in
set_option maxRecDepth 100000 in
theorem cut1_c (s : List UInt8) (c : UInt8) (w : World) (hl : (s.length : Int) ≤ 4611686018427387904) :
    Calls Tryz.prog 23 #[.string (baL s), .string ⟨#[c]⟩] w fun e w' => e = .returned (.tuple #[.string (baL (cutL c s).1), .string (baL (cutL c s).2.1), .bool (cutL c s).2.2]) ∧ Kept (fun _ => False) w w' := by
  go_enter Tryz.func23, Tryz.ntmps23
  go_wp2_with fail
  refine (cut0_c s c w hl).mono ?_
  rintro e w1 ⟨rfl, k1⟩
  have K1 := hide k1
  clear k1
  go_wp2
  go_ret3
  exact ⟨rfl, K1.out⟩
end Go.Proofs.YtlfmfhmbkpnjbabGreatDoor

namespace Go.Proofs.YtlfmfhmbkpnjbabGreatDoor
open Go.RowKit

/-- A world as the cache keeps it: its tick, the list's place, length and room. -/
structure Wv where
  t : Int
  p : Option Addr
  n : Nat
  cap : Nat
def Wv.sl (v : Wv) : Value := .slice v.p v.n v.cap
abbrev Ew := Int × Wv

/-- The cells of a list of entries, three each. -/
def flat3 : List Ew → List Value
  | [] => []
  | p :: r => .int .i64 p.1 :: .int .i64 p.2.t :: p.2.sl :: flat3 r

theorem flat3_length (L : List Ew) : (flat3 L).length = L.length * 3 := by
  induction L with
  | nil => rfl
  | cons p r ih => simp only [flat3, List.length_cons, ih]; omega

theorem flat3_append (L M : List Ew) : flat3 (L ++ M) = flat3 L ++ flat3 M := by
  induction L with
  | nil => rfl
  | cons p r ih => simp [flat3, ih]

theorem flat3_take (L : List Ew) (n : Nat) : (flat3 L).take (n * 3) = flat3 (L.take n) := by
  induction L generalizing n with
  | nil => simp [flat3]
  | cons p r ih =>
    cases n with
    | zero => simp [flat3]
    | succ m => rw [show (m + 1) * 3 = m * 3 + 1 + 1 + 1 from by omega]; simp [flat3, ih]

theorem flat3_drop (L : List Ew) (n : Nat) : (flat3 L).drop (n * 3) = flat3 (L.drop n) := by
  induction L generalizing n with
  | nil => simp [flat3]
  | cons p r ih =>
    cases n with
    | zero => simp
    | succ m => rw [show (m + 1) * 3 = m * 3 + 1 + 1 + 1 from by omega]; simp [flat3, ih]

theorem flat3_get (L : List Ew) (j : Nat) (h : j < L.length) : (flat3 L)[j * 3]? = some (.int .i64 L[j].1) ∧ (flat3 L)[j * 3 + 1]? = some (.int .i64 L[j].2.t) ∧ (flat3 L)[j * 3 + 2]? = some L[j].2.sl := by
  induction L generalizing j with
  | nil => simp at h
  | cons p r ih =>
    cases j with
    | zero => simp [flat3]
    | succ m =>
      have := ih m (by simpa using h)
      rw [show (m + 1) * 3 = m * 3 + 1 + 1 + 1 from by omega]
      simpa [flat3, Nat.add_assoc] using this

theorem flat3_one (L : List Ew) : ∀ u ∈ flat3 L, u.oneCell' = true := by
  induction L with
  | nil => simp [flat3]
  | cons p r ih =>
    intro u hu
    simp only [flat3, List.mem_cons] at hu
    rcases hu with rfl | rfl | rfl | h
    · rfl
    · rfl
    · rfl
    · exact ih u h

/-- The cache of worlds in memory. -/
def CacheAt3 (w : World) (c : Nat) (cap : Int) (v : Value) (n : Nat) (xs : List Value) : Prop :=
  w.heap[c]? = some (.cells #[.int .i64 cap, v] 77 (0, 0)) ∧ w.ownsRow 0 105 3 v n xs

theorem CacheAt3.ne {w : World} {c : Nat} {cap : Int} {v : Value} {n : Nat} {xs : List Value} (h : CacheAt3 w c cap v n xs) : v.ownBlock ≠ some c := by
  intro e
  rcases h.2.2 with ⟨rfl, _⟩ | ⟨g, cp, cur, rfl, _, hh, _⟩
  · cases e
  · obtain rfl : g = c := by simpa [Value.ownBlock] using e
    have := h.1.symm.trans hh
    simp at this

theorem new_three (w0 : World) (a b d : Value) (T : TypeId) (m : Nat) (hm : m = w0.heap.size) : ∀ j u, [a, b, d][j]? = some u → (w0.alloc (.cells #[a, b, d] T)).cell? ((⟨m, 0, none⟩ : Addr).add j) = some u := by
  subst hm
  intro j u hu
  rw [addr_add, cell_block (heap_alloc_new w0 _)]
  simpa using hu

theorem three_cells {w : World} {c : Nat} {a b d : Value} {T : TypeId} (h : w.heap[c]? = some (.cells #[a, b, d] T (0, 0))) :
    w.cell? ⟨c, 0, none⟩ = some a ∧ w.cell? ⟨c, 1, none⟩ = some b ∧ w.cell? ⟨c, 2, none⟩ = some d ∧ w.frozen? ⟨c, 0, none⟩ = false ∧ w.frozen? ⟨c, 1, none⟩ = false ∧ w.frozen? ⟨c, 2, none⟩ = false := by
  simp [World.cell?, World.frozen?, h]

theorem grow_fin3 {w w1 : World} {nq : Nat} {o : Obj} {c : Nat} {cap : Int} {v : Value} {g cp' n' : Nat} {xs' : List Value} (hb : w.heap[c]? = some (.cells #[.int .i64 cap, v] 77 (0, 0))) (hne : v.ownBlock ≠ some c)
    (hgrow : ((w.drewN nq).alloc o).grownBy w1 v.ownBlock) (hown : w1.ownsRow 0 105 3 (.slice (some ⟨g, 0, none⟩) n' cp') n' xs') (hg : v.ownBlock = some g ∨ w.heap.size + 1 ≤ g) :
    CacheAt3 (w1.setCell ⟨c, 1, none⟩ (.slice (some ⟨g, 0, none⟩) n' cp')) c cap (.slice (some ⟨g, 0, none⟩) n' cp') n' xs' ∧
      Kept (fun k => k = c ∨ v.ownBlock = some k) w (w1.setCell ⟨c, 1, none⟩ (.slice (some ⟨g, 0, none⟩) n' cp')) ∧
      (v.ownBlock = some g ∨ w.heap.size ≤ g) := by
  have hc := heap_lt hb
  have hgc : g ≠ c := by
    rcases hg with h | h
    · intro e; exact hne (by rw [h, e])
    · omega
  have hg' : v.ownBlock = some g ∨ w.heap.size ≤ g := by
    rcases hg with h | h
    · exact Or.inl h
    · right; omega
  refine ⟨⟨two_set (grow_at hb hne hgrow) _, owns_block hown ?_⟩, ?_, hg'⟩
  · intro g' e
    simp only [Value.ownBlock, Option.some.injEq] at e
    subst e
    exact Below.heap_setCell _ _ _ _ hgc
  · refine ((Kept.drewN w nq).join (Kept.alloc _ o) (R := fun _ => False) (fun _ _ h => h) (fun _ _ h => h)).join ((Kept.of_grown hgrow).join (Kept.setCell w1 _ _) (R := fun k => k = c ∨ v.ownBlock = some k) (fun _ _ h => Or.inr h.symm) (fun _ _ h => Or.inl h)) (fun _ _ h => h.elim) (fun _ _ h => h)

theorem use_facts3 {w w1 : World} {c g : Nat} {x v a b d : Value} {cs : List Value} (hb : w.heap[c]? = some (.cells #[x, v] 77 (0, 0))) (hne : g ≠ c) (hg : g < w.heap.size) (h2 : 3 ≤ cs.length)
    (hg1 : w1.heap[g]? = some (.cells cs.toArray 105 (0, 0))) (hk : Kept (fun k => k = g) (w.alloc (.cells #[a, b, d] 105)).drew w1) :
    w1.cell? ⟨c, 1, none⟩ = some v ∧ w1.cell? ⟨w.heap.size, 0, none⟩ = some a ∧ w1.cell? ⟨w.heap.size, 1, none⟩ = some b ∧ w1.cell? ⟨w.heap.size, 2, none⟩ = some d ∧
      w1.cell? ⟨g, 0, none⟩ = some (cs.getD 0 undef) ∧ w1.cell? ⟨g, 1, none⟩ = some (cs.getD 1 undef) ∧ w1.cell? ⟨g, 2, none⟩ = some (cs.getD 2 undef) ∧ w1.frozen? ⟨g, 0, none⟩ = false ∧ w1.frozen? ⟨g, 1, none⟩ = false ∧ w1.frozen? ⟨g, 2, none⟩ = false := by
  have hc := heap_lt hb
  have e1 : w1.heap[c]? = some (.cells #[x, v] 77 (0, 0)) := by
    rw [hk.block c (by show c < (w.alloc _).heap.size; simp; omega) (fun e => hne e.symm)]
    exact (Below.heap_alloc w _ c hc).trans hb
  have e2 : w1.heap[w.heap.size]? = some (.cells #[a, b, d] 105 (0, 0)) := by
    rw [hk.block _ (by show _ < (w.alloc _).heap.size; simp) (by omega)]
    exact heap_alloc_new w _
  refine ⟨by rw [cell_block e1]; rfl, by rw [cell_block e2]; rfl, by rw [cell_block e2]; rfl, by rw [cell_block e2]; rfl, ?_, ?_, ?_, by simp [World.frozen?, hg1], by simp [World.frozen?, hg1], by simp [World.frozen?, hg1]⟩
  · rw [cell_block hg1]; simp [List.getD, show 0 < cs.length by omega]
  · rw [cell_block hg1]; simp [List.getD, show 1 < cs.length by omega]
  · rw [cell_block hg1]; simp [List.getD, show 2 < cs.length by omega]

theorem touch_cells3 (L : List Ew) (p : Nat) (e : Ew) (h : p < L.length) (cur : List Value) (htk : cur.take (L.length * 3) = flat3 L) (hc : L.length * 3 ≤ cur.length) :
    ((((splice cur 3 (flat3 (L.take p))).set 0 (.int .i64 e.1)).set 1 (.int .i64 e.2.t)).set 2 e.2.sl).take (L.length * 3) = flat3 (touch L p e) ∧
    ((((splice cur 3 (flat3 (L.take p))).set 0 (.int .i64 e.1)).set 1 (.int .i64 e.2.t)).set 2 e.2.sl).length = cur.length := by
  have e1 : cur = flat3 L ++ cur.drop (L.length * 3) := by rw [← htk, List.take_append_drop]
  have hl : (flat3 (L.take p)).length = p * 3 := by rw [flat3_length, List.length_take]; congr 1; omega
  have e2 : cur.drop (3 + (flat3 (L.take p)).length) = flat3 (L.drop (p + 1)) ++ cur.drop (L.length * 3) := by
    rw [hl, show 3 + p * 3 = (p + 1) * 3 from by omega]
    conv => lhs; rw [e1]
    rw [List.drop_append_of_le_length (by rw [flat3_length]; omega), flat3_drop]
  have e3 : (((splice cur 3 (flat3 (L.take p))).set 0 (.int .i64 e.1)).set 1 (.int .i64 e.2.t)).set 2 e.2.sl = flat3 (touch L p e) ++ cur.drop (L.length * 3) := by
    unfold splice
    rw [e2]
    match cur, hc with
    | [], hc => simp at hc; omega
    | [_], hc => simp at hc; omega
    | [_, _], hc => simp at hc; omega
    | a :: b :: d :: r, _ => simp [touch, flat3, flat3_append]
  rw [e3]
  have e4 : (flat3 (touch L p e)).length = L.length * 3 := by rw [flat3_length, touch_length L p e h]
  constructor
  · rw [← e4]; exact List.take_left
  · rw [List.length_append, e4, List.length_drop]; omega

theorem use_fin3 {w w1 w2 : World} {c g cp : Nat} {cap : Int} (L : List Ew) (p : Nat) (k : Int) (v : Wv) (hp : p < L.length) (cur : List Value)
    (hcp : L.length ≤ cp) (hcm : cp ≤ maxLen) (hsz : cur.length = cp * 3) (htk : cur.take (L.length * 3) = flat3 L)
    (hb : w.heap[c]? = some (.cells #[.int .i64 cap, .slice (some ⟨g, 0, none⟩) L.length cp] 77 (0, 0))) (hne : g ≠ c) (_hg : g < w.heap.size)
    (hg1 : w1.heap[g]? = some (.cells (splice cur 3 (flat3 (L.take p))).toArray 105 (0, 0))) (hk : Kept (fun k => k = g) (w.alloc (.cells #[.int .i64 k, .int .i64 v.t, v.sl] 105)).drew w1)
    (h1 : w2.heap = (((w1.setCell ⟨g, 0, none⟩ (.int .i64 k)).setCell ⟨g, 1, none⟩ (.int .i64 v.t)).setCell ⟨g, 2, none⟩ v.sl).heap) (h2 : w2.os = w1.os) (h3 : w2.tape = w1.tape) (h4 : w2.output = w1.output) :
    CacheAt3 w2 c cap (.slice (some ⟨g, 0, none⟩) L.length cp) L.length (flat3 (touch L p (k, v))) ∧ Kept (fun k => k = g) w w2 := by
  have hc := heap_lt hb
  obtain ⟨t1, t2⟩ := touch_cells3 L p (k, v) hp cur htk (by omega)
  have e0 : (((w1.setCell ⟨g, 0, none⟩ (.int .i64 k)).setCell ⟨g, 1, none⟩ (.int .i64 v.t)).setCell ⟨g, 2, none⟩ v.sl) = w1.setRow g ((((splice cur 3 (flat3 (L.take p))).set 0 (.int .i64 k)).set 1 (.int .i64 v.t)).set 2 v.sl).toArray := by
    rw [setCell_eq_setRow w1 g 0 _ 105 (0, 0) _ hg1, setCell_eq_setRow _ g 1 _ 105 (0, 0) _ (setRow_heap w1 g _ _ 105 (0, 0) hg1), setRow_setRow, setCell_eq_setRow _ g 2 _ 105 (0, 0) _ (setRow_heap w1 g _ _ 105 (0, 0) hg1), setRow_setRow]
    congr 1
    apply Array.ext'
    simp
  rw [e0] at h1
  have e2 : w2.heap[g]? = some (.cells ((((splice cur 3 (flat3 (L.take p))).set 0 (.int .i64 k)).set 1 (.int .i64 v.t)).set 2 v.sl).toArray 105 (0, 0)) := by
    rw [h1]; exact setRow_heap w1 g _ _ 105 (0, 0) hg1
  have eo : ∀ j, j ≠ g → w2.heap[j]? = w1.heap[j]? := fun j hj => by rw [h1]; exact setRow_other w1 g j _ hj
  refine ⟨⟨?_, ?_, Or.inr ⟨g, cp, _, rfl, Nat.zero_le _, e2, hcp, hcm, ?_, ?_⟩⟩, ?_⟩
  · rw [eo c (fun e => hne e.symm), hk.block c (by show c < (w.alloc _).heap.size; simp; omega) (fun e => hne e.symm)]
    exact (Below.heap_alloc w _ c hc).trans hb
  · rw [flat3_length, touch_length L p (k, v) hp]
  · rw [List.size_toArray, t2, hsz]
  · exact t1
  · refine ⟨h2.trans hk.os, h3.trans hk.tape, h4.trans hk.output, ?_, ?_⟩
    · have := hk.size
      have q : ((w.alloc (Obj.cells #[.int .i64 k, .int .i64 v.t, v.sl] 105)).drew).heap.size = w.heap.size + 1 := by show (w.alloc _).heap.size = _; simp
      rw [h1]; simp; omega
    · intro j hj hn
      rw [eo j hn, hk.block j (by show j < (w.alloc _).heap.size; simp; omega) hn]
      exact Below.heap_alloc w _ j hj

theorem CacheAt3.keep {w w' : World} {c : Nat} {cap : Int} {v : Value} {n : Nat} {xs : List Value} {S : Nat → Prop} (h : CacheAt3 w c cap v n xs) (hk : Kept S w w') (hS : ∀ j, Foot c v j → ¬ S j) : CacheAt3 w' c cap v n xs :=
  ⟨by rw [hk.block c (heap_lt h.1) (hS c (Or.inl rfl))]; exact h.1, owns_block h.2 (fun g hg => hk.block g (owns_lt h.2 g hg) (hS g (Or.inr hg)))⟩

theorem CacheAt3.lt {w : World} {c : Nat} {cap : Int} {v : Value} {n : Nat} {xs : List Value} (h : CacheAt3 w c cap v n xs) : ∀ j, Foot c v j → j < w.heap.size := by
  intro j hj
  rcases hj with rfl | hj
  · exact heap_lt h.1
  · exact owns_lt h.2 j hj
end Go.Proofs.YtlfmfhmbkpnjbabGreatDoor

namespace Go.Proofs.YtlfmfhmbkpnjbabGreatDoor
open Go.RowKit

/-- A reader in memory. -/
def RdAt (w : World) (b : Nat) (r : Rd) : Prop := w.heap[b]? = some (.cells #[.string (baL r.rest), .bool r.over, .bool r.broken] 108 (0, 0))
theorem RdAt.keep {w w' : World} {S : Nat → Prop} {b : Nat} {r : Rd} (h : RdAt w b r) (k : Kept S w w') (hS : ¬ S b) : RdAt w' b r := by unfold RdAt; rw [k.block b (heap_lt h) hS]; exact h
theorem RdAt.calm {w w' : World} {b : Nat} {r : Rd} (h : RdAt w b r) (k : Kept (fun _ => False) w w') : RdAt w' b r := h.keep k (fun e => e)
theorem RdAt.set2 {w : World} {b : Nat} {r : Rd} (h : RdAt w b r) : RdAt (w.setCell ⟨b, 2, none⟩ (.bool true)) b r.bad := by
  unfold RdAt
  rw [setCell_eq_setRow w b 2 _ _ (0, 0) _ h]
  exact setRow_heap w b _ _ _ _ h
theorem RdAt.set01 {w : World} {b : Nat} {r : Rd} (h : RdAt w b r) (l : List UInt8) (o : Bool) : RdAt ((w.setCell ⟨b, 0, none⟩ (.string (baL l))).setCell ⟨b, 1, none⟩ (.bool o)) b ⟨l, o, r.broken⟩ := by
  have h1 : (w.setCell ⟨b, 0, none⟩ (.string (baL l))).heap[b]? = some (.cells #[.string (baL l), .bool r.over, .bool r.broken] 108 (0, 0)) := by
    rw [setCell_eq_setRow w b 0 _ _ (0, 0) _ h]
    exact setRow_heap w b _ _ _ _ h
  unfold RdAt
  rw [setCell_eq_setRow _ b 1 _ _ (0, 0) _ h1]
  exact setRow_heap _ b _ _ _ _ h1

/-- How long a text may be. -/
def Rd.small (r : Rd) : Prop := r.rest.length ≤ 140737488355328
theorem word_small (r : Rd) (h : r.small) : r.word.1.length ≤ 140737488355328 ∧ r.word.2.small := by
  have := cutL_short 32 r.rest
  unfold Rd.small at *
  unfold Rd.word
  split
  · exact ⟨by simp, h⟩
  · dsimp only
    omega

set_option maxHeartbeats 1000000 in
set_option maxRecDepth 100000 in
theorem word_c (b : Nat) (r : Rd) (w : World) (hs : r.small) (h : RdAt w b r) :
    Calls Tryz.prog 46 #[.pointer (some ⟨b, 0, none⟩)] w fun e w' => e = .returned (.string (baL r.word.1)) ∧ RdAt w' b r.word.2 ∧ Kept (fun k => k = b) w w' := by
  obtain ⟨c0, c1, c2, f0, f1, f2⟩ := three_cells h
  have H := hide h
  clear h
  cases ho : r.over with
  | true =>
    rw [ho] at c1
    have e1 : r.word = ([], r.bad) := by unfold Rd.word; rw [if_pos ho]; unfold Rd.bad; rw [ho]
    rw [e1]
    go_enter Tryz.func46, Tryz.ntmps46
    go_wp2
    go_ret
    exact ⟨rfl, H.out.set2, Kept.setCell w ⟨b, 2, none⟩ _⟩
  | false =>
    rw [ho] at c1
    have e1 : r.word = ((cutL 32 r.rest).1, ⟨(cutL 32 r.rest).2.1, !(cutL 32 r.rest).2.2, r.broken⟩) := by unfold Rd.word; rw [if_neg (by simp [ho])]
    rw [e1]
    have HS : Hid ((r.rest.length : Int) ≤ 4611686018427387904) := by show _ ≤ _; unfold Rd.small at hs; omega
    clear hs e1
    go_enter Tryz.func46, Tryz.ntmps46
    go_wp2_with fail
    refine (cut1_c r.rest 32 w HS.out).mono ?_
    rintro e w1 ⟨rfl, k1⟩
    obtain ⟨d0, d1, d2, g0, g1, g2⟩ := three_cells (H.out.calm k1)
    have K1 := hide k1
    clear k1 c0 c1 c2 f0 f1 f2
    go_wp2
    go_ret
    refine ⟨rfl, ?_, ?_⟩
    · exact (H.out.calm K1.out).set01 _ _
    · exact K1.out.join ((Kept.setCell w1 _ _).join (Kept.setCell _ _ _) (R := fun k => k = b) (fun _ _ e => e) (fun _ _ e => e)) (fun _ _ e => e.elim) (fun _ _ e => e)

theorem Kept.bytes (w : World) (t : TypeId) (s : ByteArray) : Kept (fun _ => False) w (Lib.bytesWorld w t s) := by
  exact ⟨rfl, rfl, rfl, by rw [Lib.bytesWorld_size]; omega, fun k hk _ => Lib.bytesWorld_at_old w t s k hk⟩
theorem atoi_i64 {l : List UInt8} {n : Int} (h : Lib.atoiAll l = .ok n) : -9223372036854775808 ≤ n ∧ n ≤ 9223372036854775807 := by
  unfold Lib.atoiAll at h
  split at h
  · cases h
  · dsimp only at h
    split at h
    · cases h
    · cases h
    · split at h
      · cases h
      · split at h
        · cases h
        · injection h with h
          split at h <;> omega

/-- strconv.Atoi, whatever the text. -/
def NumOf (x : List UInt8) (e : Ending) : Prop :=
  (∃ n, Lib.atoiAll x = .ok n ∧ e = .returned (.tuple #[.int .i64 n, .nilIface])) ∨ ((∀ n, Lib.atoiAll x ≠ .ok n) ∧ ∃ v N, e = .returned (.tuple #[.int .i64 v, .iface 170 (.pointer (some ⟨N, 0, none⟩))]))
theorem atoi_c (x : List UInt8) (w : World) (hx : x.length ≤ 140737488355328) (hE : Errs w) :
    Calls Tryz.prog 70 #[.string (baL x)] w fun e w' => NumOf x e ∧ Kept (fun _ => False) w w' := by
  have hsz := baL_size x
  have hd := baL_list x
  cases ha : Lib.atoiAll x with
  | ok n =>
    refine (Tryz.strconv_Atoi_ok (baL x) (by omega) n (by rw [hd]; exact ha) w).mono ?_
    rintro e w' ⟨rfl, h⟩
    refine ⟨Or.inl ⟨n, ha, rfl⟩, ?_⟩
    rcases h with rfl | ⟨t, rfl⟩
    · exact Kept.refl _ _
    · exact Kept.bytes _ _ _
  | «syntax» =>
    obtain ⟨te, pe, hv⟩ := hE.syn
    refine (Tryz.strconv_Atoi_syntax (baL x) (by omega) (by rw [hd]; exact ha) _ w hv (Or.inr ⟨te, pe, rfl⟩)).mono ?_
    rintro e w' ⟨N, rfl, _, _, h⟩
    exact ⟨Or.inr ⟨fun n hn => (by rw [ha] at hn; cases hn), _, _, rfl⟩, Kept.of_below h⟩
  | range =>
    obtain ⟨te, pe, hv⟩ := hE.rng
    refine (Tryz.strconv_Atoi_range (baL x) (by omega) (by rw [hd]; exact ha) _ w hv (Or.inr ⟨te, pe, rfl⟩)).mono ?_
    rintro e w' ⟨N, rfl, _, _, h⟩
    exact ⟨Or.inr ⟨fun n hn => (by rw [ha] at hn; cases hn), _, _, rfl⟩, Kept.of_below h⟩

/-- A block that is none of the library's. -/
def Mine (b : Nat) : Prop := 6 < b ∧ 4 < b ∧ 2 < b ∧ 3 < b
theorem Errs.mine {w w' : World} {b : Nat} (h : Errs w) (hB : Mine b) (k : Kept (fun k => k = b) w w') : Errs w' :=
  h.keep k (by have := hB.1; omega) (by have := hB.2.1; omega) (by have := hB.2.2.1; omega) (by have := hB.2.2.2; omega)

set_option maxHeartbeats 2000000 in
set_option maxRecDepth 100000 in
theorem int_c (b : Nat) (r : Rd) (lo hi : Int) (w : World) (hs : r.small) (hB : Mine b) (hE : Errs w) (h : RdAt w b r) :
    Calls Tryz.prog 47 #[.pointer (some ⟨b, 0, none⟩), .int .i64 lo, .int .i64 hi] w fun e w' => e = .returned (.int .i64 (r.int lo hi).1) ∧ RdAt w' b (r.int lo hi).2 ∧ Kept (fun k => k = b) w w' := by
  have H := hide h
  have HE := hide hE
  have HB := hide hB
  have HS := hide (word_small r hs)
  have HS0 := hide hs
  clear h hE hB hs
  go_enter Tryz.func47, Tryz.ntmps47
  go_wp2_with fail
  refine (word_c b r w HS0.out H.out).mono ?_
  rintro e w1 ⟨rfl, q1, k1⟩
  have Q1 := hide q1
  have K1 := hide k1
  clear q1 k1
  obtain ⟨x, hx⟩ : ∃ x, r.word.1 = x := ⟨_, rfl⟩
  obtain ⟨r2, hr2⟩ : ∃ r2, r.word.2 = r2 := ⟨_, rfl⟩
  rw [hx]
  rw [hr2] at Q1
  have HX := hide hx
  have HR := hide hr2
  have HXL : Hid (x.length ≤ 140737488355328) := by show _ ≤ _; rw [← HX.out]; exact HS.out.1
  clear hx hr2
  go_wp2_with fail
  refine (atoi_c x w1 HXL.out (HE.out.mine HB.out K1.out)).mono ?_
  rintro e w2 ⟨hN, k2⟩
  have K2 := hide k2
  obtain ⟨d0, d1, d2, g0, g1, g2⟩ := three_cells (Q1.out.calm k2)
  clear k2 d0 d1 g0 g1
  have bad : Hid (∀ w3, Kept (fun _ => False) w2 w3 → numL x = none → RdAt (w3.setCell ⟨b, 2, none⟩ (.bool true)) b (r.int lo hi).2 ∧ Kept (fun k => k = b) w (w3.setCell ⟨b, 2, none⟩ (.bool true)) ∧ (r.int lo hi).1 = 0) := by
    intro w3 k3 hn
    have e1 : r.int lo hi = (0, r2.bad) := by unfold Rd.int; rw [HX.out, hn, HR.out]
    rw [e1]
    exact ⟨((Q1.out.calm K2.out).calm k3).set2, K1.out.join ((K2.out.join k3 (R := fun _ => False) (fun _ _ e => e) (fun _ _ e => e)).join (Kept.setCell w3 ⟨b, 2, none⟩ _) (R := fun k => k = b) (fun _ _ e => e.elim) (fun _ _ e => e)) (fun _ _ e => e) (fun _ _ e => e), rfl⟩
  rcases hN with ⟨n, ha, rfl⟩ | ⟨ha, v, N, rfl⟩
  · have hi64 := hide (atoi_i64 ha)
    have HA := hide ha
    have okN : Hid (∀ w3, Kept (fun _ => False) w2 w3 → Lib.itoa n = x → lo ≤ n → n ≤ hi → RdAt w3 b (r.int lo hi).2 ∧ Kept (fun k => k = b) w w3 ∧ (r.int lo hi).1 = n) := by
      intro w3 k3 h1 h2 h3
      have e1 : r.int lo hi = (n, r2) := by
        have hn : numL x = some n := by unfold numL; rw [HA.out]; exact if_pos h1
        unfold Rd.int
        rw [HX.out, hn, HR.out]
        exact if_pos ⟨h2, h3⟩
      rw [e1]
      exact ⟨(Q1.out.calm K2.out).calm k3, K1.out.join (K2.out.join k3 (R := fun _ => False) (fun _ _ e => e) (fun _ _ e => e)) (fun _ _ e => e) (fun _ _ e => e.elim), rfl⟩
    have badN : Hid (∀ w3, Kept (fun _ => False) w2 w3 → ¬ (lo ≤ n ∧ n ≤ hi) → RdAt (w3.setCell ⟨b, 2, none⟩ (.bool true)) b (r.int lo hi).2 ∧ Kept (fun k => k = b) w (w3.setCell ⟨b, 2, none⟩ (.bool true)) ∧ (r.int lo hi).1 = 0) := by
      intro w3 k3 h1
      by_cases h2 : Lib.itoa n = x
      · have e1 : r.int lo hi = (0, r2.bad) := by
          have hn : numL x = some n := by unfold numL; rw [HA.out]; exact if_pos h2
          unfold Rd.int
          rw [HX.out, hn, HR.out]
          exact if_neg h1
        rw [e1]
        exact ⟨((Q1.out.calm K2.out).calm k3).set2, K1.out.join ((K2.out.join k3 (R := fun _ => False) (fun _ _ e => e) (fun _ _ e => e)).join (Kept.setCell w3 ⟨b, 2, none⟩ _) (R := fun k => k = b) (fun _ _ e => e.elim) (fun _ _ e => e)) (fun _ _ e => e) (fun _ _ e => e), rfl⟩
      · exact bad.out w3 k3 (by unfold numL; rw [HA.out]; exact if_neg h2)
    clear ha
    go_wp2_with fail
    refine (intWord_c n w2 hi64.out ((HE.out.mine HB.out K1.out).calm K2.out).tabs).mono ?_
    rintro e w3 ⟨rfl, k3⟩
    have K3 := hide k3
    obtain ⟨p0, p1, p2, z0, z1, z2⟩ := three_cells ((Q1.out.calm K2.out).calm k3)
    clear k3 p0 p1 z0 z1 d2 g2
    by_cases hw : Lib.itoa n = x
    · have hb : ((itoaW n).toList == x) = true := by rw [← hw]; simp [itoaW, ByteArray.toList_eq]
      have hb' : ((itoaW n).toList == (baL x).toList) = true := by rw [← hw]; simp [itoaW, ByteArray.toList_eq]
      have HW := hide hw
      clear hw
      by_cases h1 : n < lo
      · go_wp2
        go_ret
        obtain ⟨q1, q2, q3⟩ := badN.out w3 K3.out (by omega)
        exact ⟨ret1 (by rw [q3]; rfl), q1, q2⟩
      · by_cases h2 : hi < n
        · go_wp2
          go_ret
          obtain ⟨q1, q2, q3⟩ := badN.out w3 K3.out (by omega)
          exact ⟨ret1 (by rw [q3]; rfl), q1, q2⟩
        · go_wp2
          go_ret
          obtain ⟨q1, q2, q3⟩ := okN.out w3 K3.out HW.out (by omega) (by omega)
          exact ⟨ret1 (by rw [q3]; rfl), q1, q2⟩
    · have hb : ((itoaW n).toList == x) = false := by
        rw [beq_eq_false_iff_ne]
        intro e
        apply hw
        rw [← e]
        simp [itoaW, ByteArray.toList_eq]
      have hb' : ((itoaW n).toList == (baL x).toList) = false := by
        rw [beq_eq_false_iff_ne]
        intro e
        apply hw
        simpa [itoaW, ByteArray.toList_eq] using e
      have HW : Hid (numL x = none) := by show _ = _; unfold numL; rw [HA.out]; exact if_neg hw
      clear hw
      go_wp2
      go_ret
      obtain ⟨q1, q2, q3⟩ := bad.out w3 K3.out HW.out
      exact ⟨ret1 (by rw [q3]; rfl), q1, q2⟩
  · have HA : Hid (numL x = none) := by
      show _ = _
      unfold numL
      split
      · rename_i n hn; exact absurd hn (ha n)
      · rfl
    clear ha
    go_wp2
    go_ret
    obtain ⟨q1, q2, q3⟩ := bad.out w2 (Kept.refl _ _) HA.out
    exact ⟨ret1 (by rw [q3]; rfl), q1, q2⟩
end Go.Proofs.YtlfmfhmbkpnjbabGreatDoor

namespace Go.Proofs.YtlfmfhmbkpnjbabGreatDoor
open Go.RowKit

theorem low_fin : ∀ c : Fin 256, ¬ (48 ≤ c.val ∧ c.val ≤ 57) → (97 ≤ bits .or .u8 (c.val : Int) 32 ∧ bits .or .u8 (c.val : Int) 32 ≤ 102 → hexD c.val = some (bits .or .u8 (c.val : Int) 32 - 87).toNat) ∧ (¬ (97 ≤ bits .or .u8 (c.val : Int) 32 ∧ bits .or .u8 (c.val : Int) 32 ≤ 102) → hexD c.val = none) := by decide +kernel
theorem low_hex (c : UInt8) (l : Int) (hl : bits .or .u8 (c.toNat : Int) 32 = l) (h : ¬ (48 ≤ c.toNat ∧ c.toNat ≤ 57)) : (97 ≤ l ∧ l ≤ 102 → hexD c.toNat = some (l - 87).toNat) ∧ (¬ (97 ≤ l ∧ l ≤ 102) → hexD c.toNat = none) := by
  have := low_fin ⟨c.toNat, c.toNat_lt⟩ h
  simp only at this
  rw [hl] at this
  exact this

/-- How ParseUint at base 16 and 32 bits ends. -/
def HexEnd (x : List UInt8) (e : Ending) : Prop :=
  (∃ u : Nat, hexA 0 x = some u ∧ e = .returned (.tuple #[.int .u64 u, .nilIface])) ∨
  (hexA 0 x = none ∧ ∃ v k, (k = 1 ∨ k = 2) ∧ e = .returned (.tuple #[.int .u64 v, .iface 167 (.int .i64 k)]))

set_option maxHeartbeats 32000000 in
set_option maxRecDepth 100000 in
theorem hexu_c (x : List UInt8) (hne : x ≠ []) (hmax : x.length ≤ 140737488355328) (w : World) :
    Calls Tryz.prog 118 #[.string (baL x), .int .i64 16, .int .i64 32] w fun e w' => HexEnd x e ∧ w' = Lib.bytesWorld w 5 (baL x) := by
  obtain ⟨t, ht⟩ : ∃ t, t = baL x := ⟨_, rfl⟩
  have hts : t.size = x.length := by rw [ht]; exact baL_size x
  have htl : t.data.toList = x := by rw [ht]
  rw [← ht]
  have hne' : t.size ≠ 0 := by rw [hts]; intro h; exact hne (List.eq_nil_of_length_eq_zero h)
  have hmax' : t.size ≤ 9223372036854775806 := by omega
  have hemp : t.toList.isEmpty = false := by
    rw [← decide_eq_emptyBytes]
    exact decide_eq_false (fun h => hne' (by rw [h]; rfl))
  have hcv := Lib.run_convert_string_bytes (P := Tryz.prog) w 9 79 5 t (u := .string) Tryz.underlying9 Tryz.underlying79 Tryz.underlying5
  have hB : ∀ j, j < t.size → (Lib.bytesWorld w 5 t).cell? ⟨w.heap.size, j, none⟩ = some (.int .u8 (t.data.toList.getD j 0).toNat) := fun j hj => Lib.bytesWorld_cell w 5 t j hj
  obtain ⟨W1, hW1⟩ : ∃ W1, W1 = Lib.bytesWorld w 5 t := ⟨_, rfl⟩
  rw [← hW1] at hcv hB ⊢
  clear hW1
  have HLn : Hid (x.length = t.size) := hts.symm
  rw [htl] at hB
  clear htl ht hts hmax hne
  have hmv : IntKind.u64.wrap (IntKind.u64.wrap 4294967296 - 1) = 4294967295 := by
    rw [IntKind.wrap_u64, IntKind.wrap_u64]
    decide
  go_enter Tryz.func118, Tryz.ntmps118
  go_wp2
  go_loop [12, 13, 101] (fun vu vn vi => ∃ (k acc : Nat) (a : Int), vu = .bool false ∧ vn = .int .u64 a ∧ vi = .int .i64 k ∧ k ≤ t.size ∧ Hid (a = (acc : Int) ∧ acc ≤ 4294967295 ∧ hexA 0 x = hexA acc (x.drop k)))
    (fun _ _ vi => t.size - (intOf vi).toNat)
  case atStart => exact ⟨0, 0, 0, rfl, rfl, rfl, by omega, rfl, by omega, rfl⟩
  case round =>
    obtain ⟨k, acc, a, rfl, rfl, rfl, hk, hh⟩ := hrel
    obtain ⟨ha, hacc, hdec⟩ := hh.out
    clear hh
    have a0 : 0 ≤ a := by omega
    have a1 : a ≤ 4294967295 := by omega
    by_cases hkn : k < t.size
    · have hc := hB k hkn
      have hkx : k < x.length := by have := HLn.out; omega
      have hdrop : x.drop k = x[k]'hkx :: x.drop (k + 1) := List.drop_eq_getElem_cons hkx
      have hget : x.getD k 0 = x[k]'hkx := by simp [List.getD, List.getElem?_eq_getElem hkx]
      rw [hdrop] at hdec
      rw [hget] at hc
      generalize x[k]'hkx = c at hc hdec
      have hc256 : c.toNat < 256 := c.toNat_lt
      clear hB hdrop hget hkx
      have fin : Hid (∀ d : Nat, hexD c.toNat = some d → (4294967295 < acc * 16 + d → hexA 0 x = none) ∧ (¬ 4294967295 < acc * 16 + d → hexA 0 x = hexA (acc * 16 + d) (x.drop (k + 1)))) := by
        intro d hd
        rw [hdec]
        simp only [hexA, hd]
        exact ⟨fun h => if_pos (by omega), fun h => if_neg (by omega)⟩
      have finN : Hid (hexD c.toNat = none → hexA 0 x = none) := by
        intro hd
        rw [hdec]
        simp only [hexA, hd]
      have HA := hide (And.intro ha hacc)
      clear hdec
      by_cases hdig : 48 ≤ c.toNat ∧ c.toNat ≤ 57
      · obtain ⟨hd0, hd1⟩ := hdig
        have hD : hexD c.toNat = some (c.toNat - 48) := by unfold hexD; exact if_pos ⟨hd0, hd1⟩
        obtain ⟨f1, f2⟩ := fin.out _ hD
        clear hD fin finN
        by_cases hov : 4294967295 < acc * 16 + (c.toNat - 48)
        · have HF := hide (f1 hov)
          have iov : 4294967295 < a * 16 + ((c.toNat : Int) - 48) := by omega
          clear f1 f2 hov ha hacc
          go_wp2
          go_ret2
          exact ⟨Or.inr ⟨HF.out, _, 1, Or.inl rfl, rfl⟩, rfl⟩
        · have HN : Hid (a * 16 + ((c.toNat : Int) - 48) = ((acc * 16 + (c.toNat - 48) : Nat) : Int) ∧ acc * 16 + (c.toNat - 48) ≤ 4294967295 ∧ hexA 0 x = hexA (acc * 16 + (c.toNat - 48)) (x.drop (k + 1))) := Lib.hid ⟨by omega, by omega, f2 hov⟩
          have iov : a * 16 + ((c.toNat : Int) - 48) ≤ 4294967295 := by omega
          clear f1 f2 hov ha hacc
          go_wp2
          refine ⟨⟨k + 1, acc * 16 + (c.toNat - 48), a * 16 + ((c.toNat : Int) - 48), rfl, (by first | rfl | (congr 1; omega)), (by first | rfl | (congr 1; omega)), by omega, HN⟩, by simp [intOf]; omega⟩
      · by_cases h95 : c.toNat = 95
        · have HF : Hid (hexA 0 x = none) := finN.out (by rw [h95]; rfl)
          have hu : bits .or .u8 95 32 = 127 := by decide
          have hc95 : (c.toNat : Int) = 95 := by omega
          rw [hc95] at hc
          clear fin finN ha hacc h95 hdig hc256 hc95
          go_wp2_with (go_at_call 127; refine (Tryz.internal_strconv_lower _ _).mono ?_; rintro e w' ⟨rfl, rfl⟩)
          all_goals go_ret2
          all_goals exact ⟨Or.inr ⟨HF.out, _, 2, Or.inr rfl, rfl⟩, rfl⟩
        · have hn95 : ((c.toNat : Int) == 95) = false := by simp; omega
          obtain ⟨l, hl⟩ : ∃ l, bits .or .u8 (c.toNat : Int) 32 = l := ⟨_, rfl⟩
          obtain ⟨q1, q2⟩ := low_hex c l hl hdig
          have hv0 := bits_lo_u8 .or (c.toNat : Int) 32
          have hv1 := bits_hi_u8 .or (c.toNat : Int) 32
          rw [hl] at hv0 hv1
          have HL := hide hl
          clear hl
          by_cases hlet : 97 ≤ l ∧ l ≤ 122
          · by_cases h16 : l ≤ 102
            · have hD := q1 ⟨hlet.1, h16⟩
              obtain ⟨f1, f2⟩ := fin.out _ hD
              obtain ⟨l0, l1⟩ := hlet
              clear hD fin finN q1 q2
              by_cases hov : 4294967295 < acc * 16 + (l - 87).toNat
              · have HF := hide (f1 hov)
                have iov : 4294967295 < a * 16 + (l - 87) := by omega
                clear f1 f2 hov ha hacc
                go_wp2_with (go_at_call 127; refine (Tryz.internal_strconv_lower _ _).mono ?_; rintro e w' ⟨rfl, rfl⟩; rw [HL.out])
                all_goals go_ret2
                all_goals exact ⟨Or.inr ⟨HF.out, _, 1, Or.inl rfl, rfl⟩, rfl⟩
              · have HN : Hid (a * 16 + (l - 97 + 10) = ((acc * 16 + (l - 87).toNat : Nat) : Int) ∧ acc * 16 + (l - 87).toNat ≤ 4294967295 ∧ hexA 0 x = hexA (acc * 16 + (l - 87).toNat) (x.drop (k + 1))) := Lib.hid ⟨by omega, by omega, f2 hov⟩
                have iov : a * 16 + (l - 97 + 10) ≤ 4294967295 := by omega
                clear f1 f2 hov ha hacc
                go_wp2_with (go_at_call 127; refine (Tryz.internal_strconv_lower _ _).mono ?_; rintro e w' ⟨rfl, rfl⟩; rw [HL.out])
                all_goals refine ⟨⟨k + 1, acc * 16 + (l - 87).toNat, a * 16 + (l - 97 + 10), rfl, (by first | rfl | (congr 1; omega)), (by first | rfl | (congr 1; omega)), by omega, HN⟩, by simp [intOf]; omega⟩
            · have HF := hide (finN.out (q2 (fun h => h16 h.2)))
              obtain ⟨l0, l1⟩ := hlet
              clear fin finN q1 q2 ha hacc
              go_wp2_with (go_at_call 127; refine (Tryz.internal_strconv_lower _ _).mono ?_; rintro e w' ⟨rfl, rfl⟩; rw [HL.out])
              all_goals go_ret2
              all_goals exact ⟨Or.inr ⟨HF.out, _, 2, Or.inr rfl, rfl⟩, rfl⟩
          · have HF := hide (finN.out (q2 (fun h => hlet (by omega))))
            clear fin finN q1 q2 ha hacc
            go_wp2_with (go_at_call 127; refine (Tryz.internal_strconv_lower _ _).mono ?_; rintro e w' ⟨rfl, rfl⟩; rw [HL.out])
            all_goals go_ret2
            all_goals exact ⟨Or.inr ⟨HF.out, _, 2, Or.inr rfl, rfl⟩, rfl⟩
    · have hkk : k = t.size := by omega
      subst hkk
      have HF : Hid (hexA 0 x = some acc) := by
        show _ = _
        rw [hdec, List.drop_eq_nil_of_le (by rw [HLn.out]; omega)]
        rfl
      subst ha
      clear hacc a0 a1 hdec
      go_wp2
      go_ret2
      exact ⟨Or.inl ⟨acc, HF.out, rfl⟩, rfl⟩
end Go.Proofs.YtlfmfhmbkpnjbabGreatDoor
