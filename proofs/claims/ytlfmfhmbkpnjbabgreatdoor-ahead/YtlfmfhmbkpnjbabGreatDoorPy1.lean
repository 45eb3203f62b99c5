import Derived.WalkKit
import Derived.ProofKit
import Derived.OpenShut
import Derived.JoinedCond
import Derived.BigQuiet
import Derived.Deep.QuietTactic
import Derived.Deep.RegionLaw
import Derived.Laws.CopyOwn
import Derived.Laws.AppendOwnNone
namespace Go.Proofs.YtlfmfhmbkpnjbabGreatDoor
open Go.RowKit

theorem hide {p : Prop} (h : p) : Hid p := h

section lists
variable {K V : Type} (ek : K → Value) (ev : V → Value)

/-- The cells of a list of entries, two each. -/
def flat : List (K × V) → List Value
  | [] => []
  | p :: r => ek p.1 :: ev p.2 :: flat r

theorem flat_length (L : List (K × V)) : (flat ek ev L).length = L.length * 2 := by
  induction L with
  | nil => rfl
  | cons p r ih => simp only [flat, List.length_cons, ih]; omega

theorem flat_append (L M : List (K × V)) : flat ek ev (L ++ M) = flat ek ev L ++ flat ek ev M := by
  induction L with
  | nil => rfl
  | cons p r ih => simp [flat, ih]

theorem flat_take (L : List (K × V)) (n : Nat) : (flat ek ev L).take (n * 2) = flat ek ev (L.take n) := by
  induction L generalizing n with
  | nil => simp [flat]
  | cons p r ih =>
    cases n with
    | zero => simp [flat]
    | succ m => rw [show (m + 1) * 2 = m * 2 + 1 + 1 from by omega]; simp [flat, ih]

theorem flat_drop (L : List (K × V)) (n : Nat) : (flat ek ev L).drop (n * 2) = flat ek ev (L.drop n) := by
  induction L generalizing n with
  | nil => simp [flat]
  | cons p r ih =>
    cases n with
    | zero => simp
    | succ m => rw [show (m + 1) * 2 = m * 2 + 1 + 1 from by omega]; simp [flat, ih]

theorem flat_key (L : List (K × V)) (j : Nat) (h : j < L.length) : (flat ek ev L)[j * 2]? = some (ek L[j].1) := by
  induction L generalizing j with
  | nil => simp at h
  | cons p r ih =>
    cases j with
    | zero => simp [flat]
    | succ m => rw [show (m + 1) * 2 = m * 2 + 1 + 1 from by omega]; simp only [flat, List.getElem?_cons_succ, List.getElem_cons_succ]; exact ih m (by simpa using h)

theorem flat_val (L : List (K × V)) (j : Nat) (h : j < L.length) : (flat ek ev L)[j * 2 + 1]? = some (ev L[j].2) := by
  induction L generalizing j with
  | nil => simp at h
  | cons p r ih =>
    cases j with
    | zero => simp [flat]
    | succ m => rw [show (m + 1) * 2 + 1 = m * 2 + 1 + 1 + 1 from by omega]; simp only [flat, List.getElem?_cons_succ, List.getElem_cons_succ]; exact ih m (by simpa using h)

theorem flat_one (hk : ∀ k, (ek k).oneCell' = true) (hv : ∀ v, (ev v).oneCell' = true) (L : List (K × V)) : ∀ u ∈ flat ek ev L, u.oneCell' = true := by
  induction L with
  | nil => simp [flat]
  | cons p r ih =>
    intro u hu
    simp only [flat, List.mem_cons] at hu
    rcases hu with rfl | rfl | h
    · exact hk _
    · exact hv _
    · exact ih u h
end lists

section find
variable {K V : Type} [DecidableEq K]

/-- Where a key stands first; the list's length: nowhere. -/
def idx : List (K × V) → K → Nat
  | [], _ => 0
  | p :: r, k => if p.1 = k then 0 else idx r k + 1

theorem idx_le (L : List (K × V)) (k : K) : idx L k ≤ L.length := by
  induction L with
  | nil => simp [idx]
  | cons p r ih => simp only [idx, List.length_cons]; split <;> omega

theorem idx_hit (L : List (K × V)) (k : K) (i : Nat) (h : i < L.length) (hi : i ≤ idx L k) (e : L[i].1 = k) : idx L k = i := by
  induction L generalizing i with
  | nil => simp at h
  | cons p r ih =>
    cases i with
    | zero => simp at e; simp [idx, e]
    | succ m =>
      simp only [idx] at hi ⊢
      split
      · rename_i q; simp [q] at hi
      · rename_i q; simp only [q, if_false] at hi; simp only [List.getElem_cons_succ] at e; rw [ih m (by simpa using h) (by omega) e]

theorem idx_miss (L : List (K × V)) (k : K) (i : Nat) (h : i < L.length) (hi : i ≤ idx L k) (e : L[i].1 ≠ k) : i + 1 ≤ idx L k := by
  induction L generalizing i with
  | nil => simp at h
  | cons p r ih =>
    cases i with
    | zero => simp at e; simp [idx, e]
    | succ m =>
      simp only [idx] at hi ⊢
      split
      · rename_i q; simp [q] at hi
      · rename_i q; simp only [q, if_false] at hi; simp only [List.getElem_cons_succ] at e; have := ih m (by simpa using h) (by omega) e; omega

/-- What 'find' answers: the place, or 0; whether it is there. -/
def fAt (L : List (K × V)) (k : K) : Nat := if idx L k < L.length then idx L k else 0
def fHas (L : List (K × V)) (k : K) : Bool := decide (idx L k < L.length)
theorem fAt_hit (L : List (K × V)) (k : K) (i : Nat) (h : i < L.length) (hi : i ≤ idx L k) (e : L[i].1 = k) : fAt L k = i ∧ fHas L k = true := by
  have := idx_hit L k i h hi e
  simp [fAt, fHas, this, h]
theorem fAt_out (L : List (K × V)) (k : K) (h : L.length ≤ idx L k) : fAt L k = 0 ∧ fHas L k = false := by
  have : ¬ idx L k < L.length := by omega
  simp [fAt, fHas, this]
end find

theorem ret1 {a a' : Value} (h : a = a') : Ending.returned a = Ending.returned a' := by rw [h]
theorem ret2 {a a' b b' : Value} (h : a' = a) (k : b' = b) : Ending.returned (.tuple #[a, b]) = Ending.returned (.tuple #[a', b']) := by rw [h, k]

theorem bytes_inj {a b : ByteArray} (h : a.toList = b.toList) : a = b := by
  rw [ByteArray.toList_eq, ByteArray.toList_eq] at h
  cases a; cases b; congr 1; exact Array.toList_inj.1 h
theorem bytes_beq (a b : ByteArray) (h : a = b) : (a.toList == b.toList) = true := by simp [h]
theorem bytes_bne (a b : ByteArray) (h : ¬ a = b) : (a.toList == b.toList) = false := by
  rw [beq_eq_false_iff_ne]; exact fun e => h (bytes_inj e)
theorem ints_beq (a b : Int) (h : a = b) : (a == b) = true := by simp [h]
theorem ints_bne (a b : Int) (h : ¬ a = b) : (a == b) = false := by simp [h]

/-- A cell of a row that is owned. -/
theorem row_cell {w : World} {e : TypeId} {size g n cap : Nat} {xs : List Value} (h : w.ownsRow 0 e size (.slice (some ⟨g, 0, none⟩) n cap) n xs) (j : Nat) (u : Value) (hu : xs[j]? = some u) : w.cell? ⟨g, j, none⟩ = some u := by
  have := h.cells (g := g) rfl j u hu
  have e : (⟨g, 0, none⟩ : Addr).add j = ⟨g, j, none⟩ := by unfold Addr.add; split <;> simp_all
  rwa [e] at this

/-- Nothing but the blocks of S has turned; what is new lies behind the old. -/
structure Kept (S : Nat → Prop) (w w' : World) : Prop where
  os : w'.os = w.os
  tape : w'.tape = w.tape
  output : w'.output = w.output
  size : w.heap.size ≤ w'.heap.size
  block : ∀ k, k < w.heap.size → ¬ S k → w'.heap[k]? = w.heap[k]?

theorem Kept.refl (S : Nat → Prop) (w : World) : Kept S w w := ⟨rfl, rfl, rfl, Nat.le_refl _, fun _ _ _ => rfl⟩

theorem Kept.trans {S S' : Nat → Prop} {a b c : World} (h : Kept S a b) (k : Kept S' b c) (hS : ∀ i, i < a.heap.size → S' i → S i) : Kept S a c :=
  ⟨k.os.trans h.os, k.tape.trans h.tape, k.output.trans h.output, Nat.le_trans h.size k.size, fun i hi hn =>
    (k.block i (Nat.lt_of_lt_of_le hi h.size) (fun e => hn (hS i hi e))).trans (h.block i hi hn)⟩

theorem Kept.join {S S' R : Nat → Prop} {a b c : World} (h : Kept S a b) (k : Kept S' b c) (h1 : ∀ i, i < a.heap.size → S i → R i) (h2 : ∀ i, i < a.heap.size → S' i → R i) : Kept R a c :=
  ⟨k.os.trans h.os, k.tape.trans h.tape, k.output.trans h.output, Nat.le_trans h.size k.size, fun i hi hn =>
    (k.block i (Nat.lt_of_lt_of_le hi h.size) (fun e => hn (h2 i hi e))).trans (h.block i hi (fun e => hn (h1 i hi e)))⟩

theorem Kept.mono {S S' : Nat → Prop} {a b : World} (h : Kept S a b) (hS : ∀ i, i < a.heap.size → S i → S' i) : Kept S' a b :=
  ⟨h.os, h.tape, h.output, h.size, fun i hi hn => h.block i hi (fun e => hn (hS i hi e))⟩

theorem Kept.of_grown {a b : World} {row : Option Nat} (h : a.grownBy b row) : Kept (fun k => some k = row) a b :=
  ⟨h.os, h.tape, h.output, h.size, fun k hk hn => h.block k hk hn⟩

theorem Kept.below {S : Nat → Prop} {a b : World} (h : Kept S a b) (B : Nat) (hB : B ≤ a.heap.size) (hS : ∀ i, i < B → ¬ S i) : Below B a b :=
  ⟨h.os, h.tape, h.output, h.size, fun k hk => h.block k (by omega) (hS k hk)⟩

theorem Kept.alloc (w : World) (o : Obj) : Kept (fun _ => False) w (w.alloc o) :=
  ⟨rfl, rfl, rfl, by simp, fun k hk _ => Below.heap_alloc w o k hk⟩

theorem Kept.setCell (w : World) (p : Addr) (u : Value) : Kept (fun k => k = p.block) w (w.setCell p u) :=
  ⟨rfl, rfl, rfl, by simp [World.setCell], fun k _ hn => Below.heap_setCell w p u k hn⟩

theorem Kept.setRow (w : World) (g : Nat) (cs : Array Value) : Kept (fun k => k = g) w (w.setRow g cs) :=
  ⟨rfl, rfl, rfl, by simp, fun k _ hn => setRow_other w g k cs hn⟩

theorem Kept.drew (w : World) : Kept (fun _ => False) w w.drew := ⟨rfl, rfl, rfl, Nat.le_refl _, fun _ _ _ => rfl⟩

theorem Kept.drewN (w : World) (n : Nat) : Kept (fun _ => False) w (w.drewN n) := by
  induction n with
  | zero => exact Kept.refl _ _
  | succ m ih => exact ih.trans (Kept.drew _) (fun _ _ h => h)

/-- A cache in memory: the struct of two cells, and the row that it owns. -/
def CacheAt (w : World) (T E : TypeId) (c : Nat) (cap : Int) (v : Value) (n : Nat) (xs : List Value) : Prop :=
  w.heap[c]? = some (.cells #[.int .i64 cap, v] T (0, 0)) ∧ w.ownsRow 0 E 2 v n xs

theorem drewN_heap (w : World) (n : Nat) : (w.drewN n).heap = w.heap := by
  induction n with
  | zero => rfl
  | succ m ih => exact ih

theorem owns_heap {w w' : World} {base : Nat} {e : TypeId} {size : Nat} {v : Value} {n : Nat} {xs : List Value} (h : w.ownsRow base e size v n xs) (hh : w'.heap = w.heap) : w'.ownsRow base e size v n xs := by
  unfold World.ownsRow at *; rw [hh]; exact h

/-- What is owned stays owned where its block is kept. -/
theorem owns_block {w w' : World} {base : Nat} {e : TypeId} {size : Nat} {v : Value} {n : Nat} {xs : List Value} (h : w.ownsRow base e size v n xs) (hb : ∀ g, v.ownBlock = some g → w'.heap[g]? = w.heap[g]?) : w'.ownsRow base e size v n xs := by
  obtain ⟨h1, h2⟩ := h
  refine ⟨h1, ?_⟩
  rcases h2 with h2 | ⟨g, cap, cur, hv, hg, hh, r⟩
  · exact Or.inl h2
  · exact Or.inr ⟨g, cap, cur, hv, hg, by rw [hb g (by rw [hv]; rfl)]; exact hh, r⟩

theorem owns_lt {w : World} {base : Nat} {e : TypeId} {size : Nat} {v : Value} {n : Nat} {xs : List Value} (h : w.ownsRow base e size v n xs) (g : Nat) (hg : v.ownBlock = some g) : g < w.heap.size := (h.lt g hg).2

theorem heap_lt {w : World} {c : Nat} {o : Obj} (h : w.heap[c]? = some o) : c < w.heap.size := (Array.getElem?_eq_some_iff.1 h).1

/-- The blocks' types tell them apart. -/
theorem CacheAt.ne {w : World} {T E : TypeId} {c : Nat} {cap : Int} {v : Value} {n : Nat} {xs : List Value} (h : CacheAt w T E c cap v n xs) (hTE : T ≠ E) : v.ownBlock ≠ some c := by
  intro e
  rcases h.2.2 with ⟨rfl, _⟩ | ⟨g, cp, cur, rfl, _, hh, _⟩
  · cases e
  · obtain rfl : g = c := by simpa [Value.ownBlock] using e
    have := h.1.symm.trans hh
    simp at this
    exact hTE this.2

theorem two_set {w : World} {c : Nat} {a b : Value} {T : TypeId} (h : w.heap[c]? = some (.cells #[a, b] T (0, 0))) (u : Value) : (w.setCell ⟨c, 1, none⟩ u).heap[c]? = some (.cells #[a, u] T (0, 0)) := by
  rw [setCell_eq_setRow w c 1 #[a, b] T (0, 0) u h]
  exact setRow_heap w c _ _ T _ h

theorem two_cells {w : World} {c : Nat} {a b : Value} {T : TypeId} (h : w.heap[c]? = some (.cells #[a, b] T (0, 0))) :
    w.cell? ⟨c, 0, none⟩ = some a ∧ w.cell? ⟨c, 1, none⟩ = some b ∧ w.frozen? ⟨c, 0, none⟩ = false ∧ w.frozen? ⟨c, 1, none⟩ = false := by
  simp [World.cell?, World.frozen?, h]

theorem owns_base {w : World} {base : Nat} {e : TypeId} {size : Nat} {v : Value} {n : Nat} {xs : List Value} (h : w.ownsRow base e size v n xs) : w.ownsRow 0 e size v n xs := by
  obtain ⟨h1, h2⟩ := h
  refine ⟨h1, ?_⟩
  rcases h2 with h2 | ⟨g, cap, cur, hv, hg, r⟩
  · exact Or.inl h2
  · exact Or.inr ⟨g, cap, cur, hv, Nat.zero_le _, r⟩

theorem grown_some {w w' : World} (h : w.grownBy w' none) (row : Option Nat) : w.grownBy w' row := ⟨h.os, h.tape, h.output, h.size, fun k hk _ => h.block k hk (by simp)⟩

/-- append of at least one element onto a row that is owned: the row is the old one, or a new one. -/
theorem wpList_append_mine {P : Program} (w : World) {ops : Array Oper} {rest : List Oper} {o : Oper} {a : Act} {Q : Exit → Act → World → Prop} (hgd : o.guard = none) (s x : Operand) (t : TypeId)
    (ho : o.op = .call { callee := .builtin .append, args := #[s, x], argTypes := #[t, t] })
    (e : TypeId) (i : TypeInfo) (z : Value) (size bytes : Nat) (ht : P.underlying t = some (.slice e)) (hi : P.info? e = some i) (hz : i.zero = some z)
    (hsize : i.size = size) (hby : i.bytes = bytes) (hzs : z.cells.size = size) (hsz : 0 < size)
    (v : Value) (n : Nat) (xs : List Value) (hs : a.eval s = v) (hown : w.ownsRow 0 e size v n xs)
    (ad : Addr) (m c : Nat) (news : List Value) (hx : a.eval x = .slice (some ad) m c) (hl : news.length = m * size) (hnews : ∀ j u, news[j]? = some u → w.cell? (ad.add j) = some u) (h1 : ∀ u ∈ news, u.oneCell' = true)
    (hm : 0 < m) (h63 : n + m ≤ maxLen) (hbytes : (n + m) * bytes ≤ 140737488355328)
    (h : ∀ g cap' w', w'.ownsRow 0 e size (.slice (some ⟨g, 0, none⟩) (n + m) cap') (n + m) (xs ++ news) → w.grownBy w' v.ownBlock → (v.ownBlock = some g ∨ w.heap.size ≤ g) → wpList P ops Q rest (a.put o.dst (.slice (some ⟨g, 0, none⟩) (n + m) cap')) w') :
    wpList P ops Q (o :: rest) a w := by
  have fin : ∀ v' w', w'.ownsRow w.heap.size e size v' (n + m) (xs ++ news) → w.grownBy w' none → wpList P ops Q rest (a.put o.dst v') w' := by
    intro v' w' ho' hg'
    rcases ho'.2 with ⟨_, h0⟩ | ⟨g, cap', cur, rfl, hbg, _⟩
    · omega
    · exact h g cap' w' (owns_base ho') (grown_some hg' _) (Or.inr hbg)
  have hown' := hown
  obtain ⟨hlen, h2⟩ := hown
  rcases h2 with ⟨rfl, h0⟩ | ⟨g, cap, cur, rfl, _, hh, hnc, hcm, hcs, htk⟩
  · subst h0
    obtain rfl : xs = [] := List.eq_nil_of_length_eq_zero (by simpa using hlen)
    exact wpList_append_grows w hgd s x t ho e i z size bytes ht hi hz hsize hby hzs hsz none 0 0 [] hs (fun _ => ⟨rfl, rfl⟩) (by simp) (by intro b hb; cases hb) ad m c news hx hl hnews h1 (by omega) h63 hbytes fin
  · by_cases hroom : n + m ≤ cap
    · exact wpList_append_fits w hgd s x t ho 0 e i size ht hi hsize g n cap xs hs hown' ad m c news hx hl hnews h1 hroom fun w' q1 q2 => h g cap w' q1 q2 (Or.inl rfl)
    · exact wpList_append_grows w hgd s x t ho e i z size bytes ht hi hz hsize hby hzs hsz (some ⟨g, 0, none⟩) n cap xs hs (by intro hb; cases hb) hlen
        (by intro b hb j u hu; cases hb; exact hown'.cells (g := g) rfl j u hu) ad m c news hx hl hnews h1 (by omega) h63 hbytes fin

theorem addr_add (g j : Nat) : (⟨g, 0, none⟩ : Addr).add j = ⟨g, j, none⟩ := by unfold Addr.add; split <;> simp_all

theorem cell_block {w : World} {g : Nat} {cs : Array Value} {T : TypeId} {fr : Nat × Nat} (h : w.heap[g]? = some (.cells cs T fr)) (j : Nat) : w.cell? ⟨g, j, none⟩ = cs[j]? := by
  simp [World.cell?, h]

theorem new_two (w0 : World) (a b : Value) (T : TypeId) (m : Nat) (hm : m = w0.heap.size) : ∀ j u, [a, b][j]? = some u → (w0.alloc (.cells #[a, b] T)).cell? ((⟨m, 0, none⟩ : Addr).add j) = some u := by
  subst hm
  intro j u hu
  rw [addr_add, cell_block (heap_alloc_new w0 _)]
  simpa using hu

/-- Behind the append: the struct's cells as they were; then the store of the new row. -/
theorem grow_at {w w1 : World} {nq : Nat} {o : Obj} {T : TypeId} {c : Nat} {cap : Int} {v : Value} (hb : w.heap[c]? = some (.cells #[.int .i64 cap, v] T (0, 0))) (hne : v.ownBlock ≠ some c)
    (hgrow : ((w.drewN nq).alloc o).grownBy w1 v.ownBlock) : w1.heap[c]? = some (.cells #[.int .i64 cap, v] T (0, 0)) := by
  have hc := heap_lt hb
  rw [hgrow.block c (by simp; omega) (fun e => hne e.symm), Below.heap_alloc _ _ _ (by rw [drewN_heap]; exact hc), drewN_heap]
  exact hb

theorem grow_fin {w w1 : World} {nq : Nat} {o : Obj} {T E : TypeId} {c : Nat} {cap : Int} {v : Value} {g cp' n' : Nat} {xs' : List Value} (hb : w.heap[c]? = some (.cells #[.int .i64 cap, v] T (0, 0))) (hne : v.ownBlock ≠ some c)
    (hgrow : ((w.drewN nq).alloc o).grownBy w1 v.ownBlock) (hown : w1.ownsRow 0 E 2 (.slice (some ⟨g, 0, none⟩) n' cp') n' xs') (hg : v.ownBlock = some g ∨ w.heap.size + 1 ≤ g) :
    CacheAt (w1.setCell ⟨c, 1, none⟩ (.slice (some ⟨g, 0, none⟩) n' cp')) T E c cap (.slice (some ⟨g, 0, none⟩) n' cp') n' xs' ∧
      Kept (fun k => k = c ∨ v.ownBlock = some k) w (w1.setCell ⟨c, 1, none⟩ (.slice (some ⟨g, 0, none⟩) n' cp')) ∧
      (v.ownBlock = some g ∨ w.heap.size ≤ g) := by
  have hc := heap_lt hb
  have hgc : g ≠ c := by
    rcases hg with h | h
    · intro e; exact hne (by rw [h, e])
    · omega
  have hg' : v.ownBlock = some g ∨ w.heap.size ≤ g := by
    rcases hg with h | h
    · exact Or.inl h
    · right; omega
  refine ⟨⟨two_set (grow_at hb hne hgrow) _, owns_block hown ?_⟩, ?_, hg'⟩
  · intro g' e
    simp only [Value.ownBlock, Option.some.injEq] at e
    subst e
    exact Below.heap_setCell _ _ _ _ hgc
  · refine ((Kept.drewN w nq).join (Kept.alloc _ o) (R := fun _ => False) (fun _ _ h => h) (fun _ _ h => h)).join ((Kept.of_grown hgrow).join (Kept.setCell w1 _ _) (R := fun k => k = c ∨ v.ownBlock = some k) (fun _ _ h => Or.inr h.symm) (fun _ _ h => Or.inl h)) (fun _ _ h => h.elim) (fun _ _ h => h)

/-- 'copy' of elements of whatever size, as one step of a region that draws its order. -/
theorem run_copy_size {P : Program} (w : World) (dT sT ty elem : TypeId) (size : Nat) (g o dLen dCap : Nat) (a : Addr) (sLen sCap : Nat) (cur : Array Value) (t : TypeId) (n : Nat) (cs : List Value)
    (hu : P.underlying dT = some (.slice elem)) (hs : (P.info? elem).map (·.size) = some size)
    (hg : w.heap[g]? = some (.cells cur t (0, 0))) (hn : Nat.min sLen dLen = n) (hcs : cs.length = n * size)
    (hsrc : ∀ j v, cs[j]? = some v → w.cell? (a.add j) = some v) (hfit : o + cs.length ≤ cur.size) (h1 : ∀ v ∈ cs, v.oneCell' = true) :
    (Builtin.copy_ #[dT, sT] ty #[.slice (some ⟨g, o, none⟩) dLen dCap, .slice (some a) sLen sCap]).run P w =
      .ok (goInt n) (w.setRow g (cur.toList.take o ++ cs ++ cur.toList.drop (o + cs.length)).toArray) := by
  have hl := run_loadCells_list (P := P) w a cs hsrc
  have hst := run_storeCells_at P g o t cs 0 cur w hg (by simpa using hfit) h1
  cases hq : P.info? elem with
  | none => simp [hq] at hs
  | some i =>
    have hi : i.size = size := by simpa [hq] using hs
    rw [hcs] at hl
    simp [Builtin.copy_, run_underlying hu, Builtin.lenOf, Builtin.firstCells, sizeOf, typeInfo, hq, hi, hn, hl, hst]

theorem run_copy_zero {P : Program} (w : World) (dT sT ty elem : TypeId) (size : Nat) (dp sp : Option Addr) (dLen dCap sLen sCap : Nat)
    (hu : P.underlying dT = some (.slice elem)) (hs : (P.info? elem).map (·.size) = some size) (hn : Nat.min sLen dLen = 0) :
    (Builtin.copy_ #[dT, sT] ty #[.slice dp dLen dCap, .slice sp sLen sCap]).run P w = .ok (goInt 0) w := by
  cases hq : P.info? elem with
  | none => simp [hq] at hs
  | some i =>
    cases dp <;> cases sp <;> simp [Builtin.copy_, run_underlying hu, Builtin.lenOf, Builtin.firstCells, sizeOf, typeInfo, hq, hn, storeCells, loadCells, loadCellsFrom]

theorem step_copy_mine {P : Program} {ops : Array Oper} {o : Oper} {a : Act} {w : World} {K : Act → World → Prop} {Q : Exit → Act → World → Prop} {E : Prop} (hgd : o.guard = none) (d s : Operand) (dT sT : TypeId)
    (ho : o.op = .call { callee := .builtin .copy, args := #[d, s], argTypes := #[dT, sT] }) (elem : TypeId) (size : Nat) (hu : P.underlying dT = some (.slice elem)) (hsz : (P.info? elem).map (·.size) = some size)
    (dp sp : Option Addr) (dLen dCap sLen sCap : Nat) (hd : a.eval d = .slice dp dLen dCap) (hs : a.eval s = .slice sp sLen sCap)
    (g off : Nat) (cur : List Value) (t : TypeId) (hg : w.heap[g]? = some (.cells cur.toArray t (0, 0))) (n : Nat) (hn : Nat.min sLen dLen = n) (cs : List Value) (hcs : cs.length = n * size)
    (hpos : 0 < n → dp = some ⟨g, off, none⟩ ∧ ∃ ad, sp = some ad ∧ ∀ j v, cs[j]? = some v → w.cell? (ad.add j) = some v)
    (hfit : off + cs.length ≤ cur.length) (h1 : ∀ v ∈ cs, v.oneCell' = true)
    (h : ∀ w', Hid (w'.heap[g]? = some (.cells (splice cur off cs).toArray t (0, 0))) → Hid (Kept (fun k => k = g) w w') → K (a.put o.dst (goInt n)) w') :
    if Region.wanted o (yielded ops a.tmps) = true then Oper.wp P o a w K Q else E := by
  have hw : Region.wanted o (yielded ops a.tmps) = true := by simp [Region.wanted, hgd]
  rw [if_pos hw]
  by_cases h0 : n = 0
  · subst h0
    obtain rfl : cs = [] := List.eq_nil_of_length_eq_zero (by simpa using hcs)
    have hrun := run_copy_zero (P := P) w dT sT o.type elem size dp sp dLen dCap sLen sCap hu hsz hn
    unfold Oper.wp
    simp [execOp, ho, resolve, invoke, builtin, hd, hs, hrun, Result.andThen]
    exact h w (show _ = _ by simpa [splice] using hg) (Kept.refl _ _)
  · obtain ⟨rfl, ad, rfl, hsrc⟩ := hpos (by omega)
    have hrun := run_copy_size (P := P) w dT sT o.type elem size g off dLen dCap ad sLen sCap cur.toArray t n cs hu hsz hg hn hcs hsrc (by simpa using hfit) h1
    unfold Oper.wp
    simp [execOp, ho, resolve, invoke, builtin, hd, hs, hrun, Result.andThen]
    exact h _ (show _ = _ by simpa [splice] using setRow_heap w g _ _ t _ hg) (Kept.setRow w g _)

theorem wrap_id (n : Int) (h : -9223372036854775808 ≤ n ∧ n ≤ 9223372036854775807) : IntKind.i64.wrap n = n := (IntWalk.i64_left n).trans (IntWalk.wrap64_in n h)

/-- Behind the copy: what the last store wants. -/
theorem use_facts {w w1 : World} {c g : Nat} {x v a b : Value} {T E : TypeId} {cs : List Value} (hb : w.heap[c]? = some (.cells #[x, v] T (0, 0))) (hne : g ≠ c) (hg : g < w.heap.size) (h2 : 2 ≤ cs.length)
    (hg1 : w1.heap[g]? = some (.cells cs.toArray E (0, 0))) (hk : Kept (fun k => k = g) (w.alloc (.cells #[a, b] E)).drew w1) :
    w1.cell? ⟨c, 1, none⟩ = some v ∧ w1.cell? ⟨w.heap.size, 0, none⟩ = some a ∧ w1.cell? ⟨w.heap.size, 1, none⟩ = some b ∧
      w1.cell? ⟨g, 0, none⟩ = some (cs.getD 0 undef) ∧ w1.cell? ⟨g, 1, none⟩ = some (cs.getD 1 undef) ∧ w1.frozen? ⟨g, 0, none⟩ = false ∧ w1.frozen? ⟨g, 1, none⟩ = false := by
  have hc := heap_lt hb
  have e1 : w1.heap[c]? = some (.cells #[x, v] T (0, 0)) := by
    rw [hk.block c (by show c < (w.alloc _).heap.size; simp; omega) (fun e => hne e.symm)]
    exact (Below.heap_alloc w _ c hc).trans hb
  have e2 : w1.heap[w.heap.size]? = some (.cells #[a, b] E (0, 0)) := by
    rw [hk.block _ (by show _ < (w.alloc _).heap.size; simp) (by omega)]
    exact heap_alloc_new w _
  refine ⟨by rw [cell_block e1]; rfl, by rw [cell_block e2]; rfl, by rw [cell_block e2]; rfl, ?_, ?_, by simp [World.frozen?, hg1], by simp [World.frozen?, hg1]⟩
  · rw [cell_block hg1]; simp [List.getD, show 0 < cs.length by omega]
  · rw [cell_block hg1]; simp [List.getD, show 1 < cs.length by omega]

/-- The entry at a place is written over, and stands first. -/
def touch {α : Type} (L : List α) (p : Nat) (e : α) : List α := e :: (L.take p ++ L.drop (p + 1))

theorem touch_length {α : Type} (L : List α) (p : Nat) (e : α) (h : p < L.length) : (touch L p e).length = L.length := by
  simp [touch]; omega

theorem touch_cells {K V : Type} (ek : K → Value) (ev : V → Value) (L : List (K × V)) (p : Nat) (e : K × V) (h : p < L.length) (cur : List Value) (htk : cur.take (L.length * 2) = flat ek ev L) (hc : L.length * 2 ≤ cur.length) :
    (((splice cur 2 (flat ek ev (L.take p))).set 0 (ek e.1)).set 1 (ev e.2)).take (L.length * 2) = flat ek ev (touch L p e) ∧
    (((splice cur 2 (flat ek ev (L.take p))).set 0 (ek e.1)).set 1 (ev e.2)).length = cur.length := by
  have e1 : cur = flat ek ev L ++ cur.drop (L.length * 2) := by rw [← htk, List.take_append_drop]
  have hl : (flat ek ev (L.take p)).length = p * 2 := by rw [flat_length, List.length_take]; congr 1; omega
  have e2 : cur.drop (2 + (flat ek ev (L.take p)).length) = flat ek ev (L.drop (p + 1)) ++ cur.drop (L.length * 2) := by
    rw [hl, show 2 + p * 2 = (p + 1) * 2 from by omega]
    conv => lhs; rw [e1]
    rw [List.drop_append_of_le_length (by rw [flat_length]; omega), flat_drop]
  have e3 : ((splice cur 2 (flat ek ev (L.take p))).set 0 (ek e.1)).set 1 (ev e.2) = flat ek ev (touch L p e) ++ cur.drop (L.length * 2) := by
    unfold splice
    rw [e2]
    match cur, hc with
    | [], hc => simp at hc; omega
    | [_], hc => simp at hc; omega
    | a :: b :: r, _ => simp [touch, flat, flat_append]
  rw [e3]
  have e4 : (flat ek ev (touch L p e)).length = L.length * 2 := by rw [flat_length, touch_length L p e h]
  constructor
  · rw [← e4]; exact List.take_left
  · rw [List.length_append, e4, List.length_drop]; omega

theorem use_fin {K V : Type} (ek : K → Value) (ev : V → Value) {w w1 w2 : World} {c g cp : Nat} {cap : Int} {T E : TypeId} (L : List (K × V)) (p : Nat) (k : K) (v : V) (hp : p < L.length) (cur : List Value)
    (hcp : L.length ≤ cp) (hcm : cp ≤ maxLen) (hsz : cur.length = cp * 2) (htk : cur.take (L.length * 2) = flat ek ev L)
    (hb : w.heap[c]? = some (.cells #[.int .i64 cap, .slice (some ⟨g, 0, none⟩) L.length cp] T (0, 0))) (hne : g ≠ c) (_hg : g < w.heap.size)
    (hg1 : w1.heap[g]? = some (.cells (splice cur 2 (flat ek ev (L.take p))).toArray E (0, 0))) (hk : Kept (fun k => k = g) (w.alloc (.cells #[ek k, ev v] E)).drew w1)
    (h1 : w2.heap = ((w1.setCell ⟨g, 0, none⟩ (ek k)).setCell ⟨g, 1, none⟩ (ev v)).heap) (h2 : w2.os = w1.os) (h3 : w2.tape = w1.tape) (h4 : w2.output = w1.output) :
    CacheAt w2 T E c cap (.slice (some ⟨g, 0, none⟩) L.length cp) L.length (flat ek ev (touch L p (k, v))) ∧ Kept (fun k => k = g) w w2 := by
  have hc := heap_lt hb
  obtain ⟨t1, t2⟩ := touch_cells ek ev L p (k, v) hp cur htk (by omega)
  have e0 : ((w1.setCell ⟨g, 0, none⟩ (ek k)).setCell ⟨g, 1, none⟩ (ev v)) = w1.setRow g (((splice cur 2 (flat ek ev (L.take p))).set 0 (ek k)).set 1 (ev v)).toArray := by
    rw [setCell_eq_setRow w1 g 0 _ E (0, 0) _ hg1, setCell_eq_setRow _ g 1 _ E (0, 0) _ (setRow_heap w1 g _ _ E (0, 0) hg1), setRow_setRow]
    congr 1
    apply Array.ext'
    simp
  rw [e0] at h1
  have e2 : w2.heap[g]? = some (.cells (((splice cur 2 (flat ek ev (L.take p))).set 0 (ek k)).set 1 (ev v)).toArray E (0, 0)) := by
    rw [h1]; exact setRow_heap w1 g _ _ E (0, 0) hg1
  have eo : ∀ j, j ≠ g → w2.heap[j]? = w1.heap[j]? := fun j hj => by rw [h1]; exact setRow_other w1 g j _ hj
  refine ⟨⟨?_, ?_, Or.inr ⟨g, cp, _, rfl, Nat.zero_le _, e2, hcp, hcm, ?_, ?_⟩⟩, ?_⟩
  · rw [eo c (fun e => hne e.symm), hk.block c (by show c < (w.alloc _).heap.size; simp; omega) (fun e => hne e.symm)]
    exact (Below.heap_alloc w _ c hc).trans hb
  · rw [flat_length, touch_length L p (k, v) hp]
  · rw [List.size_toArray, t2, hsz]
  · exact t1
  · refine ⟨h2.trans hk.os, h3.trans hk.tape, h4.trans hk.output, ?_, ?_⟩
    · have := hk.size
      have q : ((w.alloc (Obj.cells #[ek k, ev v] E)).drew).heap.size = w.heap.size + 1 := by show (w.alloc _).heap.size = _; simp
      rw [h1]; simp; omega
    · intro j hj hn
      rw [eo j hn, hk.block j (by show j < (w.alloc _).heap.size; simp; omega) hn]
      exact Below.heap_alloc w _ j hj

/-- The blocks of a cache: its struct, its row. -/
def Foot (c : Nat) (r : Value) : Nat → Prop := fun j => j = c ∨ r.ownBlock = some j
/-- The row is the old one, or new. -/
def NewRow (w : World) (r r' : Value) : Prop := r'.ownBlock = r.ownBlock ∨ ∃ g, r'.ownBlock = some g ∧ w.heap.size ≤ g

section put
variable {K V : Type} [DecidableEq K]
/-- What 'Put' leaves. -/
def putL (n : Nat) (L : List (K × V)) (e : K × V) : List (K × V) :=
  if fHas L e.1 = true then touch L (fAt L e.1) e else if L.length < n then e :: L else e :: L.take (L.length - 1)

theorem fAt_lt (L : List (K × V)) (k : K) (h : fHas L k = true) : fAt L k < L.length := by
  have : idx L k < L.length := by simpa [fHas] using h
  simp [fAt, this]

theorem putL_has (n : Nat) (L : List (K × V)) (e : K × V) (h : fHas L e.1 = true) : putL n L e = touch L (fAt L e.1) e := by simp [putL, h]
theorem putL_room (n : Nat) (L : List (K × V)) (e : K × V) (h : fHas L e.1 = false) (hr : L.length < n) (z : K × V) : touch (L ++ [z]) L.length e = putL n L e := by
  simp [putL, h, hr, touch]
theorem putL_full (n : Nat) (L : List (K × V)) (e : K × V) (h : fHas L e.1 = false) (hr : ¬ L.length < n) (h1 : 1 ≤ L.length) : touch L (L.length - 1) e = putL n L e := by
  simp [putL, h, hr, touch, show L.length - 1 + 1 = L.length by omega]
theorem putL_length (n : Nat) (L : List (K × V)) (e : K × V) (hn : 1 ≤ n) (h : L.length ≤ n) : (putL n L e).length ≤ n ∧ 1 ≤ (putL n L e).length := by
  unfold putL
  split
  · rename_i q
    rw [touch_length L _ e (fAt_lt L e.1 q)]
    have := fAt_lt L e.1 q
    omega
  · split
    · simp; omega
    · simp; omega
end put

theorem CacheAt.keep {w w' : World} {T E : TypeId} {c : Nat} {cap : Int} {v : Value} {n : Nat} {xs : List Value} {S : Nat → Prop} (h : CacheAt w T E c cap v n xs) (hk : Kept S w w') (hS : ∀ j, Foot c v j → ¬ S j) : CacheAt w' T E c cap v n xs :=
  ⟨by rw [hk.block c (heap_lt h.1) (hS c (Or.inl rfl))]; exact h.1, owns_block h.2 (fun g hg => hk.block g (owns_lt h.2 g hg) (hS g (Or.inr hg)))⟩

theorem CacheAt.lt {w : World} {T E : TypeId} {c : Nat} {cap : Int} {v : Value} {n : Nat} {xs : List Value} (h : CacheAt w T E c cap v n xs) : ∀ j, Foot c v j → j < w.heap.size := by
  intro j hj
  rcases hj with rfl | hj
  · exact heap_lt h.1
  · exact owns_lt h.2 j hj

theorem new_kept {w w2 : World} {o : Obj} {S : Nat → Prop} (hk : Kept S (w.alloc o) w2) (hS : ¬ S w.heap.size) : w2.heap[w.heap.size]? = some o := by
  rw [hk.block _ (by simp) hS]; exact heap_alloc_new w o

/-- A new row that is filled from its head. -/
def Filling (w wr : World) (T : TypeId) (ks : List Value) (i : Nat) : Prop :=
  ∃ xs : List Value, xs.length = ks.length ∧ xs.take i = ks.take i ∧ wr.heap[w.heap.size]? = some (.cells xs.toArray T (0, 0)) ∧ Kept (fun _ => False) w wr

theorem Filling.start {w w1 : World} {T : TypeId} {ks ys : List Value} (h : w1.ownsRow 0 T 1 (.slice (some ⟨w.heap.size, 0, none⟩) ks.length ks.length) ks.length ys) (hg : w.grownBy w1 none) : Filling w w1 T ks 0 := by
  rcases h.2 with ⟨h0, _⟩ | ⟨g, cp, cur, e, _, hh, _, _, hs, _⟩
  · cases h0
  · simp only [Value.slice.injEq, Option.some.injEq, Addr.mk.injEq, and_true, true_and] at e
    obtain ⟨rfl, rfl⟩ := e
    exact ⟨cur.toList, by simpa using hs, by simp, hh, (Kept.of_grown hg).mono (fun _ _ e => by cases e)⟩

theorem Filling.cell {w wr : World} {T : TypeId} {ks : List Value} {i : Nat} (h : Filling w wr T ks i) (hi : i < ks.length) : ∃ old, wr.cell? ⟨w.heap.size, i, none⟩ = some old ∧ wr.frozen? ⟨w.heap.size, i, none⟩ = false := by
  obtain ⟨xs, h1, _, h3, _⟩ := h
  refine ⟨xs[i], ?_, by simp [World.frozen?, h3]⟩
  rw [cell_block h3]
  simp [show i < xs.length by omega]

theorem Filling.step {w wr : World} {T : TypeId} {ks : List Value} {i : Nat} (h : Filling w wr T ks i) (u : Value) (hu : ks[i]? = some u) : Filling w (wr.setCell ⟨w.heap.size, i, none⟩ u) T ks (i + 1) := by
  obtain ⟨xs, h1, h2, h3, h4⟩ := h
  have hi : i < ks.length := (List.getElem?_eq_some_iff.1 hu).1
  refine ⟨xs.set i u, by simpa using h1, ?_, ?_, ?_⟩
  · apply List.ext_getElem?
    intro j
    simp only [List.getElem?_take]
    by_cases hj : j < i + 1
    · simp only [hj, if_true]
      by_cases hji : j = i
      · subst hji; rw [List.getElem?_set_self (by omega), hu]
      · rw [List.getElem?_set_ne (by omega)]
        have := congrArg (·[j]?) h2
        simpa [List.getElem?_take, show j < i by omega] using this
    · simp [hj]
  · rw [setCell_eq_setRow wr _ i _ T (0, 0) u h3]
    have := setRow_heap wr w.heap.size xs.toArray (xs.toArray.setIfInBounds i u) T (0, 0) h3
    simpa using this
  · exact h4.join (Kept.setCell wr _ u) (fun _ _ e => e) (fun j hj e => by simp at e; omega)

theorem Filling.done {w wr : World} {T : TypeId} {ks : List Value} {i : Nat} (h : Filling w wr T ks i) (hi : ks.length ≤ i) : wr.heap[w.heap.size]? = some (.cells ks.toArray T (0, 0)) ∧ Kept (fun _ => False) w wr := by
  obtain ⟨xs, h1, h2, h3, h4⟩ := h
  rw [List.take_of_length_le (by omega), List.take_of_length_le hi] at h2
  subst h2
  exact ⟨h3, h4⟩

theorem Filling.kept {w wr : World} {T : TypeId} {ks : List Value} {i : Nat} (h : Filling w wr T ks i) : Kept (fun _ => False) w wr := by
  obtain ⟨_, _, _, _, h4⟩ := h
  exact h4

/-- A new row, all of it owned. -/
theorem owns_new (w : World) (base : Nat) (e : TypeId) (size n : Nat) (cs : List Value) (m : Nat) (hm : m = w.heap.size) (hb : base ≤ w.heap.size) (hn : n ≤ maxLen) (hs : cs.length = n * size) :
    (w.alloc (.cells cs.toArray e)).ownsRow base e size (.slice (some ⟨m, 0, none⟩) n n) n cs := by
  subst hm
  exact ⟨hs, Or.inr ⟨w.heap.size, n, cs.toArray, rfl, hb, heap_alloc_new w _, Nat.le_refl _, hn, by simpa using hs, by rw [← hs]; simp⟩⟩

/-- append of a row that is owned, or of nil, onto a row that is owned. -/
theorem wpList_append_row {P : Program} (w : World) {ops : Array Oper} {rest : List Oper} {o : Oper} {a : Act} {Q : Exit → Act → World → Prop} (hgd : o.guard = none) (s x : Operand) (t : TypeId)
    (ho : o.op = .call { callee := .builtin .append, args := #[s, x], argTypes := #[t, t] })
    (base : Nat) (e : TypeId) (i : TypeInfo) (z : Value) (size bytes : Nat) (ht : P.underlying t = some (.slice e)) (hi : P.info? e = some i) (hz : i.zero = some z)
    (hsize : i.size = size) (hby : i.bytes = bytes) (hzs : z.cells.size = size) (hsz : 0 < size)
    (v : Value) (n : Nat) (xs : List Value) (hs : a.eval s = v) (hown : w.ownsRow base e size v n xs)
    (sv : Value) (b2 m : Nat) (ys : List Value) (hx : a.eval x = sv) (hsrc : w.ownsRow b2 e size sv m ys) (h1 : ∀ u ∈ ys, u.oneCell' = true)
    (hn : 0 < n) (h63 : n + m ≤ maxLen) (hbytes : (n + m) * bytes ≤ 140737488355328) (hbase : base ≤ w.heap.size)
    (h : ∀ g cap' w', w'.ownsRow base e size (.slice (some ⟨g, 0, none⟩) (n + m) cap') (n + m) (xs ++ ys) → w.grownBy w' v.ownBlock → wpList P ops Q rest (a.put o.dst (.slice (some ⟨g, 0, none⟩) (n + m) cap')) w') :
    wpList P ops Q (o :: rest) a w := by
  have fin : ∀ v' w', w'.ownsRow base e size v' (n + m) (xs ++ ys) → w.grownBy w' v.ownBlock → wpList P ops Q rest (a.put o.dst v') w' := by
    intro v' w' ho' hg'
    rcases ho'.2 with ⟨_, h0⟩ | ⟨g, cap', cur, rfl, _⟩
    · omega
    · exact h g cap' w' ho' hg'
  rcases hsrc.2 with ⟨rfl, h0⟩ | ⟨g, cp, _, rfl, _⟩
  · subst h0
    obtain rfl : ys = [] := List.eq_nil_of_length_eq_zero (by simpa using hsrc.1)
    exact wpList_append_own_none hgd s x t ho base e i size ht hi v n xs hs hown hx (fin v w (by simpa using hown) ⟨rfl, rfl, rfl, Nat.le_refl _, fun _ _ _ => rfl⟩)
  · exact wpList_append_own w hgd s x t ho base e i z size bytes ht hi hz hsize hby hzs hsz v n xs hs hown ⟨g, 0, none⟩ m cp ys hx hsrc.1 (hsrc.cells (g := g) rfl) h1 h63 hbytes hbase (fun v' w' q1 q2 _ => fin v' w' q1 q2)

/-- The store of a new row into the struct. -/
theorem relay {w w1 : World} {T E : TypeId} {c : Nat} {cap : Int} {v : Value} {g n cp : Nat} {xs : List Value} (hb : w.heap[c]? = some (.cells #[.int .i64 cap, v] T (0, 0))) (hk : Kept (fun _ => False) w w1)
    (hown : w1.ownsRow w.heap.size E 2 (.slice (some ⟨g, 0, none⟩) n cp) n xs) :
    CacheAt (w1.setCell ⟨c, 1, none⟩ (.slice (some ⟨g, 0, none⟩) n cp)) T E c cap (.slice (some ⟨g, 0, none⟩) n cp) n xs ∧
      Kept (fun j => j = c) w (w1.setCell ⟨c, 1, none⟩ (.slice (some ⟨g, 0, none⟩) n cp)) ∧ w.heap.size ≤ g := by
  have hc := heap_lt hb
  have hg := (hown.lt g rfl).1
  have hb1 : w1.heap[c]? = some (.cells #[.int .i64 cap, v] T (0, 0)) := by rw [hk.block c hc (fun e => e)]; exact hb
  refine ⟨⟨two_set hb1 _, owns_block (owns_base hown) ?_⟩, hk.join (Kept.setCell w1 _ _) (fun _ _ e => e.elim) (fun _ _ e => e), hg⟩
  intro g' e
  simp only [Value.ownBlock, Option.some.injEq] at e
  subst e
  exact Below.heap_setCell _ _ _ _ (show g ≠ c by omega)

/-- A shorter piece of a row that is owned. -/
theorem owns_cut {w : World} {base : Nat} {e : TypeId} {size g n cap : Nat} {xs : List Value} (h : w.ownsRow base e size (.slice (some ⟨g, 0, none⟩) n cap) n xs) (m : Nat) (hm : m ≤ n) :
    w.ownsRow base e size (.slice (some ⟨g, 0, none⟩) m cap) m (xs.take (m * size)) := by
  rcases h.2 with ⟨h0, _⟩ | ⟨g', cp', cur, e', hb, hh, h1, h2, h3, h4⟩
  · cases h0
  · simp only [Value.slice.injEq, Option.some.injEq, Addr.mk.injEq, and_true, true_and] at e'
    obtain ⟨rfl, rfl⟩ := e'
    have hmul := Nat.mul_le_mul_right size hm
    refine ⟨by rw [List.length_take, h.1]; omega, Or.inr ⟨g, cap, cur, rfl, hb, hh, by omega, h2, h3, ?_⟩⟩
    rw [← h4, List.take_take]
    congr 1
    omega

/-- append of at least one element onto a row that is owned: the shape of what comes out. -/
theorem wpList_append_at {P : Program} (w : World) {ops : Array Oper} {rest : List Oper} {o : Oper} {a : Act} {Q : Exit → Act → World → Prop} (hgd : o.guard = none) (s x : Operand) (t : TypeId)
    (ho : o.op = .call { callee := .builtin .append, args := #[s, x], argTypes := #[t, t] })
    (base : Nat) (e : TypeId) (i : TypeInfo) (z : Value) (size bytes : Nat) (ht : P.underlying t = some (.slice e)) (hi : P.info? e = some i) (hz : i.zero = some z)
    (hsize : i.size = size) (hby : i.bytes = bytes) (hzs : z.cells.size = size) (hsz : 0 < size)
    (v : Value) (n : Nat) (xs : List Value) (hs : a.eval s = v) (hown : w.ownsRow base e size v n xs)
    (ad : Addr) (m c : Nat) (news : List Value) (hx : a.eval x = .slice (some ad) m c) (hl : news.length = m * size) (hnews : ∀ j u, news[j]? = some u → w.cell? (ad.add j) = some u) (h1 : ∀ u ∈ news, u.oneCell' = true)
    (hm : 0 < m) (h63 : n + m ≤ maxLen) (hbytes : (n + m) * bytes ≤ 140737488355328) (hbase : base ≤ w.heap.size)
    (h : ∀ g cap' w', w'.ownsRow base e size (.slice (some ⟨g, 0, none⟩) (n + m) cap') (n + m) (xs ++ news) → w.grownBy w' v.ownBlock → wpList P ops Q rest (a.put o.dst (.slice (some ⟨g, 0, none⟩) (n + m) cap')) w') :
    wpList P ops Q (o :: rest) a w := by
  refine wpList_append_own w hgd s x t ho base e i z size bytes ht hi hz hsize hby hzs hsz v n xs hs hown ad m c news hx hl hnews h1 h63 hbytes hbase ?_
  intro v' w' ho' hg' _
  rcases ho'.2 with ⟨_, h0⟩ | ⟨g, cap', cur, rfl, _⟩
  · omega
  · exact h g cap' w' ho' hg'

theorem new_cells (w0 : World) (cs : List Value) (T : TypeId) (m : Nat) (hm : m = w0.heap.size) : ∀ j u, cs[j]? = some u → (w0.alloc (.cells cs.toArray T)).cell? ((⟨m, 0, none⟩ : Addr).add j) = some u := by
  subst hm
  intro j u hu
  rw [addr_add, cell_block (heap_alloc_new w0 _)]
  simpa using hu

/-- append that must grow: a new row. -/
theorem wpList_append_fresh {P : Program} (w : World) {ops : Array Oper} {rest : List Oper} {o : Oper} {a : Act} {Q : Exit → Act → World → Prop}
    (hg : o.guard = none) (s x : Operand) (t : TypeId) (hop : o.op = Op.call { callee := Callee.builtin Builtin.append, args := #[s, x], argTypes := #[t, t] })
    (e : TypeId) (i : TypeInfo) (z : Value) (size bytes : Nat) (h1 : P.underlying t = some (.slice e)) (h2 : P.info? e = some i) (h3 : i.zero = some z) (h4 : i.size = size) (h5 : i.bytes = bytes) (h6 : z.cells.size = size) (h7 : 0 < size)
    (b : Addr) (n cap : Nat) (olds : List Value) (hs : a.eval s = .slice (some b) n cap) (hlo : olds.length = n * size) (holds : ∀ j u, olds[j]? = some u → w.cell? (b.add j) = some u)
    (ad : Addr) (m c : Nat) (news : List Value) (hx : a.eval x = .slice (some ad) m c) (hn : news.length = m * size) (hc : ∀ j u, news[j]? = some u → w.cell? (ad.add j) = some u) (h1c : ∀ u ∈ news, u.oneCell' = true)
    (hm : 0 < m) (hfull : cap < n + m) (b1 : n + m ≤ maxLen) (b2 : (n + m) * bytes ≤ 140737488355328)
    (hK : ∀ g cap' w', w'.ownsRow w.heap.size e size (.slice (some ⟨g, 0, none⟩) (n + m) cap') (n + m) (olds ++ news) → w.grownBy w' none → wpList P ops Q rest (a.put o.dst (.slice (some ⟨g, 0, none⟩) (n + m) cap')) w') :
    wpList P ops Q (o :: rest) a w := by
  refine wpList_append_grows w hg s x t hop e i z size bytes h1 h2 h3 h4 h5 h6 h7 (some b) n cap olds hs (by intro h; cases h) hlo (by intro b' hb; cases hb; exact holds) ad m c news hx hn hc h1c hfull b1 b2 ?_
  intro v' w' ho hg'
  rcases ho.2 with ⟨_, h0⟩ | ⟨g, cap', cur, rfl, _⟩
  · omega
  · exact hK g cap' w' ho hg'

/-- The type of a block. -/
def typ (w : World) (g : Nat) (t : TypeId) : Prop := ∃ cs fr, w.heap[g]? = some (.cells cs t fr)
theorem typ_ne {w : World} {a b : Nat} {s t : TypeId} (h : typ w a s) (k : typ w b t) (hst : s ≠ t) : a ≠ b := by
  rintro rfl
  obtain ⟨c1, f1, h1⟩ := h
  obtain ⟨c2, f2, h2⟩ := k
  rw [h1] at h2
  simp at h2
  exact hst h2.2.1
theorem typ_own {w : World} {base : Nat} {e : TypeId} {size : Nat} {v : Value} {n : Nat} {xs : List Value} (h : w.ownsRow base e size v n xs) (g : Nat) (hg : v.ownBlock = some g) : typ w g e := by
  rcases h.2 with ⟨rfl, _⟩ | ⟨g', cp, cur, rfl, _, hh, _⟩
  · cases hg
  · simp only [Value.ownBlock, Option.some.injEq] at hg
    subst hg
    exact ⟨_, _, hh⟩
theorem typ_blk {w : World} {g : Nat} {cs : Array Value} {t : TypeId} {fr : Nat × Nat} (h : w.heap[g]? = some (.cells cs t fr)) : typ w g t := ⟨_, _, h⟩
theorem typ_keep {w w' : World} {S : Nat → Prop} {g : Nat} {t : TypeId} (h : typ w g t) (hk : Kept S w w') (hS : ¬ S g) : typ w' g t := by
  obtain ⟨c, f, h1⟩ := h
  exact ⟨c, f, by rw [hk.block g (heap_lt h1) hS]; exact h1⟩
theorem typ_lt {w : World} {g : Nat} {t : TypeId} (h : typ w g t) : g < w.heap.size := by
  obtain ⟨c, f, h1⟩ := h
  exact heap_lt h1

end Go.Proofs.YtlfmfhmbkpnjbabGreatDoor
