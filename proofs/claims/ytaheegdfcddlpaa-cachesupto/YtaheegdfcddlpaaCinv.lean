import Derived.Test.YtaheegdfcddlpaaUsedget
import Derived.Test.YtaheegdfcddlpaaUsedkeys
namespace Go.Proofs.Ytaheegdfcddlpaa
open Go.RowKit

theorem used_any (bk : Nat) (kd ca k N : Int) (t : ByteArray) (cc x z y : Nat) (rx rz ry : Value) (n : Nat) (L : List Ent) (kv : Value) (Q : List Lst) (w : World) (hk : In64 k) (hQ : Q.length ≤ 1000000000) (hn0 : 1 ≤ n) (hn : n ≤ 64) (hL : L.length ≤ n) (ok : KeysOk L) (B : BookAt w bk kv Q)
    (h : Tri w cc x z y rx rz ry n L (L.map tz) L) :
    Calls Try.prog 6 #[.pointer (some ⟨bk, 0, none⟩), .pointer (some ⟨cc, 0, none⟩), .agg #[.int .i64 kd, .int .i64 ca, .int .i64 k, .int .i64 N, .string t]] w fun e w' =>
      e = .returned (.bool true) ∧ UsedPost bk kv Q w cc x z y rx rz ry n w' := by
  by_cases h2 : kd = 2
  · subst h2; exact used_put bk ca k N t cc x z y rx rz ry n L kv Q w hk hn0 hn hL ok B h
  · by_cases h3 : kd = 3
    · subst h3; exact used_get bk ca k N t cc x z y rx rz ry n L kv Q w hk hn hL ok B h
    · by_cases h4 : kd = 4
      · subst h4; exact used_keys bk ca k N t cc x z y rx rz ry n L kv Q w hQ hn hL ok B h
      · refine (used_none bk kd ca k N t _ w (by simp [h2]) (by simp [h3]) (by simp [h4])).mono ?_
        rintro e w' ⟨rfl, hk'⟩
        exact ⟨rfl, rx, rz, ry, L, kv, Q, h.keep hk' (fun _ _ e => e), ok, hL, B.keep hk' (fun _ _ e => e), by omega, hk'.mono (fun _ _ e => e.elim), fun j hj => Or.inl hj, fun j hj => Or.inl hj⟩

/-- One of the caches that there are. -/
structure TD where
  cc : Nat
  x : Nat
  z : Nat
  y : Nat
  rx : Value
  rz : Value
  ry : Value
  n : Nat
  L : List Ent

def TD.foot (d : TD) : Nat → Prop := TFoot d.cc d.x d.z d.y d.rx d.rz d.ry
structure TD.Ok (w : World) (d : TD) : Prop where
  tri : Tri w d.cc d.x d.z d.y d.rx d.rz d.ry d.n d.L (d.L.map tz) d.L
  keys : KeysOk d.L
  len : d.L.length ≤ d.n
  n0 : 1 ≤ d.n
  n64 : d.n ≤ 64
def ptr (d : TD) : Value := .pointer (some ⟨d.cc, 0, none⟩)

/-- All that there is in the loop. -/
structure CInv (B : Nat) (w wr : World) (bk : Nat) (kv : Value) (Q : List Lst) (lv : Value) (D : List TD) (bg : Nat) (bc : Array Value) : Prop where
  low : Below B w wr
  size : B ≤ wr.heap.size
  book : BookAt wr bk kv Q
  blow : ∀ j, BFoot bk kv j → B ≤ j
  list : wr.ownsRow B 28 1 lv D.length (D.map ptr)
  each : ∀ i (h : i < D.length), TD.Ok wr D[i]
  tlow : ∀ i (h : i < D.length) j, D[i].foot j → B ≤ j
  apart : ∀ i (h : i < D.length) i' (h' : i' < D.length), i ≠ i' → ∀ j, D[i].foot j → ¬ D[i'].foot j
  beg : wr.heap[bg]? = some (.cells bc 33 (0, 0))

section
variable {B : Nat} {w wr w' : World} {bk : Nat} {kv : Value} {Q : List Lst} {lv : Value} {D : List TD} {bg : Nat} {bc : Array Value}

theorem CInv.kept (h : CInv B w wr bk kv Q lv D bg bc) (hk : Kept (fun _ => False) wr w') : CInv B w w' bk kv Q lv D bg bc where
  low := h.low.trans (hk.below B h.size (fun _ _ e => e))
  size := Nat.le_trans h.size hk.size
  book := h.book.keep hk (fun _ _ e => e)
  blow := h.blow
  list := owns_block h.list (fun g hg => hk.block g (owns_lt h.list g hg) (fun e => e))
  each := fun i hi => ⟨(h.each i hi).tri.keep hk (fun _ _ e => e), (h.each i hi).keys, (h.each i hi).len, (h.each i hi).n0, (h.each i hi).n64⟩
  tlow := h.tlow
  apart := h.apart
  beg := by rw [hk.block bg (heap_lt h.beg) (fun e => e)]; exact h.beg

/-- The blocks of a cache are no others'. -/
theorem Tri.not_typ {cc x z y : Nat} {rx rz ry : Value} {n : Nat} {X : List Ent} {Z : List (ByteArray × Int)} {Y : List Ent} (h : Tri w cc x z y rx rz ry n X Z Y) (j : Nat) (hj : TFoot cc x z y rx rz ry j) (t : TypeId) (ht : typ w j t)
    (h0 : t ≠ 60) (h1 : t ≠ 86) (h2 : t ≠ 92) (h3 : t ≠ 89) (h4 : t ≠ 95) (h5 : t ≠ 58) (h6 : t ≠ 70) : False := by
  rcases hj with rfl | hj | hj | hj
  · exact typ_two ht h.tc h0
  · rcases h.tx j hj with q | q
    · exact typ_two ht q h1
    · exact typ_two ht q h2
  · rcases h.tz j hj with q | q
    · exact typ_two ht q h3
    · exact typ_two ht q h4
  · rcases h.ty j hj with q | q
    · exact typ_two ht q h5
    · exact typ_two ht q h6

theorem bfoot_typ (b : BookAt wr bk kv Q) (j : Nat) (hj : BFoot bk kv j) : typ wr j 27 ∨ typ wr j 38 := by
  rcases hj with rfl | hj
  · exact Or.inl (typ_blk b.blk)
  · exact Or.inr (typ_own b.own j hj)

/-- Behind a step on the q-th. -/
theorem CInv.used (h : CInv B w wr bk kv Q lv D bg bc) (q : Nat) (hq : q < D.length) (hu : UsedPost bk kv Q wr D[q].cc D[q].x D[q].z D[q].y D[q].rx D[q].rz D[q].ry D[q].n w') :
    ∃ kv' Q' D', CInv B w w' bk kv' Q' lv D' bg bc ∧ D'.length = D.length ∧ Q'.length ≤ Q.length + 4 := by
  obtain ⟨rx', rz', ry', L', kv', Q', t', ok', l', b', hq', k', f', g'⟩ := hu
  have hOk := h.each q hq
  have htri := hOk.tri
  let d' : TD := ⟨D[q].cc, D[q].x, D[q].z, D[q].y, rx', rz', ry', D[q].n, L'⟩
  have hfd : ∀ j, d'.foot j → D[q].foot j ∨ wr.heap.size ≤ j := f'
  have hS : ∀ j, B ≤ j ∨ ¬ (TFoot D[q].cc D[q].x D[q].z D[q].y D[q].rx D[q].rz D[q].ry j ∨ BFoot bk kv j) := by
    intro j
    by_cases hj : TFoot D[q].cc D[q].x D[q].z D[q].y D[q].rx D[q].rz D[q].ry j ∨ BFoot bk kv j
    · rcases hj with hj | hj
      · exact Or.inl (h.tlow q hq j hj)
      · exact Or.inl (h.blow j hj)
    · exact Or.inr hj
  have hget : ∀ i (hi : i < (D.set q d').length), (D.set q d')[i] = if q = i then d' else D[i]'(by simpa using hi) := fun i hi => List.getElem_set hi
  have hflt : ∀ i (hi : i < D.length) j, D[i].foot j → j < wr.heap.size := fun i hi j hj => (h.each i hi).tri.lt j hj
  refine ⟨kv', Q', D.set q d', ?_, by simp, hq'⟩
  constructor
  · refine h.low.trans (k'.below B h.size ?_)
    intro i hi e
    rcases hS i with q1 | q1
    · omega
    · exact q1 e
  · exact Nat.le_trans h.size k'.size
  · exact b'
  · intro j hj
    rcases g' j hj with q1 | q1
    · exact h.blow j q1
    · exact Nat.le_trans h.size q1
  · have e1 : (D.set q d').map ptr = D.map ptr := by
      rw [List.map_set]
      apply List.ext_getElem?
      intro i
      rw [List.getElem?_set]
      split
      · rename_i e
        subst e
        simp [hq, ptr, d']
      · rfl
    rw [e1, List.length_set]
    refine owns_block h.list (fun g hg => k'.block g (owns_lt h.list g hg) ?_)
    have ht := typ_own h.list g hg
    intro e
    rcases e with e | e
    · exact htri.not_typ g e _ ht (by decide) (by decide) (by decide) (by decide) (by decide) (by decide) (by decide)
    · rcases bfoot_typ h.book g e with q1 | q1 <;> exact typ_two ht q1 (by decide)
  · intro i hi
    rw [hget i hi]
    split
    · exact ⟨t', ok', l', hOk.n0, hOk.n64⟩
    · rename_i e
      have hi' : i < D.length := by simpa using hi
      have o := h.each i hi'
      refine ⟨o.tri.keep k' (fun j hj => ?_), o.keys, o.len, o.n0, o.n64⟩
      intro e2
      rcases e2 with e2 | e2
      · exact h.apart q hq i hi' e j e2 hj
      · rcases bfoot_typ h.book j e2 with q1 | q1
        · exact o.tri.not_typ j hj _ q1 (by decide) (by decide) (by decide) (by decide) (by decide) (by decide) (by decide)
        · exact o.tri.not_typ j hj _ q1 (by decide) (by decide) (by decide) (by decide) (by decide) (by decide) (by decide)
  · intro i hi j
    rw [hget i hi]
    split
    · intro hj
      rcases hfd j hj with q1 | q1
      · exact h.tlow q hq j q1
      · exact Nat.le_trans h.size q1
    · exact h.tlow i (by simpa using hi) j
  · intro i hi i' hi' hne j
    rw [hget i hi, hget i' hi']
    have hi2 : i < D.length := by simpa using hi
    have hi2' : i' < D.length := by simpa using hi'
    by_cases e1 : q = i
    · subst e1
      rw [if_pos rfl, if_neg hne]
      intro hj hj'
      rcases hfd j hj with q1 | q1
      · exact h.apart q hi2 i' hi2' hne j q1 hj'
      · have := hflt i' hi2' j hj'; omega
    · rw [if_neg e1]
      by_cases e2 : q = i'
      · subst e2
        rw [if_pos rfl]
        intro hj hj'
        rcases hfd j hj' with q1 | q1
        · exact h.apart i hi2 q hi2' hne j hj q1
        · have := hflt i hi2 j hj; omega
      · rw [if_neg e2]
        exact h.apart i hi2 i' hi2' hne j
  · rw [k'.block bg (heap_lt h.beg) ?_]
    · exact h.beg
    · have ht := typ_blk h.beg
      intro e
      rcases e with e | e
      · exact htri.not_typ bg e _ ht (by decide) (by decide) (by decide) (by decide) (by decide) (by decide) (by decide)
      · rcases bfoot_typ h.book bg e with q1 | q1 <;> exact typ_two ht q1 (by decide)

/-- One more: it has been made, and appended to the list. -/
theorem CInv.more {w1 w2 w3 : World} {d : TD} {lv' : Value} {o : Obj} (h : CInv B w wr bk kv Q lv D bg bc) (hd : TD.Ok w1 d) (k1 : Kept (fun _ => False) wr w1) (hnew : ∀ j, d.foot j → wr.heap.size ≤ j)
    (hw2 : w2 = w1.alloc o) (hgrow : w2.grownBy w3 lv.ownBlock) (hown : w3.ownsRow B 28 1 lv' (D.length + 1) (D.map ptr ++ [ptr d])) :
    CInv B w w3 bk kv Q lv' (D ++ [d]) bg bc := by
  subst hw2
  have h1 := (h.kept k1).kept (Kept.alloc w1 o)
  have hd1 : TD.Ok (w1.alloc o) d := ⟨hd.tri.keep (Kept.alloc w1 o) (fun _ _ e => e), hd.keys, hd.len, hd.n0, hd.n64⟩
  have kk : Kept (fun j => lv.ownBlock = some j) (w1.alloc o) w3 := (Kept.of_grown hgrow).mono (fun _ _ e => e.symm)
  have tl : ∀ g, lv.ownBlock = some g → typ (w1.alloc o) g 28 := fun g hg => typ_own h1.list g hg
  have lb : ∀ g, lv.ownBlock = some g → B ≤ g := fun g hg => (h1.list.lt g hg).1
  have hlen : (D ++ [d]).length = D.length + 1 := by simp
  have hkeep : ∀ e : TD, TD.Ok (w1.alloc o) e → TD.Ok w3 e := fun e he =>
    ⟨he.tri.keep kk (fun j hj e2 => he.tri.not_typ j hj _ (tl j e2) (by decide) (by decide) (by decide) (by decide) (by decide) (by decide) (by decide)), he.keys, he.len, he.n0, he.n64⟩
  constructor
  · exact h1.low.trans (kk.below B h1.size (fun i hi e => by have := lb i e; omega))
  · exact Nat.le_trans h1.size kk.size
  · refine h1.book.keep kk (fun j hb e => ?_)
    rcases hb with hb | hb | hb <;> exact typ_two (tl j e) hb (by decide)
  · exact h1.blow
  · rw [hlen, List.map_append]; exact hown
  · intro i hi
    by_cases h0 : i < D.length
    · rw [List.getElem_append_left h0]; exact hkeep _ (h1.each i h0)
    · have : i = D.length := by rw [hlen] at hi; omega
      subst this
      rw [List.getElem_append_right (Nat.le_refl _)]
      simp only [Nat.sub_self, List.getElem_cons_zero]
      exact hkeep d hd1
  · intro i hi j
    by_cases h0 : i < D.length
    · rw [List.getElem_append_left h0]; exact h1.tlow i h0 j
    · have : i = D.length := by rw [hlen] at hi; omega
      subst this
      rw [List.getElem_append_right (Nat.le_refl _)]
      simp only [Nat.sub_self, List.getElem_cons_zero]
      intro hj
      exact Nat.le_trans h.size (hnew j hj)
  · intro i hi i' hi' hne j
    have hlt : ∀ a (ha : a < D.length), D[a].foot j → j < wr.heap.size := fun a ha hj => (h.each a ha).tri.lt j hj
    by_cases h0 : i < D.length
    · rw [List.getElem_append_left h0]
      by_cases h0' : i' < D.length
      · rw [List.getElem_append_left h0']; exact h1.apart i h0 i' h0' hne j
      · have : i' = D.length := by rw [hlen] at hi'; omega
        subst this
        rw [List.getElem_append_right (Nat.le_refl _)]
        simp only [Nat.sub_self, List.getElem_cons_zero]
        intro hj hj'
        have := hlt i h0 hj
        have := hnew j hj'
        omega
    · have : i = D.length := by rw [hlen] at hi; omega
      subst this
      have h0' : i' < D.length := by rw [hlen] at hi'; omega
      rw [List.getElem_append_right (Nat.le_refl _), List.getElem_append_left h0']
      simp only [Nat.sub_self, List.getElem_cons_zero]
      intro hj hj'
      have := hlt i' h0' hj'
      have := hnew j hj
      omega
  · rw [kk.block bg (heap_lt h1.beg) (fun e => typ_two (tl bg e) (typ_blk h1.beg) (by decide))]; exact h1.beg
end
end Go.Proofs.Ytaheegdfcddlpaa
