import Derived.Test.YtgclehnhjjkdbaaGreatDoorFkeep
import Derived.Test.YtgclehnhjjkdbaaGreatDoorWdsPart
namespace Go.Proofs.YtgclehnhjjkdbaaGreatDoor
open Go.RowKit

/-- One of the matches that there are. -/
structure MD where
  mb : Nat
  rb : Nat
  wv : Value
  stv : Value
  ev : Int
  ad : Value
  buf : Value
  s : List UInt8
  now : Wd
  ws : List Wd
  ys : List Nat

def MD.foot (d : MD) (j : Nat) : Prop := j = d.mb ∨ j = d.rb ∨ d.buf.ownBlock = some j ∨ d.wv.ownBlock = some j ∨ d.stv.ownBlock = some j
def ptrM (d : MD) : Value := .pointer (some ⟨d.mb, 0, none⟩)
def rowN (ys : List Nat) : List Value := ys.map fun n : Nat => .int .i64 (n : Int)

structure MD.Ok (w : World) (d : MD) : Prop where
  blk : w.heap[d.mb]? = some (.cells #[.pointer (some ⟨d.rb, 0, none⟩), d.wv, d.stv, .string ⟨d.s.toArray⟩] 71 (0, 0))
  reco : Rec w d.rb (.int .i64 d.ev) (.int .i64 d.now.t) (.slice d.now.p d.now.L.length d.now.cap) d.ad d.buf d.s
  nowOk : d.now.Ok w
  worlds : w.ownsRow 0 56 2 d.wv d.ws.length (rowW d.ws)
  each : ∀ x ∈ d.ws, x.Ok w
  last : ∃ r x, d.ws = r ++ [x] ∧ x.t = d.now.t ∧ x.L = d.now.L
  stands : w.ownsRow 0 3 1 d.stv d.ys.length (rowN d.ys)
  len : (d.ws.length : Int) = d.now.t + 1
  ylen : d.ys.length = d.ws.length
  long : (d.s.length : Int) ≤ 15001 * d.now.t + 1000
  ne : d.s ≠ []
  every : 1 ≤ d.ev ∧ d.ev ≤ 64

theorem MD.Ok.keep {w w' : World} {S : Nat → Prop} {d : MD} (h : d.Ok w) (k : Kept S w w') (h1 : ∀ j, d.foot j → ¬ S j) (h2 : ∀ j, typ w j 52 → ¬ S j) : d.Ok w' where
  blk := by rw [k.block _ (heap_lt h.blk) (h1 _ (Or.inl rfl))]; exact h.blk
  reco := h.reco.keep k (h1 _ (Or.inr (Or.inl rfl))) (fun j hj => h1 j (Or.inr (Or.inr (Or.inl hj))))
  nowOk := h.nowOk.keep k h2
  worlds := owns_block h.worlds (fun j hj => k.block j (owns_lt h.worlds j hj) (h1 j (Or.inr (Or.inr (Or.inr (Or.inl hj))))))
  each := fun x hx => (h.each x hx).keep k h2
  last := h.last
  stands := owns_block h.stands (fun j hj => k.block j (owns_lt h.stands j hj) (h1 j (Or.inr (Or.inr (Or.inr (Or.inr hj))))))
  len := h.len
  ylen := h.ylen
  long := h.long
  ne := h.ne
  every := h.every
theorem MD.Ok.calm {w w' : World} {d : MD} (h : d.Ok w) (k : Kept (fun _ => False) w w') : d.Ok w' := h.keep k (fun _ _ e => e) (fun _ _ e => e)
theorem MD.Ok.not_typ {w : World} {d : MD} (h : d.Ok w) (j : Nat) (hj : d.foot j) (t : TypeId) (ht : typ w j t) (h0 : t ≠ 71) (h1 : t ≠ 85) (h2 : t ≠ 5) (h3 : t ≠ 56) (h4 : t ≠ 3) : False := by
  rcases hj with rfl | rfl | hj | hj | hj
  · exact typ_ne ht (typ_blk h.blk) h0 rfl
  · exact typ_ne ht (typ_blk h.reco.blk) h1 rfl
  · exact typ_ne ht (typ_ownF h.reco.own j hj) h2 rfl
  · exact typ_ne ht (typ_own h.worlds j hj) h3 rfl
  · exact typ_ne ht (typ_own h.stands j hj) h4 rfl
theorem MD.Ok.lt {w : World} {d : MD} (h : d.Ok w) (j : Nat) (hj : d.foot j) : j < w.heap.size := by
  rcases hj with rfl | rfl | hj | hj | hj
  · exact heap_lt h.blk
  · exact heap_lt h.reco.blk
  · exact (h.reco.own.lt j hj).2
  · exact owns_lt h.worlds j hj
  · exact owns_lt h.stands j hj

/-- All that there is in the loop. -/
structure MInv (B : Nat) (w : World) (bk : Nat) (mv sv : Value) (ms : Int) (ev : Value) (Q : List Els) (D : List MD) : Prop where
  book : BookF w bk mv sv ms ev Q
  blow : B ≤ bk
  elow : ∀ j, ev.ownBlock = some j → B ≤ j
  list : w.ownsRow 0 45 1 mv D.length (D.map ptrM)
  llow : ∀ j, mv.ownBlock = some j → B ≤ j
  each : ∀ i (h : i < D.length), D[i].Ok w
  low : ∀ i (h : i < D.length) j, D[i].foot j → B ≤ j
  apart : ∀ i (h : i < D.length) i' (h' : i' < D.length), i ≠ i' → ∀ j, D[i].foot j → ¬ D[i'].foot j

theorem BookF.keep {w w' : World} {S : Nat → Prop} {bk : Nat} {mv sv : Value} {ms : Int} {ev : Value} {Q : List Els} (h : BookF w bk mv sv ms ev Q) (k : Kept S w w') (h1 : ¬ S bk) (h2 : ∀ j, ev.ownBlock = some j → ¬ S j) (h3 : ∀ j, typ w j 52 → ¬ S j) : BookF w' bk mv sv ms ev Q :=
  ⟨by rw [k.block _ (heap_lt h.blk) h1]; exact h.blk, owns_block h.own (fun j hj => k.block j (owns_lt h.own j hj) (h2 j hj)), fun i hi => (h.rows i hi).keep k (fun b off e => h3 b (h.here i hi b ⟨off, e⟩)), fun i hi j hj => typ_keep (h.here i hi j hj) k (h3 j (h.here i hi j hj)), h.short, h.four⟩
theorem BookF.still {w w' : World} {bk : Nat} {mv sv : Value} {ms : Int} {ev : Value} {Q : List Els} (h : BookF w bk mv sv ms ev Q) (k : Kept (fun _ => False) w w') : BookF w' bk mv sv ms ev Q := h.keep k (fun e => e) (fun _ _ e => e) (fun _ _ e => e)

/-- What a step may write to. -/
def Far (w : World) (B j : Nat) : Prop := B ≤ j ∧ ¬ typ w j 36 ∧ ¬ typ w j 39
theorem Far.join {w w' w'' : World} {B : Nat} (k : Kept (Far w B) w w') (k' : Kept (Far w' B) w' w'') : Kept (Far w B) w w'' :=
  k.join k' (fun _ _ e => e) (fun _ _ e => ⟨e.1, fun t => e.2.1 (typ_keep t k (fun f => f.2.1 t)), fun t => e.2.2 (typ_keep t k (fun f => f.2.2 t))⟩)

section
variable {B : Nat} {w w' : World} {bk : Nat} {mv sv : Value} {ms : Int} {ev : Value} {Q : List Els} {D : List MD}

theorem MInv.calm (h : MInv B w bk mv sv ms ev Q D) (k : Kept (fun _ => False) w w') : MInv B w' bk mv sv ms ev Q D where
  book := h.book.still k
  blow := h.blow
  elow := h.elow
  list := owns_block h.list (fun j hj => k.block j (owns_lt h.list j hj) (fun e => e))
  llow := h.llow
  each := fun i hi => (h.each i hi).calm k
  low := h.low
  apart := h.apart

/-- Behind a step on the q-th. -/
theorem MInv.turn {d' : MD} {ev' : Value} {Q' : List Els} (h : MInv B w bk mv sv ms ev Q D) (hB : B ≤ w.heap.size) (q : Nat) (hq : q < D.length) (hd : d'.Ok w') (hmb : d'.mb = D[q].mb) (hf : ∀ j, d'.foot j → D[q].foot j ∨ w.heap.size ≤ j)
    (k : Kept (fun j => D[q].foot j ∨ j = bk ∨ ev.ownBlock = some j) w w') (hb : BookF w' bk mv sv ms ev' Q') (he : ∀ j, ev'.ownBlock = some j → ev.ownBlock = some j ∨ w.heap.size ≤ j) :
    MInv B w' bk mv sv ms ev' Q' (D.set q d') ∧ Kept (Far w B) w w' := by
  have hget : ∀ i (hi : i < (D.set q d').length), (D.set q d')[i] = if q = i then d' else D[i]'(by simpa using hi) := fun i hi => List.getElem_set hi
  have tb : typ w bk 33 := typ_blk h.book.blk
  have te : ∀ j, ev.ownBlock = some j → typ w j 50 := fun j hj => typ_own h.book.own j hj
  have tl : ∀ j, mv.ownBlock = some j → typ w j 45 := fun j hj => typ_own h.list j hj
  have oq := h.each q hq
  refine ⟨⟨hb, h.blow, ?_, ?_, h.llow, ?_, ?_, ?_⟩, ?_⟩
  · intro j hj
    rcases he j hj with e | e
    · exact h.elow j e
    · omega
  · have e1 : (D.set q d').map ptrM = D.map ptrM := by
      rw [List.map_set]
      apply List.ext_getElem?
      intro i
      rw [List.getElem?_set]
      split
      · rename_i e
        subst e
        simp [hq, ptrM, hmb]
      · rfl
    rw [e1, List.length_set]
    refine owns_block h.list (fun j hj => k.block j (owns_lt h.list j hj) ?_)
    have ht := tl j hj
    intro e
    rcases e with e | e | e
    · exact oq.not_typ j e _ ht (by decide) (by decide) (by decide) (by decide) (by decide)
    · exact typ_ne ht tb (by decide) e
    · exact typ_ne ht (te j e) (by decide) rfl
  · intro i hi
    rw [hget i hi]
    split
    · exact hd
    · rename_i e
      have hi' : i < D.length := by simpa using hi
      have o := h.each i hi'
      refine o.keep k (fun j hj e2 => ?_) (fun j hj e2 => ?_)
      · rcases e2 with e2 | e2 | e2
        · exact h.apart q hq i hi' e j e2 hj
        · exact o.not_typ j hj _ (by rw [e2]; exact tb) (by decide) (by decide) (by decide) (by decide) (by decide)
        · exact o.not_typ j hj _ (te j e2) (by decide) (by decide) (by decide) (by decide) (by decide)
      · rcases e2 with e2 | e2 | e2
        · exact oq.not_typ j e2 _ hj (by decide) (by decide) (by decide) (by decide) (by decide)
        · exact typ_ne hj tb (by decide) e2
        · exact typ_ne hj (te j e2) (by decide) rfl
  · intro i hi j
    rw [hget i hi]
    split
    · intro hj
      rcases hf j hj with e | e
      · exact h.low q hq j e
      · omega
    · exact h.low i (by simpa using hi) j
  · intro i hi i' hi' hne j
    rw [hget i hi, hget i' hi']
    have hi2 : i < D.length := by simpa using hi
    have hi2' : i' < D.length := by simpa using hi'
    by_cases e1 : q = i
    · subst e1
      rw [if_pos rfl, if_neg hne]
      intro hj hj'
      rcases hf j hj with q1 | q1
      · exact h.apart q hi2 i' hi2' hne j q1 hj'
      · have := (h.each i' hi2').lt j hj'; omega
    · rw [if_neg e1]
      by_cases e2 : q = i'
      · subst e2
        rw [if_pos rfl]
        intro hj hj'
        rcases hf j hj' with q1 | q1
        · exact h.apart i hi2 q hi2' hne j hj q1
        · have := (h.each i hi2).lt j hj; omega
      · rw [if_neg e2]
        exact h.apart i hi2 i' hi2' hne j
  · refine k.mono (fun j _ e => ?_)
    rcases e with e | e | e
    · exact ⟨h.low q hq j e, fun t => oq.not_typ j e _ t (by decide) (by decide) (by decide) (by decide) (by decide), fun t => oq.not_typ j e _ t (by decide) (by decide) (by decide) (by decide) (by decide)⟩
    · exact ⟨by rw [e]; exact h.blow, fun t => typ_ne t tb (by decide) e, fun t => typ_ne t tb (by decide) e⟩
    · exact ⟨h.elow j e, fun t => typ_ne t (te j e) (by decide) rfl, fun t => typ_ne t (te j e) (by decide) rfl⟩

/-- One more: it has been made, and appended to the list. -/
theorem MInv.more {w1 w2 : World} {d : MD} {mv' : Value} (h : MInv B w bk mv sv ms ev Q D) (hB : B ≤ w.heap.size) (k1 : Kept (fun _ => False) w w1) (hd : d.Ok w1) (hnew : ∀ j, d.foot j → w.heap.size ≤ j)
    (k2 : Kept (fun j => mv.ownBlock = some j) w1 w2) (hown : w2.ownsRow 0 45 1 mv' (D.length + 1) (D.map ptrM ++ [ptrM d])) (hmv : ∀ j, mv'.ownBlock = some j → mv.ownBlock = some j ∨ w1.heap.size ≤ j) :
    w2.heap[bk]? = some (.cells #[mv, sv, ev, .slice none 0 0, .int .i64 ms] 33 (0, 0)) ∧
    MInv B (w2.setCell ⟨bk, 0, none⟩ mv') bk mv' sv ms ev Q (D ++ [d]) ∧ Kept (Far w B) w (w2.setCell ⟨bk, 0, none⟩ mv') := by
  have h1 := h.calm k1
  have tb : typ w1 bk 33 := typ_blk h1.book.blk
  have te : ∀ j, ev.ownBlock = some j → typ w1 j 50 := fun j hj => typ_own h1.book.own j hj
  have tl : ∀ j, mv.ownBlock = some j → typ w1 j 45 := fun j hj => typ_own h1.list j hj
  have hs1 := k1.size
  have hs2 := k2.size
  have hbk1 : bk < w1.heap.size := typ_lt tb
  have nb : ¬ mv.ownBlock = some bk := fun e => typ_ne (tl bk e) tb (by decide) rfl
  have hb2 : w2.heap[bk]? = some (.cells #[mv, sv, ev, .slice none 0 0, .int .i64 ms] 33 (0, 0)) := by rw [k2.block bk hbk1 nb]; exact h1.book.blk
  have k3 : Kept (fun j => mv.ownBlock = some j ∨ j = bk) w1 (w2.setCell ⟨bk, 0, none⟩ mv') := k2.join (Kept.setCell w2 _ _) (fun _ _ e => Or.inl e) (fun _ _ e => Or.inr e)
  have nE : ∀ j, typ w1 j 52 → ¬ (mv.ownBlock = some j ∨ j = bk) := by
    rintro j hj (e | e)
    · exact typ_ne hj (tl j e) (by decide) rfl
    · exact typ_ne hj tb (by decide) e
  have nF : ∀ d : MD, d.Ok w1 → ∀ j, d.foot j → ¬ (mv.ownBlock = some j ∨ j = bk) := by
    rintro d hd j hj (e | e)
    · exact hd.not_typ j hj _ (tl j e) (by decide) (by decide) (by decide) (by decide) (by decide)
    · exact hd.not_typ j hj _ (by rw [e]; exact tb) (by decide) (by decide) (by decide) (by decide) (by decide)
  have hlen : (D ++ [d]).length = D.length + 1 := by simp
  refine ⟨hb2, ⟨⟨?_, ?_, ?_, ?_, h.book.short, h.book.four⟩, h.blow, h.elow, ?_, ?_, ?_, ?_, ?_⟩, ?_⟩
  · have := row_set hb2 0 mv'
    simpa using this
  · exact owns_block h1.book.own (fun j hj => k3.block j (owns_lt h1.book.own j hj) (fun e => by
      rcases e with e | e
      · exact typ_ne (te j hj) (tl j e) (by decide) rfl
      · exact typ_ne (te j hj) tb (by decide) e))
  · exact fun i hi => (h1.book.rows i hi).keep k3 (fun b off e => nE b (h1.book.here i hi b ⟨off, e⟩))
  · exact fun i hi j hj => typ_keep (h1.book.here i hi j hj) k3 (nE j (h1.book.here i hi j hj))
  · rw [hlen, List.map_append]
    refine owns_block hown (fun j hj => Below.heap_setCell _ _ _ _ ?_)
    show j ≠ bk
    rcases hmv j hj with e | e
    · rintro rfl; exact nb e
    · omega
  · intro j hj
    rcases hmv j hj with e | e
    · exact h.llow j e
    · omega
  · intro i hi
    by_cases h0 : i < D.length
    · rw [List.getElem_append_left h0]
      exact (h1.each i h0).keep k3 (nF _ (h1.each i h0)) nE
    · have : i = D.length := by rw [hlen] at hi; omega
      subst this
      rw [List.getElem_append_right (Nat.le_refl _)]
      simp only [Nat.sub_self, List.getElem_cons_zero]
      exact hd.keep k3 (nF _ hd) nE
  · intro i hi j
    by_cases h0 : i < D.length
    · rw [List.getElem_append_left h0]; exact h.low i h0 j
    · have : i = D.length := by rw [hlen] at hi; omega
      subst this
      rw [List.getElem_append_right (Nat.le_refl _)]
      simp only [Nat.sub_self, List.getElem_cons_zero]
      intro hj
      have := hnew j hj
      omega
  · intro i hi i' hi' hne j
    have hlt : ∀ a (ha : a < D.length), D[a].foot j → j < w.heap.size := fun a ha hj => (h.each a ha).lt j hj
    by_cases h0 : i < D.length
    · rw [List.getElem_append_left h0]
      by_cases h0' : i' < D.length
      · rw [List.getElem_append_left h0']; exact h1.apart i h0 i' h0' hne j
      · have : i' = D.length := by rw [hlen] at hi'; omega
        subst this
        rw [List.getElem_append_right (Nat.le_refl _)]
        simp only [Nat.sub_self, List.getElem_cons_zero]
        intro hj hj'
        have := hlt i h0 hj
        have := hnew j hj'
        omega
    · have : i = D.length := by rw [hlen] at hi; omega
      subst this
      have h0' : i' < D.length := by rw [hlen] at hi'; omega
      rw [List.getElem_append_right (Nat.le_refl _), List.getElem_append_left h0']
      simp only [Nat.sub_self, List.getElem_cons_zero]
      intro hj hj'
      have := hlt i' h0' hj'
      have := hnew j hj
      omega
  · refine k1.join k3 (fun _ _ e => e.elim) (fun j hj e => ?_)
    have up : ∀ T, typ w j T → typ w1 j T := fun T t => typ_keep t k1 (fun e => e)
    rcases e with e | e
    · exact ⟨h.llow j e, fun t => typ_ne (up _ t) (tl j e) (by decide) rfl, fun t => typ_ne (up _ t) (tl j e) (by decide) rfl⟩
    · exact ⟨by rw [e]; exact h.blow, fun t => typ_ne (up _ t) tb (by decide) e, fun t => typ_ne (up _ t) tb (by decide) e⟩
end
end Go.Proofs.YtgclehnhjjkdbaaGreatDoor
