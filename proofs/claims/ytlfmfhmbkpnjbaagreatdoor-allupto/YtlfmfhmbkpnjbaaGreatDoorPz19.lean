import Derived.Test.YtlfmfhmbkpnjbaaGreatDoorPz16
import Derived.Test.YtlfmfhmbkpnjbaaGreatDoorPz18
import Derived.Test.YtlfmfhmbkpnjbaaGreatDoorPz1
import Derived.Test.YtlfmfhmbkpnjbaaGreatDoorRows
import Derived.Test.YtlfmfhmbkpnjbaaGreatDoorPz14
import Derived.Test.YtlfmfhmbkpnjbaaGreatDoorPz17
import Derived.Deep.RegionLawGrows
import Derived.OwnWalk
namespace Go.Proofs.YtlfmfhmbkpnjbaaGreatDoor
open Go.RowKit

theorem worldB_int {t : Int} {L : List Mob} (h : worldB t L = true) : ∀ m ∈ L, IntM m := by
  intro m hm
  have hf := (worldB_fine h).2.2.mob m hm
  have h1 := idB_in hf.id
  have h2 : m.team = 0 ∨ m.team = 1 := by have := hf.team; simpa [teamB] using this
  have h3 := hf.low
  have h4 := hf.high
  exact ⟨by omega, by omega, by omega⟩

set_option maxHeartbeats 2000000 in
set_option maxRecDepth 100000 in
theorem record_err (rb : Nat) (ev t : Int) (p : Option Addr) (cap : Nat) (L : List Mob) (ad buf : Value) (s : List UInt8) (pc : Option Addr) (capc n : Nat) (er : Int) (w : World)
    (hrec : Rec w rb (.int .i64 ev) (.int .i64 t) (.slice p L.length cap) ad buf s) (her : (er != 0) = true)
    (hst : ∀ w', Kept (fun _ => False) w w' → Calls Tryz.prog 23 #[.agg #[.int .i64 t, .slice p L.length cap], .slice pc n capc] w' fun e w'' => e = .returned (.tuple #[.agg #[.int .i64 0, .slice none 0 0], .int .i64 er]) ∧ Kept (fun _ => False) w' w'') :
    Calls Tryz.prog 22 #[.pointer (some ⟨rb, 0, none⟩), .slice pc n capc] w fun e w' => e = .returned (.tuple #[.agg #[.int .i64 0, .slice none 0 0], .int .i64 er]) ∧ Kept (fun _ => False) w w' := by
  have HREC := hide hrec
  have hrbl := heap_lt hrec.blk
  have HS := hide hst
  clear hrec hst
  have K0 := hide (Kept.alloc w (.cells #[.int .i64 0, .slice none 0 0] 38))
  have HA := hide (heap_alloc_new w (.cells #[.int .i64 0, .slice none 0 0] 38))
  obtain ⟨d0, d1, d2, d3, d4, df⟩ := five_cells (HREC.out.calm K0.out).blk
  go_enter Tryz.func22, Tryz.ntmps22
  go_wp2_with fail
  generalize w.alloc (.cells #[.int .i64 0, .slice none 0 0] 38) = wa at *
  refine (HS.out wa K0.out).mono ?_
  rintro e w1 ⟨rfl, k1⟩
  have K1 := hide (K0.out.calm2 k1)
  have A1 : Hid (w1.heap[w.heap.size]? = some (.cells #[.int .i64 0, .slice none 0 0] 38 (0, 0))) := by show _ = _; rw [k1.block _ (heap_lt HA.out) (fun e => e)]; exact HA.out
  clear k1 d0 d1 d2 d3 d4 df
  obtain ⟨c0, c1, f0, f1⟩ := two_cells A1.out
  have hza := heap_lt A1.out
  have S1 := hide (two_sets A1.out (.int .i64 0) (.slice none 0 0))
  have S2 : Hid ((((w1.setCell ⟨w.heap.size, 0, none⟩ (.int .i64 0)).setCell ⟨w.heap.size, 1, none⟩ (.slice none 0 0)).alloc (.cells #[.int .i64 0, .slice none 0 0] 38)).heap[w.heap.size]? = some (.cells #[.int .i64 0, .slice none 0 0] 38 (0, 0))) := by
    show _ = _
    rw [(Kept.alloc ((w1.setCell ⟨w.heap.size, 0, none⟩ (.int .i64 0)).setCell ⟨w.heap.size, 1, none⟩ (.slice none 0 0)) (.cells #[.int .i64 0, .slice none 0 0] 38)).block _ (heap_lt S1.out) (fun e => e)]; exact S1.out
  obtain ⟨e0, e1, -, -⟩ := two_cells S2.out
  go_wp2
  refine bodyPost_ret (v := .tuple #[.agg #[.int .i64 0, .slice none 0 0], .int .i64 er]) (by simp [results, Tryz.results22, go_sem, e0, e1]) rfl ?_
  exact ⟨rfl, (two_kept K1.out (Nat.le_refl _) _ _).calm2 (Kept.alloc _ _)⟩

theorem newRec_err (ev : Int) (w : World) (he : ¬ (1 ≤ ev ∧ ev ≤ 64)) :
    Calls Tryz.prog 19 #[.int .i64 ev] w fun e w' => e = .returned (.tuple #[.pointer none, .int .i64 1]) ∧ w' = w := by
  by_cases h1 : ev < 1
  · go_enter Tryz.func19, Tryz.ntmps19
    go_wp2
    go_ret2
    exact ⟨rfl, rfl⟩
  · have h2 : (64 : Int) < ev := by omega
    go_enter Tryz.func19, Tryz.ntmps19
    go_wp2
    go_ret2
    exact ⟨rfl, rfl⟩
end Go.Proofs.YtlfmfhmbkpnjbaaGreatDoor

namespace Go.Proofs.YtlfmfhmbkpnjbaaGreatDoor
open Go.RowKit
/-- Which of m things a raw number speaks of. -/
def pickN_law (c : Int) (m : Nat) : Nat := ((if c < 0 then -(c + 1) else c).tmod m).toNat

theorem pickN_lt_law (c : Int) (m : Nat) (hm : 0 < m) : pickN_law c m < m := by
  have h0 : 0 ≤ (if c < 0 then -(c + 1) else c) := by split <;> omega
  have h1 := Int.tmod_lt_of_pos (if c < 0 then -(c + 1) else c) (show (0 : Int) < m by omega)
  have h2 := Int.tmod_nonneg (m : Int) h0
  unfold pickN_law
  omega

theorem pickN_cast_law (c : Int) (m : Nat) : ((pickN_law c m : Nat) : Int) = (if c < 0 then -(c + 1) else c).tmod m := by
  have h0 : 0 ≤ (if c < 0 then -(c + 1) else c) := by split <;> omega
  have h2 := Int.tmod_nonneg (m : Int) h0
  unfold pickN_law
  omega

set_option maxHeartbeats 400000 in
theorem pick_law (c M : Int) (m : Nat) (w : World) (h1 : -9223372036854775808 ≤ c) (h2 : c ≤ 9223372036854775807) (hM : M = m) (hm : 0 < m) (hm2 : m ≤ 1000000000) :
    Calls Tryz.prog 30 #[.int .i64 c, .int .i64 M] w fun e w' => e = .returned (.int .i64 (pickN_law c m)) ∧ w' = w := by
  subst hM
  have hp := hide (pickN_cast_law c m)
  have hm0 : ((m : Int) == 0) = false := by simp; omega
  by_cases hc : c < 0
  · go_enter Tryz.func30, Tryz.ntmps30
    go_wp2
    go_ret
    refine ⟨ret1 ?_, rfl⟩
    show Value.int .i64 (-((c + 1).tmod m)) = _
    rw [hp.out, if_pos hc, Int.neg_tmod]
  · go_enter Tryz.func30, Tryz.ntmps30
    go_wp2
    go_ret
    refine ⟨ret1 ?_, rfl⟩
    show Value.int .i64 (c % m) = _
    rw [hp.out, if_neg (by omega), Int.tmod_eq_emod_of_nonneg hc]
end Go.Proofs.YtlfmfhmbkpnjbaaGreatDoor

namespace Go.Proofs.YtlfmfhmbkpnjbaaGreatDoor
open Go.RowKit

/-- One of the matches that there are. -/
structure MD where
  mb : Nat
  rb : Nat
  wv : Value
  stv : Value
  ev : Int
  ad : Value
  buf : Value
  s : List UInt8
  now : Wd
  ws : List Wd
  ys : List Nat

def MD.foot (d : MD) (j : Nat) : Prop := j = d.mb ∨ j = d.rb ∨ d.buf.ownBlock = some j ∨ d.wv.ownBlock = some j ∨ d.stv.ownBlock = some j
def ptrM (d : MD) : Value := .pointer (some ⟨d.mb, 0, none⟩)
def rowN (ys : List Nat) : List Value := ys.map fun n : Nat => .int .i64 (n : Int)

structure MD.Ok (w : World) (d : MD) : Prop where
  blk : w.heap[d.mb]? = some (.cells #[.pointer (some ⟨d.rb, 0, none⟩), d.wv, d.stv, .string ⟨d.s.toArray⟩] 134 (0, 0))
  reco : Rec w d.rb (.int .i64 d.ev) (.int .i64 d.now.t) (.slice d.now.p d.now.L.length d.now.cap) d.ad d.buf d.s
  nowOk : d.now.Ok w
  worlds : w.ownsRow 0 38 2 d.wv d.ws.length (rowW d.ws)
  each : ∀ x ∈ d.ws, x.Ok w
  last : ∃ r x, d.ws = r ++ [x] ∧ x.t = d.now.t ∧ x.L = d.now.L
  stands : w.ownsRow 0 3 1 d.stv d.ys.length (rowN d.ys)
  len : (d.ws.length : Int) = d.now.t + 1
  ylen : d.ys.length = d.ws.length
  long : (d.s.length : Int) ≤ 15001 * d.now.t + 1000
  ne : d.s ≠ []
  every : 1 ≤ d.ev ∧ d.ev ≤ 64

theorem MD.Ok.keep {w w' : World} {S : Nat → Prop} {d : MD} (h : d.Ok w) (k : Kept S w w') (h1 : ∀ j, d.foot j → ¬ S j) (h2 : ∀ j, typ w j 83 → ¬ S j) : d.Ok w' where
  blk := by rw [k.block _ (heap_lt h.blk) (h1 _ (Or.inl rfl))]; exact h.blk
  reco := h.reco.keep k (h1 _ (Or.inr (Or.inl rfl))) (fun j hj => h1 j (Or.inr (Or.inr (Or.inl hj))))
  nowOk := h.nowOk.keep k h2
  worlds := owns_block h.worlds (fun j hj => k.block j (owns_lt h.worlds j hj) (h1 j (Or.inr (Or.inr (Or.inr (Or.inl hj))))))
  each := fun x hx => (h.each x hx).keep k h2
  last := h.last
  stands := owns_block h.stands (fun j hj => k.block j (owns_lt h.stands j hj) (h1 j (Or.inr (Or.inr (Or.inr (Or.inr hj))))))
  len := h.len
  ylen := h.ylen
  long := h.long
  ne := h.ne
  every := h.every
theorem MD.Ok.calm {w w' : World} {d : MD} (h : d.Ok w) (k : Kept (fun _ => False) w w') : d.Ok w' := h.keep k (fun _ _ e => e) (fun _ _ e => e)
theorem MD.Ok.not_typ {w : World} {d : MD} (h : d.Ok w) (j : Nat) (hj : d.foot j) (t : TypeId) (ht : typ w j t) (h0 : t ≠ 134) (h1 : t ≠ 98) (h2 : t ≠ 5) (h3 : t ≠ 38) (h4 : t ≠ 3) : False := by
  rcases hj with rfl | rfl | hj | hj | hj
  · exact typ_ne ht (typ_blk h.blk) h0 rfl
  · exact typ_ne ht (typ_blk h.reco.blk) h1 rfl
  · exact typ_ne ht (typ_ownF h.reco.own j hj) h2 rfl
  · exact typ_ne ht (typ_own h.worlds j hj) h3 rfl
  · exact typ_ne ht (typ_own h.stands j hj) h4 rfl
theorem MD.Ok.lt {w : World} {d : MD} (h : d.Ok w) (j : Nat) (hj : d.foot j) : j < w.heap.size := by
  rcases hj with rfl | rfl | hj | hj | hj
  · exact heap_lt h.blk
  · exact heap_lt h.reco.blk
  · exact (h.reco.own.lt j hj).2
  · exact owns_lt h.worlds j hj
  · exact owns_lt h.stands j hj

/-- All that there is in the loop. -/
structure MInv (B : Nat) (w : World) (bk : Nat) (mv sv : Value) (ms : Int) (ev : Value) (Q : List Els) (D : List MD) : Prop where
  book : BookF w bk mv sv ms ev Q
  blow : B ≤ bk
  elow : ∀ j, ev.ownBlock = some j → B ≤ j
  list : w.ownsRow 0 85 1 mv D.length (D.map ptrM)
  llow : ∀ j, mv.ownBlock = some j → B ≤ j
  each : ∀ i (h : i < D.length), D[i].Ok w
  low : ∀ i (h : i < D.length) j, D[i].foot j → B ≤ j
  apart : ∀ i (h : i < D.length) i' (h' : i' < D.length), i ≠ i' → ∀ j, D[i].foot j → ¬ D[i'].foot j

theorem BookF.keep {w w' : World} {S : Nat → Prop} {bk : Nat} {mv sv : Value} {ms : Int} {ev : Value} {Q : List Els} (h : BookF w bk mv sv ms ev Q) (k : Kept S w w') (h1 : ¬ S bk) (h2 : ∀ j, ev.ownBlock = some j → ¬ S j) (h3 : ∀ j, typ w j 83 → ¬ S j) : BookF w' bk mv sv ms ev Q :=
  ⟨by rw [k.block _ (heap_lt h.blk) h1]; exact h.blk, owns_block h.own (fun j hj => k.block j (owns_lt h.own j hj) (h2 j hj)), fun i hi => (h.rows i hi).keep k (fun b off e => h3 b (h.here i hi b ⟨off, e⟩)), fun i hi j hj => typ_keep (h.here i hi j hj) k (h3 j (h.here i hi j hj)), h.short, h.four⟩
theorem BookF.still {w w' : World} {bk : Nat} {mv sv : Value} {ms : Int} {ev : Value} {Q : List Els} (h : BookF w bk mv sv ms ev Q) (k : Kept (fun _ => False) w w') : BookF w' bk mv sv ms ev Q := h.keep k (fun e => e) (fun _ _ e => e) (fun _ _ e => e)

/-- What a step may write to. -/
def Far (w : World) (B j : Nat) : Prop := B ≤ j ∧ ¬ typ w j 54 ∧ ¬ typ w j 57
theorem Far.join {w w' w'' : World} {B : Nat} (k : Kept (Far w B) w w') (k' : Kept (Far w' B) w' w'') : Kept (Far w B) w w'' :=
  k.join k' (fun _ _ e => e) (fun _ _ e => ⟨e.1, fun t => e.2.1 (typ_keep t k (fun f => f.2.1 t)), fun t => e.2.2 (typ_keep t k (fun f => f.2.2 t))⟩)

section
variable {B : Nat} {w w' : World} {bk : Nat} {mv sv : Value} {ms : Int} {ev : Value} {Q : List Els} {D : List MD}

theorem MInv.calm (h : MInv B w bk mv sv ms ev Q D) (k : Kept (fun _ => False) w w') : MInv B w' bk mv sv ms ev Q D where
  book := h.book.still k
  blow := h.blow
  elow := h.elow
  list := owns_block h.list (fun j hj => k.block j (owns_lt h.list j hj) (fun e => e))
  llow := h.llow
  each := fun i hi => (h.each i hi).calm k
  low := h.low
  apart := h.apart

/-- Behind a step on the q-th. -/
theorem MInv.turn {d' : MD} {ev' : Value} {Q' : List Els} (h : MInv B w bk mv sv ms ev Q D) (hB : B ≤ w.heap.size) (q : Nat) (hq : q < D.length) (hd : d'.Ok w') (hmb : d'.mb = D[q].mb) (hf : ∀ j, d'.foot j → D[q].foot j ∨ w.heap.size ≤ j)
    (k : Kept (fun j => D[q].foot j ∨ j = bk ∨ ev.ownBlock = some j) w w') (hb : BookF w' bk mv sv ms ev' Q') (he : ∀ j, ev'.ownBlock = some j → ev.ownBlock = some j ∨ w.heap.size ≤ j) :
    MInv B w' bk mv sv ms ev' Q' (D.set q d') ∧ Kept (Far w B) w w' := by
  have hget : ∀ i (hi : i < (D.set q d').length), (D.set q d')[i] = if q = i then d' else D[i]'(by simpa using hi) := fun i hi => List.getElem_set hi
  have tb : typ w bk 51 := typ_blk h.book.blk
  have te : ∀ j, ev.ownBlock = some j → typ w j 36 := fun j hj => typ_own h.book.own j hj
  have tl : ∀ j, mv.ownBlock = some j → typ w j 85 := fun j hj => typ_own h.list j hj
  have oq := h.each q hq
  refine ⟨⟨hb, h.blow, ?_, ?_, h.llow, ?_, ?_, ?_⟩, ?_⟩
  · intro j hj
    rcases he j hj with e | e
    · exact h.elow j e
    · omega
  · have e1 : (D.set q d').map ptrM = D.map ptrM := by
      rw [List.map_set]
      apply List.ext_getElem?
      intro i
      rw [List.getElem?_set]
      split
      · rename_i e
        subst e
        simp [hq, ptrM, hmb]
      · rfl
    rw [e1, List.length_set]
    refine owns_block h.list (fun j hj => k.block j (owns_lt h.list j hj) ?_)
    have ht := tl j hj
    intro e
    rcases e with e | e | e
    · exact oq.not_typ j e _ ht (by decide) (by decide) (by decide) (by decide) (by decide)
    · exact typ_ne ht tb (by decide) e
    · exact typ_ne ht (te j e) (by decide) rfl
  · intro i hi
    rw [hget i hi]
    split
    · exact hd
    · rename_i e
      have hi' : i < D.length := by simpa using hi
      have o := h.each i hi'
      refine o.keep k (fun j hj e2 => ?_) (fun j hj e2 => ?_)
      · rcases e2 with e2 | e2 | e2
        · exact h.apart q hq i hi' e j e2 hj
        · exact o.not_typ j hj _ (by rw [e2]; exact tb) (by decide) (by decide) (by decide) (by decide) (by decide)
        · exact o.not_typ j hj _ (te j e2) (by decide) (by decide) (by decide) (by decide) (by decide)
      · rcases e2 with e2 | e2 | e2
        · exact oq.not_typ j e2 _ hj (by decide) (by decide) (by decide) (by decide) (by decide)
        · exact typ_ne hj tb (by decide) e2
        · exact typ_ne hj (te j e2) (by decide) rfl
  · intro i hi j
    rw [hget i hi]
    split
    · intro hj
      rcases hf j hj with e | e
      · exact h.low q hq j e
      · omega
    · exact h.low i (by simpa using hi) j
  · intro i hi i' hi' hne j
    rw [hget i hi, hget i' hi']
    have hi2 : i < D.length := by simpa using hi
    have hi2' : i' < D.length := by simpa using hi'
    by_cases e1 : q = i
    · subst e1
      rw [if_pos rfl, if_neg hne]
      intro hj hj'
      rcases hf j hj with q1 | q1
      · exact h.apart q hi2 i' hi2' hne j q1 hj'
      · have := (h.each i' hi2').lt j hj'; omega
    · rw [if_neg e1]
      by_cases e2 : q = i'
      · subst e2
        rw [if_pos rfl]
        intro hj hj'
        rcases hf j hj' with q1 | q1
        · exact h.apart i hi2 q hi2' hne j hj q1
        · have := (h.each i hi2).lt j hj; omega
      · rw [if_neg e2]
        exact h.apart i hi2 i' hi2' hne j
  · refine k.mono (fun j _ e => ?_)
    rcases e with e | e | e
    · exact ⟨h.low q hq j e, fun t => oq.not_typ j e _ t (by decide) (by decide) (by decide) (by decide) (by decide), fun t => oq.not_typ j e _ t (by decide) (by decide) (by decide) (by decide) (by decide)⟩
    · exact ⟨by rw [e]; exact h.blow, fun t => typ_ne t tb (by decide) e, fun t => typ_ne t tb (by decide) e⟩
    · exact ⟨h.elow j e, fun t => typ_ne t (te j e) (by decide) rfl, fun t => typ_ne t (te j e) (by decide) rfl⟩

/-- One more: it has been made, and appended to the list. -/
theorem MInv.more {w1 w2 : World} {d : MD} {mv' : Value} (h : MInv B w bk mv sv ms ev Q D) (hB : B ≤ w.heap.size) (k1 : Kept (fun _ => False) w w1) (hd : d.Ok w1) (hnew : ∀ j, d.foot j → w.heap.size ≤ j)
    (k2 : Kept (fun j => mv.ownBlock = some j) w1 w2) (hown : w2.ownsRow 0 85 1 mv' (D.length + 1) (D.map ptrM ++ [ptrM d])) (hmv : ∀ j, mv'.ownBlock = some j → mv.ownBlock = some j ∨ w1.heap.size ≤ j) :
    w2.heap[bk]? = some (.cells #[mv, sv, ev, .slice none 0 0, .int .i64 ms] 51 (0, 0)) ∧
    MInv B (w2.setCell ⟨bk, 0, none⟩ mv') bk mv' sv ms ev Q (D ++ [d]) ∧ Kept (Far w B) w (w2.setCell ⟨bk, 0, none⟩ mv') ∧ Kept (fun j => mv.ownBlock = some j ∨ j = bk) w (w2.setCell ⟨bk, 0, none⟩ mv') := by
  have h1 := h.calm k1
  have tb : typ w1 bk 51 := typ_blk h1.book.blk
  have te : ∀ j, ev.ownBlock = some j → typ w1 j 36 := fun j hj => typ_own h1.book.own j hj
  have tl : ∀ j, mv.ownBlock = some j → typ w1 j 85 := fun j hj => typ_own h1.list j hj
  have hs1 := k1.size
  have hs2 := k2.size
  have hbk1 : bk < w1.heap.size := typ_lt tb
  have nb : ¬ mv.ownBlock = some bk := fun e => typ_ne (tl bk e) tb (by decide) rfl
  have hb2 : w2.heap[bk]? = some (.cells #[mv, sv, ev, .slice none 0 0, .int .i64 ms] 51 (0, 0)) := by rw [k2.block bk hbk1 nb]; exact h1.book.blk
  have k3 : Kept (fun j => mv.ownBlock = some j ∨ j = bk) w1 (w2.setCell ⟨bk, 0, none⟩ mv') := k2.join (Kept.setCell w2 _ _) (fun _ _ e => Or.inl e) (fun _ _ e => Or.inr e)
  have nE : ∀ j, typ w1 j 83 → ¬ (mv.ownBlock = some j ∨ j = bk) := by
    rintro j hj (e | e)
    · exact typ_ne hj (tl j e) (by decide) rfl
    · exact typ_ne hj tb (by decide) e
  have nF : ∀ d : MD, d.Ok w1 → ∀ j, d.foot j → ¬ (mv.ownBlock = some j ∨ j = bk) := by
    rintro d hd j hj (e | e)
    · exact hd.not_typ j hj _ (tl j e) (by decide) (by decide) (by decide) (by decide) (by decide)
    · exact hd.not_typ j hj _ (by rw [e]; exact tb) (by decide) (by decide) (by decide) (by decide) (by decide)
  have hlen : (D ++ [d]).length = D.length + 1 := by simp
  refine ⟨hb2, ⟨⟨?_, ?_, ?_, ?_, h.book.short, h.book.four⟩, h.blow, h.elow, ?_, ?_, ?_, ?_, ?_⟩, ?_, k1.join k3 (fun _ _ e => e.elim) (fun _ _ e => e)⟩
  · have := row_set hb2 0 mv'
    simpa using this
  · exact owns_block h1.book.own (fun j hj => k3.block j (owns_lt h1.book.own j hj) (fun e => by
      rcases e with e | e
      · exact typ_ne (te j hj) (tl j e) (by decide) rfl
      · exact typ_ne (te j hj) tb (by decide) e))
  · exact fun i hi => (h1.book.rows i hi).keep k3 (fun b off e => nE b (h1.book.here i hi b ⟨off, e⟩))
  · exact fun i hi j hj => typ_keep (h1.book.here i hi j hj) k3 (nE j (h1.book.here i hi j hj))
  · rw [hlen, List.map_append]
    refine owns_block hown (fun j hj => Below.heap_setCell _ _ _ _ ?_)
    show j ≠ bk
    rcases hmv j hj with e | e
    · rintro rfl; exact nb e
    · omega
  · intro j hj
    rcases hmv j hj with e | e
    · exact h.llow j e
    · omega
  · intro i hi
    by_cases h0 : i < D.length
    · rw [List.getElem_append_left h0]
      exact (h1.each i h0).keep k3 (nF _ (h1.each i h0)) nE
    · have : i = D.length := by rw [hlen] at hi; omega
      subst this
      rw [List.getElem_append_right (Nat.le_refl _)]
      simp only [Nat.sub_self, List.getElem_cons_zero]
      exact hd.keep k3 (nF _ hd) nE
  · intro i hi j
    by_cases h0 : i < D.length
    · rw [List.getElem_append_left h0]; exact h.low i h0 j
    · have : i = D.length := by rw [hlen] at hi; omega
      subst this
      rw [List.getElem_append_right (Nat.le_refl _)]
      simp only [Nat.sub_self, List.getElem_cons_zero]
      intro hj
      have := hnew j hj
      omega
  · intro i hi i' hi' hne j
    have hlt : ∀ a (ha : a < D.length), D[a].foot j → j < w.heap.size := fun a ha hj => (h.each a ha).lt j hj
    by_cases h0 : i < D.length
    · rw [List.getElem_append_left h0]
      by_cases h0' : i' < D.length
      · rw [List.getElem_append_left h0']; exact h1.apart i h0 i' h0' hne j
      · have : i' = D.length := by rw [hlen] at hi'; omega
        subst this
        rw [List.getElem_append_right (Nat.le_refl _)]
        simp only [Nat.sub_self, List.getElem_cons_zero]
        intro hj hj'
        have := hlt i h0 hj
        have := hnew j hj'
        omega
    · have : i = D.length := by rw [hlen] at hi; omega
      subst this
      have h0' : i' < D.length := by rw [hlen] at hi'; omega
      rw [List.getElem_append_right (Nat.le_refl _), List.getElem_append_left h0']
      simp only [Nat.sub_self, List.getElem_cons_zero]
      intro hj hj'
      have := hlt i' h0' hj'
      have := hnew j hj
      omega
  · refine k1.join k3 (fun _ _ e => e.elim) (fun j hj e => ?_)
    have up : ∀ T, typ w j T → typ w1 j T := fun T t => typ_keep t k1 (fun e => e)
    rcases e with e | e
    · exact ⟨h.llow j e, fun t => typ_ne (up _ t) (tl j e) (by decide) rfl, fun t => typ_ne (up _ t) (tl j e) (by decide) rfl⟩
    · exact ⟨by rw [e]; exact h.blow, fun t => typ_ne (up _ t) tb (by decide) e, fun t => typ_ne (up _ t) tb (by decide) e⟩
end
end Go.Proofs.YtlfmfhmbkpnjbaaGreatDoor

namespace Go.Proofs.YtlfmfhmbkpnjbaaGreatDoor
open Go.RowKit

/-- What 'Record' leaves, whatever it answers. -/
structure RecPost (w w' : World) (rb : Nat) (ev : Int) (now : Wd) (buf : Value) (s : List UInt8) (cs : List Cmd) (S : Sn) (q : Option Addr) (cq : Nat) (now' : Wd) (ad' buf' : Value) (s' : List UInt8) : Prop where
  raw : Raw w' q S.X.length cq
  reads : Reads w' q S.X
  fresh : ∀ j, HB q j → w.heap.size ≤ j
  reco : Rec w' rb (.int .i64 ev) (.int .i64 now'.t) (.slice now'.p now'.L.length now'.cap) ad' buf' s'
  nowOk : now'.Ok w'
  apart : ∀ j, HB q j → ¬ HB now'.p j
  nbuf : ∀ j, buf'.ownBlock = some j → buf.ownBlock = some j ∨ w.heap.size ≤ j
  kept : Kept (fun j => j = rb ∨ buf.ownBlock = some j) w w'
  good : S.e = 0 → now'.t = now.t + 1 ∧ now'.t = S.t ∧ now'.L = S.X ∧ s' = s ++ lineL (tickW cs S.t S.X ev) ∧ (lineL (tickW cs S.t S.X ev)).length ≤ 15001
  bad : S.e ≠ 0 → now' = now ∧ s' = s

theorem line_ne (l : List ByteArray) : lineL l ≠ [] := by unfold lineL; simp

theorem record_any (B rb : Nat) (ev : Int) (now : Wd) (ad buf : Value) (s : List UInt8) (pc : Option Addr) (capc : Nat) (cs : List Cmd) (w : World)
    (hB4 : 6 < B) (hB2 : 4 < B) (hBr : B ≤ rb) (hBb : ∀ j, buf.ownBlock = some j → B ≤ j)
    (hrec : Rec w rb (.int .i64 ev) (.int .i64 now.t) (.slice now.p now.L.length now.cap) ad buf s) (hn : now.Ok w) (hC : ReadsC w pc cs) (hT : Tabs w) (he : 1 ≤ ev ∧ ev ≤ 64) (hIC : ∀ c ∈ cs, IntC c) (hs : s.length ≤ 100000000000000)
    (hCne : ∀ b off, pc = some ⟨b, off, none⟩ → b ≠ rb ∧ buf.ownBlock ≠ some b) :
    Calls Tryz.prog 22 #[.pointer (some ⟨rb, 0, none⟩), .slice pc cs.length capc] w fun e w' => ∃ q cq now' ad' buf' s', e = .returned (.tuple #[.agg #[.int .i64 (stepR now.t now.L cs).t, .slice q (stepR now.t now.L cs).X.length cq], .int .i64 (stepR now.t now.L cs).e]) ∧
      RecPost w w' rb ev now buf s cs (stepR now.t now.L cs) q cq now' ad' buf' s' := by
  have hsh := hn.short
  have hbad : ∀ (er : Int), er ≠ 0 → (∀ w', Kept (fun _ => False) w w' → Calls Tryz.prog 23 #[.agg #[.int .i64 now.t, .slice now.p now.L.length now.cap], .slice pc cs.length capc] w' fun e w'' => e = .returned (.tuple #[.agg #[.int .i64 0, .slice none 0 0], .int .i64 er]) ∧ Kept (fun _ => False) w' w'') →
      Calls Tryz.prog 22 #[.pointer (some ⟨rb, 0, none⟩), .slice pc cs.length capc] w fun e w' => ∃ q cq now' ad' buf' s', e = .returned (.tuple #[.agg #[.int .i64 0, .slice q 0 cq], .int .i64 er]) ∧ RecPost w w' rb ev now buf s cs ⟨0, [], er⟩ q cq now' ad' buf' s' := by
    intro er h0 hst
    refine (record_err rb ev now.t now.p now.cap now.L ad buf s pc capc cs.length er w hrec (by simp [h0]) hst).mono ?_
    rintro e w' ⟨rfl, k⟩
    refine ⟨none, 0, now, ad, buf, s, rfl, Or.inl ⟨rfl, rfl, rfl⟩, fun h => absurd rfl h, fun j hj => ?_, hrec.calm k, hn.keep k (fun _ _ e => e), fun j hj => ?_, fun j hj => Or.inl hj, k.mono (fun _ _ e => e.elim), fun h => absurd h h0, fun _ => ⟨rfl, rfl⟩⟩
    · obtain ⟨_, e⟩ := hj; cases e
    · obtain ⟨_, e⟩ := hj; cases e
  by_cases ht : now.t = 500
  · have hS : stepR now.t now.L cs = ⟨0, [], 2⟩ := by unfold stepR; rw [if_neg (by rw [hn.good]; decide), if_pos ht]
    rw [hS]
    refine hbad 2 (by decide) (fun w' k => ?_)
    rw [ht]
    exact step_last now.p pc now.cap cs.length capc now.L w' (by omega) (hn.reads.calm k) (by rw [← ht]; exact hn.good)
  · by_cases hl : 64 < cs.length
    · have hS : stepR now.t now.L cs = ⟨0, [], 1⟩ := by unfold stepR; rw [if_neg (by rw [hn.good]; decide), if_neg ht, if_pos hl]
      rw [hS]
      exact hbad 1 (by decide) (fun w' k => step_many now.t now.p pc now.cap cs.length capc now.L w' (by omega) (hn.reads.calm k) hn.good ht hl)
    · have hS : stepR now.t now.L cs = ⟨now.t + 1, stepL cs now.L, 0⟩ := by unfold stepR; rw [if_neg (by rw [hn.good]; decide), if_neg ht, if_neg hl]
      rw [hS]
      have hnx := worldB_next cs hn.good ht
      have hIM := worldB_int hnx
      refine (record_ok B rb ev now.t now.p now.cap now.L ad buf s pc capc cs w hB4 hB2 hBr hBb hrec hn.reads hn.nil hC hT hn.good ht (by omega) he hIC hIM hs hCne).mono ?_
      rintro e w' ⟨q, cq, gN, buf', rfl, f, r, rd, tg, hg, hq, nb, k⟩
      have hsh2 := (worldB_fine hnx).2.2.short
      refine ⟨q, cq, ⟨now.t + 1, some ⟨gN, 0, none⟩, 32, stepL cs now.L⟩, _, buf', _, rfl, f.raw, f.reads, fun j hj => ?_, r, ⟨rd, (fun e => by cases e), (fun b off e => by cases e; exact tg), hnx⟩, fun j hj hj' => ?_, nb, k, fun _ => ⟨rfl, rfl, rfl, rfl, tick_short cs (now.t + 1) (stepL cs now.L) ev (by omega) hsh2 hIC hIM⟩, fun h => absurd rfl h⟩
      · obtain ⟨off, e⟩ := hj; exact (f.new j off e).1
      · obtain ⟨off, e⟩ := hj
        obtain ⟨off', e'⟩ := hj'
        have h1 := hq j off e
        cases e'
        omega
end Go.Proofs.YtlfmfhmbkpnjbaaGreatDoor

namespace Go.Proofs.YtlfmfhmbkpnjbaaGreatDoor
open Go.RowKit

/-- append, as a step of a region that draws its order: where the new row lies. -/
theorem step_append_mine {P : Program} {ops : Array Oper} {o : Oper} {a : Act} {w : World} {K : Act → World → Prop} {Q : Exit → Act → World → Prop} {E : Prop} (hgd : o.guard = none) (s x : Operand) (t : TypeId)
    (ho : o.op = .call { callee := .builtin .append, args := #[s, x], argTypes := #[t, t] })
    (e : TypeId) (i : TypeInfo) (z : Value) (size bytes : Nat) (ht : P.underlying t = some (.slice e)) (hi : P.info? e = some i) (hz : i.zero = some z)
    (hsize : i.size = size) (hby : i.bytes = bytes) (hzs : z.cells.size = size) (hsz : 0 < size)
    (v : Value) (n : Nat) (xs : List Value) (hs : a.eval s = v) (hown : w.ownsRow 0 e size v n xs)
    (ad : Addr) (m c : Nat) (news : List Value) (hx : a.eval x = .slice (some ad) m c) (hl : news.length = m * size) (hnews : ∀ j u, news[j]? = some u → w.cell? (ad.add j) = some u) (h1 : ∀ u ∈ news, u.oneCell' = true)
    (hm : 0 < m) (h63 : n + m ≤ maxLen) (hbytes : (n + m) * bytes ≤ 140737488355328)
    (h : ∀ g cap' w', Hid (w'.ownsRow 0 e size (.slice (some ⟨g, 0, none⟩) (n + m) cap') (n + m) (xs ++ news)) → Hid (w.grownBy w' v.ownBlock) → Hid (v.ownBlock = some g ∨ w.heap.size ≤ g) → Hid (∀ b, v.ownBlock = some b → typ w' b e ∧ ∀ j u, xs[j]? = some u → w'.cell? ⟨b, j, none⟩ = some u) → K (a.put o.dst (.slice (some ⟨g, 0, none⟩) (n + m) cap')) w') :
    if Region.wanted o (yielded ops a.tmps) = true then Oper.wp P o a w K Q else E := by
  have hown' := hown
  have fin : ∀ v' w', w'.ownsRow w.heap.size e size v' (n + m) (xs ++ news) → w.grownBy w' none → K (a.put o.dst v') w' := by
    intro v' w' ho' hg'
    rcases ho'.2 with ⟨_, h0⟩ | ⟨g, cap', cur, rfl, hbg, _⟩
    · omega
    · refine h g cap' w' (owns_base ho') (grown_some hg' _) (Or.inr hbg) (fun b hb => ⟨typ_keep (typ_own hown' b hb) (Kept.of_grown hg') (fun e => by cases e), fun j u hu => ?_⟩)
      rw [cell_keep (Kept.of_grown hg') (owns_lt hown' b hb) (fun e => by cases e)]
      rcases hown'.2 with ⟨rfl, _⟩ | ⟨g0, cp0, _, rfl, _⟩
      · cases hb
      · simp only [Value.ownBlock, Option.some.injEq] at hb
        subst hb
        exact row_cell hown' j u hu
  obtain ⟨hlen, h2⟩ := hown
  rcases h2 with ⟨rfl, h0⟩ | ⟨g, cap, cur, rfl, _, hh, hnc, hcm, hcs, htk⟩
  · subst h0
    obtain rfl : xs = [] := List.eq_nil_of_length_eq_zero (by simpa using hlen)
    exact step_append_grows hgd s x t ho e i z size bytes ht hi hz hsize hby hzs hsz none 0 0 [] hs (fun _ => ⟨rfl, rfl⟩) (by simp) (by intro b hb; cases hb) ad m c news hx hl hnews h1 (by omega) h63 hbytes fin
  · by_cases hroom : n + m ≤ cap
    · have hw : Region.wanted o (yielded ops a.tmps) = true := by simp [Region.wanted, hgd]
      rw [if_pos hw]
      obtain ⟨w', hrun, r1, r2⟩ := run_append_fits (P := P) w 0 t o.type e i size ht hi hsize g n cap xs hown' ad m c news hl hnews h1 hroom
      unfold Oper.wp
      simp [execOp, ho, resolve, invoke, builtin, hs, hx, hrun, Result.andThen]
      refine h g cap w' r1 r2 (Or.inl rfl) (fun b hb => ⟨typ_own r1 b hb, fun j u hu => ?_⟩)
      simp only [Value.ownBlock, Option.some.injEq] at hb
      subst hb
      exact row_cell r1 j u (by rw [List.getElem?_append_left (List.getElem?_eq_some_iff.1 hu).1]; exact hu)
    · exact step_append_grows hgd s x t ho e i z size bytes ht hi hz hsize hby hzs hsz (some ⟨g, 0, none⟩) n cap xs hs (by intro hb; cases hb) hlen
        (by intro b hb j u hu; cases hb; exact hown'.cells (g := g) rfl j u hu) ad m c news hx hl hnews h1 (by omega) h63 hbytes fin

/-- A row of worlds that was left behind. -/
def OldRow (w : World) (g : Nat) (L : List Wd) : Prop := typ w g 38 ∧ ∀ j u, (rowW L)[j]? = some u → w.cell? ⟨g, j, none⟩ = some u
theorem OldRow.keep {w w' : World} {S : Nat → Prop} {g : Nat} {L : List Wd} (h : OldRow w g L) (k : Kept S w w') (hS : ¬ S g) : OldRow w' g L :=
  ⟨typ_keep h.1 k hS, fun j u hu => by rw [cell_keep k (typ_lt h.1) hS]; exact h.2 j u hu⟩
theorem cell_set_far (w : World) {c : Nat} (o : Nat) (u : Value) {g j : Nat} (h : ¬ c = g) : (w.setCell ⟨c, o, none⟩ u).cell? ⟨g, j, none⟩ = w.cell? ⟨g, j, none⟩ := by
  have := Below.heap_setCell w ⟨c, o, none⟩ u g (fun e => h e.symm)
  unfold World.cell?
  simp only [this]

theorem match_cells {w : World} {c : Nat} {a b d e : Value} {T : TypeId} (h : w.heap[c]? = some (.cells #[a, b, d, e] T (0, 0))) : w.cell? ⟨c, 0, none⟩ = some a ∧ w.cell? ⟨c, 1, none⟩ = some b ∧ w.cell? ⟨c, 2, none⟩ = some d ∧ w.cell? ⟨c, 3, none⟩ = some e ∧ ∀ j, w.frozen? ⟨c, j, none⟩ = false := by
  refine ⟨?_, ?_, ?_, ?_, fun j => by simp [World.frozen?, h]⟩ <;> rw [cell_block h] <;> rfl

section
variable {w0 w w' w'' : World} {rb : Nat} {ev : Int} {now now' : Wd} {buf ad' buf' : Value} {s s' : List UInt8} {cs : List Cmd} {S : Sn} {q : Option Addr} {cq : Nat}
theorem RecPost.keep {X : Nat → Prop} (h : RecPost w w' rb ev now buf s cs S q cq now' ad' buf' s') (k : Kept X w' w'') (hX : ∀ j, X j → w.heap.size ≤ j ∧ typ w' j 38) : RecPost w w'' rb ev now buf s cs S q cq now' ad' buf' s' where
  raw := h.raw.keep k (fun j hj e => typ_ne (h.raw.typ j hj) (hX j e).2 (by decide) rfl)
  reads := h.reads.keep k (fun b off hb e => typ_ne (h.raw.typ b ⟨off, hb⟩) (hX b e).2 (by decide) rfl)
  fresh := h.fresh
  reco := h.reco.keep k (fun e => typ_ne (typ_blk h.reco.blk) (hX rb e).2 (by decide) rfl) (fun j hj e => typ_ne (typ_ownF h.reco.own j hj) (hX j e).2 (by decide) rfl)
  nowOk := h.nowOk.keep k (fun j hj e => typ_ne hj (hX j e).2 (by decide) rfl)
  apart := h.apart
  nbuf := h.nbuf
  kept := h.kept.join k (fun _ _ e => e) (fun j hj e => by have := (hX j e).1; omega)
  good := h.good
  bad := h.bad
theorem RecPost.calm (h : RecPost w w' rb ev now buf s cs S q cq now' ad' buf' s') (k : Kept (fun _ => False) w' w'') : RecPost w w'' rb ev now buf s cs S q cq now' ad' buf' s' := h.keep k (fun _ e => e.elim)
theorem RecPost.pre (h : RecPost w w' rb ev now buf s cs S q cq now' ad' buf' s') (k : Kept (fun _ => False) w0 w) : RecPost w0 w' rb ev now buf s cs S q cq now' ad' buf' s' :=
  { h with
    fresh := fun j hj => Nat.le_trans k.size (h.fresh j hj)
    nbuf := fun j hj => (h.nbuf j hj).imp (fun e => e) (fun e => Nat.le_trans k.size e)
    kept := k.join h.kept (fun _ _ e => e.elim) (fun _ _ e => e) }

/-- The answer, laid into a struct of the caller's. -/
theorem rec_new (k : Kept (fun _ => False) w0 w) (h : RecPost w w' rb ev now buf s cs S q cq now' ad' buf' s') (u v : Value) :
    RecPost w0 (w'.alloc (.cells #[u, v] 38)) rb ev now buf s cs S q cq now' ad' buf' s' ∧ (w'.alloc (.cells #[u, v] 38)).heap[w'.heap.size]? = some (.cells #[u, v] 38 (0, 0)) ∧ w0.heap.size ≤ w'.heap.size :=
  ⟨(h.pre k).calm (Kept.alloc _ _), heap_alloc_new _ _, Nat.le_trans k.size h.kept.size⟩
theorem rec_set {b8 : Nat} (k : Kept (fun _ => False) w0 w) (h : RecPost w w' rb ev now buf s cs S q cq now' ad' buf' s') (hb : w0.heap.size ≤ b8) (hT : w'.heap[b8]? = some (.cells #[.int .i64 0, .slice none 0 0] 38 (0, 0))) (u v : Value) :
    RecPost w0 ((w'.setCell ⟨b8, 0, none⟩ u).setCell ⟨b8, 1, none⟩ v) rb ev now buf s cs S q cq now' ad' buf' s' ∧ ((w'.setCell ⟨b8, 0, none⟩ u).setCell ⟨b8, 1, none⟩ v).heap[b8]? = some (.cells #[u, v] 38 (0, 0)) ∧ w0.heap.size ≤ b8 :=
  ⟨(h.pre k).keep (sets_kept w' b8 u v) (fun j e => ⟨by omega, by rw [e]; exact typ_blk hT⟩), two_sets hT u v, hb⟩
end
end Go.Proofs.YtlfmfhmbkpnjbaaGreatDoor
