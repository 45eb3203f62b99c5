import Derived.Test.YtlfmfhmbkpnjbaaGreatDoorPz21
import Derived.Test.YtlfmfhmbkpnjbaaGreatDoorPz25
import Derived.Test.YtlfmfhmbkpnjbaaGreatDoorPz36
namespace Go.Proofs.YtlfmfhmbkpnjbaaGreatDoor
open Go.RowKit

/-- A match, and what was done with it. -/
structure Hist (d : MD) (css : List (List Cmd)) : Prop where
  s : d.s = fileAt d.ev css css.length
  len : d.ws.length = css.length + 1
  mob : ∀ j (h : j < d.ws.length), d.ws[j].t = (j : Int) ∧ d.ws[j].L = mobsAt css j
  st : ∀ j (h : j < d.ys.length), d.ys[j] = (fileAt d.ev css j).length
  ok : CsOk css

theorem getD_app (css : List (List Cmd)) (cs : List Cmd) (j : Nat) (h : j < css.length) : (css ++ [cs]).getD j [] = css.getD j [] := by
  simp [List.getD, List.getElem?_append_left h]
theorem getD_last (css : List (List Cmd)) (cs : List Cmd) : (css ++ [cs]).getD css.length [] = cs := by simp [List.getD]
theorem mobsAt_app (css : List (List Cmd)) (cs : List Cmd) (j : Nat) (h : j ≤ css.length) : mobsAt (css ++ [cs]) j = mobsAt css j := by
  induction j with
  | zero => rfl
  | succ n ih =>
    show stepL ((css ++ [cs]).getD n []) (mobsAt (css ++ [cs]) n) = stepL (css.getD n []) (mobsAt css n)
    rw [ih (by omega), getD_app css cs n (by omega)]
theorem fileAt_app (ev : Int) (css : List (List Cmd)) (cs : List Cmd) (j : Nat) (h : j ≤ css.length) : fileAt ev (css ++ [cs]) j = fileAt ev css j := by
  induction j with
  | zero => rfl
  | succ n ih =>
    show fileAt ev (css ++ [cs]) n ++ lineL (tickW ((css ++ [cs]).getD n []) ((n : Int) + 1) (mobsAt (css ++ [cs]) (n + 1)) ev) = fileAt ev css n ++ lineL (tickW (css.getD n []) ((n : Int) + 1) (mobsAt css (n + 1)) ev)
    rw [ih (by omega), getD_app css cs n (by omega), mobsAt_app css cs (n + 1) h]
theorem CsOk.app {css : List (List Cmd)} {cs : List Cmd} (h : CsOk css) (h1 : cs.length ≤ 64) (h2 : ∀ c ∈ cs, IntC c) (h3 : ∀ c ∈ cs, F32C c) : CsOk (css ++ [cs]) := by
  have key : ∀ j, (css ++ [cs]).getD j [] = css.getD j [] ∨ (css ++ [cs]).getD j [] = cs ∨ (css ++ [cs]).getD j [] = [] := by
    intro j
    by_cases h0 : j < css.length
    · exact Or.inl (getD_app css cs j h0)
    · by_cases h1 : j = css.length
      · subst h1; exact Or.inr (Or.inl (getD_last css cs))
      · exact Or.inr (Or.inr (by simp [List.getD, List.getElem?_eq_none (show (css ++ [cs]).length ≤ j by simp; omega)]))
  refine ⟨fun j => ?_, fun j c hc => ?_, fun j c hc => ?_⟩
  · rcases key j with e | e | e <;> rw [e]
    · exact h.few j
    · exact h1
    · exact Nat.zero_le _
  · rcases key j with e | e | e <;> rw [e] at hc
    · exact h.int j c hc
    · exact h2 c hc
    · cases hc
  · rcases key j with e | e | e <;> rw [e] at hc
    · exact h.f32 j c hc
    · exact h3 c hc
    · cases hc
theorem cs_nil : CsOk [] := ⟨fun j => by simp, fun j c hc => by simp at hc, fun j c hc => by simp at hc⟩

/-- Where it stands. -/
theorem Hist.now {w : World} {d : MD} {css : List (List Cmd)} (h : Hist d css) (o : d.Ok w) : d.now.t = (css.length : Int) ∧ d.now.L = mobsAt css css.length ∧ css.length ≤ 500 := by
  have h1 := o.len
  have h2 := h.len
  obtain ⟨r, x, hws, hxt, hxL⟩ := o.last
  have hl : r.length = css.length := by rw [hws] at h2; simp at h2; exact h2
  obtain ⟨m1, m2⟩ := h.mob r.length (by omega)
  have hx : d.ws[r.length]'(by omega) = x := by simp [hws]
  rw [hx] at m1 m2
  have h5 := (worldB_fine o.nowOk.good).2.1
  refine ⟨by omega, by rw [← hxL, m2, hl], by omega⟩
/-- It has grown. -/
theorem Hist.grew {w : World} {d d' : MD} {css : List (List Cmd)} {cs : List Cmd} (h : Hist d css) (o : d.Ok w) (g : Grew d d' cs) (h2 : ∀ c ∈ cs, IntC c) (h3 : ∀ c ∈ cs, F32C c) : (∃ css', Hist d' css') ∧ d.ws.length ≤ d'.ws.length := by
  obtain ⟨n1, n2, n3⟩ := h.now o
  rcases g.or with ⟨he, hs, hw, hy⟩ | ⟨he, y, hw, ht, hL, hs, hy⟩
  · refine ⟨⟨css, ?_, ?_, ?_, ?_, h.ok⟩, by rw [hw]; exact Nat.le_refl _⟩
    · rw [hs, g.ev]; exact h.s
    · rw [hw]; exact h.len
    · intro j hj
      simp only [hw]
      exact h.mob j (by rw [hw] at hj; exact hj)
    · intro j hj
      simp only [hy, g.ev]
      exact h.st j (by rw [hy] at hj; exact hj)
  · have hS : stepR d.now.t d.now.L cs = ⟨d.now.t + 1, stepL cs d.now.L, 0⟩ ∧ cs.length ≤ 64 := by
      unfold stepR at he ⊢
      rw [if_neg (by rw [o.nowOk.good]; decide)] at he ⊢
      split at he
      · exact absurd he (by decide)
      · rename_i h5
        rw [if_neg h5]
        split at he
        · exact absurd he (by decide)
        · rename_i h6
          rw [if_neg h6]
          exact ⟨rfl, by omega⟩
    obtain ⟨hS, h64⟩ := hS
    rw [hS] at ht hL hs
    have e1 : mobsAt (css ++ [cs]) (css.length + 1) = stepL cs (mobsAt css css.length) := by
      show stepL ((css ++ [cs]).getD css.length []) (mobsAt (css ++ [cs]) css.length) = _
      rw [getD_last, mobsAt_app css cs _ (Nat.le_refl _)]
    have e2 : fileAt d.ev (css ++ [cs]) (css.length + 1) = d'.s := by
      show fileAt d.ev (css ++ [cs]) css.length ++ lineL (tickW ((css ++ [cs]).getD css.length []) ((css.length : Int) + 1) (mobsAt (css ++ [cs]) (css.length + 1)) d.ev) = _
      rw [getD_last, fileAt_app _ css cs _ (Nat.le_refl _), e1, hs, h.s, n1, n2]
    have hl := h.len
    have hyl := o.ylen
    refine ⟨⟨css ++ [cs], ?_, ?_, ?_, ?_, h.ok.app h64 h2 h3⟩, by rw [hw]; simp⟩
    · rw [g.ev, List.length_append]; exact e2.symm
    · rw [hw]; simp [hl]
    · intro j hj
      have hj' : j < d.ws.length + 1 := by rw [hw] at hj; simpa using hj
      by_cases hlt : j < d.ws.length
      · have e : d'.ws[j] = d.ws[j] := by simp only [hw]; rw [List.getElem_append_left hlt]
        rw [e, mobsAt_app css cs j (by omega)]
        exact h.mob j hlt
      · obtain rfl : j = d.ws.length := by omega
        have e : d'.ws[d.ws.length]'hj = y := by simp only [hw]; rw [List.getElem_append_right (Nat.le_refl _)]; simp
        rw [e, ht, hL, n1, n2, hl, e1]
        exact ⟨by simp, rfl⟩
    · intro j hj
      have hj' : j < d.ys.length + 1 := by rw [hy] at hj; simpa using hj
      rw [g.ev]
      by_cases hlt : j < d.ys.length
      · have e : d'.ys[j] = d.ys[j] := by simp only [hy]; rw [List.getElem_append_left hlt]
        rw [e, fileAt_app _ css cs j (by omega)]
        exact h.st j hlt
      · obtain rfl : j = d.ys.length := by omega
        have e : d'.ys[d.ys.length]'hj = d'.s.length := by simp only [hy]; rw [List.getElem_append_right (Nat.le_refl _)]; simp
        rw [e, ← e2, hyl, hl]
/-- A cut file. -/
theorem Hist.cut {w : World} {d : MD} {css : List (List Cmd)} (h : Hist d css) (o : d.Ok w) (n M : Nat) (hM : M < d.ys.length) (h1 : d.ys[M] ≤ n) (h2 : ∀ j (hj : j < d.ys.length), M < j → n < d.ys[j]) :
    ∃ ev : Nat, matchL (d.s.take n) = some (recM ev css M) := by
  have hev := o.every
  have hyl := o.ylen
  have hl := h.len
  obtain ⟨-, -, h5⟩ := h.now o
  obtain ⟨ev, hev'⟩ : ∃ ev : Nat, d.ev = (ev : Int) := ⟨d.ev.toNat, by omega⟩
  refine ⟨ev, ?_⟩
  rw [h.st M hM] at h1
  obtain ⟨t, ht, hc⟩ := file_cut d.ev css css.length M n (by omega) h1 (by
    by_cases e : M = css.length
    · exact Or.inl e
    · have := h2 (M + 1) (by omega) (by omega)
      rw [h.st (M + 1) (by omega)] at this
      exact Or.inr this)
  rw [h.s, ht, hev']
  exact matchL_file ev css M t (by omega) (by omega) h.ok hc
theorem Hist.cut0 {w : World} {d : MD} {css : List (List Cmd)} (h : Hist d css) (o : d.Ok w) (n : Nat) (h0 : 0 < d.ys.length) (h1 : n < d.ys[0]) : matchL (d.s.take n) = none := by
  have hev := o.every
  obtain ⟨ev, hev'⟩ : ∃ ev : Nat, d.ev = (ev : Int) := ⟨d.ev.toNat, by omega⟩
  rw [h.st 0 h0, hev'] at h1
  rw [h.s, hev']
  exact matchL_short ev css css.length n h1
end Go.Proofs.YtlfmfhmbkpnjbaaGreatDoor

namespace Go.Proofs.YtlfmfhmbkpnjbaaGreatDoor
open Go.RowKit

theorem typ_eq {w : World} {j : Nat} {s t : TypeId} (h : typ w j s) (k : typ w j t) : s = t := by
  apply Classical.byContradiction
  intro e
  exact typ_ne h k e rfl
/-- The types of a player's blocks. -/
def PTyp (w : World) (j : Nat) : Prop := typ w j 78 ∨ typ w j 127 ∨ typ w j 131 ∨ MTyp w j
theorem PL.keepT {w w' : World} {S F : Nat → Prop} {pb : Nat} {m : Mt} {k : Nat} {d : PD} (h : PL w F pb m k d) (kk : Kept S w w') (hS : ∀ j, F j → PTyp w j → ¬ S j) : PL w' F pb m k d :=
  ⟨by rw [kk.block pb (heap_lt h.blk) (hS _ h.fp (Or.inl (typ_blk h.blk)))]; exact h.blk, h.ok, h.row.keep kk (fun j hj ht => hS j hj (Or.inr (Or.inr (Or.inr ht)))), h.cmds, h.whole,
    CacheAt3.keep h.cache kk (fun j hj => by
      rcases hj with rfl | hj
      · exact hS _ h.fc (Or.inr (Or.inl (typ_blk h.cache.1)))
      · exact hS _ (h.fr j hj) (Or.inr (Or.inr (Or.inl (typ_own h.cache.2 j hj))))), h.size,
    fun e he => (h.each e he).keep kk (fun j hj ht => hS j hj (Or.inr (Or.inr (Or.inr (Or.inr (Or.inr (Or.inr ht))))))), h.fp, h.fc, h.fr, fun j hj => Nat.lt_of_lt_of_le (h.lt j hj) kk.size, h.at_⟩
/-- What a player writes to has these types. -/
theorem PL.wtyp {w : World} {F : Nat → Prop} {pb : Nat} {m : Mt} {k : Nat} {d : PD} (h : PL w F pb m k d) (j : Nat) (hj : j = pb ∨ Foot d.c d.r j) : typ w j 78 ∨ typ w j 127 ∨ typ w j 131 := by
  rcases hj with rfl | rfl | hj
  · exact Or.inl (typ_blk h.blk)
  · exact Or.inr (Or.inl (typ_blk h.cache.1))
  · exact Or.inr (Or.inr (typ_own h.cache.2 j hj))

/-- A show: where it lies, what it shows. -/
structure SD where
  sb : Nat
  pb : Nat
  F : Nat → Prop
  m : Mt
  k : Nat
  d : PD
  gw : Nat
  cap : Nat
def ptrS (x : SD) : Value := .pointer (some ⟨x.sb, 0, none⟩)
structure SD.Ok (w : World) (x : SD) : Prop where
  blk : w.heap[x.sb]? = some (.cells #[.pointer (some ⟨x.pb, 0, none⟩), .slice (some ⟨x.gw, 0, none⟩) (x.m.cmds.length + 1) x.cap, .int .i64 (x.k : Int)] 91 (0, 0))
  pl : PL w x.F x.pb x.m x.k x.d
  gwt : typ w x.gw 38
  row : ∀ t, t ≤ x.m.cmds.length → ∃ p c, w.cell? ⟨x.gw, t * 2, none⟩ = some (.int .i64 (t : Int)) ∧ w.cell? ⟨x.gw, t * 2 + 1, none⟩ = some (.slice p (x.m.at t).length c) ∧ Reads w p (x.m.at t) ∧ ∀ b off, p = some ⟨b, off, none⟩ → typ w b 83
theorem SD.Ok.keep {w w' : World} {S : Nat → Prop} {x : SD} (h : x.Ok w) (k : Kept S w w') (h1 : ¬ S x.sb) (h2 : ∀ j, x.F j → PTyp w j → ¬ S j) (h3 : typ w' x.gw 38 ∧ ∀ j, j < (x.m.cmds.length + 1) * 2 → w'.cell? ⟨x.gw, j, none⟩ = w.cell? ⟨x.gw, j, none⟩) (h4 : ∀ j, typ w j 83 → ¬ S j) : x.Ok w' := by
  refine ⟨by rw [k.block _ (heap_lt h.blk) h1]; exact h.blk, h.pl.keepT k h2, h3.1, fun t ht => ?_⟩
  obtain ⟨p, c, c1, c2, c3, c4⟩ := h.row t ht
  exact ⟨p, c, by rw [h3.2 _ (by omega)]; exact c1, by rw [h3.2 _ (by omega)]; exact c2, c3.keep k (fun b off e => h4 b (c4 b off e)), fun b off e => typ_keep (c4 b off e) k (h4 b (c4 b off e))⟩
/-- The law's own types. -/
def LTyp (w : World) (j : Nat) : Prop := typ w j 85 ∨ typ w j 51 ∨ typ w j 36 ∨ typ w j 61 ∨ typ w j 134 ∨ typ w j 98 ∨ typ w j 5 ∨ typ w j 3
theorem LTyp.not {w : World} {j : Nat} {T : TypeId} (h : LTyp w j) (ht : typ w j T) (h0 : T ≠ 85) (h1 : T ≠ 51) (h2 : T ≠ 36) (h3 : T ≠ 61) (h4 : T ≠ 134) (h5 : T ≠ 98) (h6 : T ≠ 5) (h7 : T ≠ 3) : False := by
  rcases h with h | h | h | h | h | h | h | h
  · exact h0 (typ_eq ht h)
  · exact h1 (typ_eq ht h)
  · exact h2 (typ_eq ht h)
  · exact h3 (typ_eq ht h)
  · exact h4 (typ_eq ht h)
  · exact h5 (typ_eq ht h)
  · exact h6 (typ_eq ht h)
  · exact h7 (typ_eq ht h)
theorem LTyp.noP {w : World} {j : Nat} (h : LTyp w j) (hp : PTyp w j) : False := by
  rcases hp with hp | hp | hp | hp | hp | hp | hp
  all_goals exact h.not hp (by decide) (by decide) (by decide) (by decide) (by decide) (by decide) (by decide) (by decide)
theorem SD.Ok.law {w w' : World} {S : Nat → Prop} {x : SD} (h : x.Ok w) (k : Kept S w w') (hS : ∀ j, S j → LTyp w j) : x.Ok w' := by
  have hg : ¬ S x.gw := fun e => (hS _ e).not h.gwt (by decide) (by decide) (by decide) (by decide) (by decide) (by decide) (by decide) (by decide)
  exact h.keep k (fun e => (hS _ e).not (typ_blk h.blk) (by decide) (by decide) (by decide) (by decide) (by decide) (by decide) (by decide) (by decide)) (fun j _ hp e => (hS _ e).noP hp)
    ⟨typ_keep h.gwt k hg, fun j _ => cell_keep k (typ_lt h.gwt) hg⟩ (fun j hj e => (hS _ e).not hj (by decide) (by decide) (by decide) (by decide) (by decide) (by decide) (by decide) (by decide))
theorem SD.Ok.calm {w w' : World} {x : SD} (h : x.Ok w) (k : Kept (fun _ => False) w w') : x.Ok w' := h.law k (fun _ e => e.elim)

/-- All that there is. -/
structure AInv (B : Nat) (w : World) (bk : Nat) (mv sv ev : Value) (Q : List Els) (D : List MD) (X : List SD) : Prop where
  m : MInv B w bk mv sv 6 ev Q D
  hist : ∀ i (h : i < D.length), ∃ css, Hist D[i] css
  list : w.ownsRow 0 61 1 sv X.length (X.map ptrS)
  llow : ∀ j, sv.ownBlock = some j → B ≤ j
  each : ∀ i (h : i < X.length), X[i].Ok w
  low : ∀ i (h : i < X.length) j, (X[i].F j ∨ j = X[i].sb) → B ≤ j
  apart : ∀ i (h : i < X.length) i' (h' : i' < X.length), i ≠ i' → ∀ j, X[i].F j → ¬ X[i'].F j
  sbs : ∀ i (h : i < X.length) i' (h' : i' < X.length), i ≠ i' → X[i].sb ≠ X[i'].sb
  dis : ∀ i (h : i < X.length) i' (h' : i' < D.length) j, X[i].F j → ¬ D[i'].foot j
  pre : ∀ i (h : i < X.length) i' (h' : i' < D.length), D[i'].wv.ownBlock = some X[i].gw → X[i].m.cmds.length + 1 ≤ D[i'].ws.length

section
variable {B : Nat} {w w' : World} {bk : Nat} {mv sv ev : Value} {Q : List Els} {D : List MD} {X : List SD}

theorem AInv.calm (h : AInv B w bk mv sv ev Q D X) (k : Kept (fun _ => False) w w') : AInv B w' bk mv sv ev Q D X :=
  ⟨h.m.calm k, h.hist, owns_block h.list (fun j hj => k.block j (owns_lt h.list j hj) (fun e => e)), h.llow, fun i hi => (h.each i hi).calm k, h.low, h.apart, h.sbs, h.dis, h.pre⟩

/-- A match more. -/
theorem AInv.begun {mv' : Value} {d : MD} {css : List (List Cmd)} (h : AInv B w bk mv sv ev Q D X) (hm : MInv B w' bk mv' sv 6 ev Q (D ++ [d])) (hd : Hist d css) (hnew : ∀ j, d.foot j → w.heap.size ≤ j) (k : Kept (fun j => mv.ownBlock = some j ∨ j = bk) w w') : AInv B w' bk mv' sv ev Q (D ++ [d]) X := by
  have hS : ∀ j, (mv.ownBlock = some j ∨ j = bk) → LTyp w j := by
    rintro j (e | e)
    · exact Or.inl (typ_own h.m.list j e)
    · rw [e]; exact Or.inr (Or.inl (typ_blk h.m.book.blk))
  have hlen : (D ++ [d]).length = D.length + 1 := by simp
  have hget : ∀ i (hi : i < (D ++ [d]).length), (∃ h0 : i < D.length, (D ++ [d])[i] = D[i]) ∨ (D ++ [d])[i] = d := by
    intro i hi
    by_cases h0 : i < D.length
    · exact Or.inl ⟨h0, List.getElem_append_left h0⟩
    · obtain rfl : i = D.length := by omega
      right
      rw [List.getElem_append_right (Nat.le_refl _)]
      simp
  have hwn : ∀ j, d.wv.ownBlock = some j → w.heap.size ≤ j := fun j hj => hnew j (Or.inr (Or.inr (Or.inr (Or.inl hj))))
  refine ⟨hm, fun i hi => ?_, ?_, h.llow, fun i hi => (h.each i hi).law k hS, h.low, h.apart, h.sbs, fun i hi i' hi' j hF => ?_, fun i hi i' hi' e => ?_⟩
  · rcases hget i hi with ⟨h0, e⟩ | e
    · rw [e]; exact h.hist i h0
    · rw [e]; exact ⟨css, hd⟩
  · refine owns_block h.list (fun j hj => k.block j (owns_lt h.list j hj) (fun e => ?_))
    have ht := typ_own h.list j hj
    rcases e with e | e
    · exact absurd (typ_eq ht (typ_own h.m.list j e)) (by decide)
    · rw [e] at ht; exact absurd (typ_eq ht (typ_blk h.m.book.blk)) (by decide)
  · rcases hget i' hi' with ⟨h0, e⟩ | e
    · rw [e]; exact h.dis i hi i' h0 j hF
    · rw [e]
      intro e2
      have := hnew j e2
      have := (h.each i hi).pl.lt j hF
      omega
  · rcases hget i' hi' with ⟨h0, e2⟩ | e2
    · rw [e2] at e ⊢; exact h.pre i hi i' h0 e
    · rw [e2] at e
      have := hwn _ e
      have := typ_lt (h.each i hi).gwt
      omega

/-- A match has been turned. -/
theorem AInv.recd {d' : MD} {ev' : Value} {Q' : List Els} {css : List (List Cmd)} (h : AInv B w bk mv sv ev Q D X) (q : Nat) (hq : q < D.length) (hm : MInv B w' bk mv sv 6 ev' Q' (D.set q d')) (hd : Hist d' css) (hws : D[q].ws.length ≤ d'.ws.length)
    (hf : ∀ j, d'.foot j → D[q].foot j ∨ w.heap.size ≤ j) (k : Kept (fun j => D[q].foot j ∨ j = bk ∨ ev.ownBlock = some j) w w') (hold : ∀ b, D[q].wv.ownBlock = some b → OldRow w' b D[q].ws) : AInv B w' bk mv sv ev' Q' (D.set q d') X := by
  have oq := h.m.each q hq
  have hS : ∀ j, (D[q].foot j ∨ j = bk ∨ ev.ownBlock = some j) → D[q].wv.ownBlock = some j ∨ LTyp w j := by
    rintro j ((e | e | e | e | e) | e | e)
    · rw [e]; exact Or.inr (Or.inr (Or.inr (Or.inr (Or.inr (Or.inl (typ_blk oq.blk))))))
    · rw [e]; exact Or.inr (Or.inr (Or.inr (Or.inr (Or.inr (Or.inr (Or.inl (typ_blk oq.reco.blk)))))))
    · exact Or.inr (Or.inr (Or.inr (Or.inr (Or.inr (Or.inr (Or.inr (Or.inl (typ_ownF oq.reco.own j e))))))))
    · exact Or.inl e
    · exact Or.inr (Or.inr (Or.inr (Or.inr (Or.inr (Or.inr (Or.inr (Or.inr (typ_own oq.stands j e))))))))
    · rw [e]; exact Or.inr (Or.inr (Or.inl (typ_blk h.m.book.blk)))
    · exact Or.inr (Or.inr (Or.inr (Or.inl (typ_own h.m.book.own j e))))
  have hWt : ∀ j, D[q].wv.ownBlock = some j → typ w j 38 := fun j hj => typ_own oq.worlds j hj
  have hget : ∀ i (hi : i < (D.set q d').length), (D.set q d')[i] = if q = i then d' else D[i]'(by simpa using hi) := fun i hi => List.getElem_set hi
  have hwv : ∀ j, j < w.heap.size → typ w j 38 → d'.wv.ownBlock = some j → D[q].wv.ownBlock = some j := by
    intro j hj ht e
    rcases hf j (Or.inr (Or.inr (Or.inr (Or.inl e)))) with e2 | e2
    · rcases hS j (Or.inl e2) with e3 | e3
      · exact e3
      · exact (e3.not ht (by decide) (by decide) (by decide) (by decide) (by decide) (by decide) (by decide) (by decide)).elim
    · omega
  refine ⟨hm, fun i hi => ?_, ?_, h.llow, fun i hi => ?_, h.low, h.apart, h.sbs, fun i hi i' hi' j hF => ?_, fun i hi i' hi' e => ?_⟩
  · rw [hget i hi]
    split
    · exact ⟨css, hd⟩
    · exact h.hist i (by simpa using hi)
  · refine owns_block h.list (fun j hj => k.block j (owns_lt h.list j hj) (fun e => ?_))
    have ht := typ_own h.list j hj
    rcases e with e0 | e0 | e0
    · exact oq.not_typ j e0 _ ht (by decide) (by decide) (by decide) (by decide) (by decide)
    · rw [e0] at ht; exact absurd (typ_eq ht (typ_blk h.m.book.blk)) (by decide)
    · exact absurd (typ_eq ht (typ_own h.m.book.own j e0)) (by decide)
  · have o := h.each i hi
    refine o.keep k (fun e => ?_) (fun j hj hp e => ?_) ?_ (fun j hj e => ?_)
    · rcases hS _ e with e | e
      · exact absurd (typ_eq (typ_blk o.blk) (hWt _ e)) (by decide)
      · exact e.not (typ_blk o.blk) (by decide) (by decide) (by decide) (by decide) (by decide) (by decide) (by decide) (by decide)
    · rcases hS _ e with e | e
      · exact h.dis i hi q hq j hj (Or.inr (Or.inr (Or.inr (Or.inl e))))
      · exact e.noP hp
    · by_cases e : D[q].wv.ownBlock = some X[i].gw
      · obtain ⟨o1, o2⟩ := hold _ e
        refine ⟨o1, fun j hj => ?_⟩
        have hp := h.pre i hi q hq e
        obtain ⟨g, cp, hv⟩ : ∃ g cp, D[q].wv = .slice (some ⟨g, 0, none⟩) D[q].ws.length cp := by
          rcases oq.worlds.2 with ⟨_, h0⟩ | ⟨g, cp, _, e, _⟩
          · omega
          · exact ⟨g, cp, e⟩
        have hr := oq.worlds
        rw [hv] at hr e
        have e' : g = X[i].gw := by simpa [Value.ownBlock] using e
        subst e'
        have hjl : j < (rowW D[q].ws).length := by rw [rowW_length]; omega
        obtain ⟨u, hu⟩ : ∃ u, (rowW D[q].ws)[j]? = some u := ⟨_, List.getElem?_eq_getElem hjl⟩
        rw [o2 j u hu, row_cell hr j u hu]
      · have hn : ¬ (D[q].foot X[i].gw ∨ X[i].gw = bk ∨ ev.ownBlock = some X[i].gw) := fun e2 => by
          rcases hS _ e2 with e3 | e3
          · exact e e3
          · exact e3.not o.gwt (by decide) (by decide) (by decide) (by decide) (by decide) (by decide) (by decide) (by decide)
        exact ⟨typ_keep o.gwt k hn, fun j _ => cell_keep k (typ_lt o.gwt) hn⟩
    · rcases hS _ e with e | e
      · exact absurd (typ_eq hj (hWt _ e)) (by decide)
      · exact e.not hj (by decide) (by decide) (by decide) (by decide) (by decide) (by decide) (by decide) (by decide)
  · rw [hget i' hi']
    split
    · intro e
      have hlt := (h.each i hi).pl.lt j hF
      rcases hf j e with e2 | e2
      · exact h.dis i hi q hq j hF e2
      · omega
    · exact h.dis i hi i' (by simpa using hi') j hF
  · rw [hget i' hi'] at e ⊢
    split
    · rename_i e0
      rw [if_pos e0] at e
      have := h.pre i hi q hq (hwv _ (typ_lt (h.each i hi).gwt) (h.each i hi).gwt e)
      omega
    · rename_i e0
      rw [if_neg e0] at e
      exact h.pre i hi i' (by simpa using hi') e

/-- The types of what a player's step writes to. -/
def Away (w : World) (j : Nat) : Prop := typ w j 78 ∨ typ w j 127 ∨ typ w j 131 ∨ typ w j 91
theorem Away.not {w : World} {j : Nat} {T : TypeId} (h : Away w j) (ht : typ w j T) (h0 : T ≠ 78) (h1 : T ≠ 127) (h2 : T ≠ 131) (h3 : T ≠ 91) : False := by
  rcases h with h | h | h | h
  · exact h0 (typ_eq ht h)
  · exact h1 (typ_eq ht h)
  · exact h2 (typ_eq ht h)
  · exact h3 (typ_eq ht h)
theorem MInv.shown {S : Nat → Prop} {ms : Int} {ev' : Value} {Q' : List Els} (h : MInv B w bk mv sv ms ev Q D) (hB : B ≤ w.heap.size) (k : Kept S w w') (hS : ∀ j, S j → (j = bk ∨ ev.ownBlock = some j) ∨ (Away w j ∧ B ≤ j)) (hb : BookF w' bk mv sv ms ev' Q') (he : ∀ j, ev'.ownBlock = some j → ev.ownBlock = some j ∨ w.heap.size ≤ j) :
    MInv B w' bk mv sv ms ev' Q' D ∧ Kept (Far w B) w w' := by
  have tb : typ w bk 51 := typ_blk h.book.blk
  have te : ∀ j, ev.ownBlock = some j → typ w j 36 := fun j hj => typ_own h.book.own j hj
  have key : ∀ j T, typ w j T → T ≠ 51 → T ≠ 36 → T ≠ 78 → T ≠ 127 → T ≠ 131 → T ≠ 91 → ¬ S j := by
    intro j T ht h1 h2 h3 h4 h5 h6 e
    rcases hS j e with (e | e) | ⟨e, -⟩
    · rw [e] at ht; exact h1 (typ_eq ht tb)
    · exact h2 (typ_eq ht (te j e))
    · exact e.not ht h3 h4 h5 h6
  refine ⟨⟨hb, h.blow, fun j hj => ?_, owns_block h.list (fun j hj => k.block j (owns_lt h.list j hj) (key j _ (typ_own h.list j hj) (by decide) (by decide) (by decide) (by decide) (by decide) (by decide))), h.llow, fun i hi => ?_, h.low, h.apart⟩, k.mono (fun j _ e => ?_)⟩
  · rcases he j hj with e | e
    · exact h.elow j e
    · omega
  · have o := h.each i hi
    refine o.keep k (fun j hj => ?_) (fun j hj => key j _ hj (by decide) (by decide) (by decide) (by decide) (by decide) (by decide))
    rcases hj with e | e | e | e | e
    · rw [e]; exact key _ _ (typ_blk o.blk) (by decide) (by decide) (by decide) (by decide) (by decide) (by decide)
    · rw [e]; exact key _ _ (typ_blk o.reco.blk) (by decide) (by decide) (by decide) (by decide) (by decide) (by decide)
    · exact key _ _ (typ_ownF o.reco.own j e) (by decide) (by decide) (by decide) (by decide) (by decide) (by decide)
    · exact key _ _ (typ_own o.worlds j e) (by decide) (by decide) (by decide) (by decide) (by decide) (by decide)
    · exact key _ _ (typ_own o.stands j e) (by decide) (by decide) (by decide) (by decide) (by decide) (by decide)
  · refine ⟨?_, fun t => key j _ t (by decide) (by decide) (by decide) (by decide) (by decide) (by decide) e, fun t => key j _ t (by decide) (by decide) (by decide) (by decide) (by decide) (by decide) e⟩
    rcases hS j e with (e | e) | ⟨-, e⟩
    · rw [e]; exact h.blow
    · exact h.elow j e
    · exact e

/-- A player has shown a tick. -/
theorem AInv.played {S : Nat → Prop} {x' : SD} {ev' : Value} {Q' : List Els} (h : AInv B w bk mv sv ev Q D X) (hB : B ≤ w.heap.size) (q : Nat) (hq : q < X.length) (k : Kept S w w')
    (hS : ∀ j, S j → (j = bk ∨ ev.ownBlock = some j) ∨ ((j = X[q].pb ∨ Foot X[q].d.c X[q].d.r j) ∨ j = X[q].sb)) (hx : x'.Ok w') (hsb : x'.sb = X[q].sb) (hgw : x'.gw = X[q].gw) (hm' : x'.m = X[q].m) (hF : ∀ j, x'.F j → X[q].F j ∨ w.heap.size ≤ j)
    (hb : BookF w' bk mv sv 6 ev' Q') (he : ∀ j, ev'.ownBlock = some j → ev.ownBlock = some j ∨ w.heap.size ≤ j) : AInv B w' bk mv sv ev' Q' D (X.set q x') ∧ Kept (Far w B) w w' := by
  have oq := h.each q hq
  have hA : ∀ j, S j → (j = bk ∨ ev.ownBlock = some j) ∨ (Away w j ∧ B ≤ j) := by
    intro j e
    rcases hS j e with e | e | e
    · exact Or.inl e
    · refine Or.inr ⟨?_, h.low q hq j (Or.inl (oq.pl.wf j e))⟩
      rcases oq.pl.wtyp j e with e | e | e
      · exact Or.inl e
      · exact Or.inr (Or.inl e)
      · exact Or.inr (Or.inr (Or.inl e))
    · exact Or.inr ⟨by rw [e]; exact Or.inr (Or.inr (Or.inr (typ_blk oq.blk))), h.low q hq j (Or.inr e)⟩
  obtain ⟨hm, hfar⟩ := h.m.shown hB k hA hb he
  have tb : typ w bk 51 := typ_blk h.m.book.blk
  have te : ∀ j, ev.ownBlock = some j → typ w j 36 := fun j hj => typ_own h.m.book.own j hj
  have key : ∀ j T, typ w j T → T ≠ 51 → T ≠ 36 → T ≠ 78 → T ≠ 127 → T ≠ 131 → T ≠ 91 → ¬ S j := by
    intro j T ht h1 h2 h3 h4 h5 h6 e
    rcases hA j e with (e | e) | ⟨e, -⟩
    · rw [e] at ht; exact h1 (typ_eq ht tb)
    · exact h2 (typ_eq ht (te j e))
    · exact e.not ht h3 h4 h5 h6
  have hget : ∀ i (hi : i < (X.set q x').length), (X.set q x')[i] = if q = i then x' else X[i]'(by simpa using hi) := fun i hi => List.getElem_set hi
  refine ⟨⟨hm, h.hist, ?_, h.llow, fun i hi => ?_, fun i hi j => ?_, fun i hi i' hi' hne j => ?_, fun i hi i' hi' hne => ?_, fun i hi i' hi' j => ?_, fun i hi i' hi' => ?_⟩, hfar⟩
  · have e1 : (X.set q x').map ptrS = X.map ptrS := by
      rw [List.map_set]
      apply List.ext_getElem?
      intro i
      rw [List.getElem?_set]
      split
      · rename_i e
        subst e
        simp [hq, ptrS, hsb]
      · rfl
    rw [e1, List.length_set]
    exact owns_block h.list (fun j hj => k.block j (owns_lt h.list j hj) (key j _ (typ_own h.list j hj) (by decide) (by decide) (by decide) (by decide) (by decide) (by decide)))
  · rw [hget i hi]
    split
    · exact hx
    · rename_i e0
      have hi' : i < X.length := by simpa using hi
      have o := h.each i hi'
      have hg : ¬ S X[i].gw := key _ _ o.gwt (by decide) (by decide) (by decide) (by decide) (by decide) (by decide)
      refine o.keep k (fun e => ?_) (fun j hj hp e => ?_) ⟨typ_keep o.gwt k hg, fun j _ => cell_keep k (typ_lt o.gwt) hg⟩ (fun j hj => key j _ hj (by decide) (by decide) (by decide) (by decide) (by decide) (by decide))
      · have ht := typ_blk o.blk
        rcases hS _ e with (e | e) | e | e
        · rw [e] at ht; exact absurd (typ_eq ht tb) (by decide)
        · exact absurd (typ_eq ht (te _ e)) (by decide)
        · rcases oq.pl.wtyp _ e with e | e | e
          all_goals exact absurd (typ_eq ht e) (by decide)
        · exact h.sbs i hi' q hq (fun e => e0 e.symm) e
      · rcases hS _ e with (e | e) | e | e
        · rw [e] at hp
          rcases hp with hp | hp | hp | hp | hp | hp | hp
          all_goals exact absurd (typ_eq hp tb) (by decide)
        · rcases hp with hp | hp | hp | hp | hp | hp | hp
          all_goals exact absurd (typ_eq hp (te _ e)) (by decide)
        · exact h.apart q hq i hi' e0 j (oq.pl.wf j e) hj
        · have ht := typ_blk oq.blk
          rw [← e] at ht
          rcases hp with hp | hp | hp | hp | hp | hp | hp
          all_goals exact absurd (typ_eq hp ht) (by decide)
  · rw [hget i hi]
    split
    · rintro (e | e)
      · rcases hF j e with e | e
        · exact h.low q hq j (Or.inl e)
        · omega
      · exact h.low q hq j (Or.inr (by rw [e, hsb]))
    · exact h.low i (by simpa using hi) j
  · rw [hget i hi, hget i' hi']
    have hi2 : i < X.length := by simpa using hi
    have hi2' : i' < X.length := by simpa using hi'
    by_cases e1 : q = i
    · subst e1
      rw [if_pos rfl, if_neg hne]
      intro hj hj'
      rcases hF j hj with q1 | q1
      · exact h.apart q hi2 i' hi2' hne j q1 hj'
      · have := (h.each i' hi2').pl.lt j hj'; omega
    · rw [if_neg e1]
      by_cases e2 : q = i'
      · subst e2
        rw [if_pos rfl]
        intro hj hj'
        rcases hF j hj' with q1 | q1
        · exact h.apart i hi2 q hi2' hne j hj q1
        · have := (h.each i hi2).pl.lt j hj; omega
      · rw [if_neg e2]
        exact h.apart i hi2 i' hi2' hne j
  · rw [hget i hi, hget i' hi']
    have hi2 : i < X.length := by simpa using hi
    have hi2' : i' < X.length := by simpa using hi'
    by_cases e1 : q = i
    · subst e1
      rw [if_pos rfl, if_neg hne, hsb]
      exact h.sbs q hi2 i' hi2' hne
    · rw [if_neg e1]
      by_cases e2 : q = i'
      · subst e2
        rw [if_pos rfl, hsb]
        exact h.sbs i hi2 q hi2' hne
      · rw [if_neg e2]
        exact h.sbs i hi2 i' hi2' hne
  · rw [hget i hi]
    split
    · intro hj hf
      rcases hF j hj with e | e
      · exact h.dis q hq i' hi' j e hf
      · have := (h.m.each i' hi').lt j hf; omega
    · exact h.dis i (by simpa using hi) i' hi' j
  · rw [hget i hi]
    split
    · rw [hgw, hm']
      exact h.pre q hq i' hi'
    · exact h.pre i (by simpa using hi) i' hi'

/-- A show more. -/
theorem AInv.opened {w1 w2 : World} {x : SD} {sv' : Value} (h : AInv B w bk mv sv ev Q D X) (hB : B ≤ w.heap.size) (k1 : Kept (fun _ => False) w w1) (hx : x.Ok w1) (hnew : ∀ j, (x.F j ∨ j = x.sb) → w.heap.size ≤ j)
    (hpre : ∀ i' (h' : i' < D.length), D[i'].wv.ownBlock = some x.gw → x.m.cmds.length + 1 ≤ D[i'].ws.length)
    (k2 : Kept (fun j => sv.ownBlock = some j) w1 w2) (hown : w2.ownsRow 0 61 1 sv' (X.length + 1) (X.map ptrS ++ [ptrS x])) (hsv : ∀ j, sv'.ownBlock = some j → sv.ownBlock = some j ∨ w1.heap.size ≤ j) :
    w2.heap[bk]? = some (.cells #[mv, sv, ev, .slice none 0 0, .int .i64 6] 51 (0, 0)) ∧
    AInv B (w2.setCell ⟨bk, 1, none⟩ sv') bk mv sv' ev Q D (X ++ [x]) ∧ Kept (Far w B) w (w2.setCell ⟨bk, 1, none⟩ sv') := by
  have h1 := h.calm k1
  have tb : typ w1 bk 51 := typ_blk h1.m.book.blk
  have te : ∀ j, ev.ownBlock = some j → typ w1 j 36 := fun j hj => typ_own h1.m.book.own j hj
  have tl : ∀ j, sv.ownBlock = some j → typ w1 j 61 := fun j hj => typ_own h1.list j hj
  have hs1 := k1.size
  have hs2 := k2.size
  have hbk1 : bk < w1.heap.size := typ_lt tb
  have nb : ¬ sv.ownBlock = some bk := fun e => typ_ne (tl bk e) tb (by decide) rfl
  have hb2 : w2.heap[bk]? = some (.cells #[mv, sv, ev, .slice none 0 0, .int .i64 6] 51 (0, 0)) := by rw [k2.block bk hbk1 nb]; exact h1.m.book.blk
  have k3 : Kept (fun j => sv.ownBlock = some j ∨ j = bk) w1 (w2.setCell ⟨bk, 1, none⟩ sv') := k2.join (Kept.setCell w2 _ _) (fun _ _ e => Or.inl e) (fun _ _ e => Or.inr e)
  have hL : ∀ j, (sv.ownBlock = some j ∨ j = bk) → LTyp w1 j := by
    rintro j (e | e)
    · exact Or.inr (Or.inr (Or.inr (Or.inl (tl j e))))
    · rw [e]; exact Or.inr (Or.inl tb)
  have key : ∀ j T, typ w1 j T → T ≠ 61 → T ≠ 51 → ¬ (sv.ownBlock = some j ∨ j = bk) := by
    rintro j T ht h1 h2 (e | e)
    · exact h1 (typ_eq ht (tl j e))
    · rw [e] at ht; exact h2 (typ_eq ht tb)
  have hlen : (X ++ [x]).length = X.length + 1 := by simp
  have hget : ∀ i (hi : i < (X ++ [x]).length), (∃ h0 : i < X.length, (X ++ [x])[i] = X[i]) ∨ (i = X.length ∧ (X ++ [x])[i] = x) := by
    intro i hi
    by_cases h0 : i < X.length
    · exact Or.inl ⟨h0, List.getElem_append_left h0⟩
    · obtain rfl : i = X.length := by omega
      right
      rw [List.getElem_append_right (Nat.le_refl _)]
      simp
  have hm : MInv B (w2.setCell ⟨bk, 1, none⟩ sv') bk mv sv' 6 ev Q D := by
    refine ⟨⟨?_, ?_, ?_, ?_, h.m.book.short, h.m.book.four⟩, h.m.blow, h.m.elow, ?_, h.m.llow, ?_, h.m.low, h.m.apart⟩
    · have := row_set hb2 1 sv'
      simpa using this
    · exact owns_block h1.m.book.own (fun j hj => k3.block j (owns_lt h1.m.book.own j hj) (key j _ (te j hj) (by decide) (by decide)))
    · exact fun i hi => (h1.m.book.rows i hi).keep k3 (fun b off e => key b _ (h1.m.book.here i hi b ⟨off, e⟩) (by decide) (by decide))
    · exact fun i hi j hj => typ_keep (h1.m.book.here i hi j hj) k3 (key j _ (h1.m.book.here i hi j hj) (by decide) (by decide))
    · exact owns_block h1.m.list (fun j hj => k3.block j (owns_lt h1.m.list j hj) (key j _ (typ_own h1.m.list j hj) (by decide) (by decide)))
    · intro i hi
      have o := h1.m.each i hi
      refine o.keep k3 (fun j hj => ?_) (fun j hj => key j _ hj (by decide) (by decide))
      rcases hj with e | e | e | e | e
      · rw [e]; exact key _ _ (typ_blk o.blk) (by decide) (by decide)
      · rw [e]; exact key _ _ (typ_blk o.reco.blk) (by decide) (by decide)
      · exact key _ _ (typ_ownF o.reco.own j e) (by decide) (by decide)
      · exact key _ _ (typ_own o.worlds j e) (by decide) (by decide)
      · exact key _ _ (typ_own o.stands j e) (by decide) (by decide)
  refine ⟨hb2, ⟨hm, h.hist, ?_, fun j hj => ?_, fun i hi => ?_, fun i hi j => ?_, fun i hi i' hi' hne j => ?_, fun i hi i' hi' hne => ?_, fun i hi i' hi' j => ?_, fun i hi i' hi' => ?_⟩, ?_⟩
  · rw [hlen, List.map_append]
    refine owns_block hown (fun j hj => Below.heap_setCell _ _ _ _ ?_)
    show j ≠ bk
    rcases hsv j hj with e | e
    · rintro rfl; exact nb e
    · omega
  · rcases hsv j hj with e | e
    · exact h.llow j e
    · omega
  · rcases hget i hi with ⟨h0, e⟩ | ⟨-, e⟩
    · rw [e]; exact (h1.each i h0).law k3 hL
    · rw [e]; exact hx.law k3 hL
  · rcases hget i hi with ⟨h0, e⟩ | ⟨-, e⟩
    · rw [e]; exact h.low i h0 j
    · rw [e]
      intro hj
      have := hnew j hj
      omega
  · rcases hget i hi with ⟨h0, e⟩ | ⟨e0, e⟩ <;> rcases hget i' hi' with ⟨h0', e'⟩ | ⟨e0', e'⟩ <;> rw [e, e']
    · exact h.apart i h0 i' h0' hne j
    · intro hj hj'
      have := hnew j (Or.inl hj')
      have := (h.each i h0).pl.lt j hj
      omega
    · intro hj hj'
      have := hnew j (Or.inl hj)
      have := (h.each i' h0').pl.lt j hj'
      omega
    · omega
  · rcases hget i hi with ⟨h0, e⟩ | ⟨e0, e⟩ <;> rcases hget i' hi' with ⟨h0', e'⟩ | ⟨e0', e'⟩ <;> rw [e, e']
    · exact h.sbs i h0 i' h0' hne
    · have := hnew _ (Or.inr rfl)
      have := heap_lt (h.each i h0).blk
      omega
    · have := hnew _ (Or.inr rfl)
      have := heap_lt (h.each i' h0').blk
      omega
    · omega
  · rcases hget i hi with ⟨h0, e⟩ | ⟨-, e⟩ <;> rw [e]
    · exact h.dis i h0 i' hi' j
    · intro hj hf
      have := hnew j (Or.inl hj)
      have := (h.m.each i' hi').lt j hf
      omega
  · rcases hget i hi with ⟨h0, e⟩ | ⟨-, e⟩ <;> rw [e]
    · exact h.pre i h0 i' hi'
    · exact hpre i' hi'
  · refine k1.join k3 (fun _ _ e => e.elim) (fun j hj e => ?_)
    have up : ∀ T, typ w j T → typ w1 j T := fun T t => typ_keep t k1 (fun e => e)
    rcases e with e | e
    · exact ⟨h.llow j e, fun t => typ_ne (up _ t) (tl j e) (by decide) rfl, fun t => typ_ne (up _ t) (tl j e) (by decide) rfl⟩
    · exact ⟨by rw [e]; exact h.m.blow, fun t => typ_ne (up _ t) tb (by decide) e, fun t => typ_ne (up _ t) tb (by decide) e⟩
end
end Go.Proofs.YtlfmfhmbkpnjbaaGreatDoor
