import Derived.Test.YtlfmfhmbkpnjbaaGreatDoorAl27
import Derived.Test.YtlfmfhmbkpnjbaaGreatDoorAl23
import Derived.Test.YtlfmfhmbkpnjbaaGreatDoorAl36
import Derived.Test.YtlfmfhmbkpnjbaaGreatDoorAl12
import Derived.Test.YtlfmfhmbkpnjbaaGreatDoorAl14
import Derived.BigQuiet
import Derived.Deep.QuietTactic
namespace Go.Proofs.YtlfmfhmbkpnjbaaGreatDoor
open Go.RowKit

theorem typ_eq {w : World} {j : Nat} {s t : TypeId} (h : typ w j s) (k : typ w j t) : s = t := by
  apply Classical.byContradiction
  intro e
  exact typ_ne h k e rfl
/-- The types of a player's blocks. -/
def PTyp (w : World) (j : Nat) : Prop := typ w j 78 ∨ typ w j 127 ∨ typ w j 131 ∨ MTyp w j
theorem PL.keepT {w w' : World} {S F : Nat → Prop} {pb : Nat} {m : Mt} {k : Nat} {d : PD} (h : PL w F pb m k d) (kk : Kept S w w') (hS : ∀ j, F j → PTyp w j → ¬ S j) : PL w' F pb m k d :=
  ⟨by rw [kk.block pb (heap_lt h.blk) (hS _ h.fp (Or.inl (typ_blk h.blk)))]; exact h.blk, h.ok, h.row.keep kk (fun j hj ht => hS j hj (Or.inr (Or.inr (Or.inr ht)))), h.cmds, h.whole,
    CacheAt3.keep h.cache kk (fun j hj => by
      rcases hj with rfl | hj
      · exact hS _ h.fc (Or.inr (Or.inl (typ_blk h.cache.1)))
      · exact hS _ (h.fr j hj) (Or.inr (Or.inr (Or.inl (typ_own h.cache.2 j hj))))), h.size,
    fun e he => (h.each e he).keep kk (fun j hj ht => hS j hj (Or.inr (Or.inr (Or.inr (Or.inr (Or.inr (Or.inr ht))))))), h.fp, h.fc, h.fr, fun j hj => Nat.lt_of_lt_of_le (h.lt j hj) kk.size, h.at_⟩
/-- What a player writes to has these types. -/
theorem PL.wtyp {w : World} {F : Nat → Prop} {pb : Nat} {m : Mt} {k : Nat} {d : PD} (h : PL w F pb m k d) (j : Nat) (hj : j = pb ∨ Foot d.c d.r j) : typ w j 78 ∨ typ w j 127 ∨ typ w j 131 := by
  rcases hj with rfl | rfl | hj
  · exact Or.inl (typ_blk h.blk)
  · exact Or.inr (Or.inl (typ_blk h.cache.1))
  · exact Or.inr (Or.inr (typ_own h.cache.2 j hj))

/-- A show: where it lies, what it shows. -/
structure SD where
  sb : Nat
  pb : Nat
  F : Nat → Prop
  m : Mt
  k : Nat
  d : PD
  gw : Nat
  cap : Nat
def ptrS (x : SD) : Value := .pointer (some ⟨x.sb, 0, none⟩)
structure SD.Ok (w : World) (x : SD) : Prop where
  blk : w.heap[x.sb]? = some (.cells #[.pointer (some ⟨x.pb, 0, none⟩), .slice (some ⟨x.gw, 0, none⟩) (x.m.cmds.length + 1) x.cap, .int .i64 (x.k : Int)] 91 (0, 0))
  pl : PL w x.F x.pb x.m x.k x.d
  gwt : typ w x.gw 38
  row : ∀ t, t ≤ x.m.cmds.length → ∃ p c, w.cell? ⟨x.gw, t * 2, none⟩ = some (.int .i64 (t : Int)) ∧ w.cell? ⟨x.gw, t * 2 + 1, none⟩ = some (.slice p (x.m.at t).length c) ∧ Reads w p (x.m.at t) ∧ ∀ b off, p = some ⟨b, off, none⟩ → typ w b 83
theorem SD.Ok.keep {w w' : World} {S : Nat → Prop} {x : SD} (h : x.Ok w) (k : Kept S w w') (h1 : ¬ S x.sb) (h2 : ∀ j, x.F j → PTyp w j → ¬ S j) (h3 : typ w' x.gw 38 ∧ ∀ j, j < (x.m.cmds.length + 1) * 2 → w'.cell? ⟨x.gw, j, none⟩ = w.cell? ⟨x.gw, j, none⟩) (h4 : ∀ j, typ w j 83 → ¬ S j) : x.Ok w' := by
  refine ⟨by rw [k.block _ (heap_lt h.blk) h1]; exact h.blk, h.pl.keepT k h2, h3.1, fun t ht => ?_⟩
  obtain ⟨p, c, c1, c2, c3, c4⟩ := h.row t ht
  exact ⟨p, c, by rw [h3.2 _ (by omega)]; exact c1, by rw [h3.2 _ (by omega)]; exact c2, c3.keep k (fun b off e => h4 b (c4 b off e)), fun b off e => typ_keep (c4 b off e) k (h4 b (c4 b off e))⟩
/-- The law's own types. -/
def LTyp (w : World) (j : Nat) : Prop := typ w j 85 ∨ typ w j 51 ∨ typ w j 36 ∨ typ w j 61 ∨ typ w j 134 ∨ typ w j 98 ∨ typ w j 5 ∨ typ w j 3
theorem LTyp.not {w : World} {j : Nat} {T : TypeId} (h : LTyp w j) (ht : typ w j T) (h0 : T ≠ 85) (h1 : T ≠ 51) (h2 : T ≠ 36) (h3 : T ≠ 61) (h4 : T ≠ 134) (h5 : T ≠ 98) (h6 : T ≠ 5) (h7 : T ≠ 3) : False := by
  rcases h with h | h | h | h | h | h | h | h
  · exact h0 (typ_eq ht h)
  · exact h1 (typ_eq ht h)
  · exact h2 (typ_eq ht h)
  · exact h3 (typ_eq ht h)
  · exact h4 (typ_eq ht h)
  · exact h5 (typ_eq ht h)
  · exact h6 (typ_eq ht h)
  · exact h7 (typ_eq ht h)
theorem LTyp.noP {w : World} {j : Nat} (h : LTyp w j) (hp : PTyp w j) : False := by
  rcases hp with hp | hp | hp | hp | hp | hp | hp
  all_goals exact h.not hp (by decide) (by decide) (by decide) (by decide) (by decide) (by decide) (by decide) (by decide)
theorem SD.Ok.law {w w' : World} {S : Nat → Prop} {x : SD} (h : x.Ok w) (k : Kept S w w') (hS : ∀ j, S j → LTyp w j) : x.Ok w' := by
  have hg : ¬ S x.gw := fun e => (hS _ e).not h.gwt (by decide) (by decide) (by decide) (by decide) (by decide) (by decide) (by decide) (by decide)
  exact h.keep k (fun e => (hS _ e).not (typ_blk h.blk) (by decide) (by decide) (by decide) (by decide) (by decide) (by decide) (by decide) (by decide)) (fun j _ hp e => (hS _ e).noP hp)
    ⟨typ_keep h.gwt k hg, fun j _ => cell_keep k (typ_lt h.gwt) hg⟩ (fun j hj e => (hS _ e).not hj (by decide) (by decide) (by decide) (by decide) (by decide) (by decide) (by decide) (by decide))
theorem SD.Ok.calm {w w' : World} {x : SD} (h : x.Ok w) (k : Kept (fun _ => False) w w') : x.Ok w' := h.law k (fun _ e => e.elim)

/-- All that there is. -/
structure AInv (B : Nat) (w : World) (bk : Nat) (mv sv ev : Value) (Q : List Els) (D : List MD) (X : List SD) : Prop where
  m : MInv B w bk mv sv 6 ev Q D
  hist : ∀ i (h : i < D.length), ∃ css, Hist D[i] css
  list : w.ownsRow 0 61 1 sv X.length (X.map ptrS)
  llow : ∀ j, sv.ownBlock = some j → B ≤ j
  each : ∀ i (h : i < X.length), X[i].Ok w
  low : ∀ i (h : i < X.length) j, (X[i].F j ∨ j = X[i].sb) → B ≤ j
  apart : ∀ i (h : i < X.length) i' (h' : i' < X.length), i ≠ i' → ∀ j, X[i].F j → ¬ X[i'].F j
  sbs : ∀ i (h : i < X.length) i' (h' : i' < X.length), i ≠ i' → X[i].sb ≠ X[i'].sb
  dis : ∀ i (h : i < X.length) i' (h' : i' < D.length) j, X[i].F j → ¬ D[i'].foot j
  pre : ∀ i (h : i < X.length) i' (h' : i' < D.length), D[i'].wv.ownBlock = some X[i].gw → X[i].m.cmds.length + 1 ≤ D[i'].ws.length

section
variable {B : Nat} {w w' : World} {bk : Nat} {mv sv ev : Value} {Q : List Els} {D : List MD} {X : List SD}

theorem AInv.calm (h : AInv B w bk mv sv ev Q D X) (k : Kept (fun _ => False) w w') : AInv B w' bk mv sv ev Q D X :=
  ⟨h.m.calm k, h.hist, owns_block h.list (fun j hj => k.block j (owns_lt h.list j hj) (fun e => e)), h.llow, fun i hi => (h.each i hi).calm k, h.low, h.apart, h.sbs, h.dis, h.pre⟩

/-- A match more. -/
theorem AInv.begun {mv' : Value} {d : MD} {css : List (List Cmd)} (h : AInv B w bk mv sv ev Q D X) (hm : MInv B w' bk mv' sv 6 ev Q (D ++ [d])) (hd : Hist d css) (hnew : ∀ j, d.foot j → w.heap.size ≤ j) (k : Kept (fun j => mv.ownBlock = some j ∨ j = bk) w w') : AInv B w' bk mv' sv ev Q (D ++ [d]) X := by
  have hS : ∀ j, (mv.ownBlock = some j ∨ j = bk) → LTyp w j := by
    rintro j (e | e)
    · exact Or.inl (typ_own h.m.list j e)
    · rw [e]; exact Or.inr (Or.inl (typ_blk h.m.book.blk))
  have hlen : (D ++ [d]).length = D.length + 1 := by simp
  have hget : ∀ i (hi : i < (D ++ [d]).length), (∃ h0 : i < D.length, (D ++ [d])[i] = D[i]) ∨ (D ++ [d])[i] = d := by
    intro i hi
    by_cases h0 : i < D.length
    · exact Or.inl ⟨h0, List.getElem_append_left h0⟩
    · obtain rfl : i = D.length := by omega
      right
      rw [List.getElem_append_right (Nat.le_refl _)]
      simp
  have hwn : ∀ j, d.wv.ownBlock = some j → w.heap.size ≤ j := fun j hj => hnew j (Or.inr (Or.inr (Or.inr (Or.inl hj))))
  refine ⟨hm, fun i hi => ?_, ?_, h.llow, fun i hi => (h.each i hi).law k hS, h.low, h.apart, h.sbs, fun i hi i' hi' j hF => ?_, fun i hi i' hi' e => ?_⟩
  · rcases hget i hi with ⟨h0, e⟩ | e
    · rw [e]; exact h.hist i h0
    · rw [e]; exact ⟨css, hd⟩
  · refine owns_block h.list (fun j hj => k.block j (owns_lt h.list j hj) (fun e => ?_))
    have ht := typ_own h.list j hj
    rcases e with e | e
    · exact absurd (typ_eq ht (typ_own h.m.list j e)) (by decide)
    · rw [e] at ht; exact absurd (typ_eq ht (typ_blk h.m.book.blk)) (by decide)
  · rcases hget i' hi' with ⟨h0, e⟩ | e
    · rw [e]; exact h.dis i hi i' h0 j hF
    · rw [e]
      intro e2
      have := hnew j e2
      have := (h.each i hi).pl.lt j hF
      omega
  · rcases hget i' hi' with ⟨h0, e2⟩ | e2
    · rw [e2] at e ⊢; exact h.pre i hi i' h0 e
    · rw [e2] at e
      have := hwn _ e
      have := typ_lt (h.each i hi).gwt
      omega

/-- A match has been turned. -/
theorem AInv.recd {d' : MD} {ev' : Value} {Q' : List Els} {css : List (List Cmd)} (h : AInv B w bk mv sv ev Q D X) (q : Nat) (hq : q < D.length) (hm : MInv B w' bk mv sv 6 ev' Q' (D.set q d')) (hd : Hist d' css) (hws : D[q].ws.length ≤ d'.ws.length)
    (hf : ∀ j, d'.foot j → D[q].foot j ∨ w.heap.size ≤ j) (k : Kept (fun j => D[q].foot j ∨ j = bk ∨ ev.ownBlock = some j) w w') (hold : ∀ b, D[q].wv.ownBlock = some b → OldRow w' b D[q].ws) : AInv B w' bk mv sv ev' Q' (D.set q d') X := by
  have oq := h.m.each q hq
  have hS : ∀ j, (D[q].foot j ∨ j = bk ∨ ev.ownBlock = some j) → D[q].wv.ownBlock = some j ∨ LTyp w j := by
    rintro j ((e | e | e | e | e) | e | e)
    · rw [e]; exact Or.inr (Or.inr (Or.inr (Or.inr (Or.inr (Or.inl (typ_blk oq.blk))))))
    · rw [e]; exact Or.inr (Or.inr (Or.inr (Or.inr (Or.inr (Or.inr (Or.inl (typ_blk oq.reco.blk)))))))
    · exact Or.inr (Or.inr (Or.inr (Or.inr (Or.inr (Or.inr (Or.inr (Or.inl (typ_ownF oq.reco.own j e))))))))
    · exact Or.inl e
    · exact Or.inr (Or.inr (Or.inr (Or.inr (Or.inr (Or.inr (Or.inr (Or.inr (typ_own oq.stands j e))))))))
    · rw [e]; exact Or.inr (Or.inr (Or.inl (typ_blk h.m.book.blk)))
    · exact Or.inr (Or.inr (Or.inr (Or.inl (typ_own h.m.book.own j e))))
  have hWt : ∀ j, D[q].wv.ownBlock = some j → typ w j 38 := fun j hj => typ_own oq.worlds j hj
  have hget : ∀ i (hi : i < (D.set q d').length), (D.set q d')[i] = if q = i then d' else D[i]'(by simpa using hi) := fun i hi => List.getElem_set hi
  have hwv : ∀ j, j < w.heap.size → typ w j 38 → d'.wv.ownBlock = some j → D[q].wv.ownBlock = some j := by
    intro j hj ht e
    rcases hf j (Or.inr (Or.inr (Or.inr (Or.inl e)))) with e2 | e2
    · rcases hS j (Or.inl e2) with e3 | e3
      · exact e3
      · exact (e3.not ht (by decide) (by decide) (by decide) (by decide) (by decide) (by decide) (by decide) (by decide)).elim
    · omega
  refine ⟨hm, fun i hi => ?_, ?_, h.llow, fun i hi => ?_, h.low, h.apart, h.sbs, fun i hi i' hi' j hF => ?_, fun i hi i' hi' e => ?_⟩
  · rw [hget i hi]
    split
    · exact ⟨css, hd⟩
    · exact h.hist i (by simpa using hi)
  · refine owns_block h.list (fun j hj => k.block j (owns_lt h.list j hj) (fun e => ?_))
    have ht := typ_own h.list j hj
    rcases e with e0 | e0 | e0
    · exact oq.not_typ j e0 _ ht (by decide) (by decide) (by decide) (by decide) (by decide)
    · rw [e0] at ht; exact absurd (typ_eq ht (typ_blk h.m.book.blk)) (by decide)
    · exact absurd (typ_eq ht (typ_own h.m.book.own j e0)) (by decide)
  · have o := h.each i hi
    refine o.keep k (fun e => ?_) (fun j hj hp e => ?_) ?_ (fun j hj e => ?_)
    · rcases hS _ e with e | e
      · exact absurd (typ_eq (typ_blk o.blk) (hWt _ e)) (by decide)
      · exact e.not (typ_blk o.blk) (by decide) (by decide) (by decide) (by decide) (by decide) (by decide) (by decide) (by decide)
    · rcases hS _ e with e | e
      · exact h.dis i hi q hq j hj (Or.inr (Or.inr (Or.inr (Or.inl e))))
      · exact e.noP hp
    · by_cases e : D[q].wv.ownBlock = some X[i].gw
      · obtain ⟨o1, o2⟩ := hold _ e
        refine ⟨o1, fun j hj => ?_⟩
        have hp := h.pre i hi q hq e
        obtain ⟨g, cp, hv⟩ : ∃ g cp, D[q].wv = .slice (some ⟨g, 0, none⟩) D[q].ws.length cp := by
          rcases oq.worlds.2 with ⟨_, h0⟩ | ⟨g, cp, _, e, _⟩
          · omega
          · exact ⟨g, cp, e⟩
        have hr := oq.worlds
        rw [hv] at hr e
        have e' : g = X[i].gw := by simpa [Value.ownBlock] using e
        subst e'
        have hjl : j < (rowW D[q].ws).length := by rw [rowW_length]; omega
        obtain ⟨u, hu⟩ : ∃ u, (rowW D[q].ws)[j]? = some u := ⟨_, List.getElem?_eq_getElem hjl⟩
        rw [o2 j u hu, row_cell hr j u hu]
      · have hn : ¬ (D[q].foot X[i].gw ∨ X[i].gw = bk ∨ ev.ownBlock = some X[i].gw) := fun e2 => by
          rcases hS _ e2 with e3 | e3
          · exact e e3
          · exact e3.not o.gwt (by decide) (by decide) (by decide) (by decide) (by decide) (by decide) (by decide) (by decide)
        exact ⟨typ_keep o.gwt k hn, fun j _ => cell_keep k (typ_lt o.gwt) hn⟩
    · rcases hS _ e with e | e
      · exact absurd (typ_eq hj (hWt _ e)) (by decide)
      · exact e.not hj (by decide) (by decide) (by decide) (by decide) (by decide) (by decide) (by decide) (by decide)
  · rw [hget i' hi']
    split
    · intro e
      have hlt := (h.each i hi).pl.lt j hF
      rcases hf j e with e2 | e2
      · exact h.dis i hi q hq j hF e2
      · omega
    · exact h.dis i hi i' (by simpa using hi') j hF
  · rw [hget i' hi'] at e ⊢
    split
    · rename_i e0
      rw [if_pos e0] at e
      have := h.pre i hi q hq (hwv _ (typ_lt (h.each i hi).gwt) (h.each i hi).gwt e)
      omega
    · rename_i e0
      rw [if_neg e0] at e
      exact h.pre i hi i' (by simpa using hi') e

/-- The types of what a player's step writes to. -/
def Away (w : World) (j : Nat) : Prop := typ w j 78 ∨ typ w j 127 ∨ typ w j 131 ∨ typ w j 91
theorem Away.not {w : World} {j : Nat} {T : TypeId} (h : Away w j) (ht : typ w j T) (h0 : T ≠ 78) (h1 : T ≠ 127) (h2 : T ≠ 131) (h3 : T ≠ 91) : False := by
  rcases h with h | h | h | h
  · exact h0 (typ_eq ht h)
  · exact h1 (typ_eq ht h)
  · exact h2 (typ_eq ht h)
  · exact h3 (typ_eq ht h)
theorem MInv.shown {S : Nat → Prop} {ms : Int} {ev' : Value} {Q' : List Els} (h : MInv B w bk mv sv ms ev Q D) (hB : B ≤ w.heap.size) (k : Kept S w w') (hS : ∀ j, S j → (j = bk ∨ ev.ownBlock = some j) ∨ (Away w j ∧ B ≤ j)) (hb : BookF w' bk mv sv ms ev' Q') (he : ∀ j, ev'.ownBlock = some j → ev.ownBlock = some j ∨ w.heap.size ≤ j) :
    MInv B w' bk mv sv ms ev' Q' D ∧ Kept (Far w B) w w' := by
  have tb : typ w bk 51 := typ_blk h.book.blk
  have te : ∀ j, ev.ownBlock = some j → typ w j 36 := fun j hj => typ_own h.book.own j hj
  have key : ∀ j T, typ w j T → T ≠ 51 → T ≠ 36 → T ≠ 78 → T ≠ 127 → T ≠ 131 → T ≠ 91 → ¬ S j := by
    intro j T ht h1 h2 h3 h4 h5 h6 e
    rcases hS j e with (e | e) | ⟨e, -⟩
    · rw [e] at ht; exact h1 (typ_eq ht tb)
    · exact h2 (typ_eq ht (te j e))
    · exact e.not ht h3 h4 h5 h6
  refine ⟨⟨hb, h.blow, fun j hj => ?_, owns_block h.list (fun j hj => k.block j (owns_lt h.list j hj) (key j _ (typ_own h.list j hj) (by decide) (by decide) (by decide) (by decide) (by decide) (by decide))), h.llow, fun i hi => ?_, h.low, h.apart⟩, k.mono (fun j _ e => ?_)⟩
  · rcases he j hj with e | e
    · exact h.elow j e
    · omega
  · have o := h.each i hi
    refine o.keep k (fun j hj => ?_) (fun j hj => key j _ hj (by decide) (by decide) (by decide) (by decide) (by decide) (by decide))
    rcases hj with e | e | e | e | e
    · rw [e]; exact key _ _ (typ_blk o.blk) (by decide) (by decide) (by decide) (by decide) (by decide) (by decide)
    · rw [e]; exact key _ _ (typ_blk o.reco.blk) (by decide) (by decide) (by decide) (by decide) (by decide) (by decide)
    · exact key _ _ (typ_ownF o.reco.own j e) (by decide) (by decide) (by decide) (by decide) (by decide) (by decide)
    · exact key _ _ (typ_own o.worlds j e) (by decide) (by decide) (by decide) (by decide) (by decide) (by decide)
    · exact key _ _ (typ_own o.stands j e) (by decide) (by decide) (by decide) (by decide) (by decide) (by decide)
  · refine ⟨?_, fun t => key j _ t (by decide) (by decide) (by decide) (by decide) (by decide) (by decide) e, fun t => key j _ t (by decide) (by decide) (by decide) (by decide) (by decide) (by decide) e⟩
    rcases hS j e with (e | e) | ⟨-, e⟩
    · rw [e]; exact h.blow
    · exact h.elow j e
    · exact e

/-- A player has shown a tick. -/
theorem AInv.played {S : Nat → Prop} {x' : SD} {ev' : Value} {Q' : List Els} (h : AInv B w bk mv sv ev Q D X) (hB : B ≤ w.heap.size) (q : Nat) (hq : q < X.length) (k : Kept S w w')
    (hS : ∀ j, S j → (j = bk ∨ ev.ownBlock = some j) ∨ ((j = X[q].pb ∨ Foot X[q].d.c X[q].d.r j) ∨ j = X[q].sb)) (hx : x'.Ok w') (hsb : x'.sb = X[q].sb) (hgw : x'.gw = X[q].gw) (hm' : x'.m = X[q].m) (hF : ∀ j, x'.F j → X[q].F j ∨ w.heap.size ≤ j)
    (hb : BookF w' bk mv sv 6 ev' Q') (he : ∀ j, ev'.ownBlock = some j → ev.ownBlock = some j ∨ w.heap.size ≤ j) : AInv B w' bk mv sv ev' Q' D (X.set q x') ∧ Kept (Far w B) w w' := by
  have oq := h.each q hq
  have hA : ∀ j, S j → (j = bk ∨ ev.ownBlock = some j) ∨ (Away w j ∧ B ≤ j) := by
    intro j e
    rcases hS j e with e | e | e
    · exact Or.inl e
    · refine Or.inr ⟨?_, h.low q hq j (Or.inl (oq.pl.wf j e))⟩
      rcases oq.pl.wtyp j e with e | e | e
      · exact Or.inl e
      · exact Or.inr (Or.inl e)
      · exact Or.inr (Or.inr (Or.inl e))
    · exact Or.inr ⟨by rw [e]; exact Or.inr (Or.inr (Or.inr (typ_blk oq.blk))), h.low q hq j (Or.inr e)⟩
  obtain ⟨hm, hfar⟩ := h.m.shown hB k hA hb he
  have tb : typ w bk 51 := typ_blk h.m.book.blk
  have te : ∀ j, ev.ownBlock = some j → typ w j 36 := fun j hj => typ_own h.m.book.own j hj
  have key : ∀ j T, typ w j T → T ≠ 51 → T ≠ 36 → T ≠ 78 → T ≠ 127 → T ≠ 131 → T ≠ 91 → ¬ S j := by
    intro j T ht h1 h2 h3 h4 h5 h6 e
    rcases hA j e with (e | e) | ⟨e, -⟩
    · rw [e] at ht; exact h1 (typ_eq ht tb)
    · exact h2 (typ_eq ht (te j e))
    · exact e.not ht h3 h4 h5 h6
  have hget : ∀ i (hi : i < (X.set q x').length), (X.set q x')[i] = if q = i then x' else X[i]'(by simpa using hi) := fun i hi => List.getElem_set hi
  refine ⟨⟨hm, h.hist, ?_, h.llow, fun i hi => ?_, fun i hi j => ?_, fun i hi i' hi' hne j => ?_, fun i hi i' hi' hne => ?_, fun i hi i' hi' j => ?_, fun i hi i' hi' => ?_⟩, hfar⟩
  · have e1 : (X.set q x').map ptrS = X.map ptrS := by
      rw [List.map_set]
      apply List.ext_getElem?
      intro i
      rw [List.getElem?_set]
      split
      · rename_i e
        subst e
        simp [hq, ptrS, hsb]
      · rfl
    rw [e1, List.length_set]
    exact owns_block h.list (fun j hj => k.block j (owns_lt h.list j hj) (key j _ (typ_own h.list j hj) (by decide) (by decide) (by decide) (by decide) (by decide) (by decide)))
  · rw [hget i hi]
    split
    · exact hx
    · rename_i e0
      have hi' : i < X.length := by simpa using hi
      have o := h.each i hi'
      have hg : ¬ S X[i].gw := key _ _ o.gwt (by decide) (by decide) (by decide) (by decide) (by decide) (by decide)
      refine o.keep k (fun e => ?_) (fun j hj hp e => ?_) ⟨typ_keep o.gwt k hg, fun j _ => cell_keep k (typ_lt o.gwt) hg⟩ (fun j hj => key j _ hj (by decide) (by decide) (by decide) (by decide) (by decide) (by decide))
      · have ht := typ_blk o.blk
        rcases hS _ e with (e | e) | e | e
        · rw [e] at ht; exact absurd (typ_eq ht tb) (by decide)
        · exact absurd (typ_eq ht (te _ e)) (by decide)
        · rcases oq.pl.wtyp _ e with e | e | e
          all_goals exact absurd (typ_eq ht e) (by decide)
        · exact h.sbs i hi' q hq (fun e => e0 e.symm) e
      · rcases hS _ e with (e | e) | e | e
        · rw [e] at hp
          rcases hp with hp | hp | hp | hp | hp | hp | hp
          all_goals exact absurd (typ_eq hp tb) (by decide)
        · rcases hp with hp | hp | hp | hp | hp | hp | hp
          all_goals exact absurd (typ_eq hp (te _ e)) (by decide)
        · exact h.apart q hq i hi' e0 j (oq.pl.wf j e) hj
        · have ht := typ_blk oq.blk
          rw [← e] at ht
          rcases hp with hp | hp | hp | hp | hp | hp | hp
          all_goals exact absurd (typ_eq hp ht) (by decide)
  · rw [hget i hi]
    split
    · rintro (e | e)
      · rcases hF j e with e | e
        · exact h.low q hq j (Or.inl e)
        · omega
      · exact h.low q hq j (Or.inr (by rw [e, hsb]))
    · exact h.low i (by simpa using hi) j
  · rw [hget i hi, hget i' hi']
    have hi2 : i < X.length := by simpa using hi
    have hi2' : i' < X.length := by simpa using hi'
    by_cases e1 : q = i
    · subst e1
      rw [if_pos rfl, if_neg hne]
      intro hj hj'
      rcases hF j hj with q1 | q1
      · exact h.apart q hi2 i' hi2' hne j q1 hj'
      · have := (h.each i' hi2').pl.lt j hj'; omega
    · rw [if_neg e1]
      by_cases e2 : q = i'
      · subst e2
        rw [if_pos rfl]
        intro hj hj'
        rcases hF j hj' with q1 | q1
        · exact h.apart i hi2 q hi2' hne j hj q1
        · have := (h.each i hi2).pl.lt j hj; omega
      · rw [if_neg e2]
        exact h.apart i hi2 i' hi2' hne j
  · rw [hget i hi, hget i' hi']
    have hi2 : i < X.length := by simpa using hi
    have hi2' : i' < X.length := by simpa using hi'
    by_cases e1 : q = i
    · subst e1
      rw [if_pos rfl, if_neg hne, hsb]
      exact h.sbs q hi2 i' hi2' hne
    · rw [if_neg e1]
      by_cases e2 : q = i'
      · subst e2
        rw [if_pos rfl, hsb]
        exact h.sbs i hi2 q hi2' hne
      · rw [if_neg e2]
        exact h.sbs i hi2 i' hi2' hne
  · rw [hget i hi]
    split
    · intro hj hf
      rcases hF j hj with e | e
      · exact h.dis q hq i' hi' j e hf
      · have := (h.m.each i' hi').lt j hf; omega
    · exact h.dis i (by simpa using hi) i' hi' j
  · rw [hget i hi]
    split
    · rw [hgw, hm']
      exact h.pre q hq i' hi'
    · exact h.pre i (by simpa using hi) i' hi'

/-- A show more. -/
theorem AInv.opened {w1 w2 : World} {x : SD} {sv' : Value} (h : AInv B w bk mv sv ev Q D X) (hB : B ≤ w.heap.size) (k1 : Kept (fun _ => False) w w1) (hx : x.Ok w1) (hnew : ∀ j, (x.F j ∨ j = x.sb) → w.heap.size ≤ j)
    (hpre : ∀ i' (h' : i' < D.length), D[i'].wv.ownBlock = some x.gw → x.m.cmds.length + 1 ≤ D[i'].ws.length)
    (k2 : Kept (fun j => sv.ownBlock = some j) w1 w2) (hown : w2.ownsRow 0 61 1 sv' (X.length + 1) (X.map ptrS ++ [ptrS x])) (hsv : ∀ j, sv'.ownBlock = some j → sv.ownBlock = some j ∨ w1.heap.size ≤ j) :
    w2.heap[bk]? = some (.cells #[mv, sv, ev, .slice none 0 0, .int .i64 6] 51 (0, 0)) ∧
    AInv B (w2.setCell ⟨bk, 1, none⟩ sv') bk mv sv' ev Q D (X ++ [x]) ∧ Kept (Far w B) w (w2.setCell ⟨bk, 1, none⟩ sv') := by
  have h1 := h.calm k1
  have tb : typ w1 bk 51 := typ_blk h1.m.book.blk
  have te : ∀ j, ev.ownBlock = some j → typ w1 j 36 := fun j hj => typ_own h1.m.book.own j hj
  have tl : ∀ j, sv.ownBlock = some j → typ w1 j 61 := fun j hj => typ_own h1.list j hj
  have hs1 := k1.size
  have hs2 := k2.size
  have hbk1 : bk < w1.heap.size := typ_lt tb
  have nb : ¬ sv.ownBlock = some bk := fun e => typ_ne (tl bk e) tb (by decide) rfl
  have hb2 : w2.heap[bk]? = some (.cells #[mv, sv, ev, .slice none 0 0, .int .i64 6] 51 (0, 0)) := by rw [k2.block bk hbk1 nb]; exact h1.m.book.blk
  have k3 : Kept (fun j => sv.ownBlock = some j ∨ j = bk) w1 (w2.setCell ⟨bk, 1, none⟩ sv') := k2.join (Kept.setCell w2 _ _) (fun _ _ e => Or.inl e) (fun _ _ e => Or.inr e)
  have hL : ∀ j, (sv.ownBlock = some j ∨ j = bk) → LTyp w1 j := by
    rintro j (e | e)
    · exact Or.inr (Or.inr (Or.inr (Or.inl (tl j e))))
    · rw [e]; exact Or.inr (Or.inl tb)
  have key : ∀ j T, typ w1 j T → T ≠ 61 → T ≠ 51 → ¬ (sv.ownBlock = some j ∨ j = bk) := by
    rintro j T ht h1 h2 (e | e)
    · exact h1 (typ_eq ht (tl j e))
    · rw [e] at ht; exact h2 (typ_eq ht tb)
  have hlen : (X ++ [x]).length = X.length + 1 := by simp
  have hget : ∀ i (hi : i < (X ++ [x]).length), (∃ h0 : i < X.length, (X ++ [x])[i] = X[i]) ∨ (i = X.length ∧ (X ++ [x])[i] = x) := by
    intro i hi
    by_cases h0 : i < X.length
    · exact Or.inl ⟨h0, List.getElem_append_left h0⟩
    · obtain rfl : i = X.length := by omega
      right
      rw [List.getElem_append_right (Nat.le_refl _)]
      simp
  have hm : MInv B (w2.setCell ⟨bk, 1, none⟩ sv') bk mv sv' 6 ev Q D := by
    refine ⟨⟨?_, ?_, ?_, ?_, h.m.book.short, h.m.book.four⟩, h.m.blow, h.m.elow, ?_, h.m.llow, ?_, h.m.low, h.m.apart⟩
    · have := row_set hb2 1 sv'
      simpa using this
    · exact owns_block h1.m.book.own (fun j hj => k3.block j (owns_lt h1.m.book.own j hj) (key j _ (te j hj) (by decide) (by decide)))
    · exact fun i hi => (h1.m.book.rows i hi).keep k3 (fun b off e => key b _ (h1.m.book.here i hi b ⟨off, e⟩) (by decide) (by decide))
    · exact fun i hi j hj => typ_keep (h1.m.book.here i hi j hj) k3 (key j _ (h1.m.book.here i hi j hj) (by decide) (by decide))
    · exact owns_block h1.m.list (fun j hj => k3.block j (owns_lt h1.m.list j hj) (key j _ (typ_own h1.m.list j hj) (by decide) (by decide)))
    · intro i hi
      have o := h1.m.each i hi
      refine o.keep k3 (fun j hj => ?_) (fun j hj => key j _ hj (by decide) (by decide))
      rcases hj with e | e | e | e | e
      · rw [e]; exact key _ _ (typ_blk o.blk) (by decide) (by decide)
      · rw [e]; exact key _ _ (typ_blk o.reco.blk) (by decide) (by decide)
      · exact key _ _ (typ_ownF o.reco.own j e) (by decide) (by decide)
      · exact key _ _ (typ_own o.worlds j e) (by decide) (by decide)
      · exact key _ _ (typ_own o.stands j e) (by decide) (by decide)
  refine ⟨hb2, ⟨hm, h.hist, ?_, fun j hj => ?_, fun i hi => ?_, fun i hi j => ?_, fun i hi i' hi' hne j => ?_, fun i hi i' hi' hne => ?_, fun i hi i' hi' j => ?_, fun i hi i' hi' => ?_⟩, ?_⟩
  · rw [hlen, List.map_append]
    refine owns_block hown (fun j hj => Below.heap_setCell _ _ _ _ ?_)
    show j ≠ bk
    rcases hsv j hj with e | e
    · rintro rfl; exact nb e
    · omega
  · rcases hsv j hj with e | e
    · exact h.llow j e
    · omega
  · rcases hget i hi with ⟨h0, e⟩ | ⟨-, e⟩
    · rw [e]; exact (h1.each i h0).law k3 hL
    · rw [e]; exact hx.law k3 hL
  · rcases hget i hi with ⟨h0, e⟩ | ⟨-, e⟩
    · rw [e]; exact h.low i h0 j
    · rw [e]
      intro hj
      have := hnew j hj
      omega
  · rcases hget i hi with ⟨h0, e⟩ | ⟨e0, e⟩ <;> rcases hget i' hi' with ⟨h0', e'⟩ | ⟨e0', e'⟩ <;> rw [e, e']
    · exact h.apart i h0 i' h0' hne j
    · intro hj hj'
      have := hnew j (Or.inl hj')
      have := (h.each i h0).pl.lt j hj
      omega
    · intro hj hj'
      have := hnew j (Or.inl hj)
      have := (h.each i' h0').pl.lt j hj'
      omega
    · omega
  · rcases hget i hi with ⟨h0, e⟩ | ⟨e0, e⟩ <;> rcases hget i' hi' with ⟨h0', e'⟩ | ⟨e0', e'⟩ <;> rw [e, e']
    · exact h.sbs i h0 i' h0' hne
    · have := hnew _ (Or.inr rfl)
      have := heap_lt (h.each i h0).blk
      omega
    · have := hnew _ (Or.inr rfl)
      have := heap_lt (h.each i' h0').blk
      omega
    · omega
  · rcases hget i hi with ⟨h0, e⟩ | ⟨-, e⟩ <;> rw [e]
    · exact h.dis i h0 i' hi' j
    · intro hj hf
      have := hnew j (Or.inl hj)
      have := (h.m.each i' hi').lt j hf
      omega
  · rcases hget i hi with ⟨h0, e⟩ | ⟨-, e⟩ <;> rw [e]
    · exact h.pre i h0 i' hi'
    · exact hpre i' hi'
  · refine k1.join k3 (fun _ _ e => e.elim) (fun j hj e => ?_)
    have up : ∀ T, typ w j T → typ w1 j T := fun T t => typ_keep t k1 (fun e => e)
    rcases e with e | e
    · exact ⟨h.llow j e, fun t => typ_ne (up _ t) (tl j e) (by decide) rfl, fun t => typ_ne (up _ t) (tl j e) (by decide) rfl⟩
    · exact ⟨by rw [e]; exact h.m.blow, fun t => typ_ne (up _ t) tb (by decide) e, fun t => typ_ne (up _ t) tb (by decide) e⟩
end
end Go.Proofs.YtlfmfhmbkpnjbaaGreatDoor

namespace Go.Proofs.YtlfmfhmbkpnjbaaGreatDoor
open Go.RowKit

theorem show_cells {w : World} {c : Nat} {a b d : Value} {T : TypeId} (h : w.heap[c]? = some (.cells #[a, b, d] T (0, 0))) : w.cell? ⟨c, 0, none⟩ = some a ∧ w.cell? ⟨c, 1, none⟩ = some b ∧ w.cell? ⟨c, 2, none⟩ = some d ∧ ∀ j, w.frozen? ⟨c, j, none⟩ = false := by
  simp [World.cell?, World.frozen?, h]

set_option maxHeartbeats 2000000 in
set_option maxRecDepth 100000 in
theorem shown_bad (bk : Nat) (x : SD) (to : Int) (bad : Bool) (w : World) (hx : x.Ok w) (h : bad = true ∨ to < 0 ∨ (x.m.cmds.length : Int) < to) :
    Calls Tryz.prog 34 #[.pointer (some ⟨bk, 0, none⟩), ptrS x, .agg #[.int .i64 0, .slice none 0 0], .int .i64 4, .int .i64 to, .bool bad] w fun e w' => e = .returned (.bool true) ∧ Kept (fun _ => False) w w' := by
  have A0 : Hid ((w.alloc (.cells #[.int .i64 0, .slice none 0 0] 38)).heap[w.heap.size]? = some (.cells #[.int .i64 0, .slice none 0 0] 38 (0, 0))) := heap_alloc_new w _
  have KA := hide (Kept.alloc w (.cells #[.int .i64 0, .slice none 0 0] 38))
  have HX := hide (hx.calm KA.out)
  clear hx
  unfold ptrS
  have SM : Hid (∀ w : World, Calls Tryz.prog 59 #[.agg #[.int .i64 0, .slice none 0 0], .agg #[.int .i64 0, .slice none 0 0]] w fun e w' => e = .returned (.bool true) ∧ Kept (fun _ => False) w w') := fun w => same_c 0 none none 0 0 [] w (fun e => absurd rfl e) (fun e => absurd rfl e) (by decide) (fun m hm => by cases hm)
  cases bad with
  | true =>
    clear h
    go_enter Tryz.func34, Tryz.ntmps34
    go_wp2_with fail
    refine (SM.out _).mono ?_
    rintro e w1 ⟨rfl, k1⟩
    have K1 := hide (KA.out.calm2 k1)
    clear k1
    go_wp2
    go_ret
    exact ⟨rfl, K1.out⟩
  | false =>
    by_cases h0 : to < 0
    · clear h
      go_enter Tryz.func34, Tryz.ntmps34
      go_wp2_with fail
      refine (SM.out _).mono ?_
      rintro e w1 ⟨rfl, k1⟩
      have K1 := hide (KA.out.calm2 k1)
      clear k1
      go_wp2
      go_ret
      exact ⟨rfl, K1.out⟩
    · have h1 : (x.m.cmds.length : Int) + 1 ≤ to := by
        rcases h with h | h | h
        · cases h
        · omega
        · omega
      have h2 : ((x.m.cmds.length + 1 : Nat) : Int) ≤ to := by omega
      clear h
      obtain ⟨c0, c1, c2, -⟩ := show_cells HX.out.blk
      go_enter Tryz.func34, Tryz.ntmps34
      go_wp2_with fail
      refine (SM.out _).mono ?_
      rintro e w1 ⟨rfl, k1⟩
      have K1 := hide (KA.out.calm2 k1)
      clear k1
      go_wp2
      go_ret
      exact ⟨rfl, K1.out⟩

set_option maxHeartbeats 2000000 in
set_option maxRecDepth 100000 in
theorem shown_ok (bk sb pb gw cap M k t : Nat) (mv sv ev : Value) (Q : List Els) (L : List Mob) (q pw : Option Addr) (cq cw : Nat) (w : World) (ht : t ≤ M) (hb : BookF w bk mv sv 6 ev Q) (hQ : Q.length ≤ 1000000000)
    (hs : w.heap[sb]? = some (.cells #[.pointer (some ⟨pb, 0, none⟩), .slice (some ⟨gw, 0, none⟩) (M + 1) cap, .int .i64 (k : Int)] 91 (0, 0))) (hg : gw < w.heap.size)
    (h0 : w.cell? ⟨gw, t * 2, none⟩ = some (.int .i64 (t : Int))) (h1 : w.cell? ⟨gw, t * 2 + 1, none⟩ = some (.slice pw L.length cw)) (hr : Reads w pw L) (hrq : Reads w q L) (hraw : Raw w q L.length cq) (hl : L.length ≤ 32) (hL : ∀ m ∈ L, eqM m m = true)
    (hgQ : ∀ i (h : i < Q.length) j, HB Q[i].1 j → ¬ HB q j) :
    Calls Tryz.prog 34 #[.pointer (some ⟨bk, 0, none⟩), .pointer (some ⟨sb, 0, none⟩), .agg #[.int .i64 (t : Int), .slice q L.length cq], .int .i64 0, .int .i64 (t : Int), .bool false] w fun e w' => e = .returned (.bool true) ∧
      ∃ ev' Q', BookF w' bk mv sv 6 ev' Q' ∧ Q'.length = Q.length + 4 ∧ w'.heap[sb]? = some (.cells #[.pointer (some ⟨pb, 0, none⟩), .slice (some ⟨gw, 0, none⟩) (M + 1) cap, .int .i64 (t : Int)] 91 (0, 0)) ∧
        Kept (fun j => HB q j ∨ j = bk ∨ ev.ownBlock = some j ∨ j = sb) w w' ∧ ∀ j, ev'.ownBlock = some j → ev.ownBlock = some j ∨ w.heap.size ≤ j := by
  have A0 : Hid ((w.alloc (.cells #[.int .i64 (t : Int), .slice q L.length cq] 38)).heap[w.heap.size]? = some (.cells #[.int .i64 (t : Int), .slice q L.length cq] 38 (0, 0))) := heap_alloc_new w _
  have KA := hide (Kept.alloc w (.cells #[.int .i64 (t : Int), .slice q L.length cq] 38))
  have H := hide (And.intro hb (And.intro hs (And.intro h0 (And.intro h1 (And.intro hr (And.intro hrq (And.intro hraw (And.intro hL hgQ))))))))
  have hsl := heap_lt hs
  obtain ⟨z0, z1, z2, -⟩ := show_cells hs
  clear hb hs hr hrq hraw hL hgQ
  have n0 : ¬ (t : Int) < 0 := by omega
  have n1 : ¬ (M : Int) + 1 ≤ (t : Int) := by omega
  have n2 : ¬ ((M + 1 : Nat) : Int) ≤ (t : Int) := by omega
  have n3 : (0 : Int) ≤ (t : Int) := by omega
  have n4 : (t : Int) < (M : Int) + 1 := by omega
  have n5 : (t : Int) < ((M + 1 : Nat) : Int) := by omega
  obtain ⟨wA, hwA⟩ : ∃ wA, w.alloc (.cells #[.int .i64 (t : Int), .slice q L.length cq] 38) = wA := ⟨_, rfl⟩
  have BA : Hid (BookF wA bk mv sv 6 ev Q) := by rw [← hwA]; exact H.out.1.still KA.out
  have SA : Hid (wA.heap[sb]? = some (.cells #[.pointer (some ⟨pb, 0, none⟩), .slice (some ⟨gw, 0, none⟩) (M + 1) cap, .int .i64 (k : Int)] 91 (0, 0))) := by show _ = _; rw [← hwA, KA.out.block _ hsl (fun e => e)]; exact H.out.2.1
  have RA : Hid (Reads wA pw L ∧ Reads wA q L) := by rw [← hwA]; exact ⟨H.out.2.2.2.2.1.calm KA.out, H.out.2.2.2.2.2.1.calm KA.out⟩
  have WA : Hid (Raw wA q L.length cq) := by rw [← hwA]; exact H.out.2.2.2.2.2.2.1.keep KA.out (fun _ _ e => e)
  have CE : Hid (∀ w', Kept (fun _ => False) wA w' → w'.heap[w.heap.size]? = some (.cells #[.int .i64 (t : Int), .slice q L.length cq] 38 (0, 0)) ∧ w'.heap[sb]? = some (.cells #[.pointer (some ⟨pb, 0, none⟩), .slice (some ⟨gw, 0, none⟩) (M + 1) cap, .int .i64 (k : Int)] 91 (0, 0)) ∧ w'.cell? ⟨gw, t * 2, none⟩ = some (.int .i64 (t : Int)) ∧ w'.cell? ⟨gw, t * 2 + 1, none⟩ = some (.slice pw L.length cw)) := fun w' kk => by
    have k2 : Kept (fun _ => False) w w' := by rw [← hwA] at kk; exact KA.out.calm2 kk
    refine ⟨?_, by rw [k2.block _ hsl (fun e => e)]; exact H.out.2.1, by rw [cell_keep k2 hg (fun e => e)]; exact H.out.2.2.1, by rw [cell_keep k2 hg (fun e => e)]; exact H.out.2.2.2.1⟩
    have : w.heap.size < wA.heap.size := by rw [← hwA]; simp
    rw [kk.block _ this (fun e => e), ← hwA]
    exact A0.out
  have KW : Hid (Kept (fun _ => False) w wA) := by rw [← hwA]; exact KA.out
  have hsA : wA.heap.size = w.heap.size + 1 := by rw [← hwA]; simp
  have HL := hide H.out.2.2.2.2.2.2.2.1
  have HG := hide H.out.2.2.2.2.2.2.2.2
  clear H KA A0
  clear z0 z1 z2 h0 h1
  obtain ⟨e1, e2, c6, c7⟩ := CE.out wA (Kept.refl _ _)
  obtain ⟨c0, c1, -, -⟩ := two_cells e1
  obtain ⟨c3, c4, c5, -⟩ := show_cells e2
  clear e1 e2
  go_enter Tryz.func34, Tryz.ntmps34
  go_wp2_with fail
  clear hwA
  go_region_held3 (fun w' => w'.cell? ⟨w.heap.size, 0, none⟩ = some (.int .i64 (t : Int)) ∧ w'.cell? ⟨w.heap.size, 1, none⟩ = some (.slice q L.length cq) ∧ w'.cell? ⟨sb, 1, none⟩ = some (.slice (some ⟨gw, 0, none⟩) (M + 1) cap) ∧ w'.cell? ⟨gw, t * 2, none⟩ = some (.int .i64 (t : Int)) ∧ w'.cell? ⟨gw, t * 2 + 1, none⟩ = some (.slice pw L.length cw)) (go_keep)
    ((go_at_call 59; refine (same_c (t : Int) q pw cq cw L wA.drew (RA.out.2.calm (Kept.drew wA)) (RA.out.1.calm (Kept.drew wA)) hl HL.out).mono ?_; rintro e w1 ⟨rfl, k1⟩; have K1 := hide ((Kept.drew wA).calm2 k1); clear k1 c0 c1 c3 c4 c5 c6 c7; obtain ⟨e1, e2, u6, u7⟩ := CE.out w1 K1.out; obtain ⟨u0, u1, -, -⟩ := two_cells e1; obtain ⟨u3, u4, u5, -⟩ := show_cells e2; clear e1 e2))
  all_goals
    have B1 := hide (BA.out.still K1.out)
    have W1 := hide (WA.out.keep K1.out (fun _ _ e => e))
    have E1 := hide (CE.out w1 K1.out)
    have KW1 := hide (KW.out.calm2 K1.out)
    have hs1 := K1.out.size
    have hsw := KW1.out.size
    clear BA RA WA CE KW SA
    go_wp2
    go_region_held3 (fun w' => w'.cell? ⟨w.heap.size, 1, none⟩ = some (.slice q L.length cq)) (go_keep)
      ((go_at_call 61; refine (keepF bk L.length cq mv sv 6 q ev Q w1.drew (by omega) (by omega) (B1.out.still (Kept.drew w1)) (W1.out.keep (Kept.drew w1) (fun _ _ e => e)) HG.out).mono ?_; rintro e w2 ⟨rfl, ev', Q', hb', hQ', ke0, hev0⟩; have HB2 := hide hb'; have KE : Hid (Kept (fun j => HB q j ∨ j = bk ∨ ev.ownBlock = some j) w1 w2) := (Kept.drew w1).join ke0 (fun _ _ e => e.elim) (fun _ _ e => e); have HV := hide hev0; have f1 : w2.cell? ⟨w.heap.size, 1, none⟩ = some (.slice q L.length cq) := (by rw [cell_keep KE.out (heap_lt E1.out.1) (fun e => by rcases e with e | e | e; (· exact typ_ne (W1.out.typ _ e) (typ_blk E1.out.1) (by decide) rfl); (· exact typ_ne (typ_blk B1.out.blk) (typ_blk E1.out.1) (by decide) e.symm); (· exact typ_ne (typ_own B1.out.own _ e) (typ_blk E1.out.1) (by decide) rfl))]; exact u1); clear hb' ke0 hev0))
    have S2 : Hid (w2.heap[sb]? = some (.cells #[.pointer (some ⟨pb, 0, none⟩), .slice (some ⟨gw, 0, none⟩) (M + 1) cap, .int .i64 (k : Int)] 91 (0, 0))) := by
      show _ = _
      rw [KE.out.block _ (heap_lt E1.out.2.1) (fun e => by
        rcases e with e | e | e
        · exact typ_ne (W1.out.typ _ e) (typ_blk E1.out.2.1) (by decide) rfl
        · exact typ_ne (typ_blk B1.out.blk) (typ_blk E1.out.2.1) (by decide) e.symm
        · exact typ_ne (typ_own B1.out.own _ e) (typ_blk E1.out.2.1) (by decide) rfl)]
      exact E1.out.2.1
    have S3 : Hid ((w2.setCell ⟨sb, 2, none⟩ (.int .i64 (t : Int))).heap[sb]? = some (.cells #[.pointer (some ⟨pb, 0, none⟩), .slice (some ⟨gw, 0, none⟩) (M + 1) cap, .int .i64 (t : Int)] 91 (0, 0))) := by
      have := row_set S2.out 2 (.int .i64 (t : Int))
      show _ = _
      simpa using this
    have B3 : Hid (BookF (w2.setCell ⟨sb, 2, none⟩ (.int .i64 (t : Int))) bk mv sv 6 ev' Q') := HB2.out.keep (Kept.setCell w2 ⟨sb, 2, none⟩ (.int .i64 (t : Int))) (typ_ne (typ_blk HB2.out.blk) (typ_blk S2.out) (by decide)) (fun j hj => typ_ne (typ_own HB2.out.own j hj) (typ_blk S2.out) (by decide)) (fun j hj => typ_ne hj (typ_blk S2.out) (by decide))
    have K3 : Hid (Kept (fun j => HB q j ∨ j = bk ∨ ev.ownBlock = some j ∨ j = sb) w (w2.setCell ⟨sb, 2, none⟩ (.int .i64 (t : Int)))) := KW1.out.join (KE.out.join (Kept.setCell w2 ⟨sb, 2, none⟩ (.int .i64 (t : Int))) (R := fun j => HB q j ∨ j = bk ∨ ev.ownBlock = some j ∨ j = sb) (fun j _ e => by
      rcases e with e | e | e
      · exact Or.inl e
      · exact Or.inr (Or.inl e)
      · exact Or.inr (Or.inr (Or.inl e))) (fun j _ e => Or.inr (Or.inr (Or.inr e)))) (fun _ _ e => e.elim) (fun _ _ e => e)
    obtain ⟨s0, s1, s2, sf⟩ := show_cells S2.out
    clear u0 u1 u3 u4 u5 u6 u7 f1
    go_wp2
    go_ret
    exact ⟨rfl, ev', Q', B3.out, hQ', S3.out, K3.out, fun j hj => by
      rcases HV.out j hj with e | e
      · exact Or.inl e
      · exact Or.inr (by have e2 : w1.heap.size ≤ j := e; omega)⟩
end Go.Proofs.YtlfmfhmbkpnjbaaGreatDoor
