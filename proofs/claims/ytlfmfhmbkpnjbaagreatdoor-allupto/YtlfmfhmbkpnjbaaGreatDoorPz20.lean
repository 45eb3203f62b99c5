import Derived.Test.YtlfmfhmbkpnjbaaGreatDoorPz19
namespace Go.Proofs.YtlfmfhmbkpnjbaaGreatDoor
open Go.RowKit

/-- A match while it is being turned: 'fl' is the file that it knows. -/
structure MD.Pre (w : World) (d : MD) (fl : List UInt8) : Prop where
  blk : w.heap[d.mb]? = some (.cells #[.pointer (some ⟨d.rb, 0, none⟩), d.wv, d.stv, .string ⟨fl.toArray⟩] 134 (0, 0))
  reco : Rec w d.rb (.int .i64 d.ev) (.int .i64 d.now.t) (.slice d.now.p d.now.L.length d.now.cap) d.ad d.buf d.s
  nowOk : d.now.Ok w
  worlds : w.ownsRow 0 38 2 d.wv d.ws.length (rowW d.ws)
  each : ∀ x ∈ d.ws, x.Ok w
  stands : w.ownsRow 0 3 1 d.stv d.ys.length (rowN d.ys)

/-- Where the walk stands. -/
structure MS (w wf : World) (bk : Nat) (mv sv : Value) (ms : Int) (ev ev' : Value) (Q' : List Els) (d d' : MD) (fl : List UInt8) : Prop where
  pre : d'.Pre wf fl
  kept : Kept (fun j => d.foot j ∨ j = bk ∨ ev.ownBlock = some j) w wf
  book : BookF wf bk mv sv ms ev' Q'
  foot : ∀ j, d'.foot j → d.foot j ∨ w.heap.size ≤ j
  nev : ∀ j, ev'.ownBlock = some j → ev.ownBlock = some j ∨ w.heap.size ≤ j

section
variable {w wf w1 : World} {bk : Nat} {mv sv : Value} {ms : Int} {ev ev' : Value} {Q' : List Els} {d d' : MD} {fl : List UInt8}

/-- What is of another type than those that are turned stays. -/
theorem MD.Pre.keep {X : Nat → Prop} (h : d'.Pre wf fl) (k : Kept X wf w1) (hm : ¬ X d'.mb) (hr : ¬ X d'.rb) (hb : ∀ j, d'.buf.ownBlock = some j → ¬ X j) (hw : ∀ j, d'.wv.ownBlock = some j → ¬ X j) (hs : ∀ j, d'.stv.ownBlock = some j → ¬ X j) (he : ∀ j, typ wf j 83 → ¬ X j) : d'.Pre w1 fl where
  blk := by rw [k.block _ (heap_lt h.blk) hm]; exact h.blk
  reco := h.reco.keep k hr hb
  nowOk := h.nowOk.keep k he
  worlds := owns_block h.worlds (fun j hj => k.block j (owns_lt h.worlds j hj) (hw j hj))
  each := fun x hx => (h.each x hx).keep k he
  stands := owns_block h.stands (fun j hj => k.block j (owns_lt h.stands j hj) (hs j hj))

theorem MS.calm (h : MS w wf bk mv sv ms ev ev' Q' d d' fl) (k : Kept (fun _ => False) wf w1) : MS w w1 bk mv sv ms ev ev' Q' d d' fl :=
  ⟨h.pre.keep k (fun e => e) (fun e => e) (fun _ _ e => e) (fun _ _ e => e) (fun _ _ e => e) (fun _ _ e => e), h.kept.join k (fun _ _ e => e) (fun _ _ e => e.elim), h.book.still k, h.foot, h.nev⟩

/-- A new row of worlds, stored. -/
theorem MS.worlds {wv' : Value} {y : Wd} (h : MS w wf bk mv sv ms ev ev' Q' d d' fl) (hy : y.Ok wf) (k : Kept (fun j => d'.wv.ownBlock = some j) wf w1) (hown : w1.ownsRow 0 38 2 wv' (d'.ws.length + 1) (rowW d'.ws ++ rowW [y])) (hg : ∀ j, wv'.ownBlock = some j → d'.wv.ownBlock = some j ∨ wf.heap.size ≤ j) :
    w1.heap[d'.mb]? = some (.cells #[.pointer (some ⟨d'.rb, 0, none⟩), d'.wv, d'.stv, .string ⟨fl.toArray⟩] 134 (0, 0)) ∧
    MS w (w1.setCell ⟨d'.mb, 1, none⟩ wv') bk mv sv ms ev ev' Q' d { d' with wv := wv', ws := d'.ws ++ [y] } fl := by
  have p := h.pre
  have tM := typ_blk p.blk
  have tR := typ_blk p.reco.blk
  have tU : ∀ j, d'.buf.ownBlock = some j → typ wf j 5 := fun j hj => typ_ownF p.reco.own j hj
  have tW : ∀ j, d'.wv.ownBlock = some j → typ wf j 38 := fun j hj => typ_own p.worlds j hj
  have tI : ∀ j, d'.stv.ownBlock = some j → typ wf j 3 := fun j hj => typ_own p.stands j hj
  have nm : ¬ d'.wv.ownBlock = some d'.mb := fun e => typ_ne (tW _ e) tM (by decide) rfl
  have hb1 : w1.heap[d'.mb]? = some (.cells #[.pointer (some ⟨d'.rb, 0, none⟩), d'.wv, d'.stv, .string ⟨fl.toArray⟩] 134 (0, 0)) := by rw [k.block _ (heap_lt p.blk) nm]; exact p.blk
  have kk : Kept (fun j => d'.wv.ownBlock = some j ∨ j = d'.mb) wf (w1.setCell ⟨d'.mb, 1, none⟩ wv') := k.join (Kept.setCell w1 _ _) (fun _ _ e => Or.inl e) (fun _ _ e => Or.inr e)
  have far : ∀ j T, T ≠ 38 → T ≠ 134 → typ wf j T → ¬ (d'.wv.ownBlock = some j ∨ j = d'.mb) := by
    rintro j T h1 h2 ht (e | e)
    · exact typ_ne ht (tW j e) h1 rfl
    · exact typ_ne ht tM h2 e
  refine ⟨hb1, ⟨⟨?_, ?_, ?_, ?_, ?_, ?_⟩, ?_, ?_, ?_, h.nev⟩⟩
  · have := row_set hb1 1 wv'
    simpa using this
  · exact p.reco.keep kk (far _ _ (by decide) (by decide) tR) (fun j hj => far _ _ (by decide) (by decide) (tU j hj))
  · exact p.nowOk.keep kk (fun j hj => far _ _ (by decide) (by decide) hj)
  · show (w1.setCell ⟨d'.mb, 1, none⟩ wv').ownsRow 0 38 2 wv' (d'.ws ++ [y]).length (rowW (d'.ws ++ [y]))
    rw [List.length_append, rowW_append]
    refine owns_block hown (fun j hj => Below.heap_setCell _ _ _ _ ?_)
    show j ≠ d'.mb
    rcases hg j hj with e | e
    · rintro rfl; exact nm e
    · have := heap_lt p.blk; omega
  · intro x hx
    have hx' : x ∈ d'.ws ++ [y] := hx
    rcases List.mem_append.1 hx' with e | e
    · exact (p.each x e).keep kk (fun j hj => far _ _ (by decide) (by decide) hj)
    · obtain rfl : x = y := by simpa using e
      exact hy.keep kk (fun j hj => far _ _ (by decide) (by decide) hj)
  · exact owns_block p.stands (fun j hj => kk.block j (owns_lt p.stands j hj) (far _ _ (by decide) (by decide) (tI j hj)))
  · refine h.kept.join kk (fun _ _ e => e) (fun j hj e => ?_)
    have : d'.foot j := by
      rcases e with e | e
      · exact Or.inr (Or.inr (Or.inr (Or.inl e)))
      · exact Or.inl e
    rcases h.foot j this with e | e
    · exact Or.inl e
    · omega
  · exact h.book.keep kk (far _ _ (by decide) (by decide) (typ_blk h.book.blk)) (fun j hj => far _ _ (by decide) (by decide) (typ_own h.book.own j hj)) (fun j hj => far _ _ (by decide) (by decide) hj)
  · intro j hj
    rcases hj with e | e | e | e | e
    · exact h.foot j (Or.inl e)
    · exact h.foot j (Or.inr (Or.inl e))
    · exact h.foot j (Or.inr (Or.inr (Or.inl e)))
    · rcases hg j e with e | e
      · exact h.foot j (Or.inr (Or.inr (Or.inr (Or.inl e))))
      · have := h.kept.size
        exact Or.inr (by omega)
    · exact h.foot j (Or.inr (Or.inr (Or.inr (Or.inr e))))

/-- A new row of lengths, stored. -/
theorem MS.stands {sv' : Value} {n : Nat} (h : MS w wf bk mv sv ms ev ev' Q' d d' fl) (k : Kept (fun j => d'.stv.ownBlock = some j) wf w1) (hown : w1.ownsRow 0 3 1 sv' (d'.ys.length + 1) (rowN d'.ys ++ [.int .i64 (n : Int)])) (hg : ∀ j, sv'.ownBlock = some j → d'.stv.ownBlock = some j ∨ wf.heap.size ≤ j) :
    w1.heap[d'.mb]? = some (.cells #[.pointer (some ⟨d'.rb, 0, none⟩), d'.wv, d'.stv, .string ⟨fl.toArray⟩] 134 (0, 0)) ∧
    MS w (w1.setCell ⟨d'.mb, 2, none⟩ sv') bk mv sv ms ev ev' Q' d { d' with stv := sv', ys := d'.ys ++ [n] } fl := by
  have p := h.pre
  have tM := typ_blk p.blk
  have tR := typ_blk p.reco.blk
  have tU : ∀ j, d'.buf.ownBlock = some j → typ wf j 5 := fun j hj => typ_ownF p.reco.own j hj
  have tW : ∀ j, d'.wv.ownBlock = some j → typ wf j 38 := fun j hj => typ_own p.worlds j hj
  have tI : ∀ j, d'.stv.ownBlock = some j → typ wf j 3 := fun j hj => typ_own p.stands j hj
  have nm : ¬ d'.stv.ownBlock = some d'.mb := fun e => typ_ne (tI _ e) tM (by decide) rfl
  have hb1 : w1.heap[d'.mb]? = some (.cells #[.pointer (some ⟨d'.rb, 0, none⟩), d'.wv, d'.stv, .string ⟨fl.toArray⟩] 134 (0, 0)) := by rw [k.block _ (heap_lt p.blk) nm]; exact p.blk
  have kk : Kept (fun j => d'.stv.ownBlock = some j ∨ j = d'.mb) wf (w1.setCell ⟨d'.mb, 2, none⟩ sv') := k.join (Kept.setCell w1 _ _) (fun _ _ e => Or.inl e) (fun _ _ e => Or.inr e)
  have far : ∀ j T, T ≠ 3 → T ≠ 134 → typ wf j T → ¬ (d'.stv.ownBlock = some j ∨ j = d'.mb) := by
    rintro j T h1 h2 ht (e | e)
    · exact typ_ne ht (tI j e) h1 rfl
    · exact typ_ne ht tM h2 e
  refine ⟨hb1, ⟨⟨?_, ?_, ?_, ?_, ?_, ?_⟩, ?_, ?_, ?_, h.nev⟩⟩
  · have := row_set hb1 2 sv'
    simpa using this
  · exact p.reco.keep kk (far _ _ (by decide) (by decide) tR) (fun j hj => far _ _ (by decide) (by decide) (tU j hj))
  · exact p.nowOk.keep kk (fun j hj => far _ _ (by decide) (by decide) hj)
  · exact owns_block p.worlds (fun j hj => kk.block j (owns_lt p.worlds j hj) (far _ _ (by decide) (by decide) (tW j hj)))
  · exact fun x hx => (p.each x hx).keep kk (fun j hj => far _ _ (by decide) (by decide) hj)
  · show (w1.setCell ⟨d'.mb, 2, none⟩ sv').ownsRow 0 3 1 sv' (d'.ys ++ [n]).length (rowN (d'.ys ++ [n]))
    rw [List.length_append, show rowN (d'.ys ++ [n]) = rowN d'.ys ++ [.int .i64 (n : Int)] from by simp [rowN]]
    refine owns_block hown (fun j hj => Below.heap_setCell _ _ _ _ ?_)
    show j ≠ d'.mb
    rcases hg j hj with e | e
    · rintro rfl; exact nm e
    · have := heap_lt p.blk; omega
  · refine h.kept.join kk (fun _ _ e => e) (fun j hj e => ?_)
    have : d'.foot j := by
      rcases e with e | e
      · exact Or.inr (Or.inr (Or.inr (Or.inr e)))
      · exact Or.inl e
    rcases h.foot j this with e | e
    · exact Or.inl e
    · omega
  · exact h.book.keep kk (far _ _ (by decide) (by decide) (typ_blk h.book.blk)) (fun j hj => far _ _ (by decide) (by decide) (typ_own h.book.own j hj)) (fun j hj => far _ _ (by decide) (by decide) hj)
  · intro j hj
    rcases hj with e | e | e | e | e
    · exact h.foot j (Or.inl e)
    · exact h.foot j (Or.inr (Or.inl e))
    · exact h.foot j (Or.inr (Or.inr (Or.inl e)))
    · exact h.foot j (Or.inr (Or.inr (Or.inr (Or.inl e))))
    · rcases hg j e with e | e
      · exact h.foot j (Or.inr (Or.inr (Or.inr (Or.inr e))))
      · have := h.kept.size
        exact Or.inr (by omega)

/-- The file, stored. -/
theorem MS.file (h : MS w wf bk mv sv ms ev ev' Q' d d' fl) (fl' : List UInt8) : MS w (wf.setCell ⟨d'.mb, 3, none⟩ (.string ⟨fl'.toArray⟩)) bk mv sv ms ev ev' Q' d d' fl' := by
  have p := h.pre
  have tM := typ_blk p.blk
  have kk : Kept (fun j => j = d'.mb) wf (wf.setCell ⟨d'.mb, 3, none⟩ (.string ⟨fl'.toArray⟩)) := Kept.setCell wf ⟨d'.mb, 3, none⟩ _
  have far : ∀ j T, T ≠ 134 → typ wf j T → ¬ (j = d'.mb) := fun j T h1 ht e => typ_ne ht tM h1 e
  refine ⟨⟨?_, ?_, ?_, ?_, ?_, ?_⟩, ?_, ?_, h.foot, h.nev⟩
  · have := row_set p.blk 3 (.string ⟨fl'.toArray⟩)
    simpa using this
  · exact p.reco.keep kk (far _ _ (by decide) (typ_blk p.reco.blk)) (fun j hj => far _ _ (by decide) (typ_ownF p.reco.own j hj))
  · exact p.nowOk.keep kk (fun j hj => far _ _ (by decide) hj)
  · exact owns_block p.worlds (fun j hj => kk.block j (owns_lt p.worlds j hj) (far _ _ (by decide) (typ_own p.worlds j hj)))
  · exact fun x hx => (p.each x hx).keep kk (fun j hj => far _ _ (by decide) hj)
  · exact owns_block p.stands (fun j hj => kk.block j (owns_lt p.stands j hj) (far _ _ (by decide) (typ_own p.stands j hj)))
  · refine h.kept.join kk (fun _ _ e => e) (fun j hj e => ?_)
    rcases h.foot j (Or.inl e) with e | e
    · exact Or.inl e
    · omega
  · exact h.book.keep kk (far _ _ (by decide) (typ_blk h.book.blk)) (fun j hj => far _ _ (by decide) (typ_own h.book.own j hj)) (fun j hj => far _ _ (by decide) hj)
end

theorem MD.Pre.ok {w : World} {d : MD} (p : d.Pre w d.s) (last : ∃ r x, d.ws = r ++ [x] ∧ x.t = d.now.t ∧ x.L = d.now.L) (len : (d.ws.length : Int) = d.now.t + 1) (ylen : d.ys.length = d.ws.length) (long : (d.s.length : Int) ≤ 15001 * d.now.t + 1000) (ne : d.s ≠ []) (every : 1 ≤ d.ev ∧ d.ev ≤ 64) : d.Ok w :=
  ⟨p.blk, p.reco, p.nowOk, p.worlds, p.each, last, p.stands, len, ylen, long, ne, every⟩

/-- The first state: behind 'Record', the reference's step, 'keep' and 'File'. -/
theorem ms_of {w wl wk we wf : World} {bk : Nat} {mv sv : Value} {ms : Int} {ev ev' : Value} {Q Q' : List Els} {d : MD} {cs : List Cmd} {S : Sn} {q : Option Addr} {cq : Nat} {now' : Wd} {ad' buf' : Value} {s' : List UInt8}
    (hd : d.Ok w) (kl : Kept (fun _ => False) w wl) (P : RecPost wl wk d.rb d.ev d.now d.buf d.s cs S q cq now' ad' buf' s') (bkk : BookF wk bk mv sv ms ev Q) (ke : Kept (fun j => HB q j ∨ j = bk ∨ ev.ownBlock = some j) wk we)
    (hbe : BookF we bk mv sv ms ev' Q') (hv : ∀ j, ev'.ownBlock = some j → ev.ownBlock = some j ∨ wk.heap.size ≤ j) (kf : Kept (fun j => buf'.ownBlock = some j) we wf) (rf : Rec wf d.rb (.int .i64 d.ev) (.int .i64 now'.t) (.slice now'.p now'.L.length now'.cap) ad' buf' s') :
    MS w wf bk mv sv ms ev ev' Q' d { d with ad := ad', buf := buf', s := s', now := now' } d.s := by
  have hs1 := kl.size
  have hs2 := P.kept.size
  have nX : ∀ j T, T ≠ 83 → T ≠ 51 → T ≠ 36 → typ wk j T → ¬ (HB q j ∨ j = bk ∨ ev.ownBlock = some j) := by
    rintro j T h1 h2 h3 ht (e | e | e)
    · exact typ_ne ht (P.raw.typ j e) h1 rfl
    · exact typ_ne ht (typ_blk bkk.blk) h2 e
    · exact typ_ne ht (typ_own bkk.own j e) h3 rfl
  have tU : ∀ j, buf'.ownBlock = some j → typ we j 5 := fun j hj => typ_keep (typ_ownF P.reco.own j hj) ke (nX j _ (by decide) (by decide) (by decide) (typ_ownF P.reco.own j hj))
  have nU : ∀ j T, T ≠ 5 → typ we j T → ¬ buf'.ownBlock = some j := fun j T h1 ht e => typ_ne ht (tU j e) h1 rfl
  have bkw : bk < wk.heap.size := heap_lt bkk.blk
  have kall : Kept (fun j => d.foot j ∨ j = bk ∨ ev.ownBlock = some j) w wf := by
    refine ((kl.join P.kept (R := fun j => j = d.rb ∨ d.buf.ownBlock = some j) (fun _ _ e => e.elim) (fun _ _ e => e)).join ke (R := fun j => j = d.rb ∨ d.buf.ownBlock = some j ∨ j = bk ∨ ev.ownBlock = some j) (fun _ _ e => ?_) (fun j hj e => ?_)).join kf (fun j _ e => ?_) (fun j hj e => ?_)
    · rcases e with e | e
      · exact Or.inl e
      · exact Or.inr (Or.inl e)
    · rcases e with e | e | e
      · have := P.fresh j e; omega
      · exact Or.inr (Or.inr (Or.inl e))
      · exact Or.inr (Or.inr (Or.inr e))
    · rcases e with e | e | e | e
      · exact Or.inl (Or.inr (Or.inl e))
      · exact Or.inl (Or.inr (Or.inr (Or.inl e)))
      · exact Or.inr (Or.inl e)
      · exact Or.inr (Or.inr e)
    · rcases P.nbuf j e with e | e
      · exact Or.inl (Or.inr (Or.inr (Or.inl e)))
      · omega
  -- what is kept of the old match: at w it has types that are not turned
  have kW : Kept (fun j => j = d.rb ∨ d.buf.ownBlock = some j ∨ (j = bk ∨ ev.ownBlock = some j)) w wf := by
    refine ((kl.join P.kept (R := fun j => j = d.rb ∨ d.buf.ownBlock = some j) (fun _ _ e => e.elim) (fun _ _ e => e)).join ke (R := fun j => j = d.rb ∨ d.buf.ownBlock = some j ∨ (j = bk ∨ ev.ownBlock = some j)) (fun _ _ e => ?_) (fun j hj e => ?_)).join kf (fun j _ e => e) (fun j hj e => ?_)
    · rcases e with e | e
      · exact Or.inl e
      · exact Or.inr (Or.inl e)
    · rcases e with e | e
      · have := P.fresh j e; omega
      · exact Or.inr (Or.inr e)
    · rcases P.nbuf j e with e | e
      · exact Or.inr (Or.inl e)
      · omega
  have up : ∀ j T, T ≠ 98 → T ≠ 5 → typ w j T → typ wk j T := fun j T h1 h2 ht => by
    refine typ_keep (typ_keep ht kl (fun e => e)) P.kept (fun e => ?_)
    rcases e with e | e
    · exact typ_ne ht (typ_blk hd.reco.blk) h1 e
    · exact typ_ne ht (typ_ownF hd.reco.own j e) h2 rfl
  have nW : ∀ j T, T ≠ 98 → T ≠ 5 → T ≠ 51 → T ≠ 36 → typ w j T → ¬ (j = d.rb ∨ d.buf.ownBlock = some j ∨ (j = bk ∨ ev.ownBlock = some j)) := by
    rintro j T h1 h2 h3 h4 ht (e | e | e | e)
    · exact typ_ne ht (typ_blk hd.reco.blk) h1 e
    · exact typ_ne ht (typ_ownF hd.reco.own j e) h2 rfl
    · exact typ_ne (up j T h1 h2 ht) (typ_blk bkk.blk) h3 e
    · exact typ_ne (up j T h1 h2 ht) (typ_own bkk.own j e) h4 rfl
  refine ⟨⟨?_, rf, ?_, ?_, ?_, ?_⟩, kall, ?_, ?_, ?_⟩
  · show wf.heap[d.mb]? = _
    rw [kW.block _ (heap_lt hd.blk) (nW _ _ (by decide) (by decide) (by decide) (by decide) (typ_blk hd.blk))]
    exact hd.blk
  · have nq : ∀ b off, now'.p = some ⟨b, off, none⟩ → ¬ (HB q b ∨ b = bk ∨ ev.ownBlock = some b) := by
      rintro b off e (h | h | h)
      · exact P.apart b h ⟨off, e⟩
      · exact typ_ne (P.nowOk.typ b off e) (typ_blk bkk.blk) (by decide) h
      · exact typ_ne (P.nowOk.typ b off e) (typ_own bkk.own b h) (by decide) rfl
    have te : ∀ b off, now'.p = some ⟨b, off, none⟩ → typ we b 83 := fun b off e => typ_keep (P.nowOk.typ b off e) ke (nq b off e)
    exact ⟨(P.nowOk.reads.keep ke nq).keep kf (fun b off e => nU b _ (by decide) (te b off e)), P.nowOk.nil, fun b off e => typ_keep (te b off e) kf (nU b _ (by decide) (te b off e)), P.nowOk.good⟩
  · exact owns_block hd.worlds (fun j hj => kW.block j (owns_lt hd.worlds j hj) (nW _ _ (by decide) (by decide) (by decide) (by decide) (typ_own hd.worlds j hj)))
  · exact fun x hx => (hd.each x hx).keep kW (fun j hj => nW _ _ (by decide) (by decide) (by decide) (by decide) hj)
  · exact owns_block hd.stands (fun j hj => kW.block j (owns_lt hd.stands j hj) (nW _ _ (by decide) (by decide) (by decide) (by decide) (typ_own hd.stands j hj)))
  · exact hbe.keep kf (nU _ _ (by decide) (typ_blk hbe.blk)) (fun j hj => nU _ _ (by decide) (typ_own hbe.own j hj)) (fun j hj => nU _ _ (by decide) hj)
  · intro j hj
    rcases hj with e | e | e | e | e
    · exact Or.inl (Or.inl e)
    · exact Or.inl (Or.inr (Or.inl e))
    · rcases P.nbuf j e with e | e
      · exact Or.inl (Or.inr (Or.inr (Or.inl e)))
      · exact Or.inr (by omega)
    · exact Or.inl (Or.inr (Or.inr (Or.inr (Or.inl e))))
    · exact Or.inl (Or.inr (Or.inr (Or.inr (Or.inr e))))
  · intro j hj
    rcases hv j hj with e | e
    · exact Or.inl e
    · exact Or.inr (by omega)

theorem rec_after {wl wk we : World} {bk : Nat} {mv sv : Value} {ms : Int} {ev : Value} {Q : List Els} {d : MD} {cs : List Cmd} {S : Sn} {q : Option Addr} {cq : Nat} {now' : Wd} {ad' buf' : Value} {s' : List UInt8}
    (P : RecPost wl wk d.rb d.ev d.now d.buf d.s cs S q cq now' ad' buf' s') (bkk : BookF wk bk mv sv ms ev Q) (ke : Kept (fun j => HB q j ∨ j = bk ∨ ev.ownBlock = some j) wk we) : Rec we d.rb (.int .i64 d.ev) (.int .i64 now'.t) (.slice now'.p now'.L.length now'.cap) ad' buf' s' := by
  have nX : ∀ j T, T ≠ 83 → T ≠ 51 → T ≠ 36 → typ wk j T → ¬ (HB q j ∨ j = bk ∨ ev.ownBlock = some j) := by
    rintro j T h1 h2 h3 ht (e | e | e)
    · exact typ_ne ht (P.raw.typ j e) h1 rfl
    · exact typ_ne ht (typ_blk bkk.blk) h2 e
    · exact typ_ne ht (typ_own bkk.own j e) h3 rfl
  exact P.reco.keep ke (nX _ _ (by decide) (by decide) (by decide) (typ_blk P.reco.blk)) (fun j hj => nX _ _ (by decide) (by decide) (by decide) (typ_ownF P.reco.own j hj))

theorem file_ne {w w' : World} {d : MD} {cs : List Cmd} {S : Sn} {q : Option Addr} {cq : Nat} {now' : Wd} {ad' buf' : Value} {s' : List UInt8} (P : RecPost w w' d.rb d.ev d.now d.buf d.s cs S q cq now' ad' buf' s') (h0 : d.s ≠ []) : s' ≠ [] := by
  by_cases h : S.e = 0
  · rw [(P.good h).2.2.2.1]; simp [h0]
  · rw [(P.bad h).2]; exact h0

/-- The world that the reference made, behind 'keep' and 'File'. -/
theorem made_after {wl wk we wf : World} {bk : Nat} {mv sv : Value} {ms : Int} {ev : Value} {Q : List Els} {d : MD} {cs : List Cmd} {S : Sn} {q q' : Option Addr} {cq cq' m : Nat} {now' : Wd} {ad' buf' : Value} {s' : List UInt8}
    (P : RecPost wl wk d.rb d.ev d.now d.buf d.s cs S q cq now' ad' buf' s') (bkk : BookF wk bk mv sv ms ev Q) (ke : Kept (fun j => HB q j ∨ j = bk ∨ ev.ownBlock = some j) wk we) (kf : Kept (fun j => buf'.ownBlock = some j) we wf)
    (hr : Reads wk q' S.X) (ht : ∀ j, HB q' j → typ wk j 83) (h1 : ∀ j, HB q j → j < m) (h2 : ∀ j, HB q' j → m ≤ j) (h0 : q' = none → cq' = 0) {T : Nat} (hT : wk.heap[T]? = some (.cells #[.int .i64 S.t, .slice q' S.X.length cq'] 38 (0, 0))) :
    wf.heap[T]? = some (.cells #[.int .i64 S.t, .slice q' S.X.length cq'] 38 (0, 0)) ∧ (S.e = 0 → Wd.Ok wf ⟨S.t, q', cq', S.X⟩) := by
  have nX : ∀ j T, T ≠ 83 → T ≠ 51 → T ≠ 36 → typ wk j T → ¬ (HB q j ∨ j = bk ∨ ev.ownBlock = some j) := by
    rintro j T h1 h2 h3 ht (e | e | e)
    · exact typ_ne ht (P.raw.typ j e) h1 rfl
    · exact typ_ne ht (typ_blk bkk.blk) h2 e
    · exact typ_ne ht (typ_own bkk.own j e) h3 rfl
  have tU : ∀ j, buf'.ownBlock = some j → typ we j 5 := fun j hj => typ_keep (typ_ownF P.reco.own j hj) ke (nX j _ (by decide) (by decide) (by decide) (typ_ownF P.reco.own j hj))
  have nU : ∀ j T, T ≠ 5 → typ we j T → ¬ buf'.ownBlock = some j := fun j T h1 ht e => typ_ne ht (tU j e) h1 rfl
  have tTe : we.heap[T]? = some (.cells #[.int .i64 S.t, .slice q' S.X.length cq'] 38 (0, 0)) := by rw [ke.block _ (heap_lt hT) (nX _ _ (by decide) (by decide) (by decide) (typ_blk hT))]; exact hT
  refine ⟨by rw [kf.block _ (heap_lt tTe) (nU _ _ (by decide) (typ_blk tTe))]; exact tTe, fun hS => ?_⟩
  have nq : ∀ b, HB q' b → ¬ (HB q b ∨ b = bk ∨ ev.ownBlock = some b) := by
    rintro b hb (h | h | h)
    · have := h1 b h; have := h2 b hb; omega
    · exact typ_ne (ht b hb) (typ_blk bkk.blk) (by decide) h
    · exact typ_ne (ht b hb) (typ_own bkk.own b h) (by decide) rfl
  have te : ∀ b, HB q' b → typ we b 83 := fun b hb => typ_keep (ht b hb) ke (nq b hb)
  obtain ⟨_, g2, g3, _⟩ := P.good hS
  exact ⟨(hr.keep ke (fun b off e => nq b ⟨off, e⟩)).keep kf (fun b off e => nU b _ (by decide) (te b ⟨off, e⟩)), h0, fun b off e => typ_keep (te b ⟨off, e⟩) kf (nU b _ (by decide) (te b ⟨off, e⟩)), by show worldB S.t S.X = true; rw [← g2, ← g3]; exact P.nowOk.good⟩
end Go.Proofs.YtlfmfhmbkpnjbaaGreatDoor
