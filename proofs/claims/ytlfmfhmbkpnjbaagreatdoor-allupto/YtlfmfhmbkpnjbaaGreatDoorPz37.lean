import Derived.Test.YtlfmfhmbkpnjbaaGreatDoorPz26
import Derived.Test.YtlfmfhmbkpnjbaaGreatDoorPz12
import Derived.Test.YtlfmfhmbkpnjbaaGreatDoorPz14
import Derived.BigQuiet
import Derived.Deep.QuietTactic
import Derived.Test.YtlfmfhmbkpnjbaaGreatDoorPz38
import Derived.Test.YtlfmfhmbkpnjbaaGreatDoorPz22
import Derived.Deep.Cut
namespace Go.Proofs.YtlfmfhmbkpnjbaaGreatDoor
open Go.RowKit

theorem show_cells {w : World} {c : Nat} {a b d : Value} {T : TypeId} (h : w.heap[c]? = some (.cells #[a, b, d] T (0, 0))) : w.cell? ⟨c, 0, none⟩ = some a ∧ w.cell? ⟨c, 1, none⟩ = some b ∧ w.cell? ⟨c, 2, none⟩ = some d ∧ ∀ j, w.frozen? ⟨c, j, none⟩ = false := by
  simp [World.cell?, World.frozen?, h]

set_option maxHeartbeats 2000000 in
set_option maxRecDepth 100000 in
theorem shown_bad (bk : Nat) (x : SD) (to : Int) (bad : Bool) (w : World) (hx : x.Ok w) (h : bad = true ∨ to < 0 ∨ (x.m.cmds.length : Int) < to) :
    Calls Tryz.prog 34 #[.pointer (some ⟨bk, 0, none⟩), ptrS x, .agg #[.int .i64 0, .slice none 0 0], .int .i64 4, .int .i64 to, .bool bad] w fun e w' => e = .returned (.bool true) ∧ Kept (fun _ => False) w w' := by
  have A0 : Hid ((w.alloc (.cells #[.int .i64 0, .slice none 0 0] 38)).heap[w.heap.size]? = some (.cells #[.int .i64 0, .slice none 0 0] 38 (0, 0))) := heap_alloc_new w _
  have KA := hide (Kept.alloc w (.cells #[.int .i64 0, .slice none 0 0] 38))
  have HX := hide (hx.calm KA.out)
  clear hx
  unfold ptrS
  have SM : Hid (∀ w : World, Calls Tryz.prog 59 #[.agg #[.int .i64 0, .slice none 0 0], .agg #[.int .i64 0, .slice none 0 0]] w fun e w' => e = .returned (.bool true) ∧ Kept (fun _ => False) w w') := fun w => same_c 0 none none 0 0 [] w (fun e => absurd rfl e) (fun e => absurd rfl e) (by decide) (fun m hm => by cases hm)
  cases bad with
  | true =>
    clear h
    go_enter Tryz.func34, Tryz.ntmps34
    go_wp2_with fail
    refine (SM.out _).mono ?_
    rintro e w1 ⟨rfl, k1⟩
    have K1 := hide (KA.out.calm2 k1)
    clear k1
    go_wp2
    go_ret
    exact ⟨rfl, K1.out⟩
  | false =>
    by_cases h0 : to < 0
    · clear h
      go_enter Tryz.func34, Tryz.ntmps34
      go_wp2_with fail
      refine (SM.out _).mono ?_
      rintro e w1 ⟨rfl, k1⟩
      have K1 := hide (KA.out.calm2 k1)
      clear k1
      go_wp2
      go_ret
      exact ⟨rfl, K1.out⟩
    · have h1 : (x.m.cmds.length : Int) + 1 ≤ to := by
        rcases h with h | h | h
        · cases h
        · omega
        · omega
      have h2 : ((x.m.cmds.length + 1 : Nat) : Int) ≤ to := by omega
      clear h
      obtain ⟨c0, c1, c2, -⟩ := show_cells HX.out.blk
      go_enter Tryz.func34, Tryz.ntmps34
      go_wp2_with fail
      refine (SM.out _).mono ?_
      rintro e w1 ⟨rfl, k1⟩
      have K1 := hide (KA.out.calm2 k1)
      clear k1
      go_wp2
      go_ret
      exact ⟨rfl, K1.out⟩

set_option maxHeartbeats 2000000 in
set_option maxRecDepth 100000 in
theorem shown_ok (bk sb pb gw cap M k t : Nat) (mv sv ev : Value) (Q : List Els) (L : List Mob) (q pw : Option Addr) (cq cw : Nat) (w : World) (ht : t ≤ M) (hb : BookF w bk mv sv 6 ev Q) (hQ : Q.length ≤ 1000000000)
    (hs : w.heap[sb]? = some (.cells #[.pointer (some ⟨pb, 0, none⟩), .slice (some ⟨gw, 0, none⟩) (M + 1) cap, .int .i64 (k : Int)] 91 (0, 0))) (hg : gw < w.heap.size)
    (h0 : w.cell? ⟨gw, t * 2, none⟩ = some (.int .i64 (t : Int))) (h1 : w.cell? ⟨gw, t * 2 + 1, none⟩ = some (.slice pw L.length cw)) (hr : Reads w pw L) (hrq : Reads w q L) (hraw : Raw w q L.length cq) (hl : L.length ≤ 32) (hL : ∀ m ∈ L, eqM m m = true)
    (hgQ : ∀ i (h : i < Q.length) j, HB Q[i].1 j → ¬ HB q j) :
    Calls Tryz.prog 34 #[.pointer (some ⟨bk, 0, none⟩), .pointer (some ⟨sb, 0, none⟩), .agg #[.int .i64 (t : Int), .slice q L.length cq], .int .i64 0, .int .i64 (t : Int), .bool false] w fun e w' => e = .returned (.bool true) ∧
      ∃ ev' Q', BookF w' bk mv sv 6 ev' Q' ∧ Q'.length = Q.length + 4 ∧ w'.heap[sb]? = some (.cells #[.pointer (some ⟨pb, 0, none⟩), .slice (some ⟨gw, 0, none⟩) (M + 1) cap, .int .i64 (t : Int)] 91 (0, 0)) ∧
        Kept (fun j => HB q j ∨ j = bk ∨ ev.ownBlock = some j ∨ j = sb) w w' ∧ ∀ j, ev'.ownBlock = some j → ev.ownBlock = some j ∨ w.heap.size ≤ j := by
  have A0 : Hid ((w.alloc (.cells #[.int .i64 (t : Int), .slice q L.length cq] 38)).heap[w.heap.size]? = some (.cells #[.int .i64 (t : Int), .slice q L.length cq] 38 (0, 0))) := heap_alloc_new w _
  have KA := hide (Kept.alloc w (.cells #[.int .i64 (t : Int), .slice q L.length cq] 38))
  have H := hide (And.intro hb (And.intro hs (And.intro h0 (And.intro h1 (And.intro hr (And.intro hrq (And.intro hraw (And.intro hL hgQ))))))))
  have hsl := heap_lt hs
  obtain ⟨z0, z1, z2, -⟩ := show_cells hs
  clear hb hs hr hrq hraw hL hgQ
  have n0 : ¬ (t : Int) < 0 := by omega
  have n1 : ¬ (M : Int) + 1 ≤ (t : Int) := by omega
  have n2 : ¬ ((M + 1 : Nat) : Int) ≤ (t : Int) := by omega
  have n3 : (0 : Int) ≤ (t : Int) := by omega
  have n4 : (t : Int) < (M : Int) + 1 := by omega
  have n5 : (t : Int) < ((M + 1 : Nat) : Int) := by omega
  obtain ⟨wA, hwA⟩ : ∃ wA, w.alloc (.cells #[.int .i64 (t : Int), .slice q L.length cq] 38) = wA := ⟨_, rfl⟩
  have BA : Hid (BookF wA bk mv sv 6 ev Q) := by rw [← hwA]; exact H.out.1.still KA.out
  have SA : Hid (wA.heap[sb]? = some (.cells #[.pointer (some ⟨pb, 0, none⟩), .slice (some ⟨gw, 0, none⟩) (M + 1) cap, .int .i64 (k : Int)] 91 (0, 0))) := by show _ = _; rw [← hwA, KA.out.block _ hsl (fun e => e)]; exact H.out.2.1
  have RA : Hid (Reads wA pw L ∧ Reads wA q L) := by rw [← hwA]; exact ⟨H.out.2.2.2.2.1.calm KA.out, H.out.2.2.2.2.2.1.calm KA.out⟩
  have WA : Hid (Raw wA q L.length cq) := by rw [← hwA]; exact H.out.2.2.2.2.2.2.1.keep KA.out (fun _ _ e => e)
  have CE : Hid (∀ w', Kept (fun _ => False) wA w' → w'.heap[w.heap.size]? = some (.cells #[.int .i64 (t : Int), .slice q L.length cq] 38 (0, 0)) ∧ w'.heap[sb]? = some (.cells #[.pointer (some ⟨pb, 0, none⟩), .slice (some ⟨gw, 0, none⟩) (M + 1) cap, .int .i64 (k : Int)] 91 (0, 0)) ∧ w'.cell? ⟨gw, t * 2, none⟩ = some (.int .i64 (t : Int)) ∧ w'.cell? ⟨gw, t * 2 + 1, none⟩ = some (.slice pw L.length cw)) := fun w' kk => by
    have k2 : Kept (fun _ => False) w w' := by rw [← hwA] at kk; exact KA.out.calm2 kk
    refine ⟨?_, by rw [k2.block _ hsl (fun e => e)]; exact H.out.2.1, by rw [cell_keep k2 hg (fun e => e)]; exact H.out.2.2.1, by rw [cell_keep k2 hg (fun e => e)]; exact H.out.2.2.2.1⟩
    have : w.heap.size < wA.heap.size := by rw [← hwA]; simp
    rw [kk.block _ this (fun e => e), ← hwA]
    exact A0.out
  have KW : Hid (Kept (fun _ => False) w wA) := by rw [← hwA]; exact KA.out
  have hsA : wA.heap.size = w.heap.size + 1 := by rw [← hwA]; simp
  have HL := hide H.out.2.2.2.2.2.2.2.1
  have HG := hide H.out.2.2.2.2.2.2.2.2
  clear H KA A0
  clear z0 z1 z2 h0 h1
  obtain ⟨e1, e2, c6, c7⟩ := CE.out wA (Kept.refl _ _)
  obtain ⟨c0, c1, -, -⟩ := two_cells e1
  obtain ⟨c3, c4, c5, -⟩ := show_cells e2
  clear e1 e2
  go_enter Tryz.func34, Tryz.ntmps34
  go_wp2_with fail
  clear hwA
  go_region_held3 (fun w' => w'.cell? ⟨w.heap.size, 0, none⟩ = some (.int .i64 (t : Int)) ∧ w'.cell? ⟨w.heap.size, 1, none⟩ = some (.slice q L.length cq) ∧ w'.cell? ⟨sb, 1, none⟩ = some (.slice (some ⟨gw, 0, none⟩) (M + 1) cap) ∧ w'.cell? ⟨gw, t * 2, none⟩ = some (.int .i64 (t : Int)) ∧ w'.cell? ⟨gw, t * 2 + 1, none⟩ = some (.slice pw L.length cw)) (go_keep)
    ((go_at_call 59; refine (same_c (t : Int) q pw cq cw L wA.drew (RA.out.2.calm (Kept.drew wA)) (RA.out.1.calm (Kept.drew wA)) hl HL.out).mono ?_; rintro e w1 ⟨rfl, k1⟩; have K1 := hide ((Kept.drew wA).calm2 k1); clear k1 c0 c1 c3 c4 c5 c6 c7; obtain ⟨e1, e2, u6, u7⟩ := CE.out w1 K1.out; obtain ⟨u0, u1, -, -⟩ := two_cells e1; obtain ⟨u3, u4, u5, -⟩ := show_cells e2; clear e1 e2))
  all_goals
    have B1 := hide (BA.out.still K1.out)
    have W1 := hide (WA.out.keep K1.out (fun _ _ e => e))
    have E1 := hide (CE.out w1 K1.out)
    have KW1 := hide (KW.out.calm2 K1.out)
    have hs1 := K1.out.size
    have hsw := KW1.out.size
    clear BA RA WA CE KW SA
    go_wp2
    go_region_held3 (fun w' => w'.cell? ⟨w.heap.size, 1, none⟩ = some (.slice q L.length cq)) (go_keep)
      ((go_at_call 61; refine (keepF bk L.length cq mv sv 6 q ev Q w1.drew (by omega) (by omega) (B1.out.still (Kept.drew w1)) (W1.out.keep (Kept.drew w1) (fun _ _ e => e)) HG.out).mono ?_; rintro e w2 ⟨rfl, ev', Q', hb', hQ', ke0, hev0⟩; have HB2 := hide hb'; have KE : Hid (Kept (fun j => HB q j ∨ j = bk ∨ ev.ownBlock = some j) w1 w2) := (Kept.drew w1).join ke0 (fun _ _ e => e.elim) (fun _ _ e => e); have HV := hide hev0; have f1 : w2.cell? ⟨w.heap.size, 1, none⟩ = some (.slice q L.length cq) := (by rw [cell_keep KE.out (heap_lt E1.out.1) (fun e => by rcases e with e | e | e; (· exact typ_ne (W1.out.typ _ e) (typ_blk E1.out.1) (by decide) rfl); (· exact typ_ne (typ_blk B1.out.blk) (typ_blk E1.out.1) (by decide) e.symm); (· exact typ_ne (typ_own B1.out.own _ e) (typ_blk E1.out.1) (by decide) rfl))]; exact u1); clear hb' ke0 hev0))
    have S2 : Hid (w2.heap[sb]? = some (.cells #[.pointer (some ⟨pb, 0, none⟩), .slice (some ⟨gw, 0, none⟩) (M + 1) cap, .int .i64 (k : Int)] 91 (0, 0))) := by
      show _ = _
      rw [KE.out.block _ (heap_lt E1.out.2.1) (fun e => by
        rcases e with e | e | e
        · exact typ_ne (W1.out.typ _ e) (typ_blk E1.out.2.1) (by decide) rfl
        · exact typ_ne (typ_blk B1.out.blk) (typ_blk E1.out.2.1) (by decide) e.symm
        · exact typ_ne (typ_own B1.out.own _ e) (typ_blk E1.out.2.1) (by decide) rfl)]
      exact E1.out.2.1
    have S3 : Hid ((w2.setCell ⟨sb, 2, none⟩ (.int .i64 (t : Int))).heap[sb]? = some (.cells #[.pointer (some ⟨pb, 0, none⟩), .slice (some ⟨gw, 0, none⟩) (M + 1) cap, .int .i64 (t : Int)] 91 (0, 0))) := by
      have := row_set S2.out 2 (.int .i64 (t : Int))
      show _ = _
      simpa using this
    have B3 : Hid (BookF (w2.setCell ⟨sb, 2, none⟩ (.int .i64 (t : Int))) bk mv sv 6 ev' Q') := HB2.out.keep (Kept.setCell w2 ⟨sb, 2, none⟩ (.int .i64 (t : Int))) (typ_ne (typ_blk HB2.out.blk) (typ_blk S2.out) (by decide)) (fun j hj => typ_ne (typ_own HB2.out.own j hj) (typ_blk S2.out) (by decide)) (fun j hj => typ_ne hj (typ_blk S2.out) (by decide))
    have K3 : Hid (Kept (fun j => HB q j ∨ j = bk ∨ ev.ownBlock = some j ∨ j = sb) w (w2.setCell ⟨sb, 2, none⟩ (.int .i64 (t : Int)))) := KW1.out.join (KE.out.join (Kept.setCell w2 ⟨sb, 2, none⟩ (.int .i64 (t : Int))) (R := fun j => HB q j ∨ j = bk ∨ ev.ownBlock = some j ∨ j = sb) (fun j _ e => by
      rcases e with e | e | e
      · exact Or.inl e
      · exact Or.inr (Or.inl e)
      · exact Or.inr (Or.inr (Or.inl e))) (fun j _ e => Or.inr (Or.inr (Or.inr e)))) (fun _ _ e => e.elim) (fun _ _ e => e)
    obtain ⟨s0, s1, s2, sf⟩ := show_cells S2.out
    clear u0 u1 u3 u4 u5 u6 u7 f1
    go_wp2
    go_ret
    exact ⟨rfl, ev', Q', B3.out, hQ', S3.out, K3.out, fun j hj => by
      rcases HV.out j hj with e | e
      · exact Or.inl e
      · exact Or.inr (by have e2 : w1.heap.size ≤ j := e; omega)⟩
end Go.Proofs.YtlfmfhmbkpnjbaaGreatDoor

namespace Go.Proofs.YtlfmfhmbkpnjbaaGreatDoor
open Go.RowKit

/-- Behind 'Seek' or 'Move', the answer laid into a box. -/
structure Sought (F : Nat → Prop) (pb : Nat) (m : Mt) (t : Nat) (d : PD) (w wx : World) (q : Option Addr) (cq T : Nat) (F' : Nat → Prop) (d' : PD) : Prop where
  pl : PL wx F' pb m t d'
  new : ∀ j, F' j → F j ∨ w.heap.size ≤ j
  raw : Raw wx q (m.at t).length cq
  reads : Reads wx q (m.at t)
  hb : ∀ j, HB q j → w.heap.size ≤ j ∧ ¬ F' j
  box : wx.heap[T]? = some (.cells #[.int .i64 (t : Int), .slice q (m.at t).length cq] 38 (0, 0))
  low : w.heap.size ≤ T
  kept : Kept (fun j => j = pb ∨ Foot d.c d.r j) w wx
section
variable {F : Nat → Prop} {pb : Nat} {m : Mt} {k t : Nat} {d : PD} {w w0 w1 : World} {N : Nat} {q : Option Addr} {cq : Nat} {d' : PD}
theorem sought_new (h : PL w F pb m k d) (k0 : Kept (fun _ => False) w w0) (hN1 : w0.heap.size ≤ N) (hN2 : N ≤ w1.heap.size) (fr : Fresh w1 N q (m.at t).length cq (m.at t)) (pl : PL w1 (fun j => F j ∨ (w0.heap.size ≤ j ∧ j < N)) pb m t d') (kk : Kept (fun j => j = pb ∨ Foot d.c d.r j) w0 w1) :
    Sought F pb m t d w (w1.alloc (.cells #[.int .i64 (t : Int), .slice q (m.at t).length cq] 38)) q cq w1.heap.size (fun j => F j ∨ (w0.heap.size ≤ j ∧ j < N)) d' := by
  have hs := k0.size
  have ka := Kept.alloc w1 (.cells #[.int .i64 (t : Int), .slice q (m.at t).length cq] 38)
  refine ⟨pl.calm ka, fun j hj => ?_, Raw.keep fr.raw ka (fun _ _ e => e), fr.reads.calm ka, fun j hj => ?_, heap_alloc_new _ _, by omega, (k0.join kk (R := fun j => j = pb ∨ Foot d.c d.r j) (fun _ _ e => e.elim) (fun _ _ e => e)).join ka (fun _ _ e => e) (fun _ _ e => e.elim)⟩
  · rcases hj with e | e
    · exact Or.inl e
    · exact Or.inr (by omega)
  · obtain ⟨off, e⟩ := hj
    have := (fr.new j off e).1
    refine ⟨by omega, fun e2 => ?_⟩
    rcases e2 with e2 | e2
    · have := h.lt j e2; omega
    · omega
theorem sought_set {T : Nat} (h : PL w F pb m k d) (k0 : Kept (fun _ => False) w w0) (hT1 : w.heap.size ≤ T) (hT2 : T < w0.heap.size) (hN1 : w0.heap.size ≤ N) (fr : Fresh w1 N q (m.at t).length cq (m.at t)) (pl : PL w1 (fun j => F j ∨ (w0.heap.size ≤ j ∧ j < N)) pb m t d') (kk : Kept (fun j => j = pb ∨ Foot d.c d.r j) w0 w1)
    (hb : w1.heap[T]? = some (.cells #[.int .i64 0, .slice none 0 0] 38 (0, 0))) :
    Sought F pb m t d w ((w1.setCell ⟨T, 0, none⟩ (.int .i64 (t : Int))).setCell ⟨T, 1, none⟩ (.slice q (m.at t).length cq)) q cq T (fun j => F j ∨ (w0.heap.size ≤ j ∧ j < N)) d' := by
  have hs := k0.size
  have ka := two_sets_kept w1 T (.int .i64 (t : Int)) (.slice q (m.at t).length cq)
  have nq : ∀ j off, q = some ⟨j, off, none⟩ → ¬ j = T := fun j off e e2 => by have := (fr.new j off e).1; omega
  refine ⟨pl.keep ka (fun j hj e => ?_), fun j hj => ?_, Raw.keep fr.raw ka (fun j hj => ?_), fr.reads.keep ka (fun b off e => nq b off e), fun j hj => ?_, two_sets hb _ _, hT1, (k0.join kk (R := fun j => j = pb ∨ Foot d.c d.r j) (fun _ _ e => e.elim) (fun _ _ e => e)).join ka (fun _ _ e => e) (fun j hj e => by omega)⟩
  · rcases hj with e2 | e2
    · have := h.lt j e2; omega
    · omega
  · rcases hj with e | e
    · exact Or.inl e
    · exact Or.inr (by omega)
  · obtain ⟨off, e⟩ := hj
    exact nq j off e
  · obtain ⟨off, e⟩ := hj
    have := (fr.new j off e).1
    refine ⟨by omega, fun e2 => ?_⟩
    rcases e2 with e2 | e2
    · have := h.lt j e2; omega
    · omega
end

section
variable {B : Nat} {w wx w' : World} {bk : Nat} {mv sv ev : Value} {Q : List Els} {D : List MD} {X : List SD}
/-- What 'shown' needs. -/
theorem AInv.after (h : AInv B w bk mv sv ev Q D X) (q : Nat) (hq : q < X.length) (k : Kept (fun j => j = X[q].pb ∨ Foot X[q].d.c X[q].d.r j) w wx) :
    BookF wx bk mv sv 6 ev Q ∧ wx.heap[X[q].sb]? = some (.cells #[.pointer (some ⟨X[q].pb, 0, none⟩), .slice (some ⟨X[q].gw, 0, none⟩) (X[q].m.cmds.length + 1) X[q].cap, .int .i64 (X[q].k : Int)] 91 (0, 0)) ∧ X[q].gw < wx.heap.size ∧
    ∀ t, t ≤ X[q].m.cmds.length → ∃ p c, wx.cell? ⟨X[q].gw, t * 2, none⟩ = some (.int .i64 (t : Int)) ∧ wx.cell? ⟨X[q].gw, t * 2 + 1, none⟩ = some (.slice p (X[q].m.at t).length c) ∧ Reads wx p (X[q].m.at t) := by
  have o := h.each q hq
  have key : ∀ j T, typ w j T → T ≠ 78 → T ≠ 127 → T ≠ 131 → ¬ (j = X[q].pb ∨ Foot X[q].d.c X[q].d.r j) := by
    intro j T ht h1 h2 h3 e
    rcases o.pl.wtyp j e with e | e | e
    · exact h1 (typ_eq ht e)
    · exact h2 (typ_eq ht e)
    · exact h3 (typ_eq ht e)
  have hg := key _ _ o.gwt (by decide) (by decide) (by decide)
  refine ⟨h.m.book.keep k (key _ _ (typ_blk h.m.book.blk) (by decide) (by decide) (by decide)) (fun j hj => key _ _ (typ_own h.m.book.own j hj) (by decide) (by decide) (by decide)) (fun j hj => key _ _ hj (by decide) (by decide) (by decide)),
    by rw [k.block _ (heap_lt o.blk) (key _ _ (typ_blk o.blk) (by decide) (by decide) (by decide))]; exact o.blk, Nat.lt_of_lt_of_le (typ_lt o.gwt) k.size, fun t ht => ?_⟩
  obtain ⟨p, c, c1, c2, c3, c4⟩ := o.row t ht
  exact ⟨p, c, by rw [cell_keep k (typ_lt o.gwt) hg]; exact c1, by rw [cell_keep k (typ_lt o.gwt) hg]; exact c2, c3.keep k (fun b off e => key _ _ (c4 b off e) (by decide) (by decide) (by decide))⟩
/-- A tick has been shown. -/
theorem AInv.seekd {t T : Nat} {q' : Option Addr} {cq : Nat} {F' : Nat → Prop} {d' : PD} {ev' : Value} {Q' : List Els} (h : AInv B w bk mv sv ev Q D X) (hB : B ≤ w.heap.size) (q : Nat) (hq : q < X.length) (s : Sought X[q].F X[q].pb X[q].m t X[q].d w wx q' cq T F' d')
    (hb : BookF w' bk mv sv 6 ev' Q') (hs : w'.heap[X[q].sb]? = some (.cells #[.pointer (some ⟨X[q].pb, 0, none⟩), .slice (some ⟨X[q].gw, 0, none⟩) (X[q].m.cmds.length + 1) X[q].cap, .int .i64 (t : Int)] 91 (0, 0)))
    (k : Kept (fun j => HB q' j ∨ j = bk ∨ ev.ownBlock = some j ∨ j = X[q].sb) wx w') (he : ∀ j, ev'.ownBlock = some j → ev.ownBlock = some j ∨ wx.heap.size ≤ j) :
    AInv B w' bk mv sv ev' Q' D (X.set q { X[q] with F := F', k := t, d := d' }) ∧ Kept (Far w B) w w' := by
  have o := h.each q hq
  obtain ⟨a1, a2, -, -⟩ := h.after q hq s.kept
  have hsz := s.kept.size
  have kk : Kept (fun j => (j = bk ∨ ev.ownBlock = some j) ∨ ((j = X[q].pb ∨ Foot X[q].d.c X[q].d.r j) ∨ j = X[q].sb)) w w' := s.kept.join k (fun _ _ e => Or.inr (Or.inl e)) (fun j hj e => by
    rcases e with e | e | e | e
    · have := (s.hb j e).1; omega
    · exact Or.inl (Or.inl e)
    · exact Or.inl (Or.inr e)
    · exact Or.inr (Or.inr e))
  have key : ∀ j T, typ w j T → T ≠ 51 → T ≠ 36 → T ≠ 78 → T ≠ 127 → T ≠ 131 → T ≠ 91 → ¬ ((j = bk ∨ ev.ownBlock = some j) ∨ ((j = X[q].pb ∨ Foot X[q].d.c X[q].d.r j) ∨ j = X[q].sb)) := by
    rintro j T ht h1 h2 h3 h4 h5 h6 ((e | e) | e | e)
    · rw [e] at ht; exact h1 (typ_eq ht (typ_blk h.m.book.blk))
    · exact h2 (typ_eq ht (typ_own h.m.book.own j e))
    · rcases o.pl.wtyp j e with e | e | e
      · exact h3 (typ_eq ht e)
      · exact h4 (typ_eq ht e)
      · exact h5 (typ_eq ht e)
    · rw [e] at ht; exact h6 (typ_eq ht (typ_blk o.blk))
  have hg := key _ _ o.gwt (by decide) (by decide) (by decide) (by decide) (by decide) (by decide)
  refine h.played hB q hq kk (fun j e => e) ⟨hs, s.pl.keepT k (fun j hj hp e => ?_), typ_keep o.gwt kk hg, fun t ht => ?_⟩ rfl rfl rfl s.new hb (fun j hj => ?_)
  · rcases e with e | e | e | e
    · exact (s.hb j e).2 hj
    · rw [e] at hp
      rcases hp with hp | hp | hp | hp | hp | hp | hp
      all_goals exact absurd (typ_eq hp (typ_blk a1.blk)) (by decide)
    · rcases hp with hp | hp | hp | hp | hp | hp | hp
      all_goals exact absurd (typ_eq hp (typ_own a1.own j e)) (by decide)
    · rw [e] at hp
      rcases hp with hp | hp | hp | hp | hp | hp | hp
      all_goals exact absurd (typ_eq hp (typ_blk a2)) (by decide)
  · obtain ⟨p, c, c1, c2, c3, c4⟩ := o.row t ht
    have hE : ∀ b off, p = some ⟨b, off, none⟩ → _ := fun b off e => key _ _ (c4 b off e) (by decide) (by decide) (by decide) (by decide) (by decide) (by decide)
    exact ⟨p, c, by rw [cell_keep kk (typ_lt o.gwt) hg]; exact c1, by rw [cell_keep kk (typ_lt o.gwt) hg]; exact c2, c3.keep kk hE, fun b off e => typ_keep (c4 b off e) kk (hE b off e)⟩
  · rcases he j hj with e | e
    · exact Or.inl e
    · exact Or.inr (by omega)
end
end Go.Proofs.YtlfmfhmbkpnjbaaGreatDoor

namespace Go.Proofs.YtlfmfhmbkpnjbaaGreatDoor
open Go.RowKit

/-- Behind a step on a player. -/
def PlayPost (B bk : Nat) (mv sv : Value) (Q : List Els) (D : List MD) (X : List SD) (w : World) (e : Ending) (w' : World) : Prop :=
  e = .returned (.bool true) ∧ ∃ ev' Q' X', AInv B w' bk mv sv ev' Q' D X' ∧ X'.length = X.length ∧ Q'.length ≤ Q.length + 4 ∧ Kept (Far w B) w w' ∧ X'.map ptrS = X.map ptrS
theorem set_ptr {X : List SD} (q : Nat) (hq : q < X.length) {x' : SD} (h : x'.sb = X[q].sb) : (X.set q x').map ptrS = X.map ptrS := by
  rw [List.map_set]
  apply List.ext_getElem?
  intro i
  rw [List.getElem?_set]
  split
  · rename_i e
    subst e
    simp [hq, ptrS, h]
  · rfl
theorem PlayPost.calm {B bk : Nat} {mv sv ev : Value} {Q : List Els} {D : List MD} {X : List SD} {w w' : World} (h : AInv B w bk mv sv ev Q D X) (k : Kept (fun _ => False) w w') : PlayPost B bk mv sv Q D X w (.returned (.bool true)) w' :=
  ⟨rfl, ev, Q, X, h.calm k, rfl, by omega, k.far, rfl⟩
/-- The box of a world, laid behind a call that kept all. -/
theorem box_new {w0 w : World} (k : Kept (fun _ => False) w0 w) : Kept (fun _ => False) w0 (w.alloc (.cells #[.int .i64 0, .slice none 0 0] 38)) ∧ (w.alloc (.cells #[.int .i64 0, .slice none 0 0] 38)).heap[w.heap.size]? = some (.cells #[.int .i64 0, .slice none 0 0] 38 (0, 0)) :=
  ⟨k.calm2 (Kept.alloc _ _), heap_alloc_new _ _⟩
theorem box_set {w0 w : World} {T : Nat} (k : Kept (fun _ => False) w0 w) (hT : w0.heap.size ≤ T) (hb : w.heap[T]? = some (.cells #[.int .i64 0, .slice none 0 0] 38 (0, 0))) : Kept (fun _ => False) w0 ((w.setCell ⟨T, 0, none⟩ (.int .i64 0)).setCell ⟨T, 1, none⟩ (.slice none 0 0)) ∧ ((w.setCell ⟨T, 0, none⟩ (.int .i64 0)).setCell ⟨T, 1, none⟩ (.slice none 0 0)).heap[T]? = some (.cells #[.int .i64 0, .slice none 0 0] 38 (0, 0)) :=
  ⟨two_kept k hT _ _, two_sets hb _ _⟩

set_option maxHeartbeats 4000000 in
set_option maxRecDepth 100000 in
theorem plays_seek (B bk : Nat) (mv sv ev : Value) (Q : List Els) (D : List MD) (X : List SD) (q : Nat) (hq : q < X.length) (o : OpD) (w : World) (h : AInv B w bk mv sv ev Q D X) (hB : B ≤ w.heap.size) (hQ : Q.length ≤ 1000000000) (hk : o.k = 4) :
    Calls Tryz.prog 18 #[.pointer (some ⟨bk, 0, none⟩), ptrS X[q], o.val] w (PlayPost B bk mv sv Q D X w) := by
  obtain ⟨k, a, n, p, cap, cs⟩ := o
  unfold OpD.val ptrS
  dsimp only at hk ⊢
  subst hk
  have KA := hide (Kept.alloc w (.cells #[.int .i64 4, .int .i64 a, .int .i64 n, .slice p cs.length cap] 54))
  have OA : Hid ((w.alloc (.cells #[.int .i64 4, .int .i64 a, .int .i64 n, .slice p cs.length cap] 54)).heap[w.heap.size]? = some (.cells #[.int .i64 4, .int .i64 a, .int .i64 n, .slice p cs.length cap] 54 (0, 0))) := heap_alloc_new w _
  have HA := hide (h.calm KA.out)
  have hqX := hq
  clear h
  go_enter Tryz.func18, Tryz.ntmps18
  go_wp2_with fail
  obtain ⟨wA, hwA⟩ : ∃ wA, w.alloc (.cells #[.int .i64 4, .int .i64 a, .int .i64 n, .slice p cs.length cap] 54) = wA := ⟨_, rfl⟩
  have hsA : Hid (wA.heap.size = w.heap.size + 1) := by show _ = _; rw [← hwA]; simp
  rw [hwA] at KA OA HA ⊢
  clear hwA
  have OX := hide (HA.out.each q hq)
  obtain ⟨o0, o1, o2, o3⟩ := op_cells OA.out
  obtain ⟨s0, s1, s2, -⟩ := show_cells OX.out.blk
  have hsb := heap_lt OX.out.blk
  generalize hxe : X[q] = x at *
  have HXE := hide hxe
  clear hxe
  by_cases hin : 0 ≤ n ∧ n ≤ (x.m.cmds.length : Int)
  · obtain ⟨t, rfl⟩ : ∃ t : Nat, n = (t : Int) := ⟨n.toNat, by omega⟩
    have ht : t ≤ x.m.cmds.length := by omega
    clear hin
    go_cut [7, 8] from 13 (fun s7 s8 wx => ∃ (q' : Option Addr) (cq T : Nat) (F' : Nat → Prop) (d' : PD), s7 = .pointer (some ⟨T, 0, none⟩) ∧ s8 = .int .i64 0 ∧ Hid (Sought x.F x.pb x.m t x.d wA wx q' cq T F' d'))
    case first =>
      have CF : Hid (∀ w0 w', Kept (fun _ => False) wA w0 → Kept (fun j => j = x.pb ∨ Foot x.d.c x.d.r j) w0 w' → w'.cell? ⟨x.sb, 0, none⟩ = some (.pointer (some ⟨x.pb, 0, none⟩)) ∧ w'.cell? ⟨w.heap.size, 2, none⟩ = some (.int .i64 (t : Int))) := fun w0 w' k0 kk => by
        have k1 : Kept (fun j => j = x.pb ∨ Foot x.d.c x.d.r j) wA w' := k0.join kk (fun _ _ e => e.elim) (fun _ _ e => e)
        have n1 : ¬ (x.sb = x.pb ∨ Foot x.d.c x.d.r x.sb) := fun e => by
          rcases OX.out.pl.wtyp _ e with e | e | e
          all_goals exact absurd (typ_eq (typ_blk OX.out.blk) e) (by decide)
        have n2 : ¬ (w.heap.size = x.pb ∨ Foot x.d.c x.d.r w.heap.size) := fun e => by
          rcases OX.out.pl.wtyp _ e with e | e | e
          all_goals exact absurd (typ_eq (typ_blk OA.out) e) (by decide)
        exact ⟨by rw [cell_keep k1 hsb n1]; exact s0, by rw [cell_keep k1 (heap_lt OA.out) n2]; exact o2⟩
      go_region_held3 (fun w' => w'.cell? ⟨x.sb, 0, none⟩ = some (.pointer (some ⟨x.pb, 0, none⟩)) ∧ w'.cell? ⟨w.heap.size, 2, none⟩ = some (.int .i64 (t : Int))) (go_keep)
        (first
          | (go_at_call 12; refine (seek_c x.F x.pb x.m x.k x.d t wA.drew ht (OX.out.pl.calm (Kept.drew wA))).mono ?_; rintro e w1 ⟨N, q', cq, d', rfl, hN1, hN2, fr, pl, kk⟩; obtain ⟨f0, f1⟩ := CF.out wA.drew w1 (Kept.drew wA) kk; have SN := hide (sought_new OX.out.pl (Kept.drew wA) hN1 hN2 fr pl kk); clear fr pl kk)
          | (go_at_call 12; refine (seek_c x.F x.pb x.m x.k x.d t (wA.drew.alloc (.cells #[.int .i64 0, .slice none 0 0] 38)) ht (OX.out.pl.calm ((Kept.drew wA).calm2 (Kept.alloc _ _)))).mono ?_; rintro e w1 ⟨N, q', cq, d', rfl, hN1, hN2, fr, pl, kk⟩; obtain ⟨f0, f1⟩ := CF.out (wA.drew.alloc (.cells #[.int .i64 0, .slice none 0 0] 38)) w1 ((Kept.drew wA).calm2 (Kept.alloc _ _)) kk; have T8 : Hid (w1.heap[wA.heap.size]? = some (.cells #[.int .i64 0, .slice none 0 0] 38 (0, 0))) := (by show _ = _; rw [kk.block wA.heap.size (by simp) (fun e => by have := OX.out.pl.lt _ (OX.out.pl.wf _ e); omega)]; exact heap_alloc_new wA.drew _); have SN := hide (sought_set OX.out.pl ((Kept.drew wA).calm2 (Kept.alloc _ (.cells #[.int .i64 0, .slice none 0 0] 38))) (Nat.le_refl wA.heap.size) (by simp) hN1 fr pl kk T8.out); obtain ⟨j0, j1, j2, j3⟩ := two_cells T8.out; have x1 : x.sb ≠ wA.heap.size := (by omega); have x2 : w.heap.size ≠ wA.heap.size := (by have := hsA.out; omega); have x3 := x1.symm; have x4 := x2.symm; clear fr pl kk))
      all_goals
        first
          | (clear T8 j0 j1 j2 j3 x1 x2 x3 x4 f0 f1 s0 s1 s2 o0 o1 o2 o3 CF
             go_wp2_with fail
             go_meet
             exact ⟨q', cq, _, _, d', rfl, rfl, SN⟩)
          | (clear f0 f1 s0 s1 s2 o0 o1 o2 o3 CF
             go_wp2_with fail
             go_meet
             exact ⟨q', cq, _, _, d', rfl, rfl, SN⟩)
    case rest =>
      obtain ⟨q', cq, T, F', d', rfl, rfl, SN⟩ := hcut
      have SN2 : Hid (Sought (X[q]'hqX).F (X[q]'hqX).pb (X[q]'hqX).m t (X[q]'hqX).d wA wc q' cq T F' d') := by rw [HXE.out]; exact SN.out
      have AF := hide (HA.out.after q hqX SN2.out.kept)
      rw [HXE.out] at AF
      obtain ⟨p0, c0', r1, r2, r3⟩ := AF.out.2.2.2 t ht
      have hgood := OX.out.pl.good t ht
      have hsh := (worldB_fine hgood).2.2.short
      have hM5 := OX.out.pl.ok.len
      have HS := hide (shown_ok bk x.sb x.pb x.gw x.cap x.m.cmds.length x.k t mv sv ev Q (x.m.at t) q' p0 cq c0' wc ht AF.out.1 hQ AF.out.2.1 AF.out.2.2.1 r1 r2 r3 SN.out.reads SN.out.raw hsh (mob_same hgood) (fun i hi j hj e => by
        have e1 := (SN.out.hb j e).1
        have e2 := typ_lt (HA.out.m.book.here i hi j hj)
        omega))
      have O3 : wc.cell? ⟨w.heap.size, 2, none⟩ = some (.int .i64 (t : Int)) := by
        rw [cell_keep SN.out.kept (heap_lt OA.out) (fun e => by
          rcases OX.out.pl.wtyp _ e with e | e | e
          all_goals exact absurd (typ_eq (typ_blk OA.out) e) (by decide))]
        exact o2
      obtain ⟨b0, b1, -, -⟩ := two_cells SN.out.box
      clear r1 r2 r3 hgood s0 s1 s2 o0 o1 o2 o3
      go_wp2_with fail
      refine HS.out.mono ?_
      rintro e w2 ⟨rfl, ev', Q', hb', hQ', hs', k', he'⟩
      have FIN : Hid (PlayPost B bk mv sv Q D X w (.returned (.bool true)) w2) := by
        have hs2 : w2.heap[(X[q]'hqX).sb]? = some (.cells #[.pointer (some ⟨(X[q]'hqX).pb, 0, none⟩), .slice (some ⟨(X[q]'hqX).gw, 0, none⟩) ((X[q]'hqX).m.cmds.length + 1) (X[q]'hqX).cap, .int .i64 (t : Int)] 91 (0, 0)) := by rw [HXE.out]; exact hs'
        have k2 : Kept (fun j => HB q' j ∨ j = bk ∨ ev.ownBlock = some j ∨ j = (X[q]'hqX).sb) wc w2 := by rw [HXE.out]; exact k'
        obtain ⟨g1, g2⟩ := HA.out.seekd (by have := hsA.out; omega) q hqX SN2.out hb' hs2 k2 he'
        exact ⟨rfl, ev', Q', _, g1, by simp, by omega, Far.join KA.out.far g2, set_ptr q hqX rfl⟩
      clear hb' hs' k' he' b0 b1
      go_wp2
      go_ret
      exact FIN.out
  · have hout : n < 0 ∨ (x.m.cmds.length : Int) < n := by omega
    clear hin
    go_cut [7, 8] from 13 (fun s7 s8 wx => ∃ (T : Nat), s7 = .pointer (some ⟨T, 0, none⟩) ∧ s8 = .int .i64 4 ∧ Hid (Kept (fun _ => False) wA wx ∧ wx.heap[T]? = some (.cells #[.int .i64 0, .slice none 0 0] 38 (0, 0))))
    case first =>
      have CF : Hid (∀ w', Kept (fun _ => False) wA w' → w'.cell? ⟨x.sb, 0, none⟩ = some (.pointer (some ⟨x.pb, 0, none⟩)) ∧ w'.cell? ⟨w.heap.size, 2, none⟩ = some (.int .i64 n)) := fun w' k1 =>
        ⟨by rw [cell_keep k1 hsb (fun e => e)]; exact s0, by rw [cell_keep k1 (heap_lt OA.out) (fun e => e)]; exact o2⟩
      go_region_held3 (fun w' => w'.cell? ⟨x.sb, 0, none⟩ = some (.pointer (some ⟨x.pb, 0, none⟩)) ∧ w'.cell? ⟨w.heap.size, 2, none⟩ = some (.int .i64 n)) (go_keep)
        (first
          | (go_at_call 12; refine (seek_bad x.F x.pb x.m x.k x.d n wA.drew hout (OX.out.pl.calm (Kept.drew wA))).mono ?_; rintro e w1 ⟨rfl, kk⟩; have K1 := hide ((Kept.drew wA).calm2 kk); obtain ⟨f0, f1⟩ := CF.out w1 K1.out; have SN := hide (box_new K1.out); clear kk)
          | (go_at_call 12; refine (seek_bad x.F x.pb x.m x.k x.d n (wA.drew.alloc (.cells #[.int .i64 0, .slice none 0 0] 38)) hout (OX.out.pl.calm ((Kept.drew wA).calm2 (Kept.alloc _ _)))).mono ?_; rintro e w1 ⟨rfl, kk⟩; have K1 := hide (((Kept.drew wA).calm2 (Kept.alloc _ (.cells #[.int .i64 0, .slice none 0 0] 38))).calm2 kk); obtain ⟨f0, f1⟩ := CF.out w1 K1.out; have T8 : Hid (w1.heap[wA.heap.size]? = some (.cells #[.int .i64 0, .slice none 0 0] 38 (0, 0))) := new_calm (w := wA.drew) kk; have SN := hide (box_set K1.out (Nat.le_refl _) T8.out); obtain ⟨j0, j1, j2, j3⟩ := two_cells T8.out; have x1 : x.sb ≠ wA.heap.size := (by omega); have x2 : w.heap.size ≠ wA.heap.size := (by have := hsA.out; omega); have x3 := x1.symm; have x4 := x2.symm; clear kk))
      all_goals
        first
          | (clear T8 j0 j1 j2 j3 x1 x2 x3 x4 f0 f1 s0 s1 s2 o0 o1 o2 o3 CF K1
             go_wp2_with fail
             go_meet
             exact ⟨_, rfl, rfl, SN⟩)
          | (clear f0 f1 s0 s1 s2 o0 o1 o2 o3 CF K1
             go_wp2_with fail
             go_meet
             exact ⟨_, rfl, rfl, SN⟩)
    case rest =>
      obtain ⟨T, rfl, rfl, SN⟩ := hcut
      have HS := hide (shown_bad bk x n false wc (OX.out.calm SN.out.1) (Or.inr hout))
      unfold ptrS at HS
      have O3 : wc.cell? ⟨w.heap.size, 2, none⟩ = some (.int .i64 n) := by
        rw [cell_keep SN.out.1 (heap_lt OA.out) (fun e => e)]
        exact o2
      obtain ⟨b0, b1, -, -⟩ := two_cells SN.out.2
      have KC := hide (KA.out.calm2 SN.out.1)
      clear s0 s1 s2 o0 o1 o2 o3
      have HW : Hid (AInv B wc bk mv sv ev Q D X) := HA.out.calm SN.out.1
      go_wp2_with fail
      refine HS.out.mono ?_
      rintro e w2 ⟨rfl, k2⟩
      have FIN : Hid (PlayPost B bk mv sv Q D X w (.returned (.bool true)) w2) := ⟨rfl, ev, Q, X, HW.out.calm k2, rfl, by omega, (KC.out.calm2 k2).far, rfl⟩
      clear k2 b0 b1
      go_wp2
      go_ret
      exact FIN.out
end Go.Proofs.YtlfmfhmbkpnjbaaGreatDoor
