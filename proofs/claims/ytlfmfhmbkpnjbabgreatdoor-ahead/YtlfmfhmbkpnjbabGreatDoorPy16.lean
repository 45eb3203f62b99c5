import Derived.Test.YtlfmfhmbkpnjbabGreatDoorPy15
import Derived.Test.YtlfmfhmbkpnjbabGreatDoorPy11
import Derived.Deep.Cut
import Derived.BigQuiet
namespace Go.Proofs.YtlfmfhmbkpnjbabGreatDoor
open Go.RowKit

/-- A list of commands in memory. -/
structure Cv where
  g : Nat
  cs : List Cmd
def rowV : List Cv → List Value
  | [] => []
  | c :: r => .slice (some ⟨c.g, 0, none⟩) c.cs.length c.cs.length :: rowV r
theorem rowV_length (L : List Cv) : (rowV L).length = L.length := by
  induction L with
  | nil => rfl
  | cons p r ih => simp [rowV, ih]
theorem rowV_append (L M : List Cv) : rowV (L ++ M) = rowV L ++ rowV M := by
  induction L with
  | nil => rfl
  | cons p r ih => simp [rowV, ih]
theorem rowV_get (L : List Cv) (j : Nat) (h : j < L.length) : (rowV L)[j]? = some (.slice (some ⟨L[j].g, 0, none⟩) L[j].cs.length L[j].cs.length) := by
  induction L generalizing j with
  | nil => simp at h
  | cons p r ih =>
    cases j with
    | zero => simp [rowV]
    | succ m => simpa [rowV] using ih m (by simpa using h)
theorem rowV_one (L : List Cv) : ∀ u ∈ rowV L, u.oneCell' = true := by
  induction L with
  | nil => simp [rowV]
  | cons p r ih =>
    intro u hu
    simp only [rowV, List.mem_cons] at hu
    rcases hu with rfl | h
    · rfl
    · exact ih u h
theorem info_cl : (Tryz.prog.info? 54).map (fun i => (i.zero, i.size, i.bytes)) = some (some (.slice none 0 0), 1, 24) := by kernel_rfl

/-- A list's place and room. -/
def NilOk (p : Option Addr) (cap : Nat) : Prop := (p = none → cap = 0) ∧ ∀ a, p = some a → ∃ b, a = ⟨b, 0, none⟩
/-- The types of the blocks of a match. -/
def MTyp (w : World) (j : Nat) : Prop := typ w j 54 ∨ typ w j 90 ∨ typ w j 34 ∨ typ w j 63
/-- A match in memory: its commands, its whole worlds; F: where its blocks lie. -/
structure MRow (w : World) (F : Nat → Prop) (ev : Nat) (cv wv : Value) (CS : List Cv) (WS : List Wd) : Prop where
  rowc : w.ownsRow 0 54 1 cv CS.length (rowV CS)
  eachc : ∀ c ∈ CS, w.heap[c.g]? = some (.cells (rowC c.cs).toArray 90 (0, 0)) ∧ F c.g
  ticks : ∀ k (h : k < WS.length), WS[k].t = ((k * ev : Nat) : Int)
  roww : w.ownsRow 0 34 2 wv WS.length (rowW WS)
  eachw : ∀ d ∈ WS, Reads w d.p d.L ∧ NilOk d.p d.cap ∧ ∀ b off, d.p = some ⟨b, off, none⟩ → F b ∧ typ w b 63
  footc : ∀ g, cv.ownBlock = some g → F g
  footw : ∀ g, wv.ownBlock = some g → F g
theorem MRow.keep {w w' : World} {S F : Nat → Prop} {ev : Nat} {cv wv : Value} {CS : List Cv} {WS : List Wd} (h : MRow w F ev cv wv CS WS) (k : Kept S w w') (hS : ∀ j, F j → MTyp w j → ¬ S j) : MRow w' F ev cv wv CS WS := by
  refine ⟨owns_block h.rowc (fun g hg => k.block g (owns_lt h.rowc g hg) (hS g (h.footc g hg) (Or.inl (typ_own h.rowc g hg)))), fun c hc => ?_, h.ticks,
    owns_block h.roww (fun g hg => k.block g (owns_lt h.roww g hg) (hS g (h.footw g hg) (Or.inr (Or.inr (Or.inl (typ_own h.roww g hg)))))), fun d hd => ?_, h.footc, h.footw⟩
  · obtain ⟨h1, h2⟩ := h.eachc c hc
    exact ⟨by rw [k.block c.g (heap_lt h1) (hS c.g h2 (Or.inr (Or.inl (typ_blk h1))))]; exact h1, h2⟩
  · obtain ⟨h1, h2, h3⟩ := h.eachw d hd
    refine ⟨h1.keep k (fun b off e => hS b (h3 b off e).1 (Or.inr (Or.inr (Or.inr (h3 b off e).2)))), h2, fun b off e => ⟨(h3 b off e).1, typ_keep (h3 b off e).2 k (hS b (h3 b off e).1 (Or.inr (Or.inr (Or.inr (h3 b off e).2))))⟩⟩
theorem MRow.calm {w w' : World} {F : Nat → Prop} {ev : Nat} {cv wv : Value} {CS : List Cv} {WS : List Wd} (h : MRow w F ev cv wv CS WS) (k : Kept (fun _ => False) w w') : MRow w' F ev cv wv CS WS := h.keep k (fun _ _ _ e => e)
/-- The row of the commands grows. -/
theorem MRow.cmd {w w3 w4 : World} {B ev : Nat} {cv wv : Value} {CS : List Cv} {WS : List Wd} {g g' cap' : Nat} {cs : List Cmd} (h : MRow w (fun j => B ≤ j) ev cv wv CS WS) (k3 : Kept (fun _ => False) w w3) (hB : B ≤ w.heap.size)
    (hg : w3.heap[g]? = some (.cells (rowC cs).toArray 90 (0, 0))) (hgB : w.heap.size ≤ g)
    (hown : w4.ownsRow 0 54 1 (.slice (some ⟨g', 0, none⟩) (CS.length + 1) cap') (CS.length + 1) (rowV CS ++ [.slice (some ⟨g, 0, none⟩) cs.length cs.length])) (hgrow : w3.grownBy w4 cv.ownBlock) (hloc : cv.ownBlock = some g' ∨ w3.heap.size ≤ g') :
    MRow w4 (fun j => B ≤ j) ev (.slice (some ⟨g', 0, none⟩) (CS.length + 1) cap') wv (CS ++ [⟨g, cs⟩]) WS ∧ Kept (fun j => B ≤ j ∧ typ w j 54) w w4 := by
  have h3 := h.calm k3
  have k4 := Kept.of_grown hgrow
  have hT : ∀ j T, some j = cv.ownBlock → typ w3 j T → T = 54 := by
    intro j T e ht
    apply Classical.byContradiction
    intro hne
    exact typ_ne ht (typ_own h3.rowc j e.symm) hne rfl
  refine ⟨⟨?_, ?_, h.ticks, ?_, ?_, ?_, h.footw⟩, ?_⟩
  · have : (CS ++ [(⟨g, cs⟩ : Cv)]).length = CS.length + 1 := by simp
    rw [this, rowV_append]
    exact hown
  · intro c hc
    rcases List.mem_append.1 hc with hc | hc
    · obtain ⟨h1, h2⟩ := h3.eachc c hc
      exact ⟨by rw [k4.block c.g (heap_lt h1) (fun e => absurd (hT _ _ e (typ_blk h1)) (by decide))]; exact h1, h2⟩
    · simp only [List.mem_cons, List.not_mem_nil, or_false] at hc
      subst hc
      exact ⟨by rw [k4.block g (heap_lt hg) (fun e => absurd (hT _ _ e (typ_blk hg)) (by decide))]; exact hg, Nat.le_trans hB hgB⟩
  · exact owns_block h3.roww (fun j hj => k4.block j (owns_lt h3.roww j hj) (fun e => absurd (hT _ _ e (typ_own h3.roww j hj)) (by decide)))
  · intro d hd
    obtain ⟨q1, q2, q3⟩ := h3.eachw d hd
    refine ⟨q1.keep k4 (fun b off e es => absurd (hT _ _ es (q3 b off e).2) (by decide)), q2, fun b off e => ⟨(q3 b off e).1, typ_keep (q3 b off e).2 k4 (fun es => absurd (hT _ _ es (q3 b off e).2) (by decide))⟩⟩
  · intro j e
    simp only [Value.ownBlock, Option.some.injEq] at e
    subst e
    rcases hloc with e | e
    · exact h.footc _ e
    · have := k3.size; omega
  · exact k3.join k4 (fun _ _ e => e.elim) (fun j hj e => ⟨h.footc j e.symm, typ_own h.rowc j e.symm⟩)
/-- The row of the whole worlds grows. -/
theorem MRow.world {w w3 w4 : World} {B ev : Nat} {cv wv : Value} {CS : List Cv} {WS : List Wd} {d : Wd} {g' cap' : Nat} (h : MRow w (fun j => B ≤ j) ev cv wv CS WS) (k3 : Kept (fun _ => False) w w3)
    (ht : d.t = ((WS.length * ev : Nat) : Int)) (hd : Reads w3 d.p d.L ∧ NilOk d.p d.cap ∧ ∀ b off, d.p = some ⟨b, off, none⟩ → B ≤ b ∧ typ w3 b 63)
    (hown : w4.ownsRow 0 34 2 (.slice (some ⟨g', 0, none⟩) (WS.length + 1) cap') (WS.length + 1) (rowW WS ++ rowW [d])) (hgrow : w3.grownBy w4 wv.ownBlock) (hloc : wv.ownBlock = some g' ∨ w3.heap.size ≤ g') (hB : B ≤ w.heap.size) :
    MRow w4 (fun j => B ≤ j) ev cv (.slice (some ⟨g', 0, none⟩) (WS.length + 1) cap') CS (WS ++ [d]) ∧ Kept (fun j => B ≤ j ∧ typ w j 34) w w4 := by
  have h3 := h.calm k3
  have k4 := Kept.of_grown hgrow
  have hT : ∀ j T, some j = wv.ownBlock → typ w3 j T → T = 34 := by
    intro j T e ht
    apply Classical.byContradiction
    intro hne
    exact typ_ne ht (typ_own h3.roww j e.symm) hne rfl
  refine ⟨⟨?_, ?_, ?_, ?_, ?_, h.footc, ?_⟩, ?_⟩
  · exact owns_block h3.rowc (fun j hj => k4.block j (owns_lt h3.rowc j hj) (fun e => absurd (hT _ _ e (typ_own h3.rowc j hj)) (by decide)))
  · intro c hc
    obtain ⟨h1, h2⟩ := h3.eachc c hc
    exact ⟨by rw [k4.block c.g (heap_lt h1) (fun e => absurd (hT _ _ e (typ_blk h1)) (by decide))]; exact h1, h2⟩
  · intro k hk
    simp only [List.length_append, List.length_cons, List.length_nil, Nat.zero_add] at hk
    by_cases hk' : k < WS.length
    · simp only [List.getElem_append_left hk']
      exact h.ticks k hk'
    · obtain rfl : k = WS.length := by omega
      simp only [List.getElem_append_right (Nat.le_refl _), Nat.sub_self, List.getElem_cons_zero]
      exact ht
  · have : (WS ++ [d]).length = WS.length + 1 := by simp
    rw [this, rowW_append]
    exact hown
  · intro x hx
    have key : Reads w3 x.p x.L ∧ NilOk x.p x.cap ∧ ∀ b off, x.p = some ⟨b, off, none⟩ → B ≤ b ∧ typ w3 b 63 := by
      rcases List.mem_append.1 hx with hx | hx
      · exact h3.eachw x hx
      · simp only [List.mem_cons, List.not_mem_nil, or_false] at hx
        subst hx
        exact hd
    obtain ⟨q1, q2, q3⟩ := key
    refine ⟨q1.keep k4 (fun b off e es => absurd (hT _ _ es (q3 b off e).2) (by decide)), q2, fun b off e => ⟨(q3 b off e).1, typ_keep (q3 b off e).2 k4 (fun es => absurd (hT _ _ es (q3 b off e).2) (by decide))⟩⟩
  · intro j e
    simp only [Value.ownBlock, Option.some.injEq] at e
    subst e
    rcases hloc with e | e
    · exact h.footw _ e
    · have := k3.size; omega
  · exact k3.join k4 (fun _ _ e => e.elim) (fun j hj e => ⟨h.footw j e.symm, typ_own h.roww j e.symm⟩)
/-- The box of a match. -/
def MBox (w : World) (mb : Nat) (ev : Nat) (cv wv : Value) : Prop := w.heap[mb]? = some (.cells #[.int .i64 (ev : Int), cv, wv] 41 (0, 0))
theorem MBox.set1 {w : World} {mb ev : Nat} {cv wv : Value} (h : MBox w mb ev cv wv) (u : Value) : MBox (w.setCell ⟨mb, 1, none⟩ u) mb ev u wv := by
  unfold MBox
  rw [setCell_eq_setRow w mb 1 _ _ (0, 0) _ h]
  exact setRow_heap w mb _ _ _ _ h
theorem MBox.set2 {w : World} {mb ev : Nat} {cv wv : Value} (h : MBox w mb ev cv wv) (u : Value) : MBox (w.setCell ⟨mb, 2, none⟩ u) mb ev cv u := by
  unfold MBox
  rw [setCell_eq_setRow w mb 2 _ _ (0, 0) _ h]
  exact setRow_heap w mb _ _ _ _ h
theorem MBox.keep {w w' : World} {S : Nat → Prop} {mb ev : Nat} {cv wv : Value} (h : MBox w mb ev cv wv) (k : Kept S w w') (hS : ¬ S mb) : MBox w' mb ev cv wv := by unfold MBox; rw [k.block mb (heap_lt h) hS]; exact h
theorem MRow.box {w : World} {F : Nat → Prop} {ev mb e' : Nat} {cv wv c' w' : Value} {CS : List Cv} {WS : List Wd} (h : MRow w F ev cv wv CS WS) (hb : MBox w mb e' c' w') (o : Nat) (u : Value) : MRow (w.setCell ⟨mb, o, none⟩ u) F ev cv wv CS WS := by
  refine h.keep (Kept.setCell w ⟨mb, o, none⟩ u) (fun j _ ht e => ?_)
  simp only at e
  subst e
  have hm := typ_blk hb
  rcases ht with ht | ht | ht | ht <;> exact typ_ne ht hm (by decide) rfl
end Go.Proofs.YtlfmfhmbkpnjbabGreatDoor

namespace Go.Proofs.YtlfmfhmbkpnjbabGreatDoor
open Go.RowKit

theorem Errs.far {w w' : World} {B : Nat} (h : Errs w) (hB : Mine B) (k : Kept (fun j => B ≤ j) w w') : Errs w' :=
  h.keep k (by have := hB.1; omega) (by have := hB.2.1; omega) (by have := hB.2.2.1; omega) (by have := hB.2.2.2; omega)
theorem typ_same {w w' : World} {j : Nat} {T : TypeId} (h : w'.heap[j]? = w.heap[j]?) (ht : typ w' j T) : typ w j T := by
  obtain ⟨c, f, e⟩ := ht
  exact ⟨c, f, by rw [← h]; exact e⟩
theorem Kept.tail {S R : Nat → Prop} {a b c : World} (h : Kept S a b) (k : Kept R b c) (hR : ∀ j, j < a.heap.size → ¬ S j → R j → b.heap[j]? = a.heap[j]? → S j) : Kept S a c :=
  ⟨k.os.trans h.os, k.tape.trans h.tape, k.output.trans h.output, Nat.le_trans h.size k.size, fun j hj hn => by
    have e := h.block j hj hn
    exact (k.block j (Nat.lt_of_lt_of_le hj h.size) (fun r => hn (hR j hj hn r e))).trans e⟩
/-- Behind 'add'. -/
def AddPost (B mb : Nat) (m : Mt) (l : List UInt8) (w : World) (e : Ending) (w' : World) : Prop :=
  Kept (fun j => j = mb ∨ (B ≤ j ∧ MTyp w j)) w w' ∧ ((m.add l = none ∧ e = .returned (.bool false)) ∨ ∃ m' cv' wv' CS' WS', m.add l = some m' ∧ e = .returned (.bool true) ∧ MBox w' mb m'.ev cv' wv' ∧ MRow w' (fun j => B ≤ j) m'.ev cv' wv' CS' WS' ∧ CS'.map Cv.cs = m'.cmds ∧ WS'.map Wd.L = m'.whole)

set_option maxHeartbeats 1000000 in
set_option maxRecDepth 100000 in
theorem add_c (B mb : Nat) (m : Mt) (cv wv : Value) (CS : List Cv) (WS : List Wd) (l : List UInt8) (w : World) (hok : m.Ok) (hC : CS.map Cv.cs = m.cmds) (hW : WS.map Wd.L = m.whole) (hl : l.length ≤ 140737488355328) (hB : Mine B) (hBw : B ≤ w.heap.size) (hmb : B ≤ mb)
    (hE : Errs w) (hbox : MBox w mb m.ev cv wv) (h : MRow w (fun j => B ≤ j) m.ev cv wv CS WS) :
    Calls Tryz.prog 26 #[.pointer (some ⟨mb, 0, none⟩), .string (baL l)] w (AddPost B mb m l w) := by
  have hCl : m.cmds.length = CS.length := by rw [← hC]; simp
  have hWl : m.whole.length = WS.length := by rw [← hW]; simp
  obtain ⟨i0, hi, hz0, hz1, hz2⟩ := info_parts info_cl
  obtain ⟨i1, hi1, hy0, hy1, hy2⟩ := info_parts info_world
  obtain ⟨ao, cp, rfl⟩ : ∃ ao cp, cv = .slice ao CS.length cp := by
    rcases h.rowc.2 with ⟨rfl, h0⟩ | ⟨g, cp, _, rfl, _⟩
    · exact ⟨none, 0, by rw [h0]⟩
    · exact ⟨_, _, rfl⟩
  obtain ⟨bo, bp, rfl⟩ : ∃ bo bp, wv = .slice bo WS.length bp := by
    rcases h.roww.2 with ⟨rfl, h0⟩ | ⟨g, cp, _, rfl, _⟩
    · exact ⟨none, 0, by rw [h0]⟩
    · exact ⟨_, _, rfl⟩
  obtain ⟨m0, m1, m2, n0, n1, n2⟩ := three_cells hbox
  have hml := heap_lt hbox
  have hlen := hok.len
  have hev := hok.ev
  rw [hCl] at hlen
  have H := hide h
  have HX := hide hbox
  have HE := hide hE
  have HB := hide hB
  have HS : Hid (Rd.of l).small := hl
  have HL := hide (And.intro hCl (And.intro hC hW))
  have HOK := hide hok
  clear h hbox hE hB hl hCl hC hW hok
  by_cases h5 : CS.length = 500
  · have HN : Hid (m.add l = none) := by show _ = _; unfold Mt.add; exact if_pos (by rw [HL.out.1]; omega)
    rw [h5] at m1
    go_enter Tryz.func26, Tryz.ntmps26
    go_wp2
    go_ret
    exact ⟨Kept.refl _ _, Or.inl ⟨HN.out, rfl⟩⟩
  · have hlt : (CS.length : Int) < 500 := by omega
    have KA := hide (Kept.alloc w (.cells #[.string (baL l), .bool false, .bool false] 108))
    have R0 : Hid (RdAt (w.alloc (.cells #[.string (baL l), .bool false, .bool false] 108)) w.heap.size (Rd.of l)) := heap_alloc_new w _
    have HMb : Hid (Mine w.heap.size) := HB.out.up hBw
    go_enter Tryz.func26, Tryz.ntmps26
    go_wp2
    obtain ⟨wA, hwA⟩ : ∃ wA, w.alloc (.cells #[.string (baL l), .bool false, .bool false] 108) = wA := ⟨_, rfl⟩
    rw [hwA] at KA R0 ⊢
    have hszA : w.heap.size < wA.heap.size := by rw [← hwA]; simp
    have HWA := hide hwA
    clear hwA
    obtain ⟨a0, a1, a2, b0, b1, b2⟩ := three_cells (HX.out.keep KA.out (fun e => e))
    clear m0 m1 m2 n0 n1 n2
    go_cut [] from 18 (fun wc => ∃ g4 cap4 g cs r2, Hid (Rd.cmdL (Rd.of l) = (cs, r2)) ∧ Hid (MBox wc mb m.ev (.slice (some ⟨g4, 0, none⟩) (CS.length + 1) cap4) (.slice bo WS.length bp)) ∧ Hid (MRow wc (fun j => B ≤ j) m.ev (.slice (some ⟨g4, 0, none⟩) (CS.length + 1) cap4) (.slice bo WS.length bp) (CS ++ [⟨g, cs⟩]) WS) ∧ Hid (RdAt wc w.heap.size r2) ∧ Hid (r2.small) ∧ Hid (Kept (fun j => j = mb ∨ (B ≤ j ∧ MTyp w j)) w wc))
    case first =>
      go_region_law (first
        | (refine step_call1 rfl 51 6 108 rfl (enters_of Tryz.func51 (by kernel_rfl) rfl) (.pointer (some ⟨w.heap.size, 0, none⟩)) (by simp [Act.eval, Act.put]) (commands_r w.heap.size (Rd.of l) _ HMb.out (((HE.out.calm KA.out).calm (Kept.drew wA))) HS.out (R0.out.calm (Kept.drew wA))) ?_
           rintro e w2 ⟨cs, r2, g, hcs, rfl, hg, hrow, s2⟩
           refine ⟨_, rfl, ?_⟩
           have K2 := hide ((KA.out.calm2 (Kept.drew wA)).join s2.kept (R := fun j => j = w.heap.size) (fun _ _ e => e.elim) (fun _ _ e => e))
           have S2 := hide s2
           have G2 := hide (And.intro hg hrow)
           have HCS := hide hcs
           have KW3 := hide (K2.out.join (Kept.alloc w2 (.cells #[.slice (some ⟨g, 0, none⟩) cs.length cs.length] 54)) (R := fun _ => False) (fun j hj e => by omega) (fun _ _ e => e))
           have OWN2 := hide ((H.out.calm KW3.out).rowc)
           obtain ⟨d0, d1, d2, e0, e1, e2⟩ := three_cells (HX.out.keep K2.out (fun e => by omega))
           have hmw2 : mb < w2.heap.size := heap_lt (HX.out.keep K2.out (fun e => by omega))
           clear s2 hg hrow hcs d0 d2 e0 e2)
        | (refine step_append_own rfl (.tmp 22) (.tmp 24) 39 rfl 54 i0 (.slice none 0 0) 1 24 Tryz.underlying39 hi hz0 hz1 hz2 rfl (by decide) (.slice ao CS.length cp) CS.length (rowV CS) (by simp [Act.eval]) OWN2.out ⟨w2.heap.size, 0, none⟩ 1 1 [.slice (some ⟨g, 0, none⟩) cs.length cs.length] (by simp [Act.eval]) rfl (new_cells w2 [.slice (some ⟨g, 0, none⟩) cs.length cs.length] 54 w2.heap.size rfl) (rowV_one [⟨g, cs⟩]) (by decide) (by unfold maxLen; omega) (by omega) ?_
           intro g4 cap4 w4 hown4 hgr4 hg4
           have M4 := hide (H.out.cmd KW3.out hBw (by rw [(Kept.alloc w2 _).block g (heap_lt G2.out.2) (fun e => e)]; exact G2.out.2) (by have := G2.out.1; have := hszA; have : wA.drew.heap.size = wA.heap.size := rfl; omega) hown4.out hgr4.out hg4.out)
           have X4 := hide (HX.out.keep M4.out.2 (fun e => typ_ne e.2 (typ_blk HX.out) (by decide) rfl))
           obtain ⟨x0, x1, x2, y0, y1, y2⟩ := three_cells X4.out
           have RD4 : Hid (RdAt w4 w.heap.size r2) := by
             have h2 := S2.out.at_.calm (Kept.alloc w2 (.cells #[.slice (some ⟨g, 0, none⟩) cs.length cs.length] 54))
             exact h2.keep (Kept.of_grown hgr4.out) (fun e => typ_ne (typ_blk h2) (typ_own OWN2.out w.heap.size e.symm) (by decide) rfl)
           clear hown4 hgr4 hg4))
      all_goals
        go_wp2_with fail
        go_meet
        refine ⟨g4, cap4, g, cs, r2, HCS, X4.out.set1 _, M4.out.1.box X4.out _ _, RD4.out.keep (Kept.setCell w4 ⟨mb, 1, none⟩ _) (fun e => by simp only at e; omega), S2.out.small, (M4.out.2.mono (S' := fun j => j = mb ∨ (B ≤ j ∧ MTyp w j)) (fun j _ e => Or.inr ⟨e.1, Or.inl e.2⟩)).join (Kept.setCell w4 ⟨mb, 1, none⟩ _) (fun _ _ e => e) (fun j _ e => Or.inl e)⟩
    case rest =>
      obtain ⟨g4, cap4, g, cs, r2, HCS, X, M, RD, SM, KK⟩ := hcut
      clear a0 a1 a2 b0 b1 b2
      obtain ⟨x0, x1, x2, y0, y1, y2⟩ := three_cells X.out
      have hszc := KK.out.size
      have hmc := heap_lt X.out
      have HEc : Hid (Errs wc) := HE.out.far HB.out (KK.out.mono (fun j _ e => by rcases e with rfl | e; exact hmb; exact e.1))
      have hev0 : ((m.ev : Int) == 0) = false := by simp; omega
      by_cases h0 : (CS.length + 1) % m.ev = 0
      · have ht : ((((CS.length : Int) + 1) % (m.ev : Int)) == 0) = true := by
          rw [show ((CS.length : Int) + 1) = ((CS.length + 1 : Nat) : Int) from rfl, ← Int.natCast_emod, h0]
          rfl
        have HZ := hide h0
        clear h0
        go_wp2_with fail
        refine (entities_r w.heap.size r2 wc HMb.out HEc.out SM.out RD.out).mono ?_
        rintro e w5 ⟨L, r3, g5, hL, rfl, hg5, hrow5, s5⟩
        have HLE := hide hL
        have S5 := hide s5
        have G5 := hide (And.intro hg5 hrow5)
        clear hL s5 hg5 hrow5
        have hl32 : L.length ≤ 32 := by
          have := int_bounds r2 0 32 (by omega)
          have h2 := congrArg (fun p : List Mob × Rd => p.1.length) HLE.out
          simp only [Rd.entL, ents_length] at h2
          omega
        have K6 := hide (Kept.alloc w5 (.cells #[.int .i64 ((CS.length : Int) + 1), .slice (some ⟨g5, 0, none⟩) L.length L.length] 34))
        have R5 : Hid (Reads w5 (some ⟨g5, 0, none⟩) L) := by
          intro _
          exact ⟨g5, 0, rfl, heap_lt G5.out.2, fun j u hu => by rw [cell_block G5.out.2, Nat.zero_add]; simpa using hu⟩
        have hsz5 := S5.out.kept.size
        go_wp2_with fail
        refine (isWorldD_c ((CS.length : Int) + 1) (some ⟨g5, 0, none⟩) L.length L _ (by omega) (R5.out.calm K6.out)).mono ?_
        rintro e w7 ⟨rfl, k7⟩
        have K7 := hide k7
        have KC7 := hide (S5.out.kept.join (K6.out.calm2 k7) (R := fun j => j = w.heap.size) (fun _ _ e => e) (fun _ _ e => e.elim))
        have KW7 : Hid (Kept (fun j => j = mb ∨ (B ≤ j ∧ MTyp w j)) w w7) := KK.out.join KC7.out (fun _ _ e => e) (fun j hj e => by omega)
        have B7 : Hid (w7.heap[w5.heap.size]? = some (.cells #[.int .i64 ((CS.length : Int) + 1), .slice (some ⟨g5, 0, none⟩) L.length L.length] 34 (0, 0))) := new_kept k7 (fun e => e)
        have X7 := hide (X.out.keep KC7.out (fun e => by omega))
        have RD7 := hide ((S5.out.at_.calm K6.out).calm k7)
        have M7 : Hid (MRow w7 (fun j => B ≤ j) m.ev (.slice (some ⟨g4, 0, none⟩) (CS.length + 1) cap4) (.slice bo WS.length bp) (CS ++ [⟨g, cs⟩]) WS) := M.out.keep KC7.out (fun j _ hj e => by
          subst e
          have hm := typ_blk RD.out
          rcases hj with hj | hj | hj | hj <;> exact typ_ne hj hm (by decide) rfl)
        clear k7
        cases hwb : worldB ((CS.length : Int) + 1) L with
        | false =>
          have HWB := hide hwb
          clear hwb
          go_wp2
          go_ret
          refine ⟨KW7.out, Or.inl ⟨?_, rfl⟩⟩
          unfold Mt.add
          rw [HL.out.1, if_neg (by omega), if_pos HZ.out, HCS.out]
          simp only [HLE.out]
          exact if_neg (fun e => by rw [HWB.out] at e; exact absurd e.1 (by decide))
        | true =>
          have HWB := hide hwb
          clear hwb x0 x1 x2 y0 y1 y2
          obtain ⟨x0, x1, x2, y0, y1, y2⟩ := three_cells X7.out
          obtain ⟨b0, b1, -, -⟩ := two_cells B7.out
          have hb7 := heap_lt B7.out
          have hm7 := heap_lt X7.out
          have hwl : WS.length ≤ 501 := by
            have h1 := HOK.out.count
            rw [hWl, HL.out.1] at h1
            have := Nat.div_le_self CS.length m.ev
            omega
          have HT : Hid ((CS.length : Int) + 1 = ((WS.length * m.ev : Nat) : Int)) := by
            have h1 := HOK.out.count
            rw [hWl, HL.out.1] at h1
            have h2 := Nat.div_add_mod (CS.length + 1) m.ev
            have h3 : (CS.length + 1) / m.ev = CS.length / m.ev + 1 := by
              rw [Nat.succ_div, if_pos (Nat.dvd_of_mod_eq_zero HZ.out)]
            rw [HZ.out, h3, Nat.mul_comm] at h2
            show _ = _
            rw [h1]
            omega
          have HD : Hid (∀ w', Kept (fun _ => False) w7 w' → Reads w' (some ⟨g5, 0, none⟩) L ∧ NilOk (some ⟨g5, 0, none⟩) L.length ∧ ∀ b off, (some ⟨g5, 0, none⟩ : Option Addr) = some ⟨b, off, none⟩ → B ≤ b ∧ typ w' b 63) := by
            intro w' k'
            have k := (K6.out.calm2 K7.out).calm2 k'
            refine ⟨R5.out.calm k, ⟨fun e => (by cases e), fun a e => ⟨g5, (by cases e; rfl)⟩⟩, fun b off e => ?_⟩
            simp only [Option.some.injEq, Addr.mk.injEq, and_true] at e
            obtain ⟨rfl, -⟩ := e
            exact ⟨by have := G5.out.1; omega, typ_keep (typ_blk G5.out.2) k (fun e => e)⟩
          have OG : Hid ((w7.drew.alloc (.cells #[.int .i64 ((CS.length : Int) + 1), .slice (some ⟨g5, 0, none⟩) L.length L.length] 34)).ownsRow 0 34 2 (.slice bo WS.length bp) WS.length (rowW WS)) := (M7.out.calm ((Kept.drew w7).calm2 (Kept.alloc _ _))).roww
          go_wp2_with fail
          go_cut [] from 41 (fun wd => ∃ g8 cap8, Hid (MBox wd mb m.ev (.slice (some ⟨g4, 0, none⟩) (CS.length + 1) cap4) (.slice (some ⟨g8, 0, none⟩) (WS.length + 1) cap8)) ∧ Hid (MRow wd (fun j => B ≤ j) m.ev (.slice (some ⟨g4, 0, none⟩) (CS.length + 1) cap4) (.slice (some ⟨g8, 0, none⟩) (WS.length + 1) cap8) (CS ++ [⟨g, cs⟩]) (WS ++ [⟨(CS.length : Int) + 1, some ⟨g5, 0, none⟩, L.length, L⟩])) ∧ Hid (RdAt wd w.heap.size r3) ∧ Hid (Kept (fun j => j = mb ∨ (B ≤ j ∧ MTyp w j)) w wd))
          case first =>
            go_region_law (refine step_append_own rfl (.tmp 45) (.tmp 47) 27 rfl 34 i1 (.agg #[.int .i64 0, .slice none 0 0]) 2 32 Tryz.underlying27 hi1 hy0 hy1 hy2 rfl (by decide) (.slice bo WS.length bp) WS.length (rowW WS) (by simp [Act.eval]) OG.out ⟨w7.heap.size, 0, none⟩ 1 1 (rowW [⟨(CS.length : Int) + 1, some ⟨g5, 0, none⟩, L.length, L⟩]) (by simp [Act.eval]) rfl (new_cells w7.drew (rowW [⟨(CS.length : Int) + 1, some ⟨g5, 0, none⟩, L.length, L⟩]) 34 w7.heap.size rfl) (rowW_one _) (by decide) (by unfold maxLen; omega) (by omega) ?_; intro g8 cap8 w8 hown8 hgr8 hg8; have M8 := hide (M7.out.world (d := ⟨(CS.length : Int) + 1, some ⟨g5, 0, none⟩, L.length, L⟩) ((Kept.drew w7).calm2 (Kept.alloc _ _)) HT.out (HD.out _ ((Kept.drew w7).calm2 (Kept.alloc _ _))) hown8.out hgr8.out hg8.out (Nat.le_trans hBw KW7.out.size)); have X8 := hide (X7.out.keep M8.out.2 (fun e => typ_ne e.2 (typ_blk X7.out) (by decide) rfl)); have RD8 := hide (RD7.out.keep M8.out.2 (fun e => typ_ne e.2 (typ_blk RD7.out) (by decide) rfl)); obtain ⟨p0, p1, p2, v0, v1, v2⟩ := three_cells X8.out)
            all_goals
              go_wp2_with fail
              go_meet
              exact ⟨g8, cap8, X8.out.set2 _, M8.out.1.box X8.out _ _, RD8.out.keep (Kept.setCell w8 ⟨mb, 2, none⟩ _) (fun e => by simp only at e; omega), (KW7.out.tail M8.out.2 (fun j hj hn e eb => absurd (Or.inr ⟨e.1, Or.inr (Or.inr (Or.inl (typ_same eb e.2)))⟩) hn)).join (Kept.setCell w8 ⟨mb, 2, none⟩ _) (fun _ _ e => e) (fun j _ e => Or.inl e)⟩
          case rest =>
            obtain ⟨g8, cap8, X8, M8, RD8, K8⟩ := hcut
            go_wp2_with fail
            refine (done_c w.heap.size r3 wc RD8.out).mono ?_
            rintro e w9 ⟨rfl, rfl⟩
            go_wp2
            go_ret
            refine ⟨K8.out, ?_⟩
            cases hd : r3.done with
            | false =>
              refine Or.inl ⟨?_, rfl⟩
              unfold Mt.add
              rw [HL.out.1, if_neg (by omega), if_pos HZ.out, HCS.out]
              simp only [HLE.out]
              exact if_neg (fun e => by rw [hd] at e; exact absurd e.2 (by decide))
            | true =>
              refine Or.inr ⟨⟨m.ev, m.cmds ++ [cs], m.whole ++ [L]⟩, _, _, CS ++ [⟨g, cs⟩], WS ++ [⟨(CS.length : Int) + 1, some ⟨g5, 0, none⟩, L.length, L⟩], ?_, rfl, X8.out, M8.out, ?_, ?_⟩
              · unfold Mt.add
                rw [HL.out.1, if_neg (by omega), if_pos HZ.out, HCS.out]
                simp only [HLE.out]
                exact if_pos ⟨HWB.out, hd⟩
              · simp [← HL.out.2.1]
              · simp [← HL.out.2.2]
      · have ht : ((((CS.length : Int) + 1) % (m.ev : Int)) == 0) = false := by
          rw [show ((CS.length : Int) + 1) = ((CS.length + 1 : Nat) : Int) from rfl, ← Int.natCast_emod, beq_eq_false_iff_ne]
          omega
        have HZ := hide h0
        clear h0
        go_wp2_with fail
        refine (done_c w.heap.size r2 wc RD.out).mono ?_
        rintro e w5 ⟨rfl, rfl⟩
        go_wp2
        go_ret
        refine ⟨KK.out, ?_⟩
        cases hd : r2.done with
        | false =>
          refine Or.inl ⟨?_, rfl⟩
          unfold Mt.add
          rw [HL.out.1, if_neg (by omega), if_neg HZ.out, HCS.out]
          exact if_neg (by simp [hd])
        | true =>
          refine Or.inr ⟨⟨m.ev, m.cmds ++ [cs], m.whole⟩, _, _, CS ++ [⟨g, cs⟩], WS, ?_, rfl, X.out, M.out, ?_, HL.out.2.2⟩
          · unfold Mt.add
            rw [HL.out.1, if_neg (by omega), if_neg HZ.out, HCS.out]
            exact if_pos hd
          · simp [← HL.out.2.1]
end Go.Proofs.YtlfmfhmbkpnjbabGreatDoor
