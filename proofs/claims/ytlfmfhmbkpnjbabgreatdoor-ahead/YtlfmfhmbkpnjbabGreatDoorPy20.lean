import Derived.RangeFuncNested
import Derived.RangeFuncBound
import Derived.RangeFuncCalls
import Derived.RangeFuncLeaves
import Derived.Shelf.Abstract
import Derived.Shelf.RegionOpen
import Derived.WalkKit
import Derived.OwnWalkIn
import Derived.TacticsInMore
import Derived.LoopNIn
import Derived.LoopIn
import Derived.RegionIn
import Derived.Test.YtlfmfhmbkpnjbabGreatDoorPy16
import Derived.Test.YtlfmfhmbkpnjbabGreatDoorPy19
namespace Go.Proofs.YtlfmfhmbkpnjbabGreatDoor
open Go.RowKit Go.Shelf
attribute [local go_sem] Oper.semAt_some

/-- A text all of whose lines have their end. -/
def EndsN (s : List UInt8) : Prop := s = [] ∨ ∃ t, s = t ++ [10]
theorem ends_cut (s : List UInt8) (h : EndsN s) (h0 : s ≠ []) : ∃ x t, s = x ++ 10 :: t ∧ (10 : UInt8) ∉ x ∧ EndsN t ∧ linesL [] s = x :: linesL [] t ∧ Lib.indexByte s 10 = (x.length : Int) := by
  have hm : (10 : UInt8) ∈ s := by
    rcases h with h | ⟨t, rfl⟩
    · exact absurd h h0
    · simp
  rcases cutL_index 10 s with ⟨_, h2⟩ | ⟨i, h1, h2, h3⟩
  · exfalso
    have key : ∀ l : List UInt8, (10 : UInt8) ∈ l → (cutL 10 l).2.2 = true := by
      intro l
      induction l with
      | nil => intro h; cases h
      | cons x r ih =>
        intro h
        by_cases hx : x = 10
        · simp [cutL, hx]
        · rcases List.mem_cons.1 h with h | h
          · exact absurd h.symm hx
          · simp [cutL, hx, ih h]
    have := key s hm
    rw [h2] at this
    simp at this
  · have hn : (10 : UInt8) ∉ s.take i := by
      have key : ∀ (l : List UInt8), (10 : UInt8) ∉ (cutL 10 l).1 := by
        intro l
        induction l with
        | nil => simp [cutL]
        | cons x r ih =>
          by_cases hx : x = 10
          · simp [cutL, hx]
          · simp only [cutL, if_neg hx, List.mem_cons, not_or]
            exact ⟨fun e => hx e.symm, ih⟩
      have := key s
      rw [h3] at this
      exact this
    have hsp : s = s.take i ++ 10 :: s.drop (i + 1) := by
      have key : ∀ (l : List UInt8), (cutL 10 l).2.2 = true → l = (cutL 10 l).1 ++ 10 :: (cutL 10 l).2.1 := by
        intro l
        induction l with
        | nil => intro h; simp [cutL] at h
        | cons x r ih =>
          intro h
          by_cases hx : x = 10
          · simp [cutL, hx]
          · simp only [cutL, if_neg hx] at h ⊢
            rw [List.cons_append, ← ih h]
      have := key s (by rw [h3])
      rw [h3] at this
      exact this
    refine ⟨s.take i, s.drop (i + 1), hsp, hn, ?_, ?_, ?_⟩
    · rcases h with h | ⟨t, ht⟩
      · exact absurd h h0
      · by_cases hd : s.drop (i + 1) = []
        · exact Or.inl hd
        · right
          refine ⟨(s.drop (i + 1)).dropLast, ?_⟩
          have h5 := List.dropLast_concat_getLast hd
          have h6 : (s.drop (i + 1)).getLast hd = 10 := by
            rw [List.getLast_drop]
            simp [ht]
          rw [h6] at h5
          exact h5.symm
    · conv => lhs; rw [hsp]
      rw [linesL_skip _ _ _ hn]
      simp
    · rw [h1, List.length_take, Nat.min_eq_left (by omega)]

theorem typ_unset {w : World} {b o : Nat} {u : Value} {j : Nat} {T : TypeId} (h : typ (w.setCell ⟨b, o, none⟩ u).drew j T) : typ w j T := by
  obtain ⟨c, fr, h⟩ := h
  have h' : (w.setCell ⟨b, o, none⟩ u).heap[j]? = some (.cells c T fr) := h
  unfold World.setCell at h'
  simp only [Array.getElem?_modify] at h'
  split at h'
  · cases hw : w.heap[j]? with
    | none => simp [hw] at h'
    | some ob =>
      rw [hw] at h'
      cases ob with
      | cells cs T' f' =>
        simp only [Option.map_some, Option.some.injEq, Obj.cells.injEq] at h'
        exact ⟨cs, f', by rw [hw, h'.2.1]⟩
      | _ => simp at h'
  · exact ⟨c, fr, h'⟩

def leftS (B : Nat) (W : World) : Nat := match W.cell? ⟨B, 0, none⟩ with
  | some (.string s) => s.size
  | _ => 0
theorem leftS_eq {B : Nat} {W : World} {s : List UInt8} (h : W.cell? ⟨B, 0, none⟩ = some (.string (baL s))) : leftS B W = s.length := by
  unfold leftS
  rw [h]
  exact baL_size s

set_option maxHeartbeats 1000000 in
set_option maxRecDepth 100000 in
theorem lines1_in (n : Nat) (hn : 1 ≤ n) (l Bs : Nat) (J Jx : List (List UInt8) → World → Prop)
    (hJ : ∀ pre W W', J pre W → Kept (fun k => k = Bs) W W' → (∀ T, typ W' Bs T → typ W Bs T) → J pre W')
    (hY : ∀ pre x W, J pre W → (x ++ [10]).length ≤ 140737488355328 → YieldAt Fence.wide (n - 1) Tryz.prog l #[.string (baL (x ++ [10]))] W fun e W' =>
      (e = .returned (.bool true) ∧ J (pre ++ [x]) W' ∧ W'.cell? ⟨Bs, 0, none⟩ = W.cell? ⟨Bs, 0, none⟩ ∧ W'.frozen? ⟨Bs, 0, none⟩ = W.frozen? ⟨Bs, 0, none⟩) ∨ (e = .returned (.bool false) ∧ Jx (pre ++ [x]) W'))
    (W : World) (s : List UInt8) (hs : EndsN s) (hl : s.length ≤ 140737488355328) (hB : W.cell? ⟨Bs, 0, none⟩ = some (.string (baL s)) ∧ W.frozen? ⟨Bs, 0, none⟩ = false) (h0 : J [] W) :
    CallsIn Fence.wide n Tryz.prog 49 #[.func (.yield l) #[] #[], .pointer (some ⟨Bs, 0, none⟩)] W fun e W' => (∃ v, e = .returned v) ∧
      (J (linesL [] s) W' ∨ ∃ pre rest, linesL [] s = pre ++ rest ∧ Jx pre W') := by
  refine callsIn_of_wp Tryz.func49 rfl trivial ?_
  simp only [Tryz.ntmps49, List.size_toArray, List.length_cons, List.length_nil, Nat.reduceAdd, Nat.reduceSub, Array.replicate_succ, Array.replicate_zero, List.push_toArray, List.append_toArray, List.nil_append, List.cons_append]
  gi_wp2
  gi_loopw [] (fun wr => ∃ (pre : List (List UInt8)) (t : List UInt8), EndsN t ∧ t.length ≤ 140737488355328 ∧ linesL [] s = pre ++ linesL [] t ∧ wr.cell? ⟨Bs, 0, none⟩ = some (.string (baL t)) ∧ wr.frozen? ⟨Bs, 0, none⟩ = false ∧ J pre wr)
    (fun wr => leftS Bs wr)
  case atStart => exact ⟨[], s, hs, hl, rfl, hB.1, hB.2, h0⟩
  case round =>
    obtain ⟨pre, t, ht, htl, hsp, hc, hf, hj⟩ := hrel
    by_cases h0 : t = []
    · subst h0
      gi_wp2
      go_end0
      exact ⟨⟨_, rfl⟩, .inl (by rw [hsp]; simpa [linesL] using hj)⟩
    · obtain ⟨x, t', rfl, hx, ht', hlt, hix⟩ := ends_cut t ht h0
      have hsz : ((baL (x ++ 10 :: t')).size : Int) = (x.length : Int) + 1 + (t'.length : Int) := by rw [baL_size]; simp; omega
      have hpos : (0 : Int) < ((baL (x ++ 10 :: t')).size : Int) := by omega
      have hle : (x.length : Int) + 1 ≤ ((baL (x ++ 10 :: t')).size : Int) := by omega
      have hE1 : baL (x ++ [10]) = (baL (x ++ 10 :: t')).extract 0 (x.length + 1) := by
        rw [Lib.extract_eq, baL_list, List.drop_zero, show x ++ 10 :: t' = (x ++ [10]) ++ t' by simp, List.take_left' (by simp)]
      have hE2 : baL t' = (baL (x ++ 10 :: t')).extract (x.length + 1) (baL (x ++ 10 :: t')).size := by
        rw [Lib.extract_eq, baL_list, List.take_of_length_le (by rw [List.length_drop, baL_size]; exact Nat.le_refl _)]
        simp
      have hxl : (x.length : Int) ≤ 140737488355328 := by simp at htl; omega
      have HC := hide hc
      have hIx := hide hix
      have HSP := hide hsp
      have HLT := hide hlt
      have HTL := hide htl
      have HE := hide (And.intro hE1 hE2)
      obtain ⟨S, hS⟩ : ∃ S, baL (x ++ 10 :: t') = S := ⟨_, rfl⟩
      rw [hS] at hsz hpos hle hc
      have HS := hide hS
      clear hix hsp hlt htl hE1 hE2 hS
      gi_wp2_with (first
        | (refine ⟨trivial, ?_⟩; gi_at_call 50; refine (callsIn_wide.2 (Tryz.strings_IndexByte S 10 _)).mono ?_; rintro e wr ⟨rfl, rfl⟩; rw [← HS.out, baL_list, show ((10 : Int).toNat.toUInt8) = 10 from rfl, hIx.out]))
      have c1 : (0 : Int) ≤ (x.length : Int) + 1 := by omega
      gi_region
      have e1 : S.extract 0 (x.length + 1) = baL (x ++ [10]) := by rw [← HS.out]; exact HE.out.1.symm
      have e2 : S.extract (x.length + 1) S.size = baL t' := by rw [← HS.out]; exact HE.out.2.symm
      obtain ⟨W2, hW2⟩ : ∃ W2, (wr.setCell ⟨Bs, 0, none⟩ (.string (S.extract (x.length + 1) S.size))).drew = W2 := ⟨_, rfl⟩
      have hk2 : Kept (fun k => k = Bs) wr W2 := by
        rw [← hW2]
        exact (Kept.setCell wr ⟨Bs, 0, none⟩ _).join (Kept.drew _) (fun _ _ e => e) (fun _ _ e => e.elim)
      have htp2 : ∀ T, typ W2 Bs T → typ wr Bs T := by
        intro T ht
        rw [← hW2] at ht
        exact typ_unset ht
      have hc2 : W2.cell? ⟨Bs, 0, none⟩ = some (.string (baL t')) := by
        rw [← hW2, ← e2]
        exact World.cell?_setCell_same' wr _ _ (by rw [hc]; rfl)
      have hf2 : W2.frozen? ⟨Bs, 0, none⟩ = false := by
        rw [← hW2]
        exact (World.frozen?_setCell wr _ _ _).trans hf
      obtain ⟨fn, tmps, assign, body, hy, hR⟩ := hY pre x W2 (hJ pre wr W2 hj hk2 htp2) (by have := HTL.out; simp at this ⊢; omega)
      rw [e1]
      rw [hW2]
      clear hc hf hk2 hW2 hj e1 e2 htp2
      gi_wp2
      refine hR.mono ?_
      rintro e W3 (⟨rfl, hJ3, hc3, hf3⟩ | ⟨rfl, hJx3⟩)
      · have hc4 := hc3.trans hc2
        have hf4 := hf3.trans hf2
        clear hc3 hf3 hc2 hf2
        gi_wp2
        go_roundw
        case rel => exact ⟨pre ++ [x], t', ht', by have := HTL.out; simp at this; omega, by rw [HSP.out, HLT.out]; simp, hc4, hf4, hJ3⟩
        case measure =>
          rw [leftS_eq hc4, leftS_eq HC.out]
          simp
          omega
      · gi_wp2
        refine bodyPost_ret (results_none rfl _ _ _) rfl ?_
        exact ⟨⟨_, rfl⟩, .inr ⟨pre ++ [x], linesL [] t', by rw [HSP.out, HLT.out]; simp, hJx3⟩⟩
end Go.Proofs.YtlfmfhmbkpnjbabGreatDoor

namespace Go.Proofs.YtlfmfhmbkpnjbabGreatDoor
open Go.RowKit Go.Shelf
attribute [local go_sem] Oper.semAt_some

theorem Kept.putObj (W : World) (l : Nat) (o : Obj) : Kept (fun k => k = l) W (W.putObj l o) := by
  have h := grownBy_putObj' W l o
  exact ⟨h.os, h.tape, h.output, h.size, fun k hk hn => h.block k hk (fun e => hn (by simpa using e))⟩
theorem heap_put (W : World) (l : Nat) (o : Obj) : (W.putObj l o).heap.size = W.heap.size := by simp [World.putObj]
/-- What the round of the loop over the lines leaves. -/
def linePost (D L Bs : Nat) (I : List (List UInt8) → World → Prop) (Ix : List (List UInt8) → World → Prop) (xs : List (List UInt8)) (W : World) : Exit → Act → World → Prop
  | .normal, _, W' => W'.heap[D]? = W.heap[D]? ∧ W'.heap[L]? = W.heap[L]? ∧ W'.heap[Bs]? = W.heap[Bs]? ∧ I xs W'
  | .ret, _, W' => W'.heap[D]? = W.heap[D]? ∧ W'.heap[L]? = W.heap[L]? ∧ Ix xs W'
  | _, _, _ => False

theorem wpIn_lines {n : Nat} (hn : 2 ≤ n) {g : Operand} {p : Tmp} {assign body : Code} {Q : Exit → Act → World → Prop} {a : Act} {w : World} (Bs : Nat) (s : List UInt8)
    (hg : a.eval g = .func (.func 49) #[] #[.pointer (some ⟨Bs, 0, none⟩)]) (hs : EndsN s) (hl : s.length ≤ 140737488355328)
    (hBs : w.heap[Bs]? = some (.cells #[.string (baL s)] 9 (0, 0)))
    (I Ix : List (List UInt8) → World → Prop)
    (hI : ∀ pre W W', I pre W → Kept (fun k => k = w.heap.size ∨ k = w.heap.size + 1 ∨ k = Bs) W W' → (∀ T, ¬ typ W w.heap.size T) → (∀ T, ¬ typ W (w.heap.size + 1) T) → (∀ T, typ W Bs T → T = 9) → I pre W')
    (hIx : ∀ pre W W', Ix pre W → Kept (fun k => k = w.heap.size ∨ k = w.heap.size + 1 ∨ k = Bs) W W' → Ix pre W')
    (h0 : I [] w) (q : Tmp)
    (hassign : ∀ (l : Nat) (x : List UInt8) (W : World) (K : Act → World → Prop), K { tmps := (a.tmps.setIfInBounds p (.string (baL (x ++ [10])))).setIfInBounds q (.string (baL (x ++ [10]))), defers := [] } W →
      assign.wpIn (Fence.wide.inRound l) (n - 1 - 1) Tryz.prog (Exit.then K (fun _ _ _ => False)) { tmps := a.tmps.setIfInBounds p (.string (baL (x ++ [10]))), defers := [] } W)
    (hbody : ∀ (l : Nat) (pre : List (List UInt8)) (x : List UInt8) (W : World), I pre W → w.heap.size + 1 < W.heap.size → (∀ T, ¬ typ W w.heap.size T) → (∀ T, ¬ typ W (w.heap.size + 1) T) → (∀ T, typ W Bs T → T = 9) → (x ++ [10]).length ≤ 140737488355328 → body.wpIn (Fence.wide.inRound l) (n - 1 - 1) Tryz.prog (linePost w.heap.size (w.heap.size + 1) Bs I Ix (pre ++ [x]) W) { tmps := (a.tmps.setIfInBounds p (.string (baL (x ++ [10])))).setIfInBounds q (.string (baL (x ++ [10]))), defers := [] } W)
    (hdone : ∀ (W : World), I (linesL [] s) W → W.heap[w.heap.size]? = some (.deferred (some [])) → Q .normal { a with defers := { target := .collected w.heap.size, args := #[] } :: a.defers } W)
    (hstop : ∀ (pre rest : List (List UInt8)) (W : World), linesL [] s = pre ++ rest → Ix pre W → W.heap[w.heap.size]? = some (.deferred (some [])) → Code.ret.wpIn Fence.wide n Tryz.prog Q { a with defers := { target := .collected w.heap.size, args := #[] } :: a.defers } W) :
    (Code.rangeFunc g #[p] assign body).wpIn Fence.wide n Tryz.prog Q a w := by
  have hBl := heap_lt hBs
  refine wpIn_rangeFunc ?_
  intro fn hfn
  obtain ⟨rec, hrec⟩ : ∃ rec : LoopState → Option Code → Loop, rec = fun st pe => { state := st, pending := pe, fn, tmps := a.tmps, params := #[p], assign, body, defers := w.heap.size } := ⟨_, rfl⟩
  obtain ⟨W1, hW1⟩ : ∃ W1, (w.alloc (.deferred (some []))).alloc (.loop (rec .ready none)) = W1 := ⟨_, rfl⟩
  have hL1 : W1.heap[w.heap.size + 1]? = some (.loop (rec .ready none)) := by
    rw [← hW1]; have := World.alloc_heap_new (w.alloc (.deferred (some []))) (.loop (rec .ready none)); rwa [World.size_alloc] at this
  have hK1 : W1.heap[w.heap.size]? = some (.deferred (some [])) := by
    rw [← hW1]; exact (Below.heap_alloc _ _ _ (by simp)).trans (World.alloc_heap_new w _)
  have k1 : Kept (fun k => k = w.heap.size ∨ k = w.heap.size + 1 ∨ k = Bs) w W1 := by
    rw [← hW1]; exact (Kept.alloc w _).join (Kept.alloc _ _) (fun _ _ e => e.elim) (fun _ _ e => e.elim)
  have hI1 : I [] W1 := hI [] w W1 h0 k1 (fun T ht => absurd (typ_lt ht) (by omega)) (fun T ht => absurd (typ_lt ht) (by omega)) (fun T ht => by obtain ⟨c, f, h⟩ := ht; rw [hBs] at h; simp at h; exact h.2.1.symm)
  have nL : ∀ (W : World) (r : Loop), W.heap[w.heap.size + 1]? = some (.loop r) → ∀ T, ¬ typ W (w.heap.size + 1) T := fun W r h T ht => by obtain ⟨c, f, e⟩ := ht; rw [h] at e; cases e
  have nD : ∀ (W : World), W.heap[w.heap.size]? = some (.deferred (some [])) → ∀ T, ¬ typ W w.heap.size T := fun W h T ht => by obtain ⟨c, f, e⟩ := ht; rw [h] at e; cases e
  have hB1 : W1.heap[Bs]? = some (.cells #[.string (baL s)] 9 (0, 0)) := by
    rw [← hW1, Below.heap_alloc _ _ Bs (by simp; omega), Below.heap_alloc _ _ Bs hBl]; exact hBs
  refine ⟨w.heap.size + 1, [{ target := .collected w.heap.size, args := #[] }], W1, { target := .fn (.func 49) #[.pointer (some ⟨Bs, 0, none⟩)], args := #[.func (.yield (w.heap.size + 1)) #[] #[]] }, W1, 49,
    #[.func (.yield (w.heap.size + 1)) #[] #[]] ++ #[.pointer (some ⟨Bs, 0, none⟩)], W1, ?_, ?_, ?_, ?_, fun h => (by cases h), ?_⟩
  · rw [← hW1, hrec]; exact run_enterLoop_outer _ _ _ _ _
  · simp only [resolve, hg]
    simp [go_sem]
  · intro f' hf'; trivial
  · simp [invoke, go_sem]
  · refine (lines1_in (n - 1) (by omega) (w.heap.size + 1) Bs
      (fun pre W => I pre W ∧ W.heap[w.heap.size + 1]? = some (.loop (rec .ready none)) ∧ W.heap[w.heap.size]? = some (.deferred (some [])) ∧ (∀ T, typ W Bs T → T = 9))
      (fun pre W => Ix pre W ∧ W.heap[w.heap.size + 1]? = some (.loop (rec .done (some .ret))) ∧ W.heap[w.heap.size]? = some (.deferred (some [])))
      ?_ ?_ W1 s hs hl (by simp [World.cell?, World.frozen?, hB1]) ⟨hI1, hL1, hK1, fun T ht => by obtain ⟨c, f, h⟩ := ht; rw [hB1] at h; simp at h; exact h.2.1.symm⟩).mono ?_
    · rintro pre W W' ⟨q1, q2, q3, q4⟩ k htp
      refine ⟨hI pre W W' q1 (k.mono (fun _ _ e => Or.inr (Or.inr e))) (nD W q3) (nL W _ q2) q4, ?_, ?_, fun T ht => q4 T (htp T ht)⟩
      · rw [k.block _ (heap_lt q2) (by omega)]; exact q2
      · rw [k.block _ (heap_lt q3) (by omega)]; exact q3
    · rintro pre x W ⟨hi, hl, hk, hts⟩ hxl
      have hlt : w.heap.size + 1 < W.heap.size := heap_lt hl
      have hy := run_yield (P := Tryz.prog) (args := #[.string (baL (x ++ [10]))]) hl (by rw [hrec]; rfl)
      have hz : (#[p].zip #[Value.string (baL (x ++ [10]))]).foldl (fun t (p, v) => t.setIfInBounds p v) a.tmps = a.tmps.setIfInBounds p (.string (baL (x ++ [10]))) := by simp
      rw [hrec] at hy
      simp only [hz] at hy
      refine ⟨fn, _, assign, body, hy, roundIn_of_wpIn hfn (hassign _ x W _ ⟨_, run_beginRound hl (by rw [hrec]), ?_⟩)⟩
      have hl2 : (W.putObj (w.heap.size + 1) (.loop { rec .ready none with state := .busy })).heap[w.heap.size + 1]? = some (.loop { rec .ready none with state := .busy }) := World.putObj_heap_same hlt
      have hk2 : (W.putObj (w.heap.size + 1) (.loop { rec .ready none with state := .busy })).heap[w.heap.size]? = some (.deferred (some [])) := (World.putObj_heap_other (by omega)).trans hk
      have hb2 : (W.putObj (w.heap.size + 1) (.loop { rec .ready none with state := .busy })).heap[Bs]? = W.heap[Bs]? := World.putObj_heap_other (by omega)
      refine wpIn_mono (hbody _ pre x _ (hI pre W _ hi ((Kept.putObj _ _ _).mono (fun _ _ e => Or.inr (Or.inl e))) (nD W hk) (nL W _ hl) hts) (by rw [heap_put]; exact hlt) (fun T ht => by obtain ⟨c, f, h⟩ := ht; rw [hk2] at h; cases h) (fun T ht => by obtain ⟨c, f, h⟩ := ht; rw [hl2] at h; cases h) (fun T ht => hts T (typ_same hb2 ht)) hxl) ?_
      have fin : ∀ (jump : Option Code) (W3 : World), W3.heap[w.heap.size]? = (W.putObj (w.heap.size + 1) (.loop { rec .ready none with state := .busy })).heap[w.heap.size]? → W3.heap[w.heap.size + 1]? = (W.putObj (w.heap.size + 1) (.loop { rec .ready none with state := .busy })).heap[w.heap.size + 1]? →
          (Instr.endRound (w.heap.size + 1) jump).run Tryz.prog W3 = .ok (.bool jump.isNone) (W3.putObj (w.heap.size + 1) (.loop (rec (if jump.isNone then .ready else .done) jump))) ∧
          W3.heap[w.heap.size + 1]? = some (.loop { rec .ready none with state := .busy }) ∧
          (W3.putObj (w.heap.size + 1) (.loop (rec (if jump.isNone then .ready else .done) jump))).heap[w.heap.size + 1]? = some (.loop (rec (if jump.isNone then .ready else .done) jump)) ∧
          (W3.putObj (w.heap.size + 1) (.loop (rec (if jump.isNone then .ready else .done) jump))).heap[w.heap.size]? = some (.deferred (some [])) := fun jump W3 hD hL => by
        have hl3 := hL.trans hl2
        have := run_endRound (P := Tryz.prog) jump hl3
        rw [hrec] at this ⊢
        exact ⟨this, by rw [hrec] at hl3; exact hl3, World.putObj_heap_same (heap_lt hl3), (World.putObj_heap_other (by omega)).trans (hD.trans hk2)⟩
      rintro e a3 W3 hp
      cases e with
      | normal =>
        obtain ⟨hD, hL, hB, hi3⟩ := hp
        obtain ⟨hr, hl3, hl4, hk4⟩ := fin none W3 hD hL
        have hBB : (W3.putObj (w.heap.size + 1) (.loop (rec .ready none))).heap[Bs]? = W.heap[Bs]? := (World.putObj_heap_other (by omega)).trans (hB.trans hb2)
        exact ⟨_, _, hr, .inl ⟨rfl, ⟨hI _ _ _ hi3 ((Kept.putObj _ _ _).mono (fun _ _ e => Or.inr (Or.inl e))) (nD W3 (hD.trans hk2)) (nL W3 _ hl3) (fun T ht => hts T (typ_same (hB.trans hb2) ht)), hl4, hk4, fun T ht => hts T (typ_same hBB ht)⟩, by simp only [World.cell?]; rw [show (W3.putObj (w.heap.size + 1) (.loop (rec (if (none : Option Code).isNone then .ready else .done) none))).heap[Bs]? = W.heap[Bs]? from hBB], by simp only [World.frozen?]; rw [show (W3.putObj (w.heap.size + 1) (.loop (rec (if (none : Option Code).isNone then .ready else .done) none))).heap[Bs]? = W.heap[Bs]? from hBB]⟩⟩
      | ret =>
        obtain ⟨hD, hL, hi3⟩ := hp
        obtain ⟨hr, hl3, hl4, hk4⟩ := fin (some .ret) W3 hD hL
        exact ⟨_, _, hr, .inr ⟨rfl, hIx _ _ _ hi3 ((Kept.putObj _ _ _).mono (fun _ _ e => Or.inr (Or.inl e))), hl4, hk4⟩⟩
      | exit id => exact hp.elim
      | goto t => exact hp.elim
      | panic ch => exact hp.elim
      | outgrown => exact hp.elim
    · rintro e W2 ⟨⟨v, rfl⟩, (⟨hi, hl, hk, hts⟩ | ⟨pre, rest, hsp, hi, hl, hk⟩)⟩
      · exact ⟨none, _, by have := run_endLoop (P := Tryz.prog) hl (by rw [hrec]; simp); rw [hrec] at this; exact this, hdone _ (hI _ _ _ hi ((Kept.putObj _ _ _).mono (fun _ _ e => Or.inr (Or.inl e))) (nD _ hk) (nL _ _ hl) hts) ((World.putObj_heap_other (by omega)).trans hk)⟩
      · exact ⟨some .ret, _, by have := run_endLoop (P := Tryz.prog) hl (by rw [hrec]; simp); rw [hrec] at this; exact this, hstop pre rest _ hsp (hIx _ _ _ hi ((Kept.putObj _ _ _).mono (fun _ _ e => Or.inr (Or.inl e)))) ((World.putObj_heap_other (by omega)).trans hk)⟩
end Go.Proofs.YtlfmfhmbkpnjbabGreatDoor
