import Derived.Test.YtgclehnhjjkdbaaGreatDoorRecd
import Derived.Test.YtgclehnhjjkdbaaGreatDoorStany
import Derived.Test.YtgclehnhjjkdbaaGreatDoorPurePart
import Derived.Test.YtgclehnhjjkdbaaGreatDoorBase
import Derived.Test.YtgclehnhjjkdbaaGreatDoorRows
namespace Go.Proofs.YtgclehnhjjkdbaaGreatDoor
open Go.RowKit

theorem worldB_int {t : Int} {L : List Mob} (h : worldB t L = true) : ∀ m ∈ L, IntM m := by
  intro m hm
  have hf := (worldB_fine h).2.2.mob m hm
  have h1 := idB_in hf.id
  have h2 : m.team = 0 ∨ m.team = 1 := by have := hf.team; simpa [teamB] using this
  have h3 := hf.low
  have h4 := hf.high
  exact ⟨by omega, by omega, by omega⟩

set_option maxHeartbeats 2000000 in
set_option maxRecDepth 100000 in
theorem record_err (rb : Nat) (ev t : Int) (p : Option Addr) (cap : Nat) (L : List Mob) (ad buf : Value) (s : List UInt8) (pc : Option Addr) (capc n : Nat) (er : Int) (w : World)
    (hrec : Rec w rb (.int .i64 ev) (.int .i64 t) (.slice p L.length cap) ad buf s) (her : (er != 0) = true)
    (hst : ∀ w', Kept (fun _ => False) w w' → Calls Tryz.prog 31 #[.agg #[.int .i64 t, .slice p L.length cap], .slice pc n capc] w' fun e w'' => e = .returned (.tuple #[.agg #[.int .i64 0, .slice none 0 0], .int .i64 er]) ∧ Kept (fun _ => False) w' w'') :
    Calls Tryz.prog 21 #[.pointer (some ⟨rb, 0, none⟩), .slice pc n capc] w fun e w' => e = .returned (.tuple #[.agg #[.int .i64 0, .slice none 0 0], .int .i64 er]) ∧ Kept (fun _ => False) w w' := by
  have HREC := hide hrec
  have hrbl := heap_lt hrec.blk
  have HS := hide hst
  clear hrec hst
  have K0 := hide (Kept.alloc w (.cells #[.int .i64 0, .slice none 0 0] 56))
  have HA := hide (heap_alloc_new w (.cells #[.int .i64 0, .slice none 0 0] 56))
  obtain ⟨d0, d1, d2, d3, d4, df⟩ := five_cells (HREC.out.calm K0.out).blk
  go_enter Tryz.func21, Tryz.ntmps21
  go_wp2_with fail
  generalize w.alloc (.cells #[.int .i64 0, .slice none 0 0] 56) = wa at *
  refine (HS.out wa K0.out).mono ?_
  rintro e w1 ⟨rfl, k1⟩
  have K1 := hide (K0.out.calm2 k1)
  have A1 : Hid (w1.heap[w.heap.size]? = some (.cells #[.int .i64 0, .slice none 0 0] 56 (0, 0))) := by show _ = _; rw [k1.block _ (heap_lt HA.out) (fun e => e)]; exact HA.out
  clear k1 d0 d1 d2 d3 d4 df
  obtain ⟨c0, c1, f0, f1⟩ := two_cells A1.out
  have hza := heap_lt A1.out
  have S1 := hide (two_sets A1.out (.int .i64 0) (.slice none 0 0))
  have S2 : Hid ((((w1.setCell ⟨w.heap.size, 0, none⟩ (.int .i64 0)).setCell ⟨w.heap.size, 1, none⟩ (.slice none 0 0)).alloc (.cells #[.int .i64 0, .slice none 0 0] 56)).heap[w.heap.size]? = some (.cells #[.int .i64 0, .slice none 0 0] 56 (0, 0))) := by
    show _ = _
    rw [(Kept.alloc ((w1.setCell ⟨w.heap.size, 0, none⟩ (.int .i64 0)).setCell ⟨w.heap.size, 1, none⟩ (.slice none 0 0)) (.cells #[.int .i64 0, .slice none 0 0] 56)).block _ (heap_lt S1.out) (fun e => e)]; exact S1.out
  obtain ⟨e0, e1, -, -⟩ := two_cells S2.out
  go_wp2
  refine bodyPost_ret (v := .tuple #[.agg #[.int .i64 0, .slice none 0 0], .int .i64 er]) (by simp [results, Tryz.results21, go_sem, e0, e1]) rfl ?_
  exact ⟨rfl, (two_kept K1.out (Nat.le_refl _) _ _).calm2 (Kept.alloc _ _)⟩

theorem newRec_err (ev : Int) (w : World) (he : ¬ (1 ≤ ev ∧ ev ≤ 64)) :
    Calls Tryz.prog 18 #[.int .i64 ev] w fun e w' => e = .returned (.tuple #[.pointer none, .int .i64 1]) ∧ w' = w := by
  by_cases h1 : ev < 1
  · go_enter Tryz.func18, Tryz.ntmps18
    go_wp2
    go_ret2
    exact ⟨rfl, rfl⟩
  · have h2 : (64 : Int) < ev := by omega
    go_enter Tryz.func18, Tryz.ntmps18
    go_wp2
    go_ret2
    exact ⟨rfl, rfl⟩
end Go.Proofs.YtgclehnhjjkdbaaGreatDoor

namespace Go.Proofs.YtgclehnhjjkdbaaGreatDoor
open Go.RowKit

/-- The ticks that came in. -/
def RT (w : World) (q : Option Addr) (n : Nat) : Prop :=
  0 < n → ∃ b off, q = some ⟨b, off, none⟩ ∧ b < w.heap.size ∧ ∀ j, j < n → ∃ pj nj cj, w.cell? ⟨b, off + j, none⟩ = some (.slice pj nj cj) ∧ ((nj : Nat) : Int) ≤ 9223372036854775807 ∧ RI w pj nj
theorem RT.calm {w w' : World} {q : Option Addr} {n : Nat} (h : RT w q n) (hk : Kept (fun _ => False) w w') : RT w' q n := by
  intro hn
  obtain ⟨b, off, h1, h2, h3⟩ := h hn
  refine ⟨b, off, h1, Nat.lt_of_lt_of_le h2 hk.size, fun j hj => ?_⟩
  obtain ⟨pj, nj, cj, q1, q2, q3⟩ := h3 j hj
  exact ⟨pj, nj, cj, by rw [cell_keep hk h2 (fun e => e)]; exact q1, q2, q3.calm hk⟩

/-- A world that was played. -/
structure Wd where
  t : Int
  p : Option Addr
  cap : Nat
  L : List Mob
def rowW : List Wd → List Value
  | [] => []
  | d :: r => .int .i64 d.t :: .slice d.p d.L.length d.cap :: rowW r
theorem rowW_length (L : List Wd) : (rowW L).length = L.length * 2 := by
  induction L with
  | nil => rfl
  | cons p r ih => simp only [rowW, List.length_cons, ih]; omega
theorem rowW_append (L M : List Wd) : rowW (L ++ M) = rowW L ++ rowW M := by
  induction L with
  | nil => rfl
  | cons p r ih => simp [rowW, ih]
theorem rowW_get (L : List Wd) (j : Nat) (h : j < L.length) : (rowW L)[j * 2]? = some (.int .i64 L[j].t) ∧ (rowW L)[j * 2 + 1]? = some (.slice L[j].p L[j].L.length L[j].cap) := by
  induction L generalizing j with
  | nil => simp at h
  | cons p r ih =>
    cases j with
    | zero => simp [rowW]
    | succ m =>
      have := ih m (by simpa using h)
      rw [show (m + 1) * 2 = m * 2 + 1 + 1 from by omega]
      simpa [rowW, Nat.add_assoc] using this
theorem rowW_one (L : List Wd) : ∀ u ∈ rowW L, u.oneCell' = true := by
  induction L with
  | nil => simp [rowW]
  | cons p r ih =>
    intro u hu
    simp only [rowW, List.mem_cons] at hu
    rcases hu with rfl | rfl | h
    · rfl
    · rfl
    · exact ih u h

structure Wd.Ok (w : World) (d : Wd) : Prop where
  reads : Reads w d.p d.L
  nil : d.p = none → d.cap = 0
  typ : ∀ b off, d.p = some ⟨b, off, none⟩ → typ w b 52
  good : worldB d.t d.L = true

theorem Wd.Ok.keep {w w' : World} {S : Nat → Prop} {d : Wd} (h : d.Ok w) (hk : Kept S w w') (hS : ∀ j, Go.Proofs.YtgclehnhjjkdbaaGreatDoor.typ w j 52 → ¬ S j) : d.Ok w' :=
  ⟨h.reads.keep hk (fun b off e => hS b (h.typ b off e)), h.nil, fun b off e => typ_keep (h.typ b off e) hk (hS b (h.typ b off e)), h.good⟩

theorem Wd.Ok.short {w : World} {d : Wd} (h : d.Ok w) : d.L.length ≤ 32 := (worldB_fine h.good).2.2.short

theorem info_world : (Tryz.prog.info? 56).map (fun i => (i.zero, i.size, i.bytes)) = some (some (.agg #[.int .i64 0, .slice none 0 0]), 2, 32) := by kernel_rfl

def c7 : Cmd := ⟨1, 7, 0, 1065353216, 1073741824, 0⟩
theorem step7 : stepL [c7] [] = [moveM (newM 7 0 1065353216 1073741824)] := by
  have h1 : spawnB 7 0 1065353216 1073741824 = true := by decide
  have h2 : findB [] 7 = false := findB_out (by simp [findI])
  simp [stepL, doM, c7, h1, h2, findI, keepL, liveB, newM]

/-- All that was played, and where it lies. -/
structure Run (w wr : World) (WS : List Wd) (p : Option Addr) (cap : Nat) : Prop where
  own : wr.ownsRow w.heap.size 56 2 (.slice p WS.length cap) WS.length (rowW WS)
  ok : ∀ d ∈ WS, d.Ok wr
  tick : ∀ k (h : k < WS.length), WS[k].t = k
  kept : Kept (fun _ => False) w wr

theorem after_set {wr w4 : World} {g4 b8 : Nat} {M : List Mob} {cu : List Value} (k : Kept (fun _ => False) wr w4) (hb : wr.heap.size ≤ b8) (h : w4.heap[b8]? = some (.cells #[.int .i64 0, .slice none 0 0] 56 (0, 0))) (e : EntAt w4 g4 M cu) (u v : Value) :
    Kept (fun _ => False) wr ((w4.setCell ⟨b8, 0, none⟩ u).setCell ⟨b8, 1, none⟩ v) ∧ ((w4.setCell ⟨b8, 0, none⟩ u).setCell ⟨b8, 1, none⟩ v).heap[b8]? = some (.cells #[u, v] 56 (0, 0)) ∧ EntAt ((w4.setCell ⟨b8, 0, none⟩ u).setCell ⟨b8, 1, none⟩ v) g4 M cu := by
  have kk : Kept (fun k => k = b8) w4 ((w4.setCell ⟨b8, 0, none⟩ u).setCell ⟨b8, 1, none⟩ v) := (Kept.setCell w4 _ u).join (Kept.setCell _ _ v) (fun _ _ e => e) (fun _ _ e => e)
  exact ⟨two_kept k hb u v, two_sets h u v, e.keep kk (typ_ne (typ_blk e.blk) (typ_blk h) (by decide))⟩
theorem after_new {wr w4 : World} {g4 : Nat} {M : List Mob} {cu : List Value} (k : Kept (fun _ => False) wr w4) (e : EntAt w4 g4 M cu) (u v : Value) :
    Kept (fun _ => False) wr (w4.alloc (.cells #[u, v] 56)) ∧ (w4.alloc (.cells #[u, v] 56)).heap[w4.heap.size]? = some (.cells #[u, v] 56 (0, 0)) ∧ EntAt (w4.alloc (.cells #[u, v] 56)) g4 M cu :=
  ⟨k.calm2 (Kept.alloc _ _), heap_alloc_new _ _, e.calm (Kept.alloc _ _)⟩

theorem owns_up {w : World} {base : Nat} {e : TypeId} {size g n cap : Nat} {xs : List Value} (h : w.ownsRow 0 e size (.slice (some ⟨g, 0, none⟩) n cap) n xs) (hg : base ≤ g) : w.ownsRow base e size (.slice (some ⟨g, 0, none⟩) n cap) n xs := by
  refine ⟨h.1, ?_⟩
  rcases h.2 with ⟨e, _⟩ | ⟨g', cp, cur, e, _, r⟩
  · cases e
  · simp only [Value.slice.injEq, Option.some.injEq, Addr.mk.injEq] at e
    obtain ⟨⟨rfl, _⟩, _, rfl⟩ := e
    exact Or.inr ⟨g, cap, cur, rfl, hg, r⟩

/-- One more world. -/
theorem Run.more {w wr w5 w7 : World} {WS : List Wd} {g cap g' cap' B6 : Nat} {d : Wd} (R : Run w wr WS (some ⟨g, 0, none⟩) cap) (k5 : Kept (fun _ => False) wr w5) (hd : d.Ok w5) (ht : d.t = WS.length)
    (k7 : Kept (fun j => j = B6 ∨ j = g) w5 w7) (hB : typ w5 B6 56) (hb6 : w.heap.size ≤ B6) (own : w7.ownsRow 0 56 2 (.slice (some ⟨g', 0, none⟩) (WS.length + 1) cap') (WS.length + 1) (rowW WS ++ rowW [d])) (hg' : g' = g ∨ w5.heap.size ≤ g') :
    Run w w7 (WS ++ [d]) (some ⟨g', 0, none⟩) cap' := by
  have tg : typ w5 g 56 := typ_keep (typ_own R.own g rfl) k5 (fun e => e)
  have hgw := (R.own.lt g rfl).1
  have hS : ∀ j, typ w5 j 52 → ¬ (j = B6 ∨ j = g) := by
    rintro j hj (rfl | rfl)
    · exact typ_ne hj hB (by decide) rfl
    · exact typ_ne hj tg (by decide) rfl
  have s5 := k5.size
  have s0 := R.kept.size
  refine ⟨?_, ?_, ?_, ?_⟩
  · rw [List.length_append, rowW_append]
    exact owns_up own (by rcases hg' with rfl | h <;> omega)
  · intro x hx
    rcases List.mem_append.1 hx with hx | hx
    · exact ((R.ok x hx).keep k5 (fun _ _ e => e)).keep k7 hS
    · obtain rfl : x = d := by simpa using hx
      exact hd.keep k7 hS
  · intro k hk
    rw [List.length_append] at hk
    by_cases hlt : k < WS.length
    · rw [List.getElem_append_left hlt]; exact R.tick k hlt
    · rw [List.getElem_append_right (by omega)]
      obtain rfl : k = WS.length := by simp at hk; omega
      simpa using ht
  · refine (R.kept.calm2 k5).join k7 (fun _ _ e => e) (fun j hj e => ?_)
    rcases e with rfl | rfl <;> omega

end Go.Proofs.YtgclehnhjjkdbaaGreatDoor

namespace Go.Proofs.YtgclehnhjjkdbaaGreatDoor
open Go.RowKit
/-- Which of m things a raw number speaks of. -/
def pickN_law (c : Int) (m : Nat) : Nat := ((if c < 0 then -(c + 1) else c).tmod m).toNat

theorem pickN_lt_law (c : Int) (m : Nat) (hm : 0 < m) : pickN_law c m < m := by
  have h0 : 0 ≤ (if c < 0 then -(c + 1) else c) := by split <;> omega
  have h1 := Int.tmod_lt_of_pos (if c < 0 then -(c + 1) else c) (show (0 : Int) < m by omega)
  have h2 := Int.tmod_nonneg (m : Int) h0
  unfold pickN_law
  omega

theorem pickN_cast_law (c : Int) (m : Nat) : ((pickN_law c m : Nat) : Int) = (if c < 0 then -(c + 1) else c).tmod m := by
  have h0 : 0 ≤ (if c < 0 then -(c + 1) else c) := by split <;> omega
  have h2 := Int.tmod_nonneg (m : Int) h0
  unfold pickN_law
  omega

set_option maxHeartbeats 400000 in
theorem pick_law (c M : Int) (m : Nat) (w : World) (h1 : -9223372036854775808 ≤ c) (h2 : c ≤ 9223372036854775807) (hM : M = m) (hm : 0 < m) (hm2 : m ≤ 1000000000) :
    Calls Tryz.prog 9 #[.int .i64 c, .int .i64 M] w fun e w' => e = .returned (.int .i64 (pickN_law c m)) ∧ w' = w := by
  subst hM
  have hp := hide (pickN_cast_law c m)
  have hm0 : ((m : Int) == 0) = false := by simp; omega
  by_cases hc : c < 0
  · go_enter Tryz.func9, Tryz.ntmps9
    go_wp2
    go_ret
    refine ⟨ret1 ?_, rfl⟩
    show Value.int .i64 (-((c + 1).tmod m)) = _
    rw [hp.out, if_pos hc, Int.neg_tmod]
  · go_enter Tryz.func9, Tryz.ntmps9
    go_wp2
    go_ret
    refine ⟨ret1 ?_, rfl⟩
    show Value.int .i64 (c % m) = _
    rw [hp.out, if_neg (by omega), Int.tmod_eq_emod_of_nonneg hc]
end Go.Proofs.YtgclehnhjjkdbaaGreatDoor
