import Derived.Test.YtlfmfhmbkpnjbaaNext
namespace Go.Proofs.Ytlfmfhmbkpnjbaa
open Go.RowKit

/-- The ticks that came in. -/
def RT (w : World) (q : Option Addr) (n : Nat) : Prop :=
  0 < n → ∃ b off, q = some ⟨b, off, none⟩ ∧ b < w.heap.size ∧ ∀ j, j < n → ∃ pj nj cj, w.cell? ⟨b, off + j, none⟩ = some (.slice pj nj cj) ∧ ((nj : Nat) : Int) ≤ 9223372036854775807 ∧ RI w pj nj
theorem RT.calm {w w' : World} {q : Option Addr} {n : Nat} (h : RT w q n) (hk : Kept (fun _ => False) w w') : RT w' q n := by
  intro hn
  obtain ⟨b, off, h1, h2, h3⟩ := h hn
  refine ⟨b, off, h1, Nat.lt_of_lt_of_le h2 hk.size, fun j hj => ?_⟩
  obtain ⟨pj, nj, cj, q1, q2, q3⟩ := h3 j hj
  exact ⟨pj, nj, cj, by rw [cell_keep hk h2 (fun e => e)]; exact q1, q2, q3.calm hk⟩

/-- A world that was played. -/
structure Wd where
  t : Int
  p : Option Addr
  cap : Nat
  L : List Mob
def rowW : List Wd → List Value
  | [] => []
  | d :: r => .int .i64 d.t :: .slice d.p d.L.length d.cap :: rowW r
theorem rowW_length (L : List Wd) : (rowW L).length = L.length * 2 := by
  induction L with
  | nil => rfl
  | cons p r ih => simp only [rowW, List.length_cons, ih]; omega
theorem rowW_append (L M : List Wd) : rowW (L ++ M) = rowW L ++ rowW M := by
  induction L with
  | nil => rfl
  | cons p r ih => simp [rowW, ih]
theorem rowW_get (L : List Wd) (j : Nat) (h : j < L.length) : (rowW L)[j * 2]? = some (.int .i64 L[j].t) ∧ (rowW L)[j * 2 + 1]? = some (.slice L[j].p L[j].L.length L[j].cap) := by
  induction L generalizing j with
  | nil => simp at h
  | cons p r ih =>
    cases j with
    | zero => simp [rowW]
    | succ m =>
      have := ih m (by simpa using h)
      rw [show (m + 1) * 2 = m * 2 + 1 + 1 from by omega]
      simpa [rowW, Nat.add_assoc] using this
theorem rowW_one (L : List Wd) : ∀ u ∈ rowW L, u.oneCell' = true := by
  induction L with
  | nil => simp [rowW]
  | cons p r ih =>
    intro u hu
    simp only [rowW, List.mem_cons] at hu
    rcases hu with rfl | rfl | h
    · rfl
    · rfl
    · exact ih u h

structure Wd.Ok (w : World) (d : Wd) : Prop where
  reads : Reads w d.p d.L
  nil : d.p = none → d.cap = 0
  typ : ∀ b off, d.p = some ⟨b, off, none⟩ → typ w b 57
  good : worldB d.t d.L = true

theorem Wd.Ok.keep {w w' : World} {S : Nat → Prop} {d : Wd} (h : d.Ok w) (hk : Kept S w w') (hS : ∀ j, Go.Proofs.Ytlfmfhmbkpnjbaa.typ w j 57 → ¬ S j) : d.Ok w' :=
  ⟨h.reads.keep hk (fun b off e => hS b (h.typ b off e)), h.nil, fun b off e => typ_keep (h.typ b off e) hk (hS b (h.typ b off e)), h.good⟩

theorem Wd.Ok.short {w : World} {d : Wd} (h : d.Ok w) : d.L.length ≤ 32 := (worldB_fine h.good).2.2.short

theorem info_world : (Try.prog.info? 40).map (fun i => (i.zero, i.size, i.bytes)) = some (some (.agg #[.int .i64 0, .slice none 0 0]), 2, 32) := by kernel_rfl

def c7 : Cmd := ⟨1, 7, 0, 1065353216, 1073741824, 0⟩
theorem step7 : stepL [c7] [] = [moveM (newM 7 0 1065353216 1073741824)] := by
  have h1 : spawnB 7 0 1065353216 1073741824 = true := by decide
  have h2 : findB [] 7 = false := findB_out (by simp [findI])
  simp [stepL, doM, c7, h1, h2, findI, keepL, liveB, newM]

/-- All that was played, and where it lies. -/
structure Run (w wr : World) (WS : List Wd) (p : Option Addr) (cap : Nat) : Prop where
  own : wr.ownsRow w.heap.size 40 2 (.slice p WS.length cap) WS.length (rowW WS)
  ok : ∀ d ∈ WS, d.Ok wr
  tick : ∀ k (h : k < WS.length), WS[k].t = k
  kept : Kept (fun _ => False) w wr

theorem after_set {wr w4 : World} {g4 b8 : Nat} {M : List Mob} {cu : List Value} (k : Kept (fun _ => False) wr w4) (hb : wr.heap.size ≤ b8) (h : w4.heap[b8]? = some (.cells #[.int .i64 0, .slice none 0 0] 40 (0, 0))) (e : EntAt w4 g4 M cu) (u v : Value) :
    Kept (fun _ => False) wr ((w4.setCell ⟨b8, 0, none⟩ u).setCell ⟨b8, 1, none⟩ v) ∧ ((w4.setCell ⟨b8, 0, none⟩ u).setCell ⟨b8, 1, none⟩ v).heap[b8]? = some (.cells #[u, v] 40 (0, 0)) ∧ EntAt ((w4.setCell ⟨b8, 0, none⟩ u).setCell ⟨b8, 1, none⟩ v) g4 M cu := by
  have kk : Kept (fun k => k = b8) w4 ((w4.setCell ⟨b8, 0, none⟩ u).setCell ⟨b8, 1, none⟩ v) := (Kept.setCell w4 _ u).join (Kept.setCell _ _ v) (fun _ _ e => e) (fun _ _ e => e)
  exact ⟨two_kept k hb u v, two_sets h u v, e.keep kk (typ_ne (typ_blk e.blk) (typ_blk h) (by decide))⟩
theorem after_new {wr w4 : World} {g4 : Nat} {M : List Mob} {cu : List Value} (k : Kept (fun _ => False) wr w4) (e : EntAt w4 g4 M cu) (u v : Value) :
    Kept (fun _ => False) wr (w4.alloc (.cells #[u, v] 40)) ∧ (w4.alloc (.cells #[u, v] 40)).heap[w4.heap.size]? = some (.cells #[u, v] 40 (0, 0)) ∧ EntAt (w4.alloc (.cells #[u, v] 40)) g4 M cu :=
  ⟨k.calm2 (Kept.alloc _ _), heap_alloc_new _ _, e.calm (Kept.alloc _ _)⟩

theorem owns_up {w : World} {base : Nat} {e : TypeId} {size g n cap : Nat} {xs : List Value} (h : w.ownsRow 0 e size (.slice (some ⟨g, 0, none⟩) n cap) n xs) (hg : base ≤ g) : w.ownsRow base e size (.slice (some ⟨g, 0, none⟩) n cap) n xs := by
  refine ⟨h.1, ?_⟩
  rcases h.2 with ⟨e, _⟩ | ⟨g', cp, cur, e, _, r⟩
  · cases e
  · simp only [Value.slice.injEq, Option.some.injEq, Addr.mk.injEq] at e
    obtain ⟨⟨rfl, _⟩, _, rfl⟩ := e
    exact Or.inr ⟨g, cap, cur, rfl, hg, r⟩

/-- One more world. -/
theorem Run.more {w wr w5 w7 : World} {WS : List Wd} {g cap g' cap' B6 : Nat} {d : Wd} (R : Run w wr WS (some ⟨g, 0, none⟩) cap) (k5 : Kept (fun _ => False) wr w5) (hd : d.Ok w5) (ht : d.t = WS.length)
    (k7 : Kept (fun j => j = B6 ∨ j = g) w5 w7) (hB : typ w5 B6 40) (hb6 : w.heap.size ≤ B6) (own : w7.ownsRow 0 40 2 (.slice (some ⟨g', 0, none⟩) (WS.length + 1) cap') (WS.length + 1) (rowW WS ++ rowW [d])) (hg' : g' = g ∨ w5.heap.size ≤ g') :
    Run w w7 (WS ++ [d]) (some ⟨g', 0, none⟩) cap' := by
  have tg : typ w5 g 40 := typ_keep (typ_own R.own g rfl) k5 (fun e => e)
  have hgw := (R.own.lt g rfl).1
  have hS : ∀ j, typ w5 j 57 → ¬ (j = B6 ∨ j = g) := by
    rintro j hj (rfl | rfl)
    · exact typ_ne hj hB (by decide) rfl
    · exact typ_ne hj tg (by decide) rfl
  have s5 := k5.size
  have s0 := R.kept.size
  refine ⟨?_, ?_, ?_, ?_⟩
  · rw [List.length_append, rowW_append]
    exact owns_up own (by rcases hg' with rfl | h <;> omega)
  · intro x hx
    rcases List.mem_append.1 hx with hx | hx
    · exact ((R.ok x hx).keep k5 (fun _ _ e => e)).keep k7 hS
    · obtain rfl : x = d := by simpa using hx
      exact hd.keep k7 hS
  · intro k hk
    rw [List.length_append] at hk
    by_cases hlt : k < WS.length
    · rw [List.getElem_append_left hlt]; exact R.tick k hlt
    · rw [List.getElem_append_right (by omega)]
      obtain rfl : k = WS.length := by simp at hk; omega
      simpa using ht
  · refine (R.kept.calm2 k5).join k7 (fun _ _ e => e) (fun j hj e => ?_)
    rcases e with rfl | rfl <;> omega

end Go.Proofs.Ytlfmfhmbkpnjbaa
