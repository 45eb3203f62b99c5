import Derived.Test.YtlfmfhmbkpnjbaaEkeep
namespace Go.Proofs.Ytlfmfhmbkpnjbaa
open Go.RowKit

/-- What is seen: tick, entities, error. -/
structure Sn where
  t : Int
  X : List Mob
  e : Int

theorem Raw.typ {w : World} {q : Option Addr} {n cq : Nat} (h : Raw w q n cq) (j : Nat) (hj : HB q j) : typ w j 57 := (h.home 0).typ j hj
theorem Raw.keep {w w' : World} {S : Nat → Prop} {q : Option Addr} {n cq : Nat} (h : Raw w q n cq) (hk : Kept S w w') (hS : ∀ j, HB q j → ¬ S j) : Raw w' q n cq := by
  rcases h with h | ⟨g, cur, h1, h2, h3⟩
  · exact Or.inl h
  · exact Or.inr ⟨g, cur, h1, by rw [hk.block g (heap_lt h2) (hS g ⟨0, h1⟩)]; exact h2, h3⟩

theorem sets_kept (w4 : World) (b8 : Nat) (u v : Value) : Kept (fun k => k = b8) w4 ((w4.setCell ⟨b8, 0, none⟩ u).setCell ⟨b8, 1, none⟩ v) := (Kept.setCell w4 _ u).join (Kept.setCell _ _ v) (fun _ _ e => e) (fun _ _ e => e)

/-- The answer is laid into a struct of the caller's. -/
structure Laid (w0 w5 : World) (b8 : Nat) (u v : Value) (q : Option Addr) (X : List Mob) : Prop where
  kept : Kept (fun _ => False) w0 w5
  blk : w5.heap[b8]? = some (.cells #[u, v] 40 (0, 0))
  reads : Reads w5 q X
  typs : ∀ j, HB q j → typ w5 j 57

theorem laid_set {w0 w4 : World} {b8 : Nat} {q : Option Addr} {X : List Mob} (k : Kept (fun _ => False) w0 w4) (hb : w0.heap.size ≤ b8) (h : w4.heap[b8]? = some (.cells #[.int .i64 0, .slice none 0 0] 40 (0, 0))) (rd : Reads w4 q X) (ht : ∀ j, HB q j → typ w4 j 57) (u v : Value) :
    Laid w0 ((w4.setCell ⟨b8, 0, none⟩ u).setCell ⟨b8, 1, none⟩ v) b8 u v q X :=
  ⟨two_kept k hb u v, two_sets h u v, rd.keep (sets_kept w4 b8 u v) (fun b off e => typ_ne (ht b ⟨off, e⟩) (typ_blk h) (by decide)), fun j hj => typ_keep (ht j hj) (sets_kept w4 b8 u v) (typ_ne (ht j hj) (typ_blk h) (by decide))⟩
theorem laid_new {w0 w4 : World} {q : Option Addr} {X : List Mob} (k : Kept (fun _ => False) w0 w4) (rd : Reads w4 q X) (ht : ∀ j, HB q j → typ w4 j 57) (u v : Value) :
    Laid w0 (w4.alloc (.cells #[u, v] 40)) w4.heap.size u v q X :=
  ⟨k.calm2 (Kept.alloc _ _), heap_alloc_new _ _, rd.calm (Kept.alloc _ _), fun j hj => typ_keep (ht j hj) (Kept.alloc _ _) (fun e => e)⟩

theorem block_reads {w : World} {g : Nat} {M : List Mob} (h : w.heap[g]? = some (.cells (rowM M).toArray 57 (0, 0))) : Reads w (some ⟨g, 0, none⟩) M := fun _ => ⟨g, 0, rfl, heap_lt h, fun j u hu => by rw [Nat.zero_add, cell_block h]; simpa using hu⟩
theorem Reads.pre {w : World} {p : Option Addr} {A B : List Mob} (h : Reads w p (A ++ B)) : Reads w p A := fun hA => by
  obtain ⟨b, off, h1, h2, h3⟩ := h (by intro e; exact hA (List.append_eq_nil_iff.1 e).1)
  refine ⟨b, off, h1, h2, fun j u hu => h3 j u ?_⟩
  rw [rowM_append, List.getElem?_append_left (List.getElem?_eq_some_iff.1 hu).1]; exact hu
end Go.Proofs.Ytlfmfhmbkpnjbaa
