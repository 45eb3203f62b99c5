import Derived.Test.YtgclehnhjjkdbaaGreatDoorRecany
import Derived.Test.YtgclehnhjjkdbaaGreatDoorLentc
import Derived.Test.YtgclehnhjjkdbaaGreatDoorLayPart
import Derived.Deep.RegionLawGrows
import Derived.OwnWalk
namespace Go.Proofs.YtgclehnhjjkdbaaGreatDoor
open Go.RowKit

/-- append, as a step of a region that draws its order: where the new row lies. -/
theorem step_append_mine {P : Program} {ops : Array Oper} {o : Oper} {a : Act} {w : World} {K : Act → World → Prop} {Q : Exit → Act → World → Prop} {E : Prop} (hgd : o.guard = none) (s x : Operand) (t : TypeId)
    (ho : o.op = .call { callee := .builtin .append, args := #[s, x], argTypes := #[t, t] })
    (e : TypeId) (i : TypeInfo) (z : Value) (size bytes : Nat) (ht : P.underlying t = some (.slice e)) (hi : P.info? e = some i) (hz : i.zero = some z)
    (hsize : i.size = size) (hby : i.bytes = bytes) (hzs : z.cells.size = size) (hsz : 0 < size)
    (v : Value) (n : Nat) (xs : List Value) (hs : a.eval s = v) (hown : w.ownsRow 0 e size v n xs)
    (ad : Addr) (m c : Nat) (news : List Value) (hx : a.eval x = .slice (some ad) m c) (hl : news.length = m * size) (hnews : ∀ j u, news[j]? = some u → w.cell? (ad.add j) = some u) (h1 : ∀ u ∈ news, u.oneCell' = true)
    (hm : 0 < m) (h63 : n + m ≤ maxLen) (hbytes : (n + m) * bytes ≤ 140737488355328)
    (h : ∀ g cap' w', Hid (w'.ownsRow 0 e size (.slice (some ⟨g, 0, none⟩) (n + m) cap') (n + m) (xs ++ news)) → Hid (w.grownBy w' v.ownBlock) → Hid (v.ownBlock = some g ∨ w.heap.size ≤ g) → K (a.put o.dst (.slice (some ⟨g, 0, none⟩) (n + m) cap')) w') :
    if Region.wanted o (yielded ops a.tmps) = true then Oper.wp P o a w K Q else E := by
  have fin : ∀ v' w', w'.ownsRow w.heap.size e size v' (n + m) (xs ++ news) → w.grownBy w' none → K (a.put o.dst v') w' := by
    intro v' w' ho' hg'
    rcases ho'.2 with ⟨_, h0⟩ | ⟨g, cap', cur, rfl, hbg, _⟩
    · omega
    · exact h g cap' w' (owns_base ho') (grown_some hg' _) (Or.inr hbg)
  have hown' := hown
  obtain ⟨hlen, h2⟩ := hown
  rcases h2 with ⟨rfl, h0⟩ | ⟨g, cap, cur, rfl, _, hh, hnc, hcm, hcs, htk⟩
  · subst h0
    obtain rfl : xs = [] := List.eq_nil_of_length_eq_zero (by simpa using hlen)
    exact step_append_grows hgd s x t ho e i z size bytes ht hi hz hsize hby hzs hsz none 0 0 [] hs (fun _ => ⟨rfl, rfl⟩) (by simp) (by intro b hb; cases hb) ad m c news hx hl hnews h1 (by omega) h63 hbytes fin
  · by_cases hroom : n + m ≤ cap
    · have hw : Region.wanted o (yielded ops a.tmps) = true := by simp [Region.wanted, hgd]
      rw [if_pos hw]
      obtain ⟨w', hrun, r1, r2⟩ := run_append_fits (P := P) w 0 t o.type e i size ht hi hsize g n cap xs hown' ad m c news hl hnews h1 hroom
      unfold Oper.wp
      simp [execOp, ho, resolve, invoke, builtin, hs, hx, hrun, Result.andThen]
      exact h g cap w' r1 r2 (Or.inl rfl)
    · exact step_append_grows hgd s x t ho e i z size bytes ht hi hz hsize hby hzs hsz (some ⟨g, 0, none⟩) n cap xs hs (by intro hb; cases hb) hlen
        (by intro b hb j u hu; cases hb; exact hown'.cells (g := g) rfl j u hu) ad m c news hx hl hnews h1 (by omega) h63 hbytes fin

theorem match_cells {w : World} {c : Nat} {a b d e : Value} {T : TypeId} (h : w.heap[c]? = some (.cells #[a, b, d, e] T (0, 0))) : w.cell? ⟨c, 0, none⟩ = some a ∧ w.cell? ⟨c, 1, none⟩ = some b ∧ w.cell? ⟨c, 2, none⟩ = some d ∧ w.cell? ⟨c, 3, none⟩ = some e ∧ ∀ j, w.frozen? ⟨c, j, none⟩ = false := by
  refine ⟨?_, ?_, ?_, ?_, fun j => by simp [World.frozen?, h]⟩ <;> rw [cell_block h] <;> rfl

section
variable {w0 w w' w'' : World} {rb : Nat} {ev : Int} {now now' : Wd} {buf ad' buf' : Value} {s s' : List UInt8} {cs : List Cmd} {S : Sn} {q : Option Addr} {cq : Nat}
theorem RecPost.keep {X : Nat → Prop} (h : RecPost w w' rb ev now buf s cs S q cq now' ad' buf' s') (k : Kept X w' w'') (hX : ∀ j, X j → w.heap.size ≤ j ∧ typ w' j 56) : RecPost w w'' rb ev now buf s cs S q cq now' ad' buf' s' where
  raw := h.raw.keep k (fun j hj e => typ_ne (h.raw.typ j hj) (hX j e).2 (by decide) rfl)
  reads := h.reads.keep k (fun b off hb e => typ_ne (h.raw.typ b ⟨off, hb⟩) (hX b e).2 (by decide) rfl)
  fresh := h.fresh
  reco := h.reco.keep k (fun e => typ_ne (typ_blk h.reco.blk) (hX rb e).2 (by decide) rfl) (fun j hj e => typ_ne (typ_ownF h.reco.own j hj) (hX j e).2 (by decide) rfl)
  nowOk := h.nowOk.keep k (fun j hj e => typ_ne hj (hX j e).2 (by decide) rfl)
  apart := h.apart
  nbuf := h.nbuf
  kept := h.kept.join k (fun _ _ e => e) (fun j hj e => by have := (hX j e).1; omega)
  good := h.good
  bad := h.bad
theorem RecPost.calm (h : RecPost w w' rb ev now buf s cs S q cq now' ad' buf' s') (k : Kept (fun _ => False) w' w'') : RecPost w w'' rb ev now buf s cs S q cq now' ad' buf' s' := h.keep k (fun _ e => e.elim)
theorem RecPost.pre (h : RecPost w w' rb ev now buf s cs S q cq now' ad' buf' s') (k : Kept (fun _ => False) w0 w) : RecPost w0 w' rb ev now buf s cs S q cq now' ad' buf' s' :=
  { h with
    fresh := fun j hj => Nat.le_trans k.size (h.fresh j hj)
    nbuf := fun j hj => (h.nbuf j hj).imp (fun e => e) (fun e => Nat.le_trans k.size e)
    kept := k.join h.kept (fun _ _ e => e.elim) (fun _ _ e => e) }

/-- The answer, laid into a struct of the caller's. -/
theorem rec_new (k : Kept (fun _ => False) w0 w) (h : RecPost w w' rb ev now buf s cs S q cq now' ad' buf' s') (u v : Value) :
    RecPost w0 (w'.alloc (.cells #[u, v] 56)) rb ev now buf s cs S q cq now' ad' buf' s' ∧ (w'.alloc (.cells #[u, v] 56)).heap[w'.heap.size]? = some (.cells #[u, v] 56 (0, 0)) ∧ w0.heap.size ≤ w'.heap.size :=
  ⟨(h.pre k).calm (Kept.alloc _ _), heap_alloc_new _ _, Nat.le_trans k.size h.kept.size⟩
theorem rec_set {b8 : Nat} (k : Kept (fun _ => False) w0 w) (h : RecPost w w' rb ev now buf s cs S q cq now' ad' buf' s') (hb : w0.heap.size ≤ b8) (hT : w'.heap[b8]? = some (.cells #[.int .i64 0, .slice none 0 0] 56 (0, 0))) (u v : Value) :
    RecPost w0 ((w'.setCell ⟨b8, 0, none⟩ u).setCell ⟨b8, 1, none⟩ v) rb ev now buf s cs S q cq now' ad' buf' s' ∧ ((w'.setCell ⟨b8, 0, none⟩ u).setCell ⟨b8, 1, none⟩ v).heap[b8]? = some (.cells #[u, v] 56 (0, 0)) ∧ w0.heap.size ≤ b8 :=
  ⟨(h.pre k).keep (sets_kept w' b8 u v) (fun j e => ⟨by omega, by rw [e]; exact typ_blk hT⟩), two_sets hT u v, hb⟩
end
end Go.Proofs.YtgclehnhjjkdbaaGreatDoor
