import Derived.Test.YtgclehnhjjkdbaaGreatDoorMats
namespace Go.Proofs.YtgclehnhjjkdbaaGreatDoor
open Go.RowKit

/-- What 'Record' leaves, whatever it answers. -/
structure RecPost (w w' : World) (rb : Nat) (ev : Int) (now : Wd) (buf : Value) (s : List UInt8) (cs : List Cmd) (S : Sn) (q : Option Addr) (cq : Nat) (now' : Wd) (ad' buf' : Value) (s' : List UInt8) : Prop where
  raw : Raw w' q S.X.length cq
  reads : Reads w' q S.X
  fresh : ∀ j, HB q j → w.heap.size ≤ j
  reco : Rec w' rb (.int .i64 ev) (.int .i64 now'.t) (.slice now'.p now'.L.length now'.cap) ad' buf' s'
  nowOk : now'.Ok w'
  apart : ∀ j, HB q j → ¬ HB now'.p j
  nbuf : ∀ j, buf'.ownBlock = some j → buf.ownBlock = some j ∨ w.heap.size ≤ j
  kept : Kept (fun j => j = rb ∨ buf.ownBlock = some j) w w'
  good : S.e = 0 → now'.t = now.t + 1 ∧ now'.t = S.t ∧ now'.L = S.X ∧ s' = s ++ lineL (tickW cs S.t S.X ev) ∧ (lineL (tickW cs S.t S.X ev)).length ≤ 15001
  bad : S.e ≠ 0 → now' = now ∧ s' = s

theorem line_ne (l : List ByteArray) : lineL l ≠ [] := by unfold lineL; simp

theorem record_any (B rb : Nat) (ev : Int) (now : Wd) (ad buf : Value) (s : List UInt8) (pc : Option Addr) (capc : Nat) (cs : List Cmd) (w : World)
    (hB4 : 4 < B) (hB2 : 2 < B) (hBr : B ≤ rb) (hBb : ∀ j, buf.ownBlock = some j → B ≤ j)
    (hrec : Rec w rb (.int .i64 ev) (.int .i64 now.t) (.slice now.p now.L.length now.cap) ad buf s) (hn : now.Ok w) (hC : ReadsC w pc cs) (hT : Tabs w) (he : 1 ≤ ev ∧ ev ≤ 64) (hIC : ∀ c ∈ cs, IntC c) (hs : s.length ≤ 100000000000000)
    (hCne : ∀ b off, pc = some ⟨b, off, none⟩ → b ≠ rb ∧ buf.ownBlock ≠ some b) :
    Calls Tryz.prog 21 #[.pointer (some ⟨rb, 0, none⟩), .slice pc cs.length capc] w fun e w' => ∃ q cq now' ad' buf' s', e = .returned (.tuple #[.agg #[.int .i64 (stepR now.t now.L cs).t, .slice q (stepR now.t now.L cs).X.length cq], .int .i64 (stepR now.t now.L cs).e]) ∧
      RecPost w w' rb ev now buf s cs (stepR now.t now.L cs) q cq now' ad' buf' s' := by
  have hsh := hn.short
  have hbad : ∀ (er : Int), er ≠ 0 → (∀ w', Kept (fun _ => False) w w' → Calls Tryz.prog 31 #[.agg #[.int .i64 now.t, .slice now.p now.L.length now.cap], .slice pc cs.length capc] w' fun e w'' => e = .returned (.tuple #[.agg #[.int .i64 0, .slice none 0 0], .int .i64 er]) ∧ Kept (fun _ => False) w' w'') →
      Calls Tryz.prog 21 #[.pointer (some ⟨rb, 0, none⟩), .slice pc cs.length capc] w fun e w' => ∃ q cq now' ad' buf' s', e = .returned (.tuple #[.agg #[.int .i64 0, .slice q 0 cq], .int .i64 er]) ∧ RecPost w w' rb ev now buf s cs ⟨0, [], er⟩ q cq now' ad' buf' s' := by
    intro er h0 hst
    refine (record_err rb ev now.t now.p now.cap now.L ad buf s pc capc cs.length er w hrec (by simp [h0]) hst).mono ?_
    rintro e w' ⟨rfl, k⟩
    refine ⟨none, 0, now, ad, buf, s, rfl, Or.inl ⟨rfl, rfl, rfl⟩, fun h => absurd rfl h, fun j hj => ?_, hrec.calm k, hn.keep k (fun _ _ e => e), fun j hj => ?_, fun j hj => Or.inl hj, k.mono (fun _ _ e => e.elim), fun h => absurd h h0, fun _ => ⟨rfl, rfl⟩⟩
    · obtain ⟨_, e⟩ := hj; cases e
    · obtain ⟨_, e⟩ := hj; cases e
  by_cases ht : now.t = 500
  · have hS : stepR now.t now.L cs = ⟨0, [], 2⟩ := by unfold stepR; rw [if_neg (by rw [hn.good]; decide), if_pos ht]
    rw [hS]
    refine hbad 2 (by decide) (fun w' k => ?_)
    rw [ht]
    exact step_last now.p pc now.cap cs.length capc now.L w' (by omega) (hn.reads.calm k) (by rw [← ht]; exact hn.good)
  · by_cases hl : 64 < cs.length
    · have hS : stepR now.t now.L cs = ⟨0, [], 1⟩ := by unfold stepR; rw [if_neg (by rw [hn.good]; decide), if_neg ht, if_pos hl]
      rw [hS]
      exact hbad 1 (by decide) (fun w' k => step_many now.t now.p pc now.cap cs.length capc now.L w' (by omega) (hn.reads.calm k) hn.good ht hl)
    · have hS : stepR now.t now.L cs = ⟨now.t + 1, stepL cs now.L, 0⟩ := by unfold stepR; rw [if_neg (by rw [hn.good]; decide), if_neg ht, if_neg hl]
      rw [hS]
      have hnx := worldB_next cs hn.good ht
      have hIM := worldB_int hnx
      refine (record_ok B rb ev now.t now.p now.cap now.L ad buf s pc capc cs w hB4 hB2 hBr hBb hrec hn.reads hn.nil hC hT hn.good ht (by omega) he hIC hIM hs hCne).mono ?_
      rintro e w' ⟨q, cq, gN, buf', rfl, f, r, rd, tg, hg, hq, nb, k⟩
      have hsh2 := (worldB_fine hnx).2.2.short
      refine ⟨q, cq, ⟨now.t + 1, some ⟨gN, 0, none⟩, 32, stepL cs now.L⟩, _, buf', _, rfl, f.raw, f.reads, fun j hj => ?_, r, ⟨rd, (fun e => by cases e), (fun b off e => by cases e; exact tg), hnx⟩, fun j hj hj' => ?_, nb, k, fun _ => ⟨rfl, rfl, rfl, rfl, tick_short cs (now.t + 1) (stepL cs now.L) ev (by omega) hsh2 hIC hIM⟩, fun h => absurd rfl h⟩
      · obtain ⟨off, e⟩ := hj; exact (f.new j off e).1
      · obtain ⟨off, e⟩ := hj
        obtain ⟨off', e'⟩ := hj'
        have h1 := hq j off e
        cases e'
        omega
end Go.Proofs.YtgclehnhjjkdbaaGreatDoor
