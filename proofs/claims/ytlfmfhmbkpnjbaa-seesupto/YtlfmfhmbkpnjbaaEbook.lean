import Derived.Test.YtlfmfhmbkpnjbaaBent
namespace Go.Proofs.Ytlfmfhmbkpnjbaa
open Go.RowKit

/-- A list that came out: where, its length, its capacity. -/
abbrev Els := Option Addr × Nat × Nat
def se (q : Els) : Value := .slice q.1 q.2.1 q.2.2

/-- The book: lists of entities, each written full with its mark; lists of keys: none. -/
structure BookE (w : World) (bk : Nat) (ev : Value) (Q : List Els) : Prop where
  blk : w.heap[bk]? = some (.cells #[ev, .slice none 0 0] 27 (0, 0))
  own : w.ownsRow 0 38 1 ev Q.length (Q.map se)
  rows : ∀ i (h : i < Q.length), Reads w Q[i].1 (mks Q[i].2.1 ((i : Int) / 4))
  here : ∀ i (h : i < Q.length) j, HB Q[i].1 j → typ w j 57
  short : ∀ i (h : i < Q.length), Q[i].2.1 ≤ 100
  four : Q.length % 4 = 0

theorem eqM_mark (k : Int) : eqM (markM k) (markM k) = true := by
  have h0 : feq 0 0 = true := by decide
  simp [eqM, markM, h0]

set_option maxHeartbeats 400000 in
set_option maxRecDepth 100000 in
theorem wholeE_nil (bk : Nat) (w : World) (h : w.heap[bk]? = some (.cells #[.slice none 0 0, .slice none 0 0] 27 (0, 0))) :
    Calls Try.prog 13 #[.pointer (some ⟨bk, 0, none⟩)] w fun e w' => e = .returned (.bool true) ∧ w' = w := by
  obtain ⟨c0, c1, -, -⟩ := two_cells h
  clear h
  go_enter Try.func13, Try.ntmps13
  go_wp2
  refine wp_loop_rounds 1 ?_
  rw [rounds_succ]
  go_wp2
  refine wp_loop_rounds 1 ?_
  rw [rounds_succ]
  go_wp2
  go_ret
  exact ⟨rfl, rfl⟩

set_option maxHeartbeats 2000000 in
set_option maxRecDepth 100000 in
theorem wholeE_row (bk G cp : Nat) (Q : List Els) (w : World) (hQ : Q.length ≤ 1000000000) (h : BookE w bk (.slice (some ⟨G, 0, none⟩) Q.length cp) Q) :
    Calls Try.prog 13 #[.pointer (some ⟨bk, 0, none⟩)] w fun e w' => e = .returned (.bool true) ∧ Kept (fun _ => False) w w' := by
  have H := hide h
  clear h
  go_enter Try.func13, Try.ntmps13
  go_wp2
  go_loopw [3] (fun t wr => ∃ i : Nat, i ≤ Q.length ∧ t = .int .i64 i ∧ Hid (Kept (fun _ => False) w wr)) (fun t _ => Q.length - (intOf t).toNat)
  case atStart => exact ⟨0, Nat.zero_le _, rfl, Kept.refl _ _⟩
  case round =>
    obtain ⟨i, hi, rfl, HK⟩ := hrel
    have BR : Hid (wr.heap[bk]? = some (.cells #[.slice (some ⟨G, 0, none⟩) Q.length cp, .slice none 0 0] 27 (0, 0))) := by show _ = _; rw [HK.out.block _ (heap_lt H.out.blk) (fun e => e)]; exact H.out.blk
    obtain ⟨c0, c1, -, -⟩ := two_cells BR.out
    by_cases hlt : i < Q.length
    · have hG : G < w.heap.size := owns_lt H.out.own G rfl
      have d1 : w.cell? ⟨G, i, none⟩ = some (se Q[i]) := row_cell H.out.own i _ (by simp [hlt])
      have HRD := hide (H.out.rows i hlt)
      have hsh := H.out.short i hlt
      obtain ⟨⟨p, l, cp2⟩, hq⟩ : ∃ q, Q[i] = q := ⟨_, rfl⟩
      rw [hq] at d1 HRD hsh
      simp only [se] at d1 HRD hsh
      clear hq
      have hib1 : (0 : Int) ≤ (i : Int) := by omega
      have hib2 : (i : Int) < (Q.length : Int) := by omega
      have HD : Hid (∀ w', Kept (fun _ => False) w w' → w'.cell? ⟨bk, 0, none⟩ = some (.slice (some ⟨G, 0, none⟩) Q.length cp) ∧ w'.cell? ⟨G, i, none⟩ = some (.slice p l cp2)) := fun w' hk =>
        ⟨by rw [cell_keep hk (heap_lt H.out.blk) (fun e => e)]; exact (two_cells H.out.blk).1, by rw [cell_keep hk hG (fun e => e)]; exact d1⟩
      clear c0 c1 d1 BR
      obtain ⟨c0, d1⟩ := HD.out wr HK.out
      go_wp2
      clear c0 d1
      have HK0 := HK
      clear HK
      go_loopw [4] (fun t wr => ∃ j : Nat, j ≤ l ∧ t = .int .i64 j ∧ Hid (Kept (fun _ => False) w wr)) (fun t _ => l - (intOf t).toNat)
      case atStart => exact ⟨0, Nat.zero_le _, rfl, HK0⟩
      case round =>
        obtain ⟨j, hj, rfl, HK⟩ := hrel
        obtain ⟨c0, d1⟩ := HD.out _ HK.out
        by_cases hjl : j < l
        · have hjl2 : j < (mks l ((i : Int) / 4)).length := by rw [mks_len]; exact hjl
          obtain ⟨b, off, rfl, hb, e0, e1, e2, e3, e4, e5, e6⟩ := (HRD.out.calm HK.out).at j hjl2
          have hmk : (mks l ((i : Int) / 4))[j] = markM ((i : Int) / 4) := by simp [mks]
          rw [hmk] at e0 e1 e2 e3 e4 e5 e6
          simp only [markM] at e0 e1 e2 e3 e4 e5 e6
          have hne := neq_mob (markM ((i : Int) / 4)) (markM ((i : Int) / 4))
          rw [eqM_mark] at hne
          simp only [markM] at hne
          have hjb1 : (0 : Int) ≤ (j : Int) := by omega
          have hjb2 : (j : Int) < (l : Int) := by omega
          have CE : Hid (∀ w', Kept (fun _ => False) wr w' → w'.cell? ⟨bk, 0, none⟩ = some (.slice (some ⟨G, 0, none⟩) Q.length cp) ∧ w'.cell? ⟨G, i, none⟩ = some (.slice (some ⟨b, off, none⟩) l cp2) ∧ w'.cell? ⟨b, off + j * 7, none⟩ = some (.int .i64 (-1000 - (i : Int) / 4)) ∧ w'.cell? ⟨b, off + j * 7 + 1, none⟩ = some (.int .i64 0) ∧ w'.cell? ⟨b, off + j * 7 + 2, none⟩ = some (.float .f32 0) ∧ w'.cell? ⟨b, off + j * 7 + 3, none⟩ = some (.float .f32 0) ∧ w'.cell? ⟨b, off + j * 7 + 4, none⟩ = some (.float .f32 0) ∧ w'.cell? ⟨b, off + j * 7 + 5, none⟩ = some (.float .f32 0) ∧ w'.cell? ⟨b, off + j * 7 + 6, none⟩ = some (.int .i64 7)) := fun w' hk => by
            obtain ⟨f0, f1⟩ := HD.out w' (HK.out.calm2 hk)
            refine ⟨f0, f1, ?_, ?_, ?_, ?_, ?_, ?_, ?_⟩
            all_goals rw [cell_keep hk hb (fun e => e)]; assumption
          go_wp2
          have hwr : IntKind.i64.wrap ((i : Int) / 4) = (i : Int) / 4 := wrap_id _ (by omega)
          clear HD HRD H
          have hk0 : 0 ≤ (i : Int) / 4 ∧ (i : Int) / 4 ≤ 4611686018427387904 := by omega
          go_region_held3 (fun w' => w'.cell? ⟨bk, 0, none⟩ = some (.slice (some ⟨G, 0, none⟩) Q.length cp) ∧ w'.cell? ⟨G, i, none⟩ = some (.slice (some ⟨b, off, none⟩) l cp2) ∧ w'.cell? ⟨b, off + j * 7, none⟩ = some (.int .i64 (-1000 - (i : Int) / 4)) ∧ w'.cell? ⟨b, off + j * 7 + 1, none⟩ = some (.int .i64 0) ∧ w'.cell? ⟨b, off + j * 7 + 2, none⟩ = some (.float .f32 0) ∧ w'.cell? ⟨b, off + j * 7 + 3, none⟩ = some (.float .f32 0) ∧ w'.cell? ⟨b, off + j * 7 + 4, none⟩ = some (.float .f32 0) ∧ w'.cell? ⟨b, off + j * 7 + 5, none⟩ = some (.float .f32 0) ∧ w'.cell? ⟨b, off + j * 7 + 6, none⟩ = some (.int .i64 7)) (go_keep)
            ((go_at_call 45; (try rw [hwr]); refine (badEntity_c ((i : Int) / 4) _ hk0).mono ?_; rintro e w4 ⟨rfl, q4⟩; have K4 := hide ((Kept.drew wr).calm2 q4); obtain ⟨v0, v1, v2, v3, v4, v5, v6, v7, v8⟩ := CE.out w4 K4.out; clear q4))
          go_wp2
          go_roundw
          case rel => exact ⟨j + 1, by omega, by go_num, HK.out.calm2 K4.out⟩
          case measure => simp [intOf]; omega
        · go_wp2
          go_roundw
          case rel => exact ⟨i + 1, by omega, by go_num, HK⟩
          case measure => simp [intOf]; omega
    · go_wp2
      refine wp_loop_rounds 1 ?_
      rw [rounds_succ]
      go_wp2
      go_ret
      exact ⟨rfl, HK.out⟩

theorem wholeE (bk : Nat) (ev : Value) (Q : List Els) (w : World) (hQ : Q.length ≤ 1000000000) (h : BookE w bk ev Q) :
    Calls Try.prog 13 #[.pointer (some ⟨bk, 0, none⟩)] w fun e w' => e = .returned (.bool true) ∧ Kept (fun _ => False) w w' := by
  rcases h.own.2 with ⟨rfl, _⟩ | ⟨G, cp, _, rfl, _⟩
  · refine (wholeE_nil bk w h.blk).mono ?_
    rintro e w' ⟨rfl, rfl⟩
    exact ⟨rfl, Kept.refl _ _⟩
  · exact wholeE_row bk G cp Q w hQ h
end Go.Proofs.Ytlfmfhmbkpnjbaa
