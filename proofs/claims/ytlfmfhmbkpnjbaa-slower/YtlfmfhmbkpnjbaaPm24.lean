import Derived.Test.YtlfmfhmbkpnjbaaPm23
import Derived.Test.YtlfmfhmbkpnjbaaPm19
namespace Go.Proofs.Ytlfmfhmbkpnjbaa
open Go.RowKit

/-- Two lists of entities in memory: before a tick and behind it. -/
structure Two (w wr : World) (B4 B5 : Nat) (t : Int) (p : Option Addr) (cap g : Nat) (L : List Mob) (cu : List Value) : Prop where
  b4 : wr.heap[B4]? = some (.cells #[.int .i64 t, .slice p L.length cap] 40 (0, 0))
  b5 : wr.heap[B5]? = some (.cells #[.int .i64 (t + 1), .slice (some ⟨g, 0, none⟩) L.length 32] 40 (0, 0))
  reads : Reads wr p L
  ent : EntAt wr g (L.map moveM) cu
  kept : Kept (fun _ => False) w wr

theorem Two.calm {w wr w' : World} {B4 B5 : Nat} {t : Int} {p : Option Addr} {cap g : Nat} {L : List Mob} {cu : List Value} (h : Two w wr B4 B5 t p cap g L cu) (k : Kept (fun _ => False) wr w') : Two w w' B4 B5 t p cap g L cu :=
  ⟨by rw [k.block _ (heap_lt h.b4) (fun e => e)]; exact h.b4, by rw [k.block _ (heap_lt h.b5) (fun e => e)]; exact h.b5, h.reads.calm k, h.ent.calm k, h.kept.calm2 k⟩

set_option maxHeartbeats 4000000 in
set_option maxRecDepth 100000 in
theorem slower_walk (q : Option Addr) (n capq : Nat) (w : World) (hn : (n : Int) ≤ 9223372036854775807) (h : RT w q n) :
    Calls Try.prog 8 #[.slice q n capq] w fun e w' => e = .returned (.bool true) ∧ Below w.heap.size w w' := by
  have hsf := store_float Try.prog
  go_enter Try.func8, Try.ntmps8
  go_wp2_with fail
  refine (played_c q n capq _ hn h).mono ?_
  rintro e w1 ⟨g, cap, WS, h1, h61, rfl, R⟩
  have R0 := hide R
  have hnil := not_nil g WS.length cap
  obtain ⟨k, hk⟩ : ∃ k, WS.length = k + 1 := ⟨WS.length - 1, by omega⟩
  obtain ⟨c0, c1⟩ := R.cells k (by omega)
  have HO := hide (R.ok WS[k] (List.getElem_mem _))
  have ht := R.tick k (by omega)
  have hb0 : IntKind.i64.wrap (k : Int) = (k : Int) := wrap_id _ (by omega)
  have hb1 : (0 : Int) ≤ (k : Int) := by omega
  rw [hk] at hnil ⊢
  clear R h
  generalize WS[k] = d at *
  have hd500 : d.t ≠ 500 := by omega
  have hdl := HO.out.short
  have HS := hide (step_none HO.out.good)
  have HM := hide (worldB_mobs HO.out.good)
  have hgl := R0.out.lt
  have K0 := hide R0.out.kept
  have hw1 := R0.out.kept.size
  clear hk ht R0
  have hb2 : (k : Int) < ((k + 1 : Nat) : Int) := by omega
  go_wp2_with fail
  refine (step_ok d.t d.p none d.cap 0 d.L [] _ (by omega) (HO.out.reads.calm (Kept.alloc _ _)) HO.out.nil (fun e => absurd rfl e) HO.out.good hd500 (by decide)).mono ?_
  rw [HS.out]
  rintro e w2 ⟨g2, cu2, hg2, rfl, e2, k2⟩
  have T0 : Hid (Two w (w2.alloc (.cells #[.int .i64 (d.t + 1), .slice (some ⟨g2, 0, none⟩) (d.L.map moveM).length 32] 40)) w1.heap.size w2.heap.size d.t d.p d.cap g2 d.L cu2) := by
    have ka := Kept.alloc w2 (.cells #[.int .i64 (d.t + 1), .slice (some ⟨g2, 0, none⟩) (d.L.map moveM).length 32] 40)
    have hb := new_calm k2
    refine ⟨?_, ?_, (HO.out.reads.calm (Kept.alloc w1 _)).calm (k2.calm2 ka), e2.calm ka, ((K0.out.calm2 (Kept.alloc w1 _)).calm2 k2).calm2 ka⟩
    · rw [ka.block _ (heap_lt hb) (fun e => e)]; exact hb
    · have := heap_alloc_new w2 (.cells #[.int .i64 (d.t + 1), .slice (some ⟨g2, 0, none⟩) (d.L.map moveM).length 32] 40)
      rw [List.length_map] at this ⊢
      exact this
  obtain ⟨y0, y1, -, -⟩ := two_cells T0.out.b4
  have hB4 : w1.heap.size < w2.heap.size := by have := k2.size; simp at this; omega
  clear c0 c1 e2 k2
  rw [List.length_map] at *
  have hne : ((d.L.length : Int) != (d.L.length : Int)) = false := by simp
  go_wp2
  generalize w2.alloc (.cells #[.int .i64 (d.t + 1), .slice (some ⟨g2, 0, none⟩) d.L.length 32] 40) = w3 at *
  generalize w1.heap.size = B4 at *
  generalize w2.heap.size = B5 at *
  go_loopw [7] (fun t wr => ∃ i : Nat, i ≤ d.L.length ∧ t = .int .i64 i ∧ Hid (Two w wr B4 B5 d.t d.p d.cap g2 d.L cu2)) (fun t _ => d.L.length - (intOf t).toNat)
  case atStart => exact ⟨0, Nat.zero_le _, rfl, T0⟩
  case round =>
    obtain ⟨i, hil, rfl, HT⟩ := hrel
    clear T0 y0 y1
    obtain ⟨y0, y1, -, -⟩ := two_cells HT.out.b4
    obtain ⟨z0, z1, -, -⟩ := two_cells HT.out.b5
    by_cases hlt : i < d.L.length
    · obtain ⟨b, off, hp, hb, c0, c1, c2, c3, c4, c5, c6⟩ := HT.out.reads.at i hlt
      have hlt' : i < (d.L.map moveM).length := by simpa using hlt
      obtain ⟨e0, e1, e2, e3, e4, e5, e6⟩ := HT.out.ent.at i hlt'
      have hmm : (d.L.map moveM)[i] = moveM d.L[i] := by simp
      rw [hmm] at e0 e1 e2 e3 e4 e5 e6
      have hax := mob_axes (HM.out d.L[i] (List.getElem_mem hlt))
      have hb3 : (0 : Int) ≤ (i : Int) := by omega
      have hb4 : (i : Int) < (d.L.length : Int) := by omega
      have hg2s := heap_lt HT.out.ent.blk
      have hB4s := heap_lt HT.out.b4
      have hB5s := heap_lt HT.out.b5
      have KK := hide (HT.out.calm ((Kept.alloc wr (.cells #[.int .i64 d.L[i].id, .int .i64 d.L[i].team, .float .f32 d.L[i].x, .float .f32 d.L[i].y, .float .f32 d.L[i].vx, .float .f32 d.L[i].vy, .int .i64 d.L[i].health] 57)).calm2 (Kept.alloc _ (.cells #[.int .i64 d.L[i].id, .int .i64 d.L[i].team, .float .f32 (moveM d.L[i]).x, .float .f32 (moveM d.L[i]).y, .float .f32 (moveM d.L[i]).vx, .float .f32 (moveM d.L[i]).vy, .int .i64 d.L[i].health] 57))))
      rw [hp] at y1
      have e0 : wr.cell? ⟨g2, i * 7, none⟩ = some (.int .i64 d.L[i].id) := e0
      have e1 : wr.cell? ⟨g2, i * 7 + 1, none⟩ = some (.int .i64 d.L[i].team) := e1
      have e6 : wr.cell? ⟨g2, i * 7 + 6, none⟩ = some (.int .i64 d.L[i].health) := e6
      generalize (moveM d.L[i]).x = bx at *
      generalize (moveM d.L[i]).y = bY at *
      generalize (moveM d.L[i]).vx = bvx at *
      generalize (moveM d.L[i]).vy = bvy at *
      obtain ⟨⟨sx, mx1, mx2, wx⟩, ⟨sy, my1, my2, wy⟩⟩ := hax
      have n0 : (d.L[i].id != d.L[i].id) = false := by simp
      have n1 : (d.L[i].team != d.L[i].team) = false := by simp
      have n6 : (d.L[i].health != d.L[i].health) = false := by simp
      clear hp hmm HT
      generalize d.L[i] = a at *
      rcases wx with ⟨x1, x2, x3, x4⟩ | ⟨x1, x2, x3, x4⟩ | ⟨x1, x2, x3, x4⟩ <;> rcases wy with ⟨u1, u2, u3, u4⟩ | ⟨u1, u2, u3, u4⟩ | ⟨u1, u2, u3, u4⟩
      all_goals
        go_wp2
        go_roundw
        case rel => exact ⟨i + 1, by omega, by go_num, KK⟩
        case measure => simp [intOf]; omega
    · go_wp2
      go_ret
      exact ⟨rfl, HT.out.kept.below _ (Nat.le_refl _) (fun _ _ e => e)⟩
end Go.Proofs.Ytlfmfhmbkpnjbaa

namespace Go.Proofs.Ytlfmfhmbkpnjbaa.slower
open Go.ChangeShapes Go.WideShapes Go.ChangeAt Go.RowKit Go.Deep
set_option linter.unusedVariables false

set_option maxRecDepth 100000 in
theorem lifted (os : Os) (started : os.Started) (H : Type) (enc : TypeId × Value → H) :
    ReturnsInHanded {} Try.checked os 8 .any (Rows.slowerSpec.pre6 enc Try.prog Try.f8 Rows.slowerRow.domain false) (Rows.slowerSpec.post enc Try.prog Try.f8 false true false false) := by
  refine returnsInHanded_of_change (C := Try.checked) ticks.own started (by kernel_rfl) Try.func8
    (ChangeSpec.witness6 (enc := enc) (C := Try.checked) false ⟨#[], #[.slice none 0 0], []⟩ 8 (by kernel_rfl) (by kernel_rfl) (by kernel_rfl) (by kernel_rfl)) ?_
  intro W base args ds gs before hval0 hW hcnd _
  have hval : ∀ (j : Nat) t v, Try.f8.params[j]? = some t → args[j]? = some v → Value.okWide Try.prog W .any base t v := hval0
  have hW' := hW
  obtain ⟨p, q, hA0, hV, rfl, hfz, hnd⟩ := hW
  have hA : DataW.TrodAll enc Try.prog W 0 (fun _ => true) true Try.f8.params.toList args.toList ds p := hA0
  rw [Try.params8] at hA hval
  obtain ⟨v0, vs0, d0, ds0, p0, q0, hargs, rfl, rfl, h0, r0⟩ := trodAll_cons hA
  obtain ⟨rfl, rfl, rfl⟩ := trodAll_nil r0
  obtain rfl : args = #[v0] := by cases args; simp_all
  obtain ⟨rfl, rfl⟩ := trodVars_none hV
  obtain ⟨a0, len0, cap0, rfl⟩ := okWide_slice Try.underlying25 (hval 0 25 v0 rfl rfl)
  have k0 := h0
  have lt0 : ∀ x ∈ p0, x.block < W.heap.size := by obtain ⟨m, hm⟩ := k0; exact DataW.trod_lt m _ _ _ hm
  clear hA0 hval0
  obtain ⟨hn, hRT⟩ := ticks.open_ticks h0
  refine (slower_walk a0 len0 cap0 W hn hRT).mono fun e W' ⟨he, bel⟩ => ?_
  subst he
  exact ⟨_, rfl, _, _, _, [], _, [], hW', trodAll_mk1 (shut_bool Try.underlying4 _), (trodAll_cons_mk (Below.trod ticks.laidOut (by kernel_rfl) (of_decide_eq_true (by kernel_rfl)) k0 bel lt0) trodAll_mk0), rfl, bel.frame _, fun h => by cases h⟩

theorem over : Rows.slowerRow.holds Try.pinned (OpenSpec.ofChange Rows.slowerSpec) :=
  OpenClaim.holds_of_wide 8 Try.f8 rfl rfl rfl rfl rfl rfl rfl ⟨rfl, rfl, rfl, rfl, rfl⟩ rfl rfl rfl rfl rfl (by kernel_rfl) Try.func8 (by kernel_rfl)
    (of_decide_eq_true (by kernel_rfl)) (by unfold Func.isWrapper; first | (rw [if_pos (by decide +kernel)]; kernel_rfl) | (rw [if_neg (by decide +kernel)]; exact ⟨rfl, rfl⟩))
    (fun os started H enc _ => lifted os started H enc)

end Go.Proofs.Ytlfmfhmbkpnjbaa.slower

namespace Go.Proofs.Ytlfmfhmbkpnjbaa
theorem slower_holds : Rows.SlowerSaid := slower.over
#print axioms slower_holds
end Go.Proofs.Ytlfmfhmbkpnjbaa
