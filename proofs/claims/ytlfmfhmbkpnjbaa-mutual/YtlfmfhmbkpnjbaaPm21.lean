import Derived.Test.YtlfmfhmbkpnjbaaPm20
namespace Go.Proofs.Ytlfmfhmbkpnjbaa
open Go.RowKit

theorem Run.cells {w wr : World} {WS : List Wd} {g cap : Nat} (R : Run w wr WS (some ⟨g, 0, none⟩) cap) (i : Nat) (hi : i < WS.length) :
    wr.cell? ⟨g, i * 2, none⟩ = some (.int .i64 WS[i].t) ∧ wr.cell? ⟨g, i * 2 + 1, none⟩ = some (.slice WS[i].p WS[i].L.length WS[i].cap) := by
  obtain ⟨r0, r1⟩ := rowW_get WS i hi
  have h := R.own.cells (g := g) rfl
  exact ⟨by have := h _ _ r0; rwa [addr_add] at this, by have := h _ _ r1; rwa [addr_add] at this⟩

theorem Run.calm {w wr w' : World} {WS : List Wd} {g cap : Nat} (R : Run w wr WS (some ⟨g, 0, none⟩) cap) (k : Kept (fun _ => False) wr w') : Run w w' WS (some ⟨g, 0, none⟩) cap :=
  ⟨owns_block R.own (fun j hj => k.block j (owns_lt R.own j hj) (fun e => e)), fun d hd => (R.ok d hd).keep k (fun _ _ e => e), R.tick, R.kept.calm2 k⟩

theorem Run.lt {w wr : World} {WS : List Wd} {g cap : Nat} (R : Run w wr WS (some ⟨g, 0, none⟩) cap) : g < wr.heap.size := (R.own.lt g rfl).2

theorem not_nil (g n cap : Nat) (w : World) : (binOp .eql 68 (.slice (some ⟨g, 0, none⟩) n cap) (.slice none 0 0)).run Try.prog w = .ok (.bool false) w :=
  Lib.run_eql_slice_nil w 68 40 _ _ _ _ _ Try.underlying68

set_option maxHeartbeats 2000000 in
set_option maxRecDepth 100000 in
theorem sound_walk (q : Option Addr) (n capq : Nat) (w : World) (hn : (n : Int) ≤ 9223372036854775807) (h : RT w q n) :
    Calls Try.prog 7 #[.slice q n capq] w fun e w' => e = .returned (.bool true) ∧ Below w.heap.size w w' := by
  go_enter Try.func7, Try.ntmps7
  go_wp2_with fail
  refine (played_c q n capq _ hn h).mono ?_
  rintro e w1 ⟨g, cap, WS, h1, h61, rfl, R⟩
  have R0 := hide R
  have hnil := not_nil g WS.length cap
  clear R h
  go_wp2
  go_loopw [4] (fun t wr => ∃ i : Nat, i ≤ WS.length ∧ t = .int .i64 i ∧ Hid (Run w wr WS (some ⟨g, 0, none⟩) cap)) (fun t _ => WS.length - (intOf t).toNat)
  case atStart => exact ⟨0, Nat.zero_le _, rfl, R0⟩
  case round =>
    obtain ⟨i, hil, rfl, HR⟩ := hrel
    clear R0
    by_cases hlt : i < WS.length
    · obtain ⟨c0, c1⟩ := HR.out.cells i hlt
      have HO := hide (HR.out.ok WS[i] (List.getElem_mem hlt))
      have ht := HR.out.tick i hlt
      have hb1 : (0 : Int) ≤ (i : Int) := by omega
      have hb2 : (i : Int) < (WS.length : Int) := by omega
      generalize WS[i] = d at *
      rw [ht] at c0
      have HT := hide ht
      clear ht
      go_wp2_with fail
      refine (sound_c i d.p d.cap d.L _ HO.out.reads (by rw [← HT.out]; exact HO.out.good)).mono ?_
      rintro e w2 ⟨rfl, k2⟩
      have R2 := hide (HR.out.calm k2)
      have c0' : w2.cell? ⟨g, i * 2, none⟩ = some (.int .i64 i) := by rw [cell_keep k2 HR.out.lt (fun e => e)]; exact c0
      have hne : ((i : Int) != (i : Int)) = false := by simp
      clear k2 c0 c1
      go_wp2
      go_roundw
      case rel => exact ⟨i + 1, by omega, by go_num, R2⟩
      case measure => simp [intOf]; omega
    · go_wp2
      go_ret
      exact ⟨rfl, HR.out.kept.below _ (Nat.le_refl _) (fun _ _ e => e)⟩
end Go.Proofs.Ytlfmfhmbkpnjbaa
