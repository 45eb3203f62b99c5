import Derived.Test.YtaheegdfcddlpaaPutis
namespace Go.Proofs.Ytaheegdfcddlpaa
open Go.RowKit
theorem info_key_is : (Try.prog.info? 3).map (fun i => (i.zero, i.size, i.bytes)) = some (some (.int .i64 0), 1, 8) := by kernel_rfl

def keyCells_is (L : List (Int × ByteArray)) : List Value := L.map (fun p => (Value.int .i64) p.1)
theorem keyCells_len_is (L : List (Int × ByteArray)) : (keyCells_is L).length = L.length := by simp [keyCells_is]

set_option maxHeartbeats 400000 in
set_option maxRecDepth 100000 in
theorem keys_row_is (c n g cp : Nat) (L : List (Int × ByteArray)) (w : World) (hn : n ≤ 64) (hlen : L.length ≤ n) (h : Isis w c (.slice (some ⟨g, 0, none⟩) L.length cp) n L) :
    Calls Try.prog 23 #[.pointer (some ⟨c, 0, none⟩)] w fun e w' =>
      e = .returned (.slice (some ⟨w.heap.size, 0, none⟩) L.length L.length) ∧ w'.heap[w.heap.size]? = some (.cells (keyCells_is L).toArray 3 (0, 0)) ∧ Kept (fun _ => False) w w' := by
  obtain ⟨i0, hi, hz0, hz1, hz2⟩ := info_parts info_key_is
  obtain ⟨-, c1, -, -⟩ := two_cells h.1
  have H := hide h
  clear h
  go_enter Try.func23, Try.ntmps23
  go_wp2_with (at_make; refine wpList_make_full _ rfl (.tmp 9) (.tmp 9) 38 rfl 0 3 i0 (.int .i64 0) 1 Try.underlying38 hi hz0 hz1 .i64 .i64 _ _ L.length rfl rfl rfl rfl ?c1 ?c2 ?c3 ?_)
  case c1 => rw [hz2]; omega
  case c2 => unfold maxLen; omega
  case c3 => omega
  intro w1 hown1 hgrow1
  have HF : Hid (Filling w w1 3 (keyCells_is L) 0) := Filling.start (by rw [keyCells_len_is]; exact hown1) hgrow1
  have d1 : w1.cell? ⟨c, 1, none⟩ = some (.slice (some ⟨g, 0, none⟩) L.length cp) := (two_cells (CacheAt.keep H.out HF.out.kept (fun _ _ e => e)).1).2.1
  clear hown1 hgrow1 c1 hi hz0 hz1 hz2
  go_wp2
  go_loopw [16] (fun t wr => ∃ i : Nat, i ≤ L.length ∧ t = .int .i64 i ∧ Hid (Filling w wr 3 (keyCells_is L) i)) (fun t _ => L.length - (intOf t).toNat)
  case atStart => exact ⟨0, Nat.zero_le _, rfl, HF⟩
  case round =>
    obtain ⟨i, hil, rfl, HR⟩ := hrel
    clear HF d1
    have HC : Hid (Isis wr c (.slice (some ⟨g, 0, none⟩) L.length cp) n L) := CacheAt.keep H.out HR.out.kept (fun _ _ e => e)
    by_cases hlt : i < L.length
    · have d1 := (two_cells HC.out.1).2.1
      have hk := row_cell HC.out.2 (i * 2) _ (flat_key _ _ L i hlt)
      obtain ⟨old, o1, o2⟩ := HR.out.cell (by rw [keyCells_len_is]; exact hlt)
      have HS : Hid (Filling w (wr.setCell ⟨w.heap.size, i, none⟩ ((Value.int .i64) L[i].1)) 3 (keyCells_is L) (i + 1)) := HR.out.step _ (by simp [keyCells_is, hlt])
      clear HC HR
      go_wp2
      go_roundw
      case rel => exact ⟨i + 1, by omega, by go_num, HS⟩
      case measure => simp [intOf]; omega
    · have HD : Hid (wr.heap[w.heap.size]? = some (.cells (keyCells_is L).toArray 3 (0, 0)) ∧ Kept (fun _ => False) w wr) := HR.out.done (by rw [keyCells_len_is]; omega)
      clear HC HR
      go_wp2
      go_ret
      exact ⟨rfl, HD.out⟩

set_option maxHeartbeats 400000 in
set_option maxRecDepth 100000 in
theorem keys_nil_is (c : Nat) (cap : Int) (w : World) (h : w.heap[c]? = some (.cells #[.int .i64 cap, .slice none 0 0] 86 (0, 0))) :
    Calls Try.prog 23 #[.pointer (some ⟨c, 0, none⟩)] w fun e w' =>
      e = .returned (.slice (some ⟨w.heap.size, 0, none⟩) 0 0) ∧ w'.heap[w.heap.size]? = some (.cells #[] 3 (0, 0)) ∧ Kept (fun _ => False) w w' := by
  obtain ⟨i0, hi, hz0, hz1, hz2⟩ := info_parts info_key_is
  obtain ⟨-, c1, -, -⟩ := two_cells h
  have H := hide h
  clear h
  go_enter Try.func23, Try.ntmps23
  go_wp2_with (at_make; refine wpList_make_full _ rfl (.tmp 9) (.tmp 9) 38 rfl 0 3 i0 (.int .i64 0) 1 Try.underlying38 hi hz0 hz1 .i64 .i64 _ _ 0 rfl rfl rfl rfl ?c1 ?c2 ?c3 ?_)
  case c1 => rw [hz2]; omega
  case c2 => unfold maxLen; omega
  case c3 => omega
  intro w1 hown1 hgrow1
  have HF : Hid (Filling w w1 3 [] 0) := Filling.start hown1 hgrow1
  have d1 : w1.cell? ⟨c, 1, none⟩ = some (.slice none 0 0) := (two_cells (by rw [HF.out.kept.block c (heap_lt H.out) (fun e => e)]; exact H.out)).2.1
  clear hown1 hgrow1 c1 hi hz0 hz1 hz2
  go_wp2
  refine wp_loop_rounds 1 ?_
  rw [rounds_succ]
  go_wp2
  go_ret
  exact ⟨rfl, HF.out.done (Nat.le_refl _)⟩

theorem keys_is (c n : Nat) (r : Value) (L : List (Int × ByteArray)) (w : World) (hn : n ≤ 64) (hlen : L.length ≤ n) (h : Isis w c r n L) :
    Calls Try.prog 23 #[.pointer (some ⟨c, 0, none⟩)] w fun e w' =>
      e = .returned (.slice (some ⟨w.heap.size, 0, none⟩) L.length L.length) ∧ w'.heap[w.heap.size]? = some (.cells (keyCells_is L).toArray 3 (0, 0)) ∧ Kept (fun _ => False) w w' := by
  rcases h.2.2 with ⟨rfl, h0⟩ | ⟨g, cp, _, rfl, _⟩
  · obtain rfl : L = [] := List.eq_nil_of_length_eq_zero h0
    exact keys_nil_is c n w h.1
  · exact keys_row_is c n g cp L w hn hlen h
end Go.Proofs.Ytaheegdfcddlpaa
