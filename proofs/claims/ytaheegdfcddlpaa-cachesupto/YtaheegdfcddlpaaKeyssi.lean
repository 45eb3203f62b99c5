import Derived.Test.YtaheegdfcddlpaaPutsi
namespace Go.Proofs.Ytaheegdfcddlpaa
open Go.RowKit
theorem info_key_si : (Try.prog.info? 9).map (fun i => (i.zero, i.size, i.bytes)) = some (some (.string ByteArray.empty), 1, 16) := by kernel_rfl

def keyCells_si (L : List (ByteArray × Int)) : List Value := L.map (fun p => Value.string p.1)
theorem keyCells_len_si (L : List (ByteArray × Int)) : (keyCells_si L).length = L.length := by simp [keyCells_si]

set_option maxHeartbeats 400000 in
set_option maxRecDepth 100000 in
theorem keys_row_si (c n g cp : Nat) (L : List (ByteArray × Int)) (w : World) (hn : n ≤ 64) (hlen : L.length ≤ n) (h : Issi w c (.slice (some ⟨g, 0, none⟩) L.length cp) n L) :
    Calls Try.prog 24 #[.pointer (some ⟨c, 0, none⟩)] w fun e w' =>
      e = .returned (.slice (some ⟨w.heap.size, 0, none⟩) L.length L.length) ∧ w'.heap[w.heap.size]? = some (.cells (keyCells_si L).toArray 9 (0, 0)) ∧ Kept (fun _ => False) w w' := by
  obtain ⟨i0, hi, hz0, hz1, hz2⟩ := info_parts info_key_si
  obtain ⟨-, c1, -, -⟩ := two_cells h.1
  have H := hide h
  clear h
  go_enter Try.func24, Try.ntmps24
  go_wp2_with (at_make; refine wpList_make_full _ rfl (.tmp 9) (.tmp 9) 67 rfl 0 9 i0 (.string ByteArray.empty) 1 Try.underlying67 hi hz0 hz1 .i64 .i64 _ _ L.length rfl rfl rfl rfl ?c1 ?c2 ?c3 ?_)
  case c1 => rw [hz2]; omega
  case c2 => unfold maxLen; omega
  case c3 => omega
  intro w1 hown1 hgrow1
  have HF : Hid (Filling w w1 9 (keyCells_si L) 0) := Filling.start (by rw [keyCells_len_si]; exact hown1) hgrow1
  have d1 : w1.cell? ⟨c, 1, none⟩ = some (.slice (some ⟨g, 0, none⟩) L.length cp) := (two_cells (CacheAt.keep H.out HF.out.kept (fun _ _ e => e)).1).2.1
  clear hown1 hgrow1 c1 hi hz0 hz1 hz2
  go_wp2
  go_loopw [16] (fun t wr => ∃ i : Nat, i ≤ L.length ∧ t = .int .i64 i ∧ Hid (Filling w wr 9 (keyCells_si L) i)) (fun t _ => L.length - (intOf t).toNat)
  case atStart => exact ⟨0, Nat.zero_le _, rfl, HF⟩
  case round =>
    obtain ⟨i, hil, rfl, HR⟩ := hrel
    clear HF d1
    have HC : Hid (Issi wr c (.slice (some ⟨g, 0, none⟩) L.length cp) n L) := CacheAt.keep H.out HR.out.kept (fun _ _ e => e)
    by_cases hlt : i < L.length
    · have d1 := (two_cells HC.out.1).2.1
      have hk := row_cell HC.out.2 (i * 2) _ (flat_key _ _ L i hlt)
      obtain ⟨old, o1, o2⟩ := HR.out.cell (by rw [keyCells_len_si]; exact hlt)
      have HS : Hid (Filling w (wr.setCell ⟨w.heap.size, i, none⟩ (Value.string L[i].1)) 9 (keyCells_si L) (i + 1)) := HR.out.step _ (by simp [keyCells_si, hlt])
      clear HC HR
      go_wp2
      go_roundw
      case rel => exact ⟨i + 1, by omega, by go_num, HS⟩
      case measure => simp [intOf]; omega
    · have HD : Hid (wr.heap[w.heap.size]? = some (.cells (keyCells_si L).toArray 9 (0, 0)) ∧ Kept (fun _ => False) w wr) := HR.out.done (by rw [keyCells_len_si]; omega)
      clear HC HR
      go_wp2
      go_ret
      exact ⟨rfl, HD.out⟩

set_option maxHeartbeats 400000 in
set_option maxRecDepth 100000 in
theorem keys_nil_si (c : Nat) (cap : Int) (w : World) (h : w.heap[c]? = some (.cells #[.int .i64 cap, .slice none 0 0] 89 (0, 0))) :
    Calls Try.prog 24 #[.pointer (some ⟨c, 0, none⟩)] w fun e w' =>
      e = .returned (.slice (some ⟨w.heap.size, 0, none⟩) 0 0) ∧ w'.heap[w.heap.size]? = some (.cells #[] 9 (0, 0)) ∧ Kept (fun _ => False) w w' := by
  obtain ⟨i0, hi, hz0, hz1, hz2⟩ := info_parts info_key_si
  obtain ⟨-, c1, -, -⟩ := two_cells h
  have H := hide h
  clear h
  go_enter Try.func24, Try.ntmps24
  go_wp2_with (at_make; refine wpList_make_full _ rfl (.tmp 9) (.tmp 9) 67 rfl 0 9 i0 (.string ByteArray.empty) 1 Try.underlying67 hi hz0 hz1 .i64 .i64 _ _ 0 rfl rfl rfl rfl ?c1 ?c2 ?c3 ?_)
  case c1 => rw [hz2]; omega
  case c2 => unfold maxLen; omega
  case c3 => omega
  intro w1 hown1 hgrow1
  have HF : Hid (Filling w w1 9 [] 0) := Filling.start hown1 hgrow1
  have d1 : w1.cell? ⟨c, 1, none⟩ = some (.slice none 0 0) := (two_cells (by rw [HF.out.kept.block c (heap_lt H.out) (fun e => e)]; exact H.out)).2.1
  clear hown1 hgrow1 c1 hi hz0 hz1 hz2
  go_wp2
  refine wp_loop_rounds 1 ?_
  rw [rounds_succ]
  go_wp2
  go_ret
  exact ⟨rfl, HF.out.done (Nat.le_refl _)⟩

theorem keys_si (c n : Nat) (r : Value) (L : List (ByteArray × Int)) (w : World) (hn : n ≤ 64) (hlen : L.length ≤ n) (h : Issi w c r n L) :
    Calls Try.prog 24 #[.pointer (some ⟨c, 0, none⟩)] w fun e w' =>
      e = .returned (.slice (some ⟨w.heap.size, 0, none⟩) L.length L.length) ∧ w'.heap[w.heap.size]? = some (.cells (keyCells_si L).toArray 9 (0, 0)) ∧ Kept (fun _ => False) w w' := by
  rcases h.2.2 with ⟨rfl, h0⟩ | ⟨g, cp, _, rfl, _⟩
  · obtain rfl : L = [] := List.eq_nil_of_length_eq_zero h0
    exact keys_nil_si c n w h.1
  · exact keys_row_si c n g cp L w hn hlen h
end Go.Proofs.Ytaheegdfcddlpaa
