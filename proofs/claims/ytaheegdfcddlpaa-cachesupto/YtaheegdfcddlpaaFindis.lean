import Derived.Test.YtaheegdfcddlpaaBase
import Derived.Test.YtaheegdfcddlpaaRows
namespace Go.Proofs.Ytaheegdfcddlpaa
open Go.RowKit

set_option maxHeartbeats 400000 in
theorem find_row_is (c g cp : Nat) (cap : Int) (k : Int) (L : List (Int × ByteArray)) (w : World) (hlen : L.length ≤ 64)
    (h : CacheAt w 86 92 c cap (.slice (some ⟨g, 0, none⟩) L.length cp) L.length (flat (Value.int .i64) Value.string L)) :
    Calls Try.prog 30 #[.pointer (some ⟨c, 0, none⟩), (Value.int .i64) k] w fun e w' =>
      e = .returned (.tuple #[.int .i64 (fAt L k), .bool (fHas L k)]) ∧ w' = w := by
  obtain ⟨hb, hown⟩ := h
  have c1 : w.cell? ⟨c, 1, none⟩ = some (.slice (some ⟨g, 0, none⟩) L.length cp) := by simp [World.cell?, hb]
  clear hb
  go_enter Try.func30, Try.ntmps30
  go_wp2
  go_loop [12] (fun t => ∃ i : Nat, i ≤ L.length ∧ i ≤ idx L k ∧ t = .int .i64 i) (fun t => L.length - (intOf t).toNat)
  case atStart => exact ⟨0, Nat.zero_le _, Nat.zero_le _, rfl⟩
  case round =>
    obtain ⟨i, hi, hx, rfl⟩ := hrel
    by_cases hlt : i < L.length
    · have hc := row_cell hown (i * 2) _ (flat_key _ _ L i hlt)
      clear hown
      by_cases he : L[i].1 = k
      · have hb : (L[i].1 == k) = true := ints_beq _ _ he
        obtain ⟨q1, q2⟩ := fAt_hit L k i hlt hx he
        have Q1 : Hid (fAt L k = i ∧ fHas L k = true) := ⟨q1, q2⟩
        clear q1 q2 he
        go_wp2
        go_ret2
        exact ⟨ret2 (by rw [Q1.out.1]; rfl) (by rw [Q1.out.2]; rfl), rfl⟩
      · have hb : (L[i].1 == k) = false := ints_bne _ _ he
        have Q1 : Hid (i + 1 ≤ idx L k) := idx_miss L k i hlt hx he
        clear he
        go_wp2
        go_round
        case rel => exact ⟨i + 1, by omega, Q1.out, by go_num⟩
        case measure => simp [intOf]; omega
    · obtain ⟨q1, q2⟩ := fAt_out L k (by omega)
      have Q1 : Hid (fAt L k = 0 ∧ fHas L k = false) := ⟨q1, q2⟩
      clear q1 q2
      go_wp2
      go_ret2
      exact ⟨ret2 (by rw [Q1.out.1]; rfl) (by rw [Q1.out.2]; rfl), rfl⟩

set_option maxHeartbeats 400000 in
theorem find_nil_is (c : Nat) (cap : Int) (k : Int) (w : World)
    (h : w.heap[c]? = some (.cells #[.int .i64 cap, .slice none 0 0] 86 (0, 0))) :
    Calls Try.prog 30 #[.pointer (some ⟨c, 0, none⟩), (Value.int .i64) k] w fun e w' =>
      e = .returned (.tuple #[.int .i64 0, .bool false]) ∧ w' = w := by
  have c1 : w.cell? ⟨c, 1, none⟩ = some (.slice none 0 0) := by simp [World.cell?, h]
  clear h
  go_enter Try.func30, Try.ntmps30
  go_wp2
  refine wp_loop_rounds 1 ?_
  rw [rounds_succ]
  go_wp2
  go_ret2
  exact ⟨rfl, rfl⟩

theorem find_is (c : Nat) (cap : Int) (v : Value) (k : Int) (L : List (Int × ByteArray)) (w : World) (hlen : L.length ≤ 64)
    (h : CacheAt w 86 92 c cap v L.length (flat (Value.int .i64) Value.string L)) :
    Calls Try.prog 30 #[.pointer (some ⟨c, 0, none⟩), (Value.int .i64) k] w fun e w' =>
      e = .returned (.tuple #[.int .i64 (fAt L k), .bool (fHas L k)]) ∧ w' = w := by
  rcases h.2.2 with ⟨rfl, h0⟩ | ⟨g, cp, _, rfl, _⟩
  · obtain rfl : L = [] := List.eq_nil_of_length_eq_zero h0
    exact find_nil_is c cap k w h.1
  · exact find_row_is c g cp cap k L w hlen h
end Go.Proofs.Ytaheegdfcddlpaa
