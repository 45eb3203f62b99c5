import Derived.Test.YtaheegdfcddlpaaPutis
namespace Go.Proofs.Ytaheegdfcddlpaa
open Go.RowKit

set_option maxHeartbeats 400000 in
theorem new_bad_is (n : Int) (w : World) (h : n < 1 ∨ 64 < n) :
    Calls Try.prog 14 #[.int .i64 n] w fun e w' => e = .returned (.tuple #[.pointer none, .int .i64 1]) ∧ w' = w := by
  rcases h with h | h
  · go_enter Try.func14, Try.ntmps14
    go_wp2
    go_ret2
    exact ⟨rfl, rfl⟩
  · have h' : ¬ n < 1 := by omega
    go_enter Try.func14, Try.ntmps14
    go_wp2
    go_ret2
    exact ⟨rfl, rfl⟩

set_option maxHeartbeats 400000 in
theorem new_good_is (n : Nat) (w : World) (h1 : 1 ≤ n) (h2 : n ≤ 64) :
    Calls Try.prog 14 #[.int .i64 n] w fun e w' => e = .returned (.tuple #[.pointer (some ⟨w.heap.size, 0, none⟩), .int .i64 0]) ∧ Isis w' w.heap.size (.slice none 0 0) n [] ∧ Kept (fun _ => False) w w' := by
  have hw : Hid (Isis (w.alloc (.cells #[.int .i64 n, .slice none 0 0] 86)) w.heap.size (.slice none 0 0) n [] ∧ Kept (fun _ => False) w (w.alloc (.cells #[.int .i64 n, .slice none 0 0] 86))) :=
    ⟨⟨heap_alloc_new w _, World.ownsRow_nil _ _ _ _⟩, Kept.alloc _ _⟩
  have h3 : ¬ (n : Int) < 1 := by omega
  have h4 : ¬ (64 : Int) < (n : Int) := by omega
  go_enter Try.func14, Try.ntmps14
  go_wp2
  go_ret2
  exact ⟨rfl, hw.out⟩
end Go.Proofs.Ytaheegdfcddlpaa
