import Derived.Test.YtaheegdfcddlpaaPutsi
namespace Go.Proofs.Ytaheegdfcddlpaa
open Go.RowKit

set_option maxHeartbeats 400000 in
theorem new_bad_si (n : Int) (w : World) (h : n < 1 ∨ 64 < n) :
    Calls Try.prog 15 #[.int .i64 n] w fun e w' => e = .returned (.tuple #[.pointer none, .int .i64 1]) ∧ w' = w := by
  rcases h with h | h
  · go_enter Try.func15, Try.ntmps15
    go_wp2
    go_ret2
    exact ⟨rfl, rfl⟩
  · have h' : ¬ n < 1 := by omega
    go_enter Try.func15, Try.ntmps15
    go_wp2
    go_ret2
    exact ⟨rfl, rfl⟩

set_option maxHeartbeats 400000 in
theorem new_good_si (n : Nat) (w : World) (h1 : 1 ≤ n) (h2 : n ≤ 64) :
    Calls Try.prog 15 #[.int .i64 n] w fun e w' => e = .returned (.tuple #[.pointer (some ⟨w.heap.size, 0, none⟩), .int .i64 0]) ∧ Issi w' w.heap.size (.slice none 0 0) n [] ∧ Kept (fun _ => False) w w' := by
  have hw : Hid (Issi (w.alloc (.cells #[.int .i64 n, .slice none 0 0] 89)) w.heap.size (.slice none 0 0) n [] ∧ Kept (fun _ => False) w (w.alloc (.cells #[.int .i64 n, .slice none 0 0] 89))) :=
    ⟨⟨heap_alloc_new w _, World.ownsRow_nil _ _ _ _⟩, Kept.alloc _ _⟩
  have h3 : ¬ (n : Int) < 1 := by omega
  have h4 : ¬ (64 : Int) < (n : Int) := by omega
  go_enter Try.func15, Try.ntmps15
  go_wp2
  go_ret2
  exact ⟨rfl, hw.out⟩
end Go.Proofs.Ytaheegdfcddlpaa
