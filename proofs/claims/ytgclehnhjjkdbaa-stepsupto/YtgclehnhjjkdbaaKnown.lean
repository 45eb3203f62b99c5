import Derived.Test.YtgclehnhjjkdbaaStany
namespace Go.Proofs.Ytgclehnhjjkdbaa
open Go.RowKit

theorem kstep_c (pc : Option Addr) (capc : Nat) (w : World) (hc : ReadsC w pc [k1, k2]) :
    Calls Try.prog 17 #[.agg #[.int .i64 0, .slice none 0 0], .slice pc 2 capc] w fun e w' =>
      ∃ q cq, e = .returned (.tuple #[.agg #[.int .i64 1, .slice q 1 cq], .int .i64 0]) ∧ Reads w' q [km] ∧ Kept (fun _ => False) w w' := by
  refine (step_any 0 none pc 0 capc [] [k1, k2] w (by decide) (fun h => absurd rfl h) (fun _ => rfl) hc).mono ?_
  rw [known_step]
  rintro e w' ⟨q, cq, rfl, _, hd, _, hk⟩
  exact ⟨q, cq, rfl, hd, hk⟩

theorem km_eq : ∀ m ∈ [km], eqM m m = true := by
  intro m hm
  obtain rfl : m = km := by simpa using hm
  kernel_rfl

theorem blockC_reads {w : World} {g : Nat} {M : List Cmd} (h : w.heap[g]? = some (.cells (rowC M).toArray 99 (0, 0))) : ReadsC w (some ⟨g, 0, none⟩) M := fun _ => ⟨g, 0, rfl, heap_lt h, fun j u hu => by rw [Nat.zero_add, cell_block h]; simpa using hu⟩

set_option maxHeartbeats 1000000 in
set_option maxRecDepth 100000 in
theorem known_c (w : World) : Calls Try.prog 14 #[] w fun e w' => e = .returned (.bool true) ∧ Kept (fun _ => False) w w' := by
  have hsf := store_float Try.prog
  have RC := hide (blockC_reads (M := [k1, k2]) (heap_alloc_new w (.cells (rowC [k1, k2]).toArray 99)))
  have K0 := hide (Kept.alloc w (.cells (rowC [k1, k2]).toArray 99))
  go_enter Try.func14, Try.ntmps14
  go_wp2_with fail
  refine (kstep_c (some ⟨w.heap.size, 0, none⟩) 2 _ RC.out).mono ?_
  rintro e w1 ⟨q, cq, rfl, rd, k⟩
  have RD := hide rd
  have K1 := hide (K0.out.calm2 k)
  clear rd k
  have KA := hide ((Kept.alloc w1 (.cells #[.int .i64 1, .slice q 1 cq] 40)).calm2 (Kept.alloc (w1.alloc (.cells #[.int .i64 1, .slice q 1 cq] 40)) (.cells (rowM [km]).toArray 57)))
  have RB : Hid (Reads ((w1.alloc (.cells #[.int .i64 1, .slice q 1 cq] 40)).alloc (.cells (rowM [km]).toArray 57)) (some ⟨w1.heap.size + 1, 0, none⟩) [km]) := by
    have h := heap_alloc_new (w1.alloc (.cells #[.int .i64 1, .slice q 1 cq] 40)) (.cells (rowM [km]).toArray 57)
    rw [show (w1.alloc (.cells #[.int .i64 1, .slice q 1 cq] 40)).heap.size = w1.heap.size + 1 from by simp] at h
    exact block_reads (M := [km]) h
  go_wp2_with fail
  refine (same_c 1 q (some ⟨w1.heap.size + 1, 0, none⟩) cq 1 [km] _ (RD.out.calm KA.out) RB.out (by decide) km_eq).mono ?_
  rintro e w2 ⟨rfl, k2⟩
  have K2 := hide ((K1.out.calm2 KA.out).calm2 k2)
  clear k2
  go_wp2
  go_ret
  exact ⟨rfl, K2.out⟩
end Go.Proofs.Ytgclehnhjjkdbaa
