import Derived.Test.YtlfmfhmbkpnjbaaPm1
import Derived.Test.YtlfmfhmbkpnjbaaRows
namespace Go.Proofs.Ytlfmfhmbkpnjbaa
open Go.RowKit
/-- Which of m things a raw number speaks of. -/
def pickN_keep (c : Int) (m : Nat) : Nat := ((if c < 0 then -(c + 1) else c).tmod m).toNat

theorem pickN_lt_keep (c : Int) (m : Nat) (hm : 0 < m) : pickN_keep c m < m := by
  have h0 : 0 ≤ (if c < 0 then -(c + 1) else c) := by split <;> omega
  have h1 := Int.tmod_lt_of_pos (if c < 0 then -(c + 1) else c) (show (0 : Int) < m by omega)
  have h2 := Int.tmod_nonneg (m : Int) h0
  unfold pickN_keep
  omega

theorem pickN_cast_keep (c : Int) (m : Nat) : ((pickN_keep c m : Nat) : Int) = (if c < 0 then -(c + 1) else c).tmod m := by
  have h0 : 0 ≤ (if c < 0 then -(c + 1) else c) := by split <;> omega
  have h2 := Int.tmod_nonneg (m : Int) h0
  unfold pickN_keep
  omega

set_option maxHeartbeats 400000 in
theorem pick_keep (c M : Int) (m : Nat) (w : World) (h1 : -9223372036854775808 ≤ c) (h2 : c ≤ 9223372036854775807) (hM : M = m) (hm : 0 < m) (hm2 : m ≤ 1000000000) :
    Calls Try.prog 25 #[.int .i64 c, .int .i64 M] w fun e w' => e = .returned (.int .i64 (pickN_keep c m)) ∧ w' = w := by
  subst hM
  have hp := hide (pickN_cast_keep c m)
  have hm0 : ((m : Int) == 0) = false := by simp; omega
  by_cases hc : c < 0
  · go_enter Try.func25, Try.ntmps25
    go_wp2
    go_ret
    refine ⟨ret1 ?_, rfl⟩
    show Value.int .i64 (-((c + 1).tmod m)) = _
    rw [hp.out, if_pos hc, Int.neg_tmod]
  · go_enter Try.func25, Try.ntmps25
    go_wp2
    go_ret
    refine ⟨ret1 ?_, rfl⟩
    show Value.int .i64 (c % m) = _
    rw [hp.out, if_neg (by omega), Int.tmod_eq_emod_of_nonneg hc]
end Go.Proofs.Ytlfmfhmbkpnjbaa
