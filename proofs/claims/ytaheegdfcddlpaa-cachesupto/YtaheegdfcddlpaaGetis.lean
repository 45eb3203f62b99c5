import Derived.Test.YtaheegdfcddlpaaPutis
namespace Go.Proofs.Ytaheegdfcddlpaa
open Go.RowKit

set_option maxHeartbeats 400000 in
set_option maxRecDepth 100000 in
theorem get_none_is (c n : Nat) (r : Value) (k : Int) (L : List (Int × ByteArray)) (w : World) (hn : n ≤ 64) (hlen : L.length ≤ n) (hf : fHas L k = false) (h : Isis w c r n L) :
    Calls Try.prog 20 #[.pointer (some ⟨c, 0, none⟩), (Value.int .i64) k] w fun e w' =>
      e = .returned (.tuple #[.string ByteArray.empty, .bool false]) ∧ w' = w := by
  have H := hide h
  clear h
  go_enter Try.func20, Try.ntmps20
  go_wp2_with fail
  refine (find_is c n r k L _ (by omega) H.out).mono ?_
  rintro e w' ⟨rfl, rfl⟩
  go_wp2
  go_ret2
  exact ⟨rfl, rfl⟩

set_option maxHeartbeats 400000 in
set_option maxRecDepth 100000 in
theorem get_has_is (c n p : Nat) (r : Value) (k : Int) (L : List (Int × ByteArray)) (w : World) (hn : n ≤ 64) (hlen : L.length ≤ n) (hf : fHas L k = true) (hp : p < L.length) (hpf : Hid (fAt L k = p)) (h : Isis w c r n L) :
    Calls Try.prog 20 #[.pointer (some ⟨c, 0, none⟩), (Value.int .i64) k] w fun e w' =>
      e = .returned (.tuple #[Value.string L[p].2, .bool true]) ∧ Isis w' c r n (touch L p L[p]) ∧ Kept (Foot c r) w w' := by
  obtain ⟨g, cp, rfl⟩ : ∃ g cp, r = .slice (some ⟨g, 0, none⟩) L.length cp := by
    rcases h.2.2 with ⟨_, h0⟩ | ⟨g, cp, _, rfl, _⟩
    · omega
    · exact ⟨_, _, rfl⟩
  obtain ⟨-, c1, -, -⟩ := two_cells h.1
  have hk := row_cell h.2 (p * 2) _ (flat_key _ _ L p hp)
  have hv := row_cell h.2 (p * 2 + 1) _ (flat_val _ _ L p hp)
  have hcs := heap_lt h.1
  have H := hide h
  clear h
  obtain ⟨k', x', he⟩ : ∃ k' x', L[p] = (k', x') := ⟨_, _, rfl⟩
  rw [he]
  rw [he] at hk hv
  simp only at hk hv
  have HE := hide he
  clear he
  go_enter Try.func20, Try.ntmps20
  go_wp2_with fail
  refine (find_is c n _ k L _ (by omega) H.out).mono ?_
  rintro e w' ⟨rfl, rfl⟩
  rw [hpf.out]
  go_wp2_with fail
  have HA : Hid (CacheAt (w'.alloc (.cells #[(Value.int .i64) k', Value.string x'] 92)) 86 92 c n (.slice (some ⟨g, 0, none⟩) L.length cp) L.length (flat (Value.int .i64) Value.string L)) := CacheAt.keep H.out (Kept.alloc _ _) (fun _ _ h => h)
  have HL : Hid (∀ j, Foot c (.slice (some ⟨g, 0, none⟩) L.length cp) j → j < w'.heap.size) := CacheAt.lt H.out
  clear c1 hk hv
  refine (use_is c p n _ k' x' L _ (by omega) hp HA.out).mono ?_
  rintro e w2 ⟨rfl, q1, q2⟩
  obtain ⟨-, d2, -, -⟩ := two_cells (new_kept q2 (fun e => Nat.lt_irrefl _ (HL.out _ (Or.inr e))))
  have Q := hide (And.intro q1 q2)
  clear q1 q2
  go_wp2
  go_ret2
  obtain ⟨q1, q2⟩ := Q.out
  refine ⟨rfl, ?_, (Kept.alloc _ _).join q2 (fun _ _ e => e.elim) (fun _ _ e => Or.inr e)⟩
  unfold Isis
  rw [touch_length L _ _ hp]
  exact q1

/-- What 'Get' answers, and leaves. -/
def getL_is (L : List (Int × ByteArray)) (k : Int) : ByteArray × Bool × List (Int × ByteArray) :=
  if h : idx L k < L.length then (L[idx L k].2, true, touch L (idx L k) L[idx L k]) else (ByteArray.empty, false, L)

theorem get_is (c n : Nat) (r : Value) (k : Int) (L : List (Int × ByteArray)) (w : World) (hn : n ≤ 64) (hlen : L.length ≤ n) (h : Isis w c r n L) :
    Calls Try.prog 20 #[.pointer (some ⟨c, 0, none⟩), (Value.int .i64) k] w fun e w' =>
      e = .returned (.tuple #[Value.string (getL_is L k).1, .bool (getL_is L k).2.1]) ∧ Isis w' c r n (getL_is L k).2.2 ∧ Kept (Foot c r) w w' := by
  by_cases hi : idx L k < L.length
  · have hf : fHas L k = true := by simp [fHas, hi]
    have hp : fAt L k = idx L k := by simp [fAt, hi]
    have e1 : getL_is L k = (L[idx L k].2, true, touch L (idx L k) L[idx L k]) := by simp [getL_is, hi]
    rw [e1]
    exact get_has_is c n (idx L k) r k L w hn hlen hf hi hp h
  · have hf : fHas L k = false := by simp [fHas, hi]
    have e1 : getL_is L k = (ByteArray.empty, false, L) := by simp [getL_is, hi]
    rw [e1]
    refine (get_none_is c n r k L w hn hlen hf h).mono ?_
    rintro e w' ⟨rfl, rfl⟩
    exact ⟨rfl, h, Kept.refl _ _⟩
end Go.Proofs.Ytaheegdfcddlpaa
