import Derived.Test.YtaheegdfcddlpaaFindsi
import Derived.Test.YtaheegdfcddlpaaPlacesi
import Derived.Test.YtaheegdfcddlpaaUsesi
namespace Go.Proofs.Ytaheegdfcddlpaa
open Go.RowKit

/-- A cache of the program's: its capacity, its entries. -/
def Issi (w : World) (c : Nat) (r : Value) (n : Nat) (L : List (ByteArray × Int)) : Prop :=
  CacheAt w 89 95 c n r L.length (flat Value.string (Value.int .i64) L)

set_option maxHeartbeats 400000 in
set_option maxRecDepth 100000 in
theorem put_has_si (c n : Nat) (r : Value) (k : ByteArray) (x : Int) (L : List (ByteArray × Int)) (w : World) (hn : n ≤ 64) (hlen : L.length ≤ n) (hf : fHas L k = true) (h : Issi w c r n L) :
    Calls Try.prog 17 #[.pointer (some ⟨c, 0, none⟩), Value.string k, (Value.int .i64) x] w fun e w' =>
      e = .returned (.tuple #[]) ∧ ∃ r', Issi w' c r' n (putL n L (k, x)) ∧ Kept (Foot c r) w w' ∧ NewRow w r r' := by
  have hp := fAt_lt L k hf
  have H := hide h
  clear h
  go_enter Try.func17, Try.ntmps17
  go_wp2_with fail
  refine (find_si c n r k L _ (by omega) H.out).mono ?_
  rintro e w' ⟨rfl, rfl⟩
  go_wp2_with fail
  refine (use_si c (fAt L k) n r k x L _ (by omega) hp H.out).mono ?_
  rintro e w2 ⟨rfl, q1, q2⟩
  have Q := hide (And.intro q1 q2)
  clear q1 q2
  go_wp2
  go_end0
  obtain ⟨q1, q2⟩ := Q.out
  refine ⟨rfl, r, ?_, q2.mono (fun j _ e => Or.inr e), Or.inl rfl⟩
  unfold Issi
  rw [putL_has n L (k, x) hf, touch_length L _ _ hp]
  exact q1

set_option maxHeartbeats 400000 in
set_option maxRecDepth 100000 in
theorem put_room_si (c n : Nat) (r : Value) (k : ByteArray) (x : Int) (L : List (ByteArray × Int)) (w : World) (hn : n ≤ 64) (hlen : L.length < n) (hf : fHas L k = false) (h : Issi w c r n L) :
    Calls Try.prog 17 #[.pointer (some ⟨c, 0, none⟩), Value.string k, (Value.int .i64) x] w fun e w' =>
      e = .returned (.tuple #[]) ∧ ∃ r', Issi w' c r' n (putL n L (k, x)) ∧ Kept (Foot c r) w w' ∧ NewRow w r r' := by
  have H := hide h
  clear h
  go_enter Try.func17, Try.ntmps17
  go_wp2_with fail
  refine (find_si c n r k L _ (by omega) H.out).mono ?_
  rintro e w' ⟨rfl, rfl⟩
  go_wp2_with fail
  refine (place_room_si c n r L _ (by omega) (by omega) H.out).mono ?_
  rintro e w2 ⟨rfl, r', q1, q2, q3⟩
  have q1' : CacheAt w2 89 95 c n r' (L ++ [(ByteArray.empty, 0)]).length (flat Value.string (Value.int .i64) (L ++ [(ByteArray.empty, 0)])) := by
    rw [flat_append, List.length_append]; exact q1
  have Q := hide (And.intro q1' (And.intro q2 q3))
  clear q1 q2 q3 q1'
  go_wp2_with fail
  refine (use_si c L.length n r' k x (L ++ [(ByteArray.empty, 0)]) _ (by simp; omega) (by simp) Q.out.1).mono ?_
  rintro e w3 ⟨rfl, p1, p2⟩
  have R := hide (And.intro p1 p2)
  clear p1 p2
  go_wp2
  go_end0
  obtain ⟨_, q2, q3⟩ := Q.out
  obtain ⟨p1, p2⟩ := R.out
  refine ⟨rfl, r', ?_, q2.join p2 (fun _ _ e => e) (fun j hj e => ?_), q3⟩
  · unfold Issi
    rw [← putL_room n L (k, x) hf hlen (ByteArray.empty, 0), touch_length _ _ _ (by simp)]
    exact p1
  · rcases q3 with q3 | ⟨g, q3, q4⟩
    · exact Or.inr (by rw [← q3]; exact e)
    · rw [q3] at e; simp at e; omega

set_option maxHeartbeats 400000 in
set_option maxRecDepth 100000 in
theorem put_full_si (c n : Nat) (r : Value) (k : ByteArray) (x : Int) (L : List (ByteArray × Int)) (w : World) (hn0 : 1 ≤ n) (hn : n ≤ 64) (hlen : L.length = n) (hf : fHas L k = false) (h : Issi w c r n L) :
    Calls Try.prog 17 #[.pointer (some ⟨c, 0, none⟩), Value.string k, (Value.int .i64) x] w fun e w' =>
      e = .returned (.tuple #[]) ∧ ∃ r', Issi w' c r' n (putL n L (k, x)) ∧ Kept (Foot c r) w w' ∧ NewRow w r r' := by
  have H := hide h
  have hL1 : 1 ≤ L.length := by omega
  have hL2 : L.length ≤ 64 := by omega
  have HL := hide hlen
  clear h hlen
  go_enter Try.func17, Try.ntmps17
  go_wp2_with fail
  refine (find_si c n r k L _ hL2 H.out).mono ?_
  rintro e w' ⟨rfl, rfl⟩
  go_wp2_with fail
  refine (place_full_si c n r L _ hL2 hL1 (by have := HL.out; omega) H.out).mono ?_
  rintro e w2 ⟨rfl, nq, hw⟩
  have H2 : Hid (CacheAt w2 89 95 c n r L.length (flat Value.string (Value.int .i64) L) ∧ Kept (fun _ => False) w' w2) := by
    subst hw
    refine ⟨⟨by rw [drewN_heap]; exact H.out.1, owns_heap H.out.2 (drewN_heap _ _)⟩, Kept.drewN _ _⟩
  clear hw
  go_wp2_with fail
  rw [show ((L.length : Int) - 1) = ((L.length - 1 : Nat) : Int) from by omega]
  refine (use_si c (L.length - 1) n r k x L _ hL2 (by omega) H2.out.1).mono ?_
  rintro e w3 ⟨rfl, p1, p2⟩
  have R := hide (And.intro p1 p2)
  clear p1 p2
  go_wp2
  go_end0
  obtain ⟨_, q2⟩ := H2.out
  obtain ⟨p1, p2⟩ := R.out
  refine ⟨rfl, r, ?_, q2.join p2 (fun _ _ e => e.elim) (fun j hj e => Or.inr e), Or.inl rfl⟩
  unfold Issi
  rw [← putL_full n L (k, x) hf (by have := HL.out; omega) hL1, touch_length _ _ _ (by omega)]
  exact p1

theorem put_si (c n : Nat) (r : Value) (k : ByteArray) (x : Int) (L : List (ByteArray × Int)) (w : World) (hn0 : 1 ≤ n) (hn : n ≤ 64) (hlen : L.length ≤ n) (h : Issi w c r n L) :
    Calls Try.prog 17 #[.pointer (some ⟨c, 0, none⟩), Value.string k, (Value.int .i64) x] w fun e w' =>
      e = .returned (.tuple #[]) ∧ ∃ r', Issi w' c r' n (putL n L (k, x)) ∧ Kept (Foot c r) w w' ∧ NewRow w r r' := by
  cases hf : fHas L k with
  | true => exact put_has_si c n r k x L w hn hlen hf h
  | false =>
    by_cases hl : L.length < n
    · exact put_room_si c n r k x L w hn hl hf h
    · exact put_full_si c n r k x L w hn0 hn (by omega) hf h
end Go.Proofs.Ytaheegdfcddlpaa
