import Derived.Test.YtaheegdfcddlpaaRef
namespace Go.Proofs.Ytaheegdfcddlpaa
open Go.RowKit

def refPutL (n : Nat) (L : List Ent) (e : Ent) : List Ent := (e :: dropKey L e.1).take n

theorem flat_cons (e : Ent) (M : List Ent) : flat (Value.int .i64) Value.string (e :: M) = [.int .i64 e.1, .string e.2] ++ flat (Value.int .i64) Value.string M := rfl

theorem ents_one (M : List Ent) : ∀ u ∈ flat (Value.int .i64) Value.string M, u.oneCell' = true := flat_one _ _ (fun _ => rfl) (fun _ => rfl) M

set_option maxHeartbeats 400000 in
set_option maxRecDepth 100000 in
theorem refput (c n : Nat) (r : Value) (k : Int) (x : ByteArray) (L : List Ent) (w : World) (hn0 : 1 ≤ n) (hn : n ≤ 64) (hlen : L.length ≤ 64) (h : IsRef w c r n L) :
    Calls Try.prog 19 #[.pointer (some ⟨c, 0, none⟩), .int .i64 k, .string x] w fun e w' =>
      e = .returned (.tuple #[]) ∧ ∃ r', IsRef w' c r' n (refPutL n L (k, x)) ∧ Kept (Foot c r) w w' ∧ NewRow w r r' := by
  obtain ⟨i0, hi, hz0, hz1, hz2⟩ := info_parts info_ref
  have H := hide h
  clear h
  go_enter Try.func19, Try.ntmps19
  go_wp2_with fail
  refine (without_any c n r k L _ hlen H.out).mono ?_
  rintro e w1 ⟨lv, rfl, hown, hk⟩
  have hM : (dropKey L k).length ≤ 64 := by have := dropKey_len L k; omega
  obtain ⟨M, hMd⟩ : ∃ M, M = dropKey L k := ⟨_, rfl⟩
  rw [← hMd] at hown hM
  have HM := hide hMd
  clear hMd
  have HO := hide hown
  have HK := hide hk
  have HB : Hid (w1.heap[c]? = some (.cells #[.int .i64 n, r] 58 (0, 0))) := by show _ = _; rw [hk.block c (heap_lt H.out.1) (fun e => e)]; exact H.out.1
  obtain ⟨c0, c1, f0, f1⟩ := two_cells HB.out
  clear hown hk
  have hs1 := HK.out.size
  have hcl : c < w.heap.size := heap_lt H.out.1
  go_wp2_with (at_builtin; refine wpList_append_row _ rfl (.tmp 21) (.tmp 22) 56 rfl w.heap.size 70 i0 (.agg #[.int .i64 0, .string ByteArray.empty]) 2 24 Try.underlying56 hi hz0 hz1 hz2 rfl (by decide) _ 1 [.int .i64 k, .string x] rfl (owns_new w1 w.heap.size _ 2 1 [.int .i64 k, .string x] _ rfl hs1 (by decide) rfl) lv w.heap.size M.length (flat (Value.int .i64) Value.string M) rfl (HO.out.alloc _) (ents_one M) (by decide) ?c3 ?c4 ?c5 ?_)
  case c3 => unfold maxLen; omega
  case c4 => omega
  case c5 => simp; omega
  intro g cp w2 hown2 hgrow
  have hlenM : (((k, x) : Ent) :: M).length = 1 + M.length := by simp; omega
  have hle : 1 + M.length ≤ cp := by
    rcases hown2.2 with ⟨h0, _⟩ | ⟨g', cp', cur, e', _, _, h1, _⟩
    · cases h0
    · simp only [Value.slice.injEq] at e'
      omega
  have HK2 : Hid (Kept (fun _ => False) w w2) := by
    refine (HK.out.join ((Kept.alloc w1 _).join (Kept.of_grown hgrow) (R := fun j => j = w1.heap.size) (fun _ _ e => e.elim) (fun j _ e => ?_)) (fun _ _ e => e) (fun j hj e => by omega))
    simpa [Value.ownBlock] using e
  obtain ⟨d0, d1, e0, e1⟩ := two_cells (show w2.heap[c]? = some (.cells #[.int .i64 n, r] 58 (0, 0)) by rw [HK2.out.block c hcl (fun e => e)]; exact H.out.1)
  by_cases hfit : n < 1 + M.length
  · have HR := hide (relay H.out.1 HK2.out (owns_cut hown2 n (by omega)))
    have hnn : ((n : Nat) : Int) < 1 + (M.length : Int) := by omega
    clear hown2 hgrow c0 c1 f0 f1
    go_wp2
    go_end0
    obtain ⟨r1, r2, r3⟩ := HR.out
    refine ⟨rfl, .slice (some ⟨g, 0, none⟩) n cp, ?_, r2.mono (fun _ _ e => Or.inl e), Or.inr ⟨g, rfl, r3⟩⟩
    have eL : refPutL n L (k, x) = (((k, x) : Ent) :: M).take n := by unfold refPutL; rw [HM.out]
    have el : ((((k, x) : Ent) :: M).take n).length = n := by rw [List.length_take]; omega
    unfold IsRef
    rw [eL, el, ← flat_take]
    exact r1
  · have HR := hide (relay H.out.1 HK2.out hown2)
    have hnn : 1 + (M.length : Int) ≤ ((n : Nat) : Int) := by omega
    clear hown2 hgrow c0 c1 f0 f1
    go_wp2
    go_end0
    obtain ⟨r1, r2, r3⟩ := HR.out
    refine ⟨rfl, .slice (some ⟨g, 0, none⟩) (1 + M.length) cp, ?_, r2.mono (fun _ _ e => Or.inl e), Or.inr ⟨g, rfl, r3⟩⟩
    have eL : refPutL n L (k, x) = ((k, x) : Ent) :: M := by unfold refPutL; rw [← HM.out]; exact List.take_of_length_le (by omega)
    unfold IsRef
    rw [eL, hlenM]
    exact r1

def refGetL (L : List Ent) (k : Int) : List Ent := if (seek L k).2 = true then (k, (seek L k).1) :: dropKey L k else L

set_option maxHeartbeats 400000 in
set_option maxRecDepth 100000 in
theorem refget (c n : Nat) (r : Value) (k : Int) (L : List Ent) (w : World) (hlen : L.length ≤ 64) (h : IsRef w c r n L) :
    Calls Try.prog 22 #[.pointer (some ⟨c, 0, none⟩), .int .i64 k] w fun e w' =>
      e = .returned (.tuple #[.string (seek L k).1, .bool (seek L k).2]) ∧ ∃ r', IsRef w' c r' n (refGetL L k) ∧ Kept (Foot c r) w w' ∧ NewRow w r r' := by
  obtain ⟨i0, hi, hz0, hz1, hz2⟩ := info_parts info_ref
  have H := hide h
  clear h
  obtain ⟨x, hx⟩ : ∃ x, x = (seek L k).1 := ⟨_, rfl⟩
  obtain ⟨b, hb⟩ : ∃ b, b = (seek L k).2 := ⟨_, rfl⟩
  have HX : Hid (x = (seek L k).1 ∧ b = (seek L k).2) := ⟨hx, hb⟩
  rw [← hx, ← hb]
  clear hx hb
  go_enter Try.func22, Try.ntmps22
  go_wp2_with fail
  refine (without_any c n r k L _ hlen H.out).mono ?_
  rintro e w1 ⟨lv, rfl, hown, hk⟩
  rw [← HX.out.1, ← HX.out.2]
  have hM : (dropKey L k).length ≤ 64 := by have := dropKey_len L k; omega
  obtain ⟨M, hMd⟩ : ∃ M, M = dropKey L k := ⟨_, rfl⟩
  rw [← hMd] at hown hM
  have HM := hide hMd
  clear hMd
  have HO := hide hown
  have HK := hide hk
  clear hown hk
  cases b with
  | false =>
    clear HO
    go_wp2
    go_ret2
    have eL : refGetL L k = L := by unfold refGetL; rw [← HX.out.2]; rfl
    rw [eL]
    exact ⟨rfl, r, CacheAt.keep H.out HK.out (fun _ _ e => e), HK.out.mono (fun _ _ e => e.elim), Or.inl rfl⟩
  | true =>
    have HB : Hid (w1.heap[c]? = some (.cells #[.int .i64 n, r] 58 (0, 0))) := by show _ = _; rw [HK.out.block c (heap_lt H.out.1) (fun e => e)]; exact H.out.1
    have hs1 := HK.out.size
    have hcl : c < w.heap.size := heap_lt H.out.1
    go_wp2_with (at_builtin; refine wpList_append_row _ rfl (.tmp 23) (.tmp 24) 56 rfl w.heap.size 70 i0 (.agg #[.int .i64 0, .string ByteArray.empty]) 2 24 Try.underlying56 hi hz0 hz1 hz2 rfl (by decide) _ 1 [.int .i64 k, .string x] rfl (owns_new w1 w.heap.size _ 2 1 [.int .i64 k, .string x] _ rfl hs1 (by decide) rfl) lv w.heap.size M.length (flat (Value.int .i64) Value.string M) rfl (HO.out.alloc _) (ents_one M) (by decide) ?c3 ?c4 ?c5 ?_)
    case c3 => unfold maxLen; omega
    case c4 => omega
    case c5 => simp; omega
    intro g cp w2 hown2 hgrow
    have hlenM : (((k, x) : Ent) :: M).length = 1 + M.length := by simp; omega
    have HK2 : Hid (Kept (fun _ => False) w w2) := by
      refine (HK.out.join ((Kept.alloc w1 _).join (Kept.of_grown hgrow) (R := fun j => j = w1.heap.size) (fun _ _ e => e.elim) (fun j _ e => ?_)) (fun _ _ e => e) (fun j hj e => by omega))
      simpa [Value.ownBlock] using e
    obtain ⟨d0, d1, e0, e1⟩ := two_cells (show w2.heap[c]? = some (.cells #[.int .i64 n, r] 58 (0, 0)) by rw [HK2.out.block c hcl (fun e => e)]; exact H.out.1)
    have HR := hide (relay H.out.1 HK2.out hown2)
    clear hown2 hgrow
    go_wp2
    go_ret2
    obtain ⟨r1, r2, r3⟩ := HR.out
    refine ⟨rfl, .slice (some ⟨g, 0, none⟩) (1 + M.length) cp, ?_, r2.mono (fun _ _ e => Or.inl e), Or.inr ⟨g, rfl, r3⟩⟩
    have eL : refGetL L k = ((k, x) : Ent) :: M := by unfold refGetL; rw [← HX.out.2, ← HX.out.1, ← HM.out]; rfl
    unfold IsRef
    rw [eL, hlenM]
    exact r1
end Go.Proofs.Ytaheegdfcddlpaa
