import Derived.Test.YtlfmfhmbkpnjbaaMem
namespace Go.Proofs.Ytlfmfhmbkpnjbaa
open Go.RowKit

theorem addr_add2 (g o j : Nat) : (⟨g, o, none⟩ : Addr).add j = ⟨g, o + j, none⟩ := by unfold Addr.add; split <;> simp_all

theorem ins_row (L : List Mob) (cur : List Value) (i : Nat) (m : Mob) (hi : i ≤ L.length) (hc : cur.length = 224) (hs : L.length < 32) (hr : cur.take (L.length * 7) = rowM L) :
    splice (splice cur ((i + 1) * 7) (rowM (L.drop i))) (i * 7) (rowM [m]) = rowM (L.take i ++ m :: L.drop i) ++ cur.drop ((L.length + 1) * 7) := by
  have hd : (rowM (L.drop i)).length = (L.length - i) * 7 := by rw [rowM_length, List.length_drop]
  have h7 : (rowM [m]).length = 7 := rfl
  have e1 : (i + 1) * 7 + (rowM (L.drop i)).length = (L.length + 1) * 7 := by rw [hd]; omega
  have e2 : cur.take (i * 7) = rowM (L.take i) := by
    rw [← rowM_take, ← hr, List.take_take]; congr 1; omega
  have e3 : splice cur ((i + 1) * 7) (rowM (L.drop i)) = cur.take ((i + 1) * 7) ++ (rowM (L.drop i) ++ cur.drop ((L.length + 1) * 7)) := by unfold splice; rw [e1]
  rw [e3]
  unfold splice
  rw [h7, List.take_append_of_le_length (by rw [List.length_take]; omega), List.take_take, show min (i * 7) ((i + 1) * 7) = i * 7 from by omega, e2]
  rw [show i * 7 + 7 = (cur.take ((i + 1) * 7)).length from by rw [List.length_take]; omega, List.drop_left]
  rw [show L.take i ++ m :: L.drop i = L.take i ++ ([m] ++ L.drop i) from rfl, rowM_append, rowM_append]
  simp

theorem insert_mem {w2 : World} {g : Nat} {L : List Mob} {cur : List Value} {i : Nat} {m : Mob} (hi : i ≤ L.length) (hs : L.length < 32) (hc : cur.length = 224) (hr : cur.take (L.length * 7) = rowM L)
    (h2 : w2.heap[g]? = some (.cells (splice (splice cur ((i + 1) * 7) (rowM (L.drop i))) (i * 7) (rowM [m])).toArray 57 (0, 0))) : ∃ cur', EntAt w2 g (L.take i ++ m :: L.drop i) cur' := by
  rw [ins_row L cur i m hi hc hs hr] at h2
  have hl : (L.take i ++ m :: L.drop i).length = L.length + 1 := by simp; omega
  refine ⟨_, h2, ?_, ?_, by rw [hl]; omega⟩
  · rw [List.length_append, rowM_length, hl, List.length_drop, hc]; omega
  · rw [← rowM_length, List.take_left]

set_option maxHeartbeats 1000000 in
set_option maxRecDepth 100000 in
theorem insert_end (g v : Nat) (m : Mob) (L : List Mob) (cur : List Value) (w : World) (hs : L.length < 32) (h : EntAt w g L cur) (hv : w.heap[v]? = some (.cells (rowM [m]).toArray 57 (0, 0))) :
    Calls Try.prog 74 #[.slice (some ⟨g, 0, none⟩) L.length 32, .int .i64 L.length, .slice (some ⟨v, 0, none⟩) 1 1] w fun e w' =>
      e = .returned (.slice (some ⟨g, 0, none⟩) (L.length + 1) 32) ∧ (∃ cur', EntAt w' g (L ++ [m]) cur') ∧ Kept (fun k => k = g) w w' := by
  obtain ⟨i0, hi, hz0, hz1, hz2⟩ := info_parts info_mob
  have H := hide h
  have HV := hide hv
  clear h hv
  have hbe : ((L.length : Int) == (L.length : Int)) = true := by simp
  go_enter Try.func74, Try.ntmps74
  go_wp2_with (at_builtin; refine wpList_append_here _ rfl (.tmp 23) (.tmp 24) 38 rfl 57 i0 7 Try.underlying38 hi hz1 g L.length 32 cur H.out.blk rfl ⟨v, 0, none⟩ 1 1 rfl (rowM [m]) rfl ?c1 (rowM_one [m]) ?c2 ?c3 ?_)
  case c1 => intro j u hu; rw [addr_add, cell_block HV.out]; simpa using hu
  case c2 => omega
  case c3 => rw [H.out.len]; have : (rowM [m]).length = 7 := rfl; omega
  intro w1 HG HK
  go_wp2
  go_ret
  refine ⟨rfl, ⟨splice cur (L.length * 7) (rowM [m]), HG.out, ?_, ?_, by simp; omega⟩, HK.out⟩
  · have : (rowM [m]).length = 7 := rfl
    rw [length_splice _ _ _ (by rw [H.out.len, this]; omega), H.out.len]
  · unfold splice
    rw [H.out.row, rowM_append, ← List.append_assoc, show (L ++ [m]).length * 7 = (rowM L ++ rowM [m]).length from by rw [← rowM_append, rowM_length], List.take_left]

set_option maxHeartbeats 2000000 in
set_option maxRecDepth 100000 in
theorem insert_mid (g v i : Nat) (m : Mob) (L : List Mob) (cur : List Value) (w : World) (hs : L.length < 32) (hil : i < L.length) (hne : v ≠ g) (h : EntAt w g L cur) (hv : w.heap[v]? = some (.cells (rowM [m]).toArray 57 (0, 0))) :
    Calls Try.prog 74 #[.slice (some ⟨g, 0, none⟩) L.length 32, .int .i64 i, .slice (some ⟨v, 0, none⟩) 1 1] w fun e w' =>
      e = .returned (.slice (some ⟨g, 0, none⟩) (L.length + 1) 32) ∧ (∃ cur', EntAt w' g (L.take i ++ m :: L.drop i) cur') ∧ Kept (fun k => k = g) w w' := by
  have hov := fun o lb cb => overlaps_run w v g o 1 lb cb _ _ hv h.blk hne (by rw [h.len]; decide) 1
  have S1 : Hid (w.drew.heap[g]? = some (.cells cur.toArray 57 (0, 0))) := h.blk
  have S2 : Hid (∀ j u, (rowM (L.drop i))[j]? = some u → w.drew.cell? ((⟨g, i * 7, none⟩ : Addr).add j) = some u) := fun j u hu => by
    rw [addr_add2]
    exact h.cellAt (i * 7 + j) u (by rw [← List.getElem?_drop, rowM_drop]; exact hu)
  have S3 : Hid ((rowM (L.drop i)).length = (L.length - i) * 7) := by show _ = _; rw [rowM_length, List.length_drop]
  have S4 : Hid ((i + 1) * 7 + (rowM (L.drop i)).length ≤ cur.length) := by show _ ≤ _; rw [S3.out, h.len]; omega
  have S5 : Hid (∀ u ∈ rowM (L.drop i), u.oneCell' = true) := rowM_one _
  have S6 : Hid (Nat.min (L.length + 1 - i) (L.length + 1 - (i + 1)) = L.length - i) := by show min _ _ = _; omega
  have S7 : Hid ((splice cur ((i + 1) * 7) (rowM (L.drop i))).length = 224) := by show _ = _; rw [length_splice _ _ _ S4.out, h.len]
  have H := hide h
  have HV := hide hv
  have HN := hide hne
  clear h hv hne
  have hbe : ((i : Int) == (L.length : Int)) = false := by simp; omega
  have a1 : IntKind.i64.wrap ((i : Int) + 1) = (i : Int) + 1 := wrap_id _ (by omega)
  have a2 : (0 : Int) ≤ (i : Int) + 1 := by omega
  have a3 : (i : Int) + 1 ≤ (L.length : Int) + 1 := by omega
  have a4 : ((i : Int) + 1).toNat = i + 1 := by omega
  have a5 : (i : Int) ≤ (L.length : Int) + 1 := by omega
  have a6 : ¬ (32 : Nat) = i := by omega
  have a8 : ¬ i = 31 := by omega
  have a7 : ¬ (32 : Nat) - i = 0 := by omega
  go_enter Try.func74, Try.ntmps74
  go_wp2
  clear hov
  go_region_law (refine step_copy_mine rfl (.tmp 73) (.tmp 76) 38 38 rfl 57 7 Try.underlying38 size_mob (some ⟨g, (i + 1) * 7, none⟩) (some ⟨g, i * 7, none⟩) (L.length + 1 - (i + 1)) (32 - (i + 1)) (L.length + 1 - i) (32 - i) (by simp [Act.eval, Act.put]) (by simp [Act.eval, Act.put]) g ((i + 1) * 7) cur 57 S1.out (L.length - i) S6.out (rowM (L.drop i)) S3.out (fun _ => ⟨rfl, _, rfl, S2.out⟩) S4.out S5.out ?_; intro w1 HG1 HK1)
  have HV1 : Hid (w1.heap[v]? = some (.cells (rowM [m]).toArray 57 (0, 0))) := by
    show _ = _
    rw [HK1.out.block v (heap_lt HV.out) HN.out]; exact HV.out
  have S8 : Hid (∀ j u, (rowM [m])[j]? = some u → w1.cell? ((⟨v, 0, none⟩ : Addr).add j) = some u) := fun j u hu => by rw [addr_add, cell_block HV1.out]; simpa using hu
  have S9 : Hid (i * 7 + (rowM [m]).length ≤ (splice cur ((i + 1) * 7) (rowM (L.drop i))).length) := by show _ ≤ _; rw [S7.out]; have : (rowM [m]).length = 7 := rfl; omega
  have S10 : Hid (Nat.min 1 (L.length + 1 - i) = 1) := by show min _ _ = _; omega
  go_wp2_with (refine wpList_copy_here _ rfl (.tmp 80) (.tmp 81) 38 38 rfl 57 7 Try.underlying38 size_mob g (i * 7) (L.length + 1 - i) (32 - i) ⟨v, 0, none⟩ 1 1 (by simp [Act.eval]) (by simp [Act.eval]) (splice cur ((i + 1) * 7) (rowM (L.drop i))) 57 HG1.out 1 S10.out (rowM [m]) rfl S8.out S9.out (rowM_one [m]) ?_)
  intro w2 HG2 HK2
  go_wp2
  go_ret
  exact ⟨rfl, insert_mem (by omega) hs H.out.len H.out.row HG2.out, ((Kept.drew w).join HK1.out (R := fun k => k = g) (fun _ _ e => e.elim) (fun _ _ e => e)).join HK2.out (fun _ _ e => e) (fun _ _ e => e)⟩

/-- slices.Insert of one entity. -/
theorem insert_c (g v i : Nat) (m : Mob) (L : List Mob) (cur : List Value) (w : World) (hs : L.length < 32) (hil : i ≤ L.length) (hne : v ≠ g) (h : EntAt w g L cur) (hv : w.heap[v]? = some (.cells (rowM [m]).toArray 57 (0, 0))) :
    Calls Try.prog 74 #[.slice (some ⟨g, 0, none⟩) L.length 32, .int .i64 i, .slice (some ⟨v, 0, none⟩) 1 1] w fun e w' =>
      e = .returned (.slice (some ⟨g, 0, none⟩) (L.length + 1) 32) ∧ (∃ cur', EntAt w' g (L.take i ++ m :: L.drop i) cur') ∧ Kept (fun k => k = g) w w' := by
  by_cases e : i = L.length
  · subst e
    rw [List.take_length, List.drop_length]
    exact insert_end g v m L cur w hs h hv
  · exact insert_mid g v i m L cur w hs (by omega) hne h hv
end Go.Proofs.Ytlfmfhmbkpnjbaa
