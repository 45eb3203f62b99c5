import Derived.Test.YtlfmfhmbkpnjbaaGreatDoorPz14
import Derived.Test.YtlfmfhmbkpnjbaaGreatDoorPz12
import Derived.Test.YtlfmfhmbkpnjbaaGreatDoorPz9
namespace Go.Proofs.YtlfmfhmbkpnjbaaGreatDoor
open Go.RowKit

def insM (L : List Mob) (m : Mob) : List Mob := L.take (findI L m.id) ++ m :: L.drop (findI L m.id)

theorem findI_before (L : List Mob) (id : Int) (i : Nat) (hi : i < findI L id) (hl : i < L.length) : L[i].id < id :=
  findI_lt L id L[i] (by rw [List.mem_take_iff_getElem]; exact ⟨i, by omega, rfl⟩)

theorem Reads.drop {w : World} {b off : Nat} {L : List Mob} (h : Reads w (some ⟨b, off, none⟩) L) (i : Nat) : Reads w (some ⟨b, off + i * 7, none⟩) (L.drop i) := fun hne => by
  have hi : i < L.length := by
    by_cases e : i < L.length
    · exact e
    · exact absurd (List.drop_eq_nil_of_le (by omega)) hne
  obtain ⟨b', off', e, h2, h3⟩ := h (by intro e; subst e; simp at hi)
  obtain ⟨rfl, rfl⟩ : b = b' ∧ off = off' := by simpa using e
  refine ⟨b, _, rfl, h2, fun j u hu => ?_⟩
  rw [← rowM_drop, List.getElem?_drop] at hu
  rw [show off + i * 7 + j = off + (i * 7 + j) from by omega]
  exact h3 _ u hu
theorem Reads.take {w : World} {p : Option Addr} {L : List Mob} (h : Reads w p L) (i : Nat) : Reads w p (L.take i) := by
  have e : L = L.take i ++ L.drop i := (List.take_append_drop i L).symm
  rw [e] at h
  exact Reads.pre h

set_option maxHeartbeats 4000000 in
set_option maxRecDepth 100000 in
theorem rput_c (base : Nat) (p : Option Addr) (cap : Nat) (L : List Mob) (m : Mob) (w : World) (hl : L.length ≤ 100) (h : OwnE w base p cap L) :
    Calls Tryz.prog 114 #[.slice p L.length cap, .agg #[.int .i64 m.id, .int .i64 m.team, .float .f32 m.x, .float .f32 m.y, .float .f32 m.vx, .float .f32 m.vy, .int .i64 m.health]] w fun e w' =>
      ∃ p' cap', e = .returned (.slice p' (insM L m).length cap') ∧ OwnE w' w.heap.size p' cap' (insM L m) ∧ Kept (fun _ => False) w w' := by
  have hsf := store_float Tryz.prog
  have HO := hide h
  clear h
  have K0 := hide (Kept.alloc w (.cells #[.int .i64 m.id, .int .i64 m.team, .float .f32 m.x, .float .f32 m.y, .float .f32 m.vx, .float .f32 m.vy, .int .i64 m.health] 83))
  have HN := hide (heap_alloc_new w (.cells #[.int .i64 m.id, .int .i64 m.team, .float .f32 m.x, .float .f32 m.y, .float .f32 m.vx, .float .f32 m.vy, .int .i64 m.health] 83))
  go_enter Tryz.func114, Tryz.ntmps114
  go_wp2
  generalize w.alloc (.cells #[.int .i64 m.id, .int .i64 m.team, .float .f32 m.x, .float .f32 m.y, .float .f32 m.vx, .float .f32 m.vy, .int .i64 m.health] 83) = W at *
  have hW := heap_lt HN.out
  go_loopw [5, 6] (fun s a wr => ∃ i : Nat, ∃ p' cap', ∃ M : List Mob, i ≤ findI L m.id ∧ Hid (M = L.take i) ∧ a = .int .i64 i ∧ s = .slice p' M.length cap' ∧ Hid (OwnE wr W.heap.size p' cap' M) ∧ Hid (Kept (fun _ => False) W wr)) (fun _ a _ => L.length - (intOf a).toNat)
  case atStart => exact ⟨0, none, 0, [], Nat.zero_le _, rfl, rfl, rfl, OwnE.nil _ _, Kept.refl _ _⟩
  case round =>
    obtain ⟨i, p', cap', M, hif, HM, rfl, rfl, HE, HK⟩ := hrel
    have hfl := findI_le L m.id
    have hMl : M.length ≤ 100 := by rw [HM.out, List.length_take]; omega
    have HKW := hide (K0.out.calm2 HK.out)
    have HNr : Hid (wr.heap[w.heap.size]? = some (.cells #[.int .i64 m.id, .int .i64 m.team, .float .f32 m.x, .float .f32 m.y, .float .f32 m.vx, .float .f32 m.vy, .int .i64 m.health] 83 (0, 0))) := by show _ = _; rw [HK.out.block _ hW (fun e => e)]; exact HN.out
    obtain ⟨n0, n1, n2, n3, n4, n5, n6⟩ := seven_cells HNr.out
    have HR := hide (HO.out.reads.calm HKW.out)
    have hsz := HK.out.size
    by_cases hlt : i < findI L m.id
    · have hil : i < L.length := by omega
      have hb1 : (0 : Int) ≤ (i : Int) := by omega
      have hb2 : (i : Int) < (L.length : Int) := by omega
      have hid := findI_before L m.id i hlt hil
      obtain ⟨b, off, rfl, hbs, c0, -, -, -, -, -, -⟩ := HR.out.at i hil
      go_wp2
      go_quiet (fail)
      generalize hwd : wr.drewN _ = wd at *
      have KD : Hid (Kept (fun _ => False) wr wd) := by rw [← hwd]; exact Kept.drewN _ _
      clear hwd c0 n0 n1 n2 n3 n4 n5 n6
      obtain ⟨b', off', hp', hbs', c0, c1, c2, c3, c4, c5, c6⟩ := (HR.out.calm KD.out).at i hil
      obtain ⟨rfl, rfl⟩ : b = b' ∧ off = off' := by simpa using hp'
      clear hp'
      have hsd := KD.out.size
      have HM' : Hid (M ++ [L[i]] = L.take (i + 1)) := by show _ = _; rw [HM.out, List.take_succ_eq_append_getElem hil]
      generalize L[i] = mi at *
      have RN : Hid (Reads (wd.alloc (.cells #[.int .i64 mi.id, .int .i64 mi.team, .float .f32 mi.x, .float .f32 mi.y, .float .f32 mi.vx, .float .f32 mi.vy, .int .i64 mi.health] 83)) (some ⟨wd.heap.size, 0, none⟩) [mi]) := block_reads (M := [mi]) (heap_alloc_new wd (.cells (rowM [mi]).toArray 83))
      go_wp2_with (at_builtin; refine wpList_append_list _ rfl (.tmp 21) (.tmp 26) rfl W.heap.size p' cap' M rfl (HE.out.calm (KD.out.calm2 (Kept.alloc _ _))) (some ⟨wd.heap.size, 0, none⟩) 1 [mi] rfl (fun e => by cases e) RN.out (by simp; omega) (by simp; omega) ?_)
      intro p2 cap2 w2 M2 HM2 O2 HK2
      have K2 : Hid (Kept (fun _ => False) W w2) := (HK.out.calm2 (KD.out.calm2 (Kept.alloc wd _))).join HK2.out (fun _ _ e => e) (fun j hj e => by have := (HE.out.lt j e).1; omega)
      clear HK2 c0 c1 c2 c3 c4 c5 c6 RN
      go_wp2
      go_roundw
      case rel => exact ⟨i + 1, p2, cap2, M2, by omega, (by show _ = _; rw [HM2.out]; exact HM'.out), by go_num, rfl, O2, K2⟩
      case measure => simp [intOf]; omega
    · obtain rfl : i = findI L m.id := by omega
      have HEN : Hid (insM L m = M ++ [m] ++ L.drop (findI L m.id)) := by show _ = _; rw [HM.out]; unfold insM; simp
      have HDL : Hid ((L.drop (findI L m.id)).length = L.length - findI L m.id) := by show _ = _; rw [List.length_drop]
      have hge := findI_ge L m.id
      clear HM
      generalize findI L m.id = i at *
      by_cases hil : i < L.length
      · have hid : ¬ L[i].id < m.id := by have := hge hil; omega
        have hb1 : (0 : Int) ≤ (i : Int) := by omega
        have hb2 : (i : Int) < (L.length : Int) := by omega
        obtain ⟨g, cur, rfl, hbg, hcm, hr⟩ := HO.out.there i hil
        have HRW := hide (hr.calm' HKW.out)
        obtain ⟨c0, -⟩ := HRW.out.at7 i hil
        have RD : Hid (Reads W (some ⟨g, i * 7, none⟩) (L.drop i)) := by have := (HO.out.reads.calm K0.out).drop i; rw [Nat.zero_add] at this; exact this
        generalize L.drop i = D at *
        go_wp2
        go_quiet (fail)
        generalize hwd : wr.drewN _ = wd at *
        have KD : Hid (Kept (fun _ => False) wr wd) := by rw [← hwd]; exact Kept.drewN _ _
        have HND : Hid (wd.heap[w.heap.size]? = some (.cells #[.int .i64 m.id, .int .i64 m.team, .float .f32 m.x, .float .f32 m.y, .float .f32 m.vx, .float .f32 m.vy, .int .i64 m.health] 83 (0, 0))) := by show _ = _; rw [KD.out.block _ (heap_lt HNr.out) (fun e => e)]; exact HNr.out
        clear hwd c0 n0 n1 n2 n3 n4 n5 n6
        obtain ⟨n0, n1, n2, n3, n4, n5, n6⟩ := seven_cells HND.out
        have hsd := KD.out.size
        have RN : Hid (Reads (wd.alloc (.cells #[.int .i64 m.id, .int .i64 m.team, .float .f32 m.x, .float .f32 m.y, .float .f32 m.vx, .float .f32 m.vy, .int .i64 m.health] 83)) (some ⟨wd.heap.size, 0, none⟩) [m]) := block_reads (M := [m]) (heap_alloc_new wd (.cells (rowM [m]).toArray 83))
        go_wp2_with (at_builtin; refine wpList_append_list _ rfl (.tmp 30) (.tmp 32) rfl W.heap.size p' cap' M rfl (HE.out.calm (KD.out.calm2 (Kept.alloc _ _))) (some ⟨wd.heap.size, 0, none⟩) 1 [m] rfl (fun e => by cases e) RN.out (by simp; omega) (by simp; omega) ?_)
        intro p2 cap2 w2 M2 HM2 O2 HK2
        have K2 : Hid (Kept (fun _ => False) W w2) := (HK.out.calm2 (KD.out.calm2 (Kept.alloc wd _))).join HK2.out (fun _ _ e => e) (fun j hj e => by have := (HE.out.lt j e).1; omega)
        have hM2l : M2.length ≤ 101 := by rw [HM2.out]; simp; omega
        clear HK2 RN n0 n1 n2 n3 n4 n5 n6
        have hcap := hr.short
        have hb3 : (i : Int) ≤ (L.length : Int) := by omega
        have hb4 : (L.length : Int) ≤ (cap : Int) := by omega
        have hs2 := K2.out.size
        have hD : D.length ≤ 100 := by rw [HDL.out]; omega
        go_wp2_with (at_builtin; refine wpList_append_list _ rfl (.tmp 34) (.tmp 37) rfl W.heap.size p2 cap2 M2 rfl O2.out (some ⟨g, i * 7, none⟩) (cap - i) D (by rw [HDL.out]; rfl) (fun e => by cases e) (RD.out.calm K2.out) (by omega) hs2 ?_)
        intro p3 cap3 w3 R HR3 O3 HK3
        have K3 : Hid (Kept (fun _ => False) W w3) := K2.out.join HK3.out (fun _ _ e => e) (fun j hj e => by have := (O2.out.lt j e).1; omega)
        have HRI : Hid (R = insM L m) := by show _ = _; rw [HR3.out, HM2.out, HEN.out]
        clear HK3
        go_wp2
        go_ret
        rw [← HRI.out]
        exact ⟨p3, cap3, rfl, O3.out.low (by omega), K0.out.calm2 K3.out⟩
      · obtain rfl : i = L.length := by omega
        have hdf : decide ((L.length : Int) < (L.length : Int)) = false := by simp
        have HEN2 : Hid (insM L m = M ++ [m]) := by show _ = _; rw [HEN.out, List.drop_length, List.append_nil]
        clear HEN HDL hge
        go_wp2
        go_quiet (fail)
        generalize hwd : wr.drewN _ = wd at *
        have KD : Hid (Kept (fun _ => False) wr wd) := by rw [← hwd]; exact Kept.drewN _ _
        have HND : Hid (wd.heap[w.heap.size]? = some (.cells #[.int .i64 m.id, .int .i64 m.team, .float .f32 m.x, .float .f32 m.y, .float .f32 m.vx, .float .f32 m.vy, .int .i64 m.health] 83 (0, 0))) := by show _ = _; rw [KD.out.block _ (heap_lt HNr.out) (fun e => e)]; exact HNr.out
        clear hwd n0 n1 n2 n3 n4 n5 n6
        obtain ⟨n0, n1, n2, n3, n4, n5, n6⟩ := seven_cells HND.out
        have hsd := KD.out.size
        have RN : Hid (Reads (wd.alloc (.cells #[.int .i64 m.id, .int .i64 m.team, .float .f32 m.x, .float .f32 m.y, .float .f32 m.vx, .float .f32 m.vy, .int .i64 m.health] 83)) (some ⟨wd.heap.size, 0, none⟩) [m]) := block_reads (M := [m]) (heap_alloc_new wd (.cells (rowM [m]).toArray 83))
        go_wp2_with (at_builtin; refine wpList_append_list _ rfl (.tmp 30) (.tmp 32) rfl W.heap.size p' cap' M rfl (HE.out.calm (KD.out.calm2 (Kept.alloc _ _))) (some ⟨wd.heap.size, 0, none⟩) 1 [m] rfl (fun e => by cases e) RN.out (by simp; omega) (by simp; omega) ?_)
        intro p2 cap2 w2 M2 HM2 O2 HK2
        have K2 : Hid (Kept (fun _ => False) W w2) := (HK.out.calm2 (KD.out.calm2 (Kept.alloc wd _))).join HK2.out (fun _ _ e => e) (fun j hj e => by have := (HE.out.lt j e).1; omega)
        have hM2l : M2.length ≤ 101 := by rw [HM2.out]; simp; omega
        clear HK2 RN n0 n1 n2 n3 n4 n5 n6
        have hs2 := K2.out.size
        have hb1 : (0 : Int) ≤ (L.length : Int) := by omega
        rcases HO.out with ⟨rfl, rfl, rfl⟩ | ⟨g, cur, rfl, hbg, hcm, hr⟩
        · go_wp2_with (at_builtin; refine wpList_append_list _ rfl (.tmp 34) (.tmp 37) rfl W.heap.size p2 cap2 M2 rfl O2.out none 0 [] rfl (fun _ => rfl) (fun e => absurd rfl e) (by simp; omega) hs2 ?_)
          intro p3 cap3 w3 R HR3 O3 HK3
          have K3 : Hid (Kept (fun _ => False) W w3) := K2.out.join HK3.out (fun _ _ e => e) (fun j hj e => by have := (O2.out.lt j e).1; omega)
          have HRI : Hid (R = insM [] m) := by show _ = _; rw [HR3.out, HM2.out, HEN2.out]
          clear HK3
          go_wp2
          go_ret
          rw [← HRI.out]
          exact ⟨p3, cap3, rfl, O3.out.low (by omega), K0.out.calm2 K3.out⟩
        · have hcap := hr.short
          have hb4 : (L.length : Int) ≤ (cap : Int) := by omega
          by_cases hlc : L.length = cap
          · subst hlc
            go_wp2_with (at_builtin; refine wpList_append_list _ rfl (.tmp 34) (.tmp 37) rfl W.heap.size p2 cap2 M2 rfl O2.out (some ⟨g, 0, none⟩) 0 [] rfl (fun _ => rfl) (fun e => absurd rfl e) (by simp; omega) hs2 ?_)
            intro p3 cap3 w3 R HR3 O3 HK3
            have K3 : Hid (Kept (fun _ => False) W w3) := K2.out.join HK3.out (fun _ _ e => e) (fun j hj e => by have := (O2.out.lt j e).1; omega)
            have HRI : Hid (R = insM L m) := by show _ = _; rw [HR3.out, HM2.out, HEN2.out]
            clear HK3
            go_wp2
            go_ret
            rw [← HRI.out]
            exact ⟨p3, cap3, rfl, O3.out.low (by omega), K0.out.calm2 K3.out⟩
          · have hb5 : (L.length : Int) < (cap : Int) := by omega
            go_wp2_with (at_builtin; refine wpList_append_list _ rfl (.tmp 34) (.tmp 37) rfl W.heap.size p2 cap2 M2 rfl O2.out (some ⟨g, L.length * 7, none⟩) (cap - L.length) [] rfl (fun e => by cases e) (fun e => absurd rfl e) (by simp; omega) hs2 ?_)
            intro p3 cap3 w3 R HR3 O3 HK3
            have K3 : Hid (Kept (fun _ => False) W w3) := K2.out.join HK3.out (fun _ _ e => e) (fun j hj e => by have := (O2.out.lt j e).1; omega)
            have HRI : Hid (R = insM L m) := by show _ = _; rw [HR3.out, HM2.out, HEN2.out]
            clear HK3
            go_wp2
            go_ret
            rw [← HRI.out]
            exact ⟨p3, cap3, rfl, O3.out.low (by omega), K0.out.calm2 K3.out⟩
end Go.Proofs.YtlfmfhmbkpnjbaaGreatDoor

namespace Go.Proofs.YtlfmfhmbkpnjbaaGreatDoor
open Go.RowKit

def markC (k : Int) : Cmd := { kind := -1000 - k, id := 0, team := 0, x := 0, y := 0, n := 7 }
theorem size_cmd : (Tryz.prog.info? 57).map (·.size) = some 6 := by kernel_rfl

set_option maxHeartbeats 400000 in
theorem badCommand_c (k : Int) (w : World) (hk : 0 ≤ k ∧ k ≤ 4611686018427387904) : Calls Tryz.prog 87 #[.int .i64 k] w fun e w' => e = .returned (.agg #[.int .i64 (-1000 - k), .int .i64 0, .int .i64 0, .float .f32 0, .float .f32 0, .int .i64 7]) ∧ Kept (fun _ => False) w w' := by
  have hsf := store_float Tryz.prog
  have hw : IntKind.i64.wrap (-1000 - k) = -1000 - k := wrap_id _ (by omega)
  go_enter Tryz.func87, Tryz.ntmps87
  go_wp2
  refine bodyPost_ret (v := .agg #[.int .i64 (-1000 - k), .int .i64 0, .int .i64 0, .float .f32 0, .float .f32 0, .int .i64 7]) (by simp [results, Tryz.results87, go_sem]) rfl ?_
  exact ⟨rfl, Kept.alloc w _⟩

theorem makeAllC (n : Nat) (hn : n ≤ 4000000) : ∃ cur0 : List Value, cur0.length = n * 6 ∧ ∀ w : World, (Instr.makeSlice 52 (.int .i64 (n : Int)) (.int .i64 (n : Int))).run Tryz.prog w = .ok (.slice (some ⟨w.heap.size, 0, none⟩) n n) (w.alloc (.cells cur0.toArray 57)) := by
  obtain ⟨i0, hi, hz0, hz1, hz2⟩ := info_parts info_cmd
  refine ⟨(madeCells (Value.agg #[.int .i64 0, .int .i64 0, .int .i64 0, .float .f32 0, .float .f32 0, .int .i64 0]).cells (n * 6)).toList, ?_, fun w => ?_⟩
  · rw [Array.length_toList, size_madeCells]
  · have := run_make (P := Tryz.prog) w 52 57 i0 _ Tryz.underlying52 hi hz0 .i64 .i64 (n : Int) (n : Int) (by omega) (by omega) (by rw [hz2]; omega) (by omega)
    rw [hz1, Int.toNat_natCast] at this
    exact this

/-- The commands that are lent: with eight marks behind them. -/
def lentC (L : List Cmd) : List Cmd := L ++ List.replicate 8 (markC 0)
theorem lentC_length (L : List Cmd) : (lentC L).length = L.length + 8 := by simp [lentC]
theorem lentC_in (L : List Cmd) (i : Nat) (h : i < L.length) (h' : i < (lentC L).length) : (lentC L)[i] = L[i] := by
  simp only [lentC]
  exact List.getElem_append_left h
theorem lentC_out (L : List Cmd) (i : Nat) (h : L.length ≤ i) (h' : i < (lentC L).length) : (lentC L)[i] = markC 0 := by
  simp only [lentC]
  rw [List.getElem_append_right h, List.getElem_replicate]

structure LentCAt (wr : World) (g : Nat) (L : List Cmd) (i : Nat) (cu : List Value) : Prop where
  blk : wr.heap[g]? = some (.cells cu.toArray 57 (0, 0))
  len : cu.length = (L.length + 8) * 6
  row : cu.take (i * 6) = rowC ((lentC L).take i)

theorem LentCAt.more {wr w' : World} {g : Nat} {L : List Cmd} {i : Nat} {cu : List Value} (h : LentCAt wr g L i cu) (hi : L.length ≤ i) (hi2 : i < L.length + 8) (hw : w'.heap[g]? = some (.cells (splice cu (i * 6) (rowC [markC 0])).toArray 57 (0, 0))) : LentCAt w' g L (i + 1) (splice cu (i * 6) (rowC [markC 0])) := by
  have h7 : (rowC [markC 0]).length = 6 := rfl
  have hl := lentC_length L
  have hg : (lentC L)[i]'(by omega) = markC 0 := lentC_out L i hi (by omega)
  refine ⟨hw, by rw [length_splice _ _ _ (by rw [h.len, h7]; omega), h.len], ?_⟩
  rw [List.take_succ_eq_append_getElem (by omega), hg, rowC_append]
  unfold splice
  rw [← List.append_assoc, h.row, show (i + 1) * 6 = (rowC ((lentC L).take i) ++ rowC [markC 0]).length from by rw [← rowC_append, rowC_length, List.length_append, List.length_take, hl, show min i (L.length + 8) = i from by omega]; rfl, List.take_left]

theorem six_old {w : World} {g : Nat} {cur : List Value} {T : TypeId} (h : w.heap[g]? = some (.cells cur.toArray T (0, 0))) (o : Nat) (ho : o + 6 ≤ cur.length) : ∃ u0 u1 u2 u3 u4 u5,
    w.cell? ⟨g, o, none⟩ = some u0 ∧ w.cell? ⟨g, o + 1, none⟩ = some u1 ∧ w.cell? ⟨g, o + 2, none⟩ = some u2 ∧ w.cell? ⟨g, o + 3, none⟩ = some u3 ∧ w.cell? ⟨g, o + 4, none⟩ = some u4 ∧ w.cell? ⟨g, o + 5, none⟩ = some u5 := by
  have c : ∀ j, (hj : j < cur.length) → w.cell? ⟨g, j, none⟩ = some cur[j] := fun j hj => by rw [cell_block h]; simp [hj]
  exact ⟨_, _, _, _, _, _, c _ (by omega), c _ (by omega), c _ (by omega), c _ (by omega), c _ (by omega), c _ (by omega)⟩
theorem store6 {w : World} {g : Nat} {cur : List Value} {T : TypeId} (h : w.heap[g]? = some (.cells cur.toArray T (0, 0))) (o : Nat) (m : Cmd) (ho : o + 6 ≤ cur.length) :
    ((((((w.setCell ⟨g, o, none⟩ (.int .i64 m.kind)).setCell ⟨g, o + 1, none⟩ (.int .i64 m.id)).setCell ⟨g, o + 2, none⟩ (.int .i64 m.team)).setCell ⟨g, o + 3, none⟩ (.float .f32 m.x)).setCell ⟨g, o + 4, none⟩ (.float .f32 m.y)).setCell ⟨g, o + 5, none⟩ (.int .i64 m.n)).heap[g]? = some (.cells (splice cur o (rowC [m])).toArray T (0, 0)) ∧
    Kept (fun k => k = g) w ((((((w.setCell ⟨g, o, none⟩ (.int .i64 m.kind)).setCell ⟨g, o + 1, none⟩ (.int .i64 m.id)).setCell ⟨g, o + 2, none⟩ (.int .i64 m.team)).setCell ⟨g, o + 3, none⟩ (.float .f32 m.x)).setCell ⟨g, o + 4, none⟩ (.float .f32 m.y)).setCell ⟨g, o + 5, none⟩ (.int .i64 m.n)) :=
  setCells_row g T (rowC [m]) o cur w h ho

theorem ReadsC.calm {w w' : World} {p : Option Addr} {L : List Cmd} (h : ReadsC w p L) (hk : Kept (fun _ => False) w w') : ReadsC w' p L := h.keep hk (fun _ _ _ _ e => e)

set_option maxHeartbeats 2000000 in
set_option maxRecDepth 100000 in
theorem lentC_c (p : Option Addr) (cap : Nat) (L : List Cmd) (w : World) (hl : L.length ≤ 2000000) (h : ReadsC w p L) :
    Calls Tryz.prog 57 #[.slice p L.length cap] w fun e w' => e = .returned (.slice (some ⟨w.heap.size, 0, none⟩) (L.length + 8) (L.length + 8)) ∧ w'.heap[w.heap.size]? = some (.cells (rowC (lentC L)).toArray 57 (0, 0)) ∧ Kept (fun _ => False) w w' := by
  obtain ⟨i0, hi, hz0, hz1, hz2⟩ := info_parts info_cmd
  obtain ⟨cur0, hc0, hmk⟩ := makeAllC (L.length + 8) (by omega)
  have hmk' : ∀ w : World, (Instr.makeSlice 52 (.int .i64 ((L.length : Int) + 8)) (.int .i64 ((L.length : Int) + 8))).run Tryz.prog w = .ok (.slice (some ⟨w.heap.size, 0, none⟩) (L.length + 8) (L.length + 8)) (w.alloc (.cells cur0.toArray 57)) := fun w => hmk w
  have hsf := store_float Tryz.prog
  have HR := hide h
  clear h hmk
  have S1 : Hid (0 < L.length → some (⟨w.heap.size, 0, none⟩ : Addr) = some ⟨w.heap.size, 0, none⟩ ∧ ∃ ad, p = some ad ∧ ∀ j v, (rowC L)[j]? = some v → (w.alloc (.cells cur0.toArray 57)).cell? (ad.add j) = some v) := fun hpos => by
    obtain ⟨b, off, h1, h2, h3⟩ := (HR.out.calm (Kept.alloc w (.cells cur0.toArray 57))) (by intro e; simp [e] at hpos)
    exact ⟨rfl, ⟨b, off, none⟩, h1, fun j v hv => by rw [addr_add2]; exact h3 j v hv⟩
  have S2 : Hid (Nat.min L.length (L.length + 8) = L.length) := by show min _ _ = _; omega
  go_enter Tryz.func57, Tryz.ntmps57
  go_wp2_with (refine wpList_copy_any _ rfl (.tmp 9) (.tmp 10) 52 52 rfl 57 6 Tryz.underlying52 size_cmd (some ⟨w.heap.size, 0, none⟩) p (L.length + 8) (L.length + 8) L.length cap (by simp [Act.eval]) (by simp [Act.eval]) w.heap.size 0 cur0 57 (heap_alloc_new w _) L.length S2.out (rowC L) (rowC_length L) S1.out (by rw [rowC_length, hc0]; omega) (rowC_one L) ?_)
  intro w1 HG1 HK1
  have K1 : Hid (Kept (fun _ => False) w w1) := (Kept.alloc w _).join HK1.out (fun _ _ e => e) (fun j hj e => by omega)
  have L1 : Hid (LentCAt w1 w.heap.size L L.length (splice cur0 0 (rowC L))) := by
    refine ⟨HG1.out, by rw [length_splice _ _ _ (by rw [rowC_length, hc0]; omega), hc0], ?_⟩
    unfold splice lentC
    rw [List.take_zero, List.nil_append, ← rowC_length, List.take_left, List.take_left' rfl]
  clear HG1 HK1 hmk' S1 S2
  have hw0 : w.heap.size < w1.heap.size := heap_lt L1.out.blk
  go_wp2
  go_loopw [4] (fun a wr => ∃ i : Nat, ∃ cu : List Value, L.length ≤ i ∧ i ≤ L.length + 8 ∧ a = .int .i64 i ∧ Hid (LentCAt wr w.heap.size L i cu) ∧ Hid (Kept (fun _ => False) w wr)) (fun a _ => L.length + 8 - (intOf a).toNat)
  case atStart => exact ⟨L.length, _, Nat.le_refl _, by omega, rfl, L1, K1⟩
  case round =>
    obtain ⟨i, cu, hil, hi8, rfl, HL, HK⟩ := hrel
    clear L1 K1
    by_cases hlt : i < L.length + 8
    · have hb1 : (0 : Int) ≤ (i : Int) := by omega
      have hb2 : (i : Int) < (L.length : Int) + 8 := by omega
      have hb3 : (i : Int) < ((L.length + 8 : Nat) : Int) := by omega
      go_wp2_with fail
      refine (badCommand_c 0 _ (by decide)).mono ?_
      rintro e w2 ⟨rfl, q2⟩
      have K2 := hide (HK.out.calm2 q2)
      have B2 := hide (show w2.heap[w.heap.size]? = some (.cells cu.toArray 57 (0, 0)) by rw [q2.block _ (heap_lt HL.out.blk) (fun e => e)]; exact HL.out.blk)
      have hal : i * 6 + 6 ≤ cu.length := by rw [HL.out.len]; omega
      obtain ⟨u0, u1, u2, u3, u4, u5, f0, f1, f2, f3, f4, f5⟩ := six_old B2.out (i * 6) hal
      have ffz : ∀ j, w2.frozen? ⟨w.heap.size, j, none⟩ = false := fun j => by simp [World.frozen?, B2.out]
      have ST := hide (store6 B2.out (i * 6) (markC 0) hal)
      clear q2
      go_wp2
      go_roundw
      case rel => exact ⟨i + 1, _, by omega, by omega, by go_num, HL.out.more hil hlt ST.out.1, K2.out.join ST.out.2 (fun _ _ e => e) (fun j hj e => by omega)⟩
      case measure => simp [intOf]; omega
    · obtain rfl : i = L.length + 8 := by omega
      have HF : Hid (cu = rowC (lentC L)) := by
        show _ = _
        have h1 := HL.out.row
        rw [List.take_of_length_le (by rw [HL.out.len]; omega), List.take_of_length_le (by rw [lentC_length]; omega)] at h1
        exact h1
      go_wp2
      go_ret
      refine ⟨rfl, ?_, HK.out⟩
      rw [← HF.out]; exact HL.out.blk

set_option maxHeartbeats 4000000 in
set_option maxRecDepth 100000 in
theorem keptC_c (p q : Option Addr) (cap capq : Nat) (L : List Cmd) (w : World) (hl : L.length ≤ 2000000) (h : ReadsC w q L) (ho : ReadsC w p (lentC L)) :
    Calls Tryz.prog 60 #[.slice p (L.length + 8) cap, .slice q L.length capq] w fun e w' => e = .returned (.bool true) ∧ Kept (fun _ => False) w w' := by
  have hsf := store_float Tryz.prog
  have HR := hide h
  have HO := hide ho
  clear h ho
  have hll := lentC_length L
  go_enter Tryz.func60, Tryz.ntmps60
  go_wp2
  go_loopw [5] (fun a wr => ∃ i : Nat, i ≤ L.length + 8 ∧ a = .int .i64 i ∧ Hid (Kept (fun _ => False) w wr)) (fun a _ => L.length + 8 - (intOf a).toNat)
  case atStart => exact ⟨0, Nat.zero_le _, rfl, Kept.refl _ _⟩
  case round =>
    obtain ⟨i, hil, rfl, HK⟩ := hrel
    by_cases hlt : i < L.length + 8
    · have hb1 : (0 : Int) ≤ (i : Int) := by omega
      have hb2 : (i : Int) < (L.length : Int) + 8 := by omega
      have hb3 : (i : Int) < ((L.length + 8 : Nat) : Int) := by omega
      have hlt' : i < (lentC L).length := by omega
      go_wp2_with fail
      refine (badCommand_c 0 _ (by decide)).mono ?_
      rintro e w2 ⟨rfl, q2⟩
      have K2 := hide (HK.out.calm2 q2)
      clear q2
      by_cases hin : i < L.length
      · have hb4 : (i : Int) < (L.length : Int) := by omega
        have hg : (lentC L)[i] = L[i] := lentC_in L i hin hlt'
        obtain ⟨b, off, hp, hbs, c0, c1, c2, c3, c4, c5⟩ := (HR.out.calm K2.out).at i hin
        obtain ⟨b', off', hp', hbs', d0, d1, d2, d3, d4, d5⟩ := (HO.out.calm K2.out).at i hlt'
        rw [hg] at d0 d1 d2 d3 d4 d5
        subst hp
        subst hp'
        clear hg
        generalize L[i] = m at *
        have KN := hide ((Kept.alloc w2 (.cells #[.int .i64 m.kind, .int .i64 m.id, .int .i64 m.team, .float .f32 m.x, .float .f32 m.y, .int .i64 m.n] 57)).calm2 (Kept.alloc _ (.cells #[.int .i64 m.kind, .int .i64 m.id, .int .i64 m.team, .float .f32 m.x, .float .f32 m.y, .int .i64 m.n] 57)))
        have n0 : (m.kind != m.kind) = false := by simp
        have n1 : (m.id != m.id) = false := by simp
        have n2 : (m.team != m.team) = false := by simp
        have n3 : (m.n != m.n) = false := by simp
        go_wp2_with fail
        refine (like_self m.x _).mono ?_
        rintro e w3 ⟨rfl, rfl⟩
        go_wp2_with fail
        refine (like_self m.y _).mono ?_
        rintro e w3 ⟨rfl, rfl⟩
        go_wp2
        go_roundw
        case rel => exact ⟨i + 1, by omega, by go_num, K2.out.calm2 KN.out⟩
        case measure => simp [intOf]; omega
      · have hb4 : ¬ (i : Int) < (L.length : Int) := by omega
        have hg : (lentC L)[i] = markC 0 := lentC_out L i (by omega) hlt'
        obtain ⟨b', off', hp', hbs', d0, d1, d2, d3, d4, d5⟩ := (HO.out.calm K2.out).at i hlt'
        rw [hg] at d0 d1 d2 d3 d4 d5
        simp only [markC, Int.sub_zero] at d0 d1 d2 d3 d4 d5
        subst hp'
        clear hg
        have KN := hide ((Kept.alloc w2 (.cells #[.int .i64 (-1000), .int .i64 0, .int .i64 0, .float .f32 0, .float .f32 0, .int .i64 7] 57)).calm2 (Kept.alloc _ (.cells #[.int .i64 (-1000), .int .i64 0, .int .i64 0, .float .f32 0, .float .f32 0, .int .i64 7] 57)))
        go_wp2_with fail
        refine (like_self 0 _).mono ?_
        rintro e w3 ⟨rfl, rfl⟩
        go_wp2_with fail
        refine (like_self 0 _).mono ?_
        rintro e w3 ⟨rfl, rfl⟩
        go_wp2
        go_roundw
        case rel => exact ⟨i + 1, by omega, by go_num, K2.out.calm2 KN.out⟩
        case measure => simp [intOf]; omega
    · go_wp2
      go_ret
      exact ⟨rfl, HK.out⟩
end Go.Proofs.YtlfmfhmbkpnjbaaGreatDoor

namespace Go.Proofs.YtlfmfhmbkpnjbaaGreatDoor
open Go.RowKit

def DoneP (w : World) (base : Nat) (p : Option Addr) (R : List Mob) : Ending → World → Prop := fun e w' => ∃ p' cap', e = .returned (.slice p' R.length cap') ∧ OwnE w' base p' cap' R ∧ Kept (HB p) w w'

theorem spawn_ref (i t : Int) (x y : Nat) : mobB (newM i t x y) = spawnB i t x y := by
  have h0 : finB 0 = true := by kernel_rfl
  unfold mobB spawnB newM
  simp [h0]

set_option maxHeartbeats 1000000 in
set_option maxRecDepth 100000 in
theorem done_put (base : Nat) (p : Option Addr) (cap : Nat) (L : List Mob) (c : Cmd) (w : World) (hl : L.length ≤ 100) (h : OwnE w base p cap L) (_hbase : base ≤ w.heap.size) (hrs : Rises L) (hk : c.kind = 1) (hf : findB L c.id = false) (hs : spawnB c.id c.team c.x c.y = true) :
    Calls Tryz.prog 89 #[.slice p L.length cap, .agg #[.int .i64 c.kind, .int .i64 c.id, .int .i64 c.team, .float .f32 c.x, .float .f32 c.y, .int .i64 c.n]] w (DoneP w base p (insM L (newM c.id c.team c.x c.y))) := by
  have hsf := store_float Tryz.prog
  have HO := hide h
  clear h
  have K0 := hide (Kept.alloc w (.cells #[.int .i64 c.kind, .int .i64 c.id, .int .i64 c.team, .float .f32 c.x, .float .f32 c.y, .int .i64 c.n] 57))
  have HN := hide (heap_alloc_new w (.cells #[.int .i64 c.kind, .int .i64 c.id, .int .i64 c.team, .float .f32 c.x, .float .f32 c.y, .int .i64 c.n] 57))
  obtain ⟨s0, s1, s2, s3, s4, s5⟩ := six_cells HN.out
  have HPL : Hid (plR L c.id = -1) := pl_none hrs hf
  have hk1 : (c.kind == 1) = true := by simp [hk]
  clear hk
  have HM : Hid (mobB (newM c.id c.team c.x c.y) = true) := by show _ = _; rw [spawn_ref]; exact hs
  go_enter Tryz.func89, Tryz.ntmps89
  go_wp2_with fail
  refine (place_c p cap c.id L _ (by omega) (HO.out.reads.calm K0.out)).mono ?_
  rw [HPL.out]
  rintro e w1 ⟨rfl, rfl⟩
  have K1 := hide (K0.out.calm2 (Kept.alloc (w.alloc (.cells #[.int .i64 c.kind, .int .i64 c.id, .int .i64 c.team, .float .f32 c.x, .float .f32 c.y, .int .i64 c.n] 57)) (.cells #[.int .i64 c.id, .int .i64 c.team, .float .f32 c.x, .float .f32 c.y, .float .f32 0, .float .f32 0, .int .i64 100] 83)))
  have HM1 := hide (heap_alloc_new (w.alloc (.cells #[.int .i64 c.kind, .int .i64 c.id, .int .i64 c.team, .float .f32 c.x, .float .f32 c.y, .int .i64 c.n] 57)) (.cells #[.int .i64 c.id, .int .i64 c.team, .float .f32 c.x, .float .f32 c.y, .float .f32 0, .float .f32 0, .int .i64 100] 83))
  go_wp2_with fail
  refine (entityOK_c (newM c.id c.team c.x c.y) _).mono ?_
  rw [HM.out]
  rintro e w2 ⟨rfl, q2⟩
  have K2 := hide (K1.out.calm2 q2)
  have HM2 : Hid (w2.heap[w.heap.size + 1]? = some (.cells #[.int .i64 c.id, .int .i64 c.team, .float .f32 c.x, .float .f32 c.y, .float .f32 0, .float .f32 0, .int .i64 100] 83 (0, 0))) := by
    show _ = _
    have h1 := HM1.out
    have h2 := heap_lt h1
    rw [← q2.block _ h2 (fun e => e)] at h1
    simpa using h1
  obtain ⟨n0, n1, n2, n3, n4, n5, n6⟩ := seven_cells HM2.out
  clear q2 HM1 s0 s1 s2 s3 s4 s5
  go_wp2_with fail
  refine (rput_c base p cap L (newM c.id c.team c.x c.y) w2 hl (HO.out.calm K2.out)).mono ?_
  rintro e w3 ⟨p', cap', rfl, o3, k3⟩
  have O3 := hide o3
  have K3 := hide (K2.out.calm2 k3)
  clear o3 k3
  have hsz := K2.out.size
  go_wp2
  go_ret
  exact ⟨p', cap', rfl, O3.out.low (by omega), K3.out.mono (fun _ _ e => e.elim)⟩

set_option maxHeartbeats 1000000 in
set_option maxRecDepth 100000 in
theorem done_noput (base : Nat) (p : Option Addr) (cap : Nat) (L : List Mob) (c : Cmd) (w : World) (hl : L.length ≤ 100) (h : OwnE w base p cap L) (_hbase : base ≤ w.heap.size) (hrs : Rises L) (hk : c.kind = 1) (hs : ¬ (spawnB c.id c.team c.x c.y = true ∧ findB L c.id = false)) :
    Calls Tryz.prog 89 #[.slice p L.length cap, .agg #[.int .i64 c.kind, .int .i64 c.id, .int .i64 c.team, .float .f32 c.x, .float .f32 c.y, .int .i64 c.n]] w (DoneP w base p L) := by
  have hsf := store_float Tryz.prog
  have HO := hide h
  clear h
  have K0 := hide (Kept.alloc w (.cells #[.int .i64 c.kind, .int .i64 c.id, .int .i64 c.team, .float .f32 c.x, .float .f32 c.y, .int .i64 c.n] 57))
  have HN := hide (heap_alloc_new w (.cells #[.int .i64 c.kind, .int .i64 c.id, .int .i64 c.team, .float .f32 c.x, .float .f32 c.y, .int .i64 c.n] 57))
  obtain ⟨s0, s1, s2, s3, s4, s5⟩ := six_cells HN.out
  have hk1 : (c.kind == 1) = true := by simp [hk]
  clear hk
  have HM : Hid (mobB (newM c.id c.team c.x c.y) = spawnB c.id c.team c.x c.y) := spawn_ref _ _ _ _
  have K1 := hide (K0.out.calm2 (Kept.alloc (w.alloc (.cells #[.int .i64 c.kind, .int .i64 c.id, .int .i64 c.team, .float .f32 c.x, .float .f32 c.y, .int .i64 c.n] 57)) (.cells #[.int .i64 c.id, .int .i64 c.team, .float .f32 c.x, .float .f32 c.y, .float .f32 0, .float .f32 0, .int .i64 100] 83)))
  cases hf : findB L c.id
  · have hs' : spawnB c.id c.team c.x c.y = false := by
      cases hh : spawnB c.id c.team c.x c.y
      · rfl
      · exact absurd ⟨hh, hf⟩ hs
    have HPL : Hid (plR L c.id = -1) := pl_none hrs hf
    clear hs
    go_enter Tryz.func89, Tryz.ntmps89
    go_wp2_with fail
    refine (place_c p cap c.id L _ (by omega) (HO.out.reads.calm K0.out)).mono ?_
    rw [HPL.out]
    rintro e w1 ⟨rfl, rfl⟩
    go_wp2_with fail
    refine (entityOK_c (newM c.id c.team c.x c.y) _).mono ?_
    rw [HM.out, hs']
    rintro e w2 ⟨rfl, q2⟩
    have K2 := hide (K1.out.calm2 q2)
    clear q2
    go_wp2
    go_ret
    exact ⟨p, cap, rfl, HO.out.calm K2.out, (K2.out).mono (fun _ _ e => e.elim)⟩
  · obtain ⟨hq, hqid, hpl⟩ := pl_some hrs hf
    have HPL := hide hpl
    have hq0 : ¬ ((findI L c.id : Nat) : Int) < 0 := by omega
    clear hpl hqid hs
    generalize findI L c.id = q at *
    go_enter Tryz.func89, Tryz.ntmps89
    go_wp2_with fail
    refine (place_c p cap c.id L _ (by omega) (HO.out.reads.calm K0.out)).mono ?_
    rw [HPL.out]
    rintro e w1 ⟨rfl, rfl⟩
    go_wp2_with fail
    refine (entityOK_c (newM c.id c.team c.x c.y) _).mono ?_
    rw [HM.out]
    rintro e w2 ⟨rfl, q2⟩
    have K2 := hide (K1.out.calm2 q2)
    clear q2
    go_wp2
    go_ret
    exact ⟨p, cap, rfl, HO.out.calm K2.out, (K2.out).mono (fun _ _ e => e.elim)⟩

set_option maxHeartbeats 1000000 in
set_option maxRecDepth 100000 in
theorem done_none (base : Nat) (p : Option Addr) (cap : Nat) (L : List Mob) (c : Cmd) (w : World) (hl : L.length ≤ 100) (h : OwnE w base p cap L) (_hbase : base ≤ w.heap.size) (hrs : Rises L) (hk : c.kind ≠ 1) (hf : findB L c.id = false) :
    Calls Tryz.prog 89 #[.slice p L.length cap, .agg #[.int .i64 c.kind, .int .i64 c.id, .int .i64 c.team, .float .f32 c.x, .float .f32 c.y, .int .i64 c.n]] w (DoneP w base p L) := by
  have hsf := store_float Tryz.prog
  have HO := hide h
  clear h
  have K0 := hide (Kept.alloc w (.cells #[.int .i64 c.kind, .int .i64 c.id, .int .i64 c.team, .float .f32 c.x, .float .f32 c.y, .int .i64 c.n] 57))
  have HN := hide (heap_alloc_new w (.cells #[.int .i64 c.kind, .int .i64 c.id, .int .i64 c.team, .float .f32 c.x, .float .f32 c.y, .int .i64 c.n] 57))
  obtain ⟨s0, s1, s2, s3, s4, s5⟩ := six_cells HN.out
  have HPL : Hid (plR L c.id = -1) := pl_none hrs hf
  have hk1 : (c.kind == 1) = false := by simp [hk]
  clear hk
  go_enter Tryz.func89, Tryz.ntmps89
  go_wp2_with fail
  refine (place_c p cap c.id L _ (by omega) (HO.out.reads.calm K0.out)).mono ?_
  rw [HPL.out]
  rintro e w1 ⟨rfl, rfl⟩
  go_wp2
  go_ret
  exact ⟨p, cap, rfl, HO.out.calm K0.out, (K0.out).mono (fun _ _ e => e.elim)⟩

set_option maxHeartbeats 1000000 in
set_option maxRecDepth 100000 in
theorem done_nopush (base : Nat) (p : Option Addr) (cap : Nat) (L : List Mob) (c : Cmd) (w : World) (hl : L.length ≤ 100) (h : OwnE w base p cap L) (_hbase : base ≤ w.heap.size) (hrs : Rises L) (hk : c.kind = 2) (hf : findB L c.id = true) (hp : pushB c.x c.y = false) :
    Calls Tryz.prog 89 #[.slice p L.length cap, .agg #[.int .i64 c.kind, .int .i64 c.id, .int .i64 c.team, .float .f32 c.x, .float .f32 c.y, .int .i64 c.n]] w (DoneP w base p L) := by
  have hsf := store_float Tryz.prog
  have HO := hide h
  clear h
  have K0 := hide (Kept.alloc w (.cells #[.int .i64 c.kind, .int .i64 c.id, .int .i64 c.team, .float .f32 c.x, .float .f32 c.y, .int .i64 c.n] 57))
  have HN := hide (heap_alloc_new w (.cells #[.int .i64 c.kind, .int .i64 c.id, .int .i64 c.team, .float .f32 c.x, .float .f32 c.y, .int .i64 c.n] 57))
  obtain ⟨s0, s1, s2, s3, s4, s5⟩ := six_cells HN.out
  obtain ⟨hq, hqid, hpl⟩ := pl_some hrs hf
  have HPL := hide hpl
  clear hpl hqid
  have hq0 : ¬ ((findI L c.id : Nat) : Int) < 0 := by omega
  have hq1 : (0 : Int) ≤ ((findI L c.id : Nat) : Int) := by omega
  have hq2 : ((findI L c.id : Nat) : Int) < (L.length : Int) := by omega
  generalize findI L c.id = q at *
  have hk1 : (c.kind == 1) = false := by simp [hk]
  have hk2 : (c.kind == 2) = true := by simp [hk]
  clear hk
  have HP : Hid ((fitsB c.x 1120403456 && fitsB c.y 1120403456) = false) := hp
  clear hp
  go_enter Tryz.func89, Tryz.ntmps89
  go_wp2_with fail
  refine (place_c p cap c.id L _ (by omega) (HO.out.reads.calm K0.out)).mono ?_
  rw [HPL.out]
  rintro e w1 ⟨rfl, rfl⟩
  go_wp2_with fail
  refine (rfits_c c.x 1120403456 _).mono ?_
  rintro e w2 ⟨rfl, rfl⟩
  go_wp2_with fail
  refine (rfits_c c.y 1120403456 _).mono ?_
  rintro e w2 ⟨rfl, rfl⟩
  generalize fitsB c.x 1120403456 = f1 at *
  generalize fitsB c.y 1120403456 = f2 at *
  cases f1
  · go_wp2
    go_ret
    exact ⟨p, cap, rfl, HO.out.calm K0.out, (K0.out).mono (fun _ _ e => e.elim)⟩
  · cases f2
    · go_wp2
      go_ret
      exact ⟨p, cap, rfl, HO.out.calm K0.out, (K0.out).mono (fun _ _ e => e.elim)⟩
    · exact absurd HP.out (by decide)

set_option maxHeartbeats 1000000 in
set_option maxRecDepth 100000 in
theorem done_nohit (base : Nat) (p : Option Addr) (cap : Nat) (L : List Mob) (c : Cmd) (w : World) (hl : L.length ≤ 100) (h : OwnE w base p cap L) (_hbase : base ≤ w.heap.size) (hrs : Rises L) (hk : c.kind = 3) (hf : findB L c.id = true) (hp : hitB c.n = false) :
    Calls Tryz.prog 89 #[.slice p L.length cap, .agg #[.int .i64 c.kind, .int .i64 c.id, .int .i64 c.team, .float .f32 c.x, .float .f32 c.y, .int .i64 c.n]] w (DoneP w base p L) := by
  have hsf := store_float Tryz.prog
  have HO := hide h
  clear h
  have K0 := hide (Kept.alloc w (.cells #[.int .i64 c.kind, .int .i64 c.id, .int .i64 c.team, .float .f32 c.x, .float .f32 c.y, .int .i64 c.n] 57))
  have HN := hide (heap_alloc_new w (.cells #[.int .i64 c.kind, .int .i64 c.id, .int .i64 c.team, .float .f32 c.x, .float .f32 c.y, .int .i64 c.n] 57))
  obtain ⟨s0, s1, s2, s3, s4, s5⟩ := six_cells HN.out
  obtain ⟨hq, hqid, hpl⟩ := pl_some hrs hf
  have HPL := hide hpl
  clear hpl hqid
  have hq0 : ¬ ((findI L c.id : Nat) : Int) < 0 := by omega
  have hq1 : (0 : Int) ≤ ((findI L c.id : Nat) : Int) := by omega
  have hq2 : ((findI L c.id : Nat) : Int) < (L.length : Int) := by omega
  generalize findI L c.id = q at *
  have hk1 : (c.kind == 1) = false := by simp [hk]
  have hk2 : (c.kind == 2) = false := by simp [hk]
  have hk3 : (c.kind == 3) = true := by simp [hk]
  clear hk
  by_cases hn : 1 ≤ c.n
  · have hn2 : ¬ c.n ≤ 100 := fun e => by simp [hitB, hn, e] at hp
    go_enter Tryz.func89, Tryz.ntmps89
    go_wp2_with fail
    refine (place_c p cap c.id L _ (by omega) (HO.out.reads.calm K0.out)).mono ?_
    rw [HPL.out]
    rintro e w1 ⟨rfl, rfl⟩
    go_wp2
    go_ret
    exact ⟨p, cap, rfl, HO.out.calm K0.out, (K0.out).mono (fun _ _ e => e.elim)⟩
  · skip
    go_enter Tryz.func89, Tryz.ntmps89
    go_wp2_with fail
    refine (place_c p cap c.id L _ (by omega) (HO.out.reads.calm K0.out)).mono ?_
    rw [HPL.out]
    rintro e w1 ⟨rfl, rfl⟩
    go_wp2
    go_ret
    exact ⟨p, cap, rfl, HO.out.calm K0.out, (K0.out).mono (fun _ _ e => e.elim)⟩

set_option maxHeartbeats 1000000 in
set_option maxRecDepth 100000 in
theorem done_other (base : Nat) (p : Option Addr) (cap : Nat) (L : List Mob) (c : Cmd) (w : World) (hl : L.length ≤ 100) (h : OwnE w base p cap L) (_hbase : base ≤ w.heap.size) (hrs : Rises L) (hk1 : c.kind ≠ 1) (hk2 : c.kind ≠ 2) (hk3 : c.kind ≠ 3) (hk4 : c.kind ≠ 4) (hf : findB L c.id = true) :
    Calls Tryz.prog 89 #[.slice p L.length cap, .agg #[.int .i64 c.kind, .int .i64 c.id, .int .i64 c.team, .float .f32 c.x, .float .f32 c.y, .int .i64 c.n]] w (DoneP w base p L) := by
  have hsf := store_float Tryz.prog
  have HO := hide h
  clear h
  have K0 := hide (Kept.alloc w (.cells #[.int .i64 c.kind, .int .i64 c.id, .int .i64 c.team, .float .f32 c.x, .float .f32 c.y, .int .i64 c.n] 57))
  have HN := hide (heap_alloc_new w (.cells #[.int .i64 c.kind, .int .i64 c.id, .int .i64 c.team, .float .f32 c.x, .float .f32 c.y, .int .i64 c.n] 57))
  obtain ⟨s0, s1, s2, s3, s4, s5⟩ := six_cells HN.out
  obtain ⟨hq, hqid, hpl⟩ := pl_some hrs hf
  have HPL := hide hpl
  clear hpl hqid
  have hq0 : ¬ ((findI L c.id : Nat) : Int) < 0 := by omega
  have hq1 : (0 : Int) ≤ ((findI L c.id : Nat) : Int) := by omega
  have hq2 : ((findI L c.id : Nat) : Int) < (L.length : Int) := by omega
  generalize findI L c.id = q at *
  have e1 : (c.kind == 1) = false := by simp [hk1]
  have e2 : (c.kind == 2) = false := by simp [hk2]
  have e3 : (c.kind == 3) = false := by simp [hk3]
  have e4 : (c.kind == 4) = false := by simp [hk4]
  clear hk1 hk2 hk3 hk4
  go_enter Tryz.func89, Tryz.ntmps89
  go_wp2_with fail
  refine (place_c p cap c.id L _ (by omega) (HO.out.reads.calm K0.out)).mono ?_
  rw [HPL.out]
  rintro e w1 ⟨rfl, rfl⟩
  go_wp2
  go_ret
  exact ⟨p, cap, rfl, HO.out.calm K0.out, (K0.out).mono (fun _ _ e => e.elim)⟩
end Go.Proofs.YtlfmfhmbkpnjbaaGreatDoor
