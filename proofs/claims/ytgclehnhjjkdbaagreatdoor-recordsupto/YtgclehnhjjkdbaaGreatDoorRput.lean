import Derived.Test.YtgclehnhjjkdbaaGreatDoorLayPart
namespace Go.Proofs.YtgclehnhjjkdbaaGreatDoor
open Go.RowKit

def insM (L : List Mob) (m : Mob) : List Mob := L.take (findI L m.id) ++ m :: L.drop (findI L m.id)

theorem findI_before (L : List Mob) (id : Int) (i : Nat) (hi : i < findI L id) (hl : i < L.length) : L[i].id < id :=
  findI_lt L id L[i] (by rw [List.mem_take_iff_getElem]; exact ⟨i, by omega, rfl⟩)

theorem Reads.drop {w : World} {b off : Nat} {L : List Mob} (h : Reads w (some ⟨b, off, none⟩) L) (i : Nat) : Reads w (some ⟨b, off + i * 7, none⟩) (L.drop i) := fun hne => by
  have hi : i < L.length := by
    by_cases e : i < L.length
    · exact e
    · exact absurd (List.drop_eq_nil_of_le (by omega)) hne
  obtain ⟨b', off', e, h2, h3⟩ := h (by intro e; subst e; simp at hi)
  obtain ⟨rfl, rfl⟩ : b = b' ∧ off = off' := by simpa using e
  refine ⟨b, _, rfl, h2, fun j u hu => ?_⟩
  rw [← rowM_drop, List.getElem?_drop] at hu
  rw [show off + i * 7 + j = off + (i * 7 + j) from by omega]
  exact h3 _ u hu
theorem Reads.take {w : World} {p : Option Addr} {L : List Mob} (h : Reads w p L) (i : Nat) : Reads w p (L.take i) := by
  have e : L = L.take i ++ L.drop i := (List.take_append_drop i L).symm
  rw [e] at h
  exact Reads.pre h

set_option maxHeartbeats 4000000 in
set_option maxRecDepth 100000 in
theorem rput_c (base : Nat) (p : Option Addr) (cap : Nat) (L : List Mob) (m : Mob) (w : World) (hl : L.length ≤ 100) (h : OwnE w base p cap L) :
    Calls Tryz.prog 52 #[.slice p L.length cap, .agg #[.int .i64 m.id, .int .i64 m.team, .float .f32 m.x, .float .f32 m.y, .float .f32 m.vx, .float .f32 m.vy, .int .i64 m.health]] w fun e w' =>
      ∃ p' cap', e = .returned (.slice p' (insM L m).length cap') ∧ OwnE w' w.heap.size p' cap' (insM L m) ∧ Kept (fun _ => False) w w' := by
  have hsf := store_float Tryz.prog
  have HO := hide h
  clear h
  have K0 := hide (Kept.alloc w (.cells #[.int .i64 m.id, .int .i64 m.team, .float .f32 m.x, .float .f32 m.y, .float .f32 m.vx, .float .f32 m.vy, .int .i64 m.health] 52))
  have HN := hide (heap_alloc_new w (.cells #[.int .i64 m.id, .int .i64 m.team, .float .f32 m.x, .float .f32 m.y, .float .f32 m.vx, .float .f32 m.vy, .int .i64 m.health] 52))
  go_enter Tryz.func52, Tryz.ntmps52
  go_wp2
  generalize w.alloc (.cells #[.int .i64 m.id, .int .i64 m.team, .float .f32 m.x, .float .f32 m.y, .float .f32 m.vx, .float .f32 m.vy, .int .i64 m.health] 52) = W at *
  have hW := heap_lt HN.out
  go_loopw [5, 6] (fun s a wr => ∃ i : Nat, ∃ p' cap', ∃ M : List Mob, i ≤ findI L m.id ∧ Hid (M = L.take i) ∧ a = .int .i64 i ∧ s = .slice p' M.length cap' ∧ Hid (OwnE wr W.heap.size p' cap' M) ∧ Hid (Kept (fun _ => False) W wr)) (fun _ a _ => L.length - (intOf a).toNat)
  case atStart => exact ⟨0, none, 0, [], Nat.zero_le _, rfl, rfl, rfl, OwnE.nil _ _, Kept.refl _ _⟩
  case round =>
    obtain ⟨i, p', cap', M, hif, HM, rfl, rfl, HE, HK⟩ := hrel
    have hfl := findI_le L m.id
    have hMl : M.length ≤ 100 := by rw [HM.out, List.length_take]; omega
    have HKW := hide (K0.out.calm2 HK.out)
    have HNr : Hid (wr.heap[w.heap.size]? = some (.cells #[.int .i64 m.id, .int .i64 m.team, .float .f32 m.x, .float .f32 m.y, .float .f32 m.vx, .float .f32 m.vy, .int .i64 m.health] 52 (0, 0))) := by show _ = _; rw [HK.out.block _ hW (fun e => e)]; exact HN.out
    obtain ⟨n0, n1, n2, n3, n4, n5, n6⟩ := seven_cells HNr.out
    have HR := hide (HO.out.reads.calm HKW.out)
    have hsz := HK.out.size
    by_cases hlt : i < findI L m.id
    · have hil : i < L.length := by omega
      have hb1 : (0 : Int) ≤ (i : Int) := by omega
      have hb2 : (i : Int) < (L.length : Int) := by omega
      have hid := findI_before L m.id i hlt hil
      obtain ⟨b, off, rfl, hbs, c0, -, -, -, -, -, -⟩ := HR.out.at i hil
      go_wp2
      go_quiet (fail)
      generalize hwd : wr.drewN _ = wd at *
      have KD : Hid (Kept (fun _ => False) wr wd) := by rw [← hwd]; exact Kept.drewN _ _
      clear hwd c0 n0 n1 n2 n3 n4 n5 n6
      obtain ⟨b', off', hp', hbs', c0, c1, c2, c3, c4, c5, c6⟩ := (HR.out.calm KD.out).at i hil
      obtain ⟨rfl, rfl⟩ : b = b' ∧ off = off' := by simpa using hp'
      clear hp'
      have hsd := KD.out.size
      have HM' : Hid (M ++ [L[i]] = L.take (i + 1)) := by show _ = _; rw [HM.out, List.take_succ_eq_append_getElem hil]
      generalize L[i] = mi at *
      have RN : Hid (Reads (wd.alloc (.cells #[.int .i64 mi.id, .int .i64 mi.team, .float .f32 mi.x, .float .f32 mi.y, .float .f32 mi.vx, .float .f32 mi.vy, .int .i64 mi.health] 52)) (some ⟨wd.heap.size, 0, none⟩) [mi]) := block_reads (M := [mi]) (heap_alloc_new wd (.cells (rowM [mi]).toArray 52))
      go_wp2_with (at_builtin; refine wpList_append_list _ rfl (.tmp 21) (.tmp 26) rfl W.heap.size p' cap' M rfl (HE.out.calm (KD.out.calm2 (Kept.alloc _ _))) (some ⟨wd.heap.size, 0, none⟩) 1 [mi] rfl (fun e => by cases e) RN.out (by simp; omega) (by simp; omega) ?_)
      intro p2 cap2 w2 M2 HM2 O2 HK2
      have K2 : Hid (Kept (fun _ => False) W w2) := (HK.out.calm2 (KD.out.calm2 (Kept.alloc wd _))).join HK2.out (fun _ _ e => e) (fun j hj e => by have := (HE.out.lt j e).1; omega)
      clear HK2 c0 c1 c2 c3 c4 c5 c6 RN
      go_wp2
      go_roundw
      case rel => exact ⟨i + 1, p2, cap2, M2, by omega, (by show _ = _; rw [HM2.out]; exact HM'.out), by go_num, rfl, O2, K2⟩
      case measure => simp [intOf]; omega
    · obtain rfl : i = findI L m.id := by omega
      have HEN : Hid (insM L m = M ++ [m] ++ L.drop (findI L m.id)) := by show _ = _; rw [HM.out]; unfold insM; simp
      have HDL : Hid ((L.drop (findI L m.id)).length = L.length - findI L m.id) := by show _ = _; rw [List.length_drop]
      have hge := findI_ge L m.id
      clear HM
      generalize findI L m.id = i at *
      by_cases hil : i < L.length
      · have hid : ¬ L[i].id < m.id := by have := hge hil; omega
        have hb1 : (0 : Int) ≤ (i : Int) := by omega
        have hb2 : (i : Int) < (L.length : Int) := by omega
        obtain ⟨g, cur, rfl, hbg, hcm, hr⟩ := HO.out.there i hil
        have HRW := hide (hr.calm' HKW.out)
        obtain ⟨c0, -⟩ := HRW.out.at7 i hil
        have RD : Hid (Reads W (some ⟨g, i * 7, none⟩) (L.drop i)) := by have := (HO.out.reads.calm K0.out).drop i; rw [Nat.zero_add] at this; exact this
        generalize L.drop i = D at *
        go_wp2
        go_quiet (fail)
        generalize hwd : wr.drewN _ = wd at *
        have KD : Hid (Kept (fun _ => False) wr wd) := by rw [← hwd]; exact Kept.drewN _ _
        have HND : Hid (wd.heap[w.heap.size]? = some (.cells #[.int .i64 m.id, .int .i64 m.team, .float .f32 m.x, .float .f32 m.y, .float .f32 m.vx, .float .f32 m.vy, .int .i64 m.health] 52 (0, 0))) := by show _ = _; rw [KD.out.block _ (heap_lt HNr.out) (fun e => e)]; exact HNr.out
        clear hwd c0 n0 n1 n2 n3 n4 n5 n6
        obtain ⟨n0, n1, n2, n3, n4, n5, n6⟩ := seven_cells HND.out
        have hsd := KD.out.size
        have RN : Hid (Reads (wd.alloc (.cells #[.int .i64 m.id, .int .i64 m.team, .float .f32 m.x, .float .f32 m.y, .float .f32 m.vx, .float .f32 m.vy, .int .i64 m.health] 52)) (some ⟨wd.heap.size, 0, none⟩) [m]) := block_reads (M := [m]) (heap_alloc_new wd (.cells (rowM [m]).toArray 52))
        go_wp2_with (at_builtin; refine wpList_append_list _ rfl (.tmp 30) (.tmp 32) rfl W.heap.size p' cap' M rfl (HE.out.calm (KD.out.calm2 (Kept.alloc _ _))) (some ⟨wd.heap.size, 0, none⟩) 1 [m] rfl (fun e => by cases e) RN.out (by simp; omega) (by simp; omega) ?_)
        intro p2 cap2 w2 M2 HM2 O2 HK2
        have K2 : Hid (Kept (fun _ => False) W w2) := (HK.out.calm2 (KD.out.calm2 (Kept.alloc wd _))).join HK2.out (fun _ _ e => e) (fun j hj e => by have := (HE.out.lt j e).1; omega)
        have hM2l : M2.length ≤ 101 := by rw [HM2.out]; simp; omega
        clear HK2 RN n0 n1 n2 n3 n4 n5 n6
        have hcap := hr.short
        have hb3 : (i : Int) ≤ (L.length : Int) := by omega
        have hb4 : (L.length : Int) ≤ (cap : Int) := by omega
        have hs2 := K2.out.size
        have hD : D.length ≤ 100 := by rw [HDL.out]; omega
        go_wp2_with (at_builtin; refine wpList_append_list _ rfl (.tmp 34) (.tmp 37) rfl W.heap.size p2 cap2 M2 rfl O2.out (some ⟨g, i * 7, none⟩) (cap - i) D (by rw [HDL.out]; rfl) (fun e => by cases e) (RD.out.calm K2.out) (by omega) hs2 ?_)
        intro p3 cap3 w3 R HR3 O3 HK3
        have K3 : Hid (Kept (fun _ => False) W w3) := K2.out.join HK3.out (fun _ _ e => e) (fun j hj e => by have := (O2.out.lt j e).1; omega)
        have HRI : Hid (R = insM L m) := by show _ = _; rw [HR3.out, HM2.out, HEN.out]
        clear HK3
        go_wp2
        go_ret
        rw [← HRI.out]
        exact ⟨p3, cap3, rfl, O3.out.low (by omega), K0.out.calm2 K3.out⟩
      · obtain rfl : i = L.length := by omega
        have hdf : decide ((L.length : Int) < (L.length : Int)) = false := by simp
        have HEN2 : Hid (insM L m = M ++ [m]) := by show _ = _; rw [HEN.out, List.drop_length, List.append_nil]
        clear HEN HDL hge
        go_wp2
        go_quiet (fail)
        generalize hwd : wr.drewN _ = wd at *
        have KD : Hid (Kept (fun _ => False) wr wd) := by rw [← hwd]; exact Kept.drewN _ _
        have HND : Hid (wd.heap[w.heap.size]? = some (.cells #[.int .i64 m.id, .int .i64 m.team, .float .f32 m.x, .float .f32 m.y, .float .f32 m.vx, .float .f32 m.vy, .int .i64 m.health] 52 (0, 0))) := by show _ = _; rw [KD.out.block _ (heap_lt HNr.out) (fun e => e)]; exact HNr.out
        clear hwd n0 n1 n2 n3 n4 n5 n6
        obtain ⟨n0, n1, n2, n3, n4, n5, n6⟩ := seven_cells HND.out
        have hsd := KD.out.size
        have RN : Hid (Reads (wd.alloc (.cells #[.int .i64 m.id, .int .i64 m.team, .float .f32 m.x, .float .f32 m.y, .float .f32 m.vx, .float .f32 m.vy, .int .i64 m.health] 52)) (some ⟨wd.heap.size, 0, none⟩) [m]) := block_reads (M := [m]) (heap_alloc_new wd (.cells (rowM [m]).toArray 52))
        go_wp2_with (at_builtin; refine wpList_append_list _ rfl (.tmp 30) (.tmp 32) rfl W.heap.size p' cap' M rfl (HE.out.calm (KD.out.calm2 (Kept.alloc _ _))) (some ⟨wd.heap.size, 0, none⟩) 1 [m] rfl (fun e => by cases e) RN.out (by simp; omega) (by simp; omega) ?_)
        intro p2 cap2 w2 M2 HM2 O2 HK2
        have K2 : Hid (Kept (fun _ => False) W w2) := (HK.out.calm2 (KD.out.calm2 (Kept.alloc wd _))).join HK2.out (fun _ _ e => e) (fun j hj e => by have := (HE.out.lt j e).1; omega)
        have hM2l : M2.length ≤ 101 := by rw [HM2.out]; simp; omega
        clear HK2 RN n0 n1 n2 n3 n4 n5 n6
        have hs2 := K2.out.size
        have hb1 : (0 : Int) ≤ (L.length : Int) := by omega
        rcases HO.out with ⟨rfl, rfl, rfl⟩ | ⟨g, cur, rfl, hbg, hcm, hr⟩
        · go_wp2_with (at_builtin; refine wpList_append_list _ rfl (.tmp 34) (.tmp 37) rfl W.heap.size p2 cap2 M2 rfl O2.out none 0 [] rfl (fun _ => rfl) (fun e => absurd rfl e) (by simp; omega) hs2 ?_)
          intro p3 cap3 w3 R HR3 O3 HK3
          have K3 : Hid (Kept (fun _ => False) W w3) := K2.out.join HK3.out (fun _ _ e => e) (fun j hj e => by have := (O2.out.lt j e).1; omega)
          have HRI : Hid (R = insM [] m) := by show _ = _; rw [HR3.out, HM2.out, HEN2.out]
          clear HK3
          go_wp2
          go_ret
          rw [← HRI.out]
          exact ⟨p3, cap3, rfl, O3.out.low (by omega), K0.out.calm2 K3.out⟩
        · have hcap := hr.short
          have hb4 : (L.length : Int) ≤ (cap : Int) := by omega
          by_cases hlc : L.length = cap
          · subst hlc
            go_wp2_with (at_builtin; refine wpList_append_list _ rfl (.tmp 34) (.tmp 37) rfl W.heap.size p2 cap2 M2 rfl O2.out (some ⟨g, 0, none⟩) 0 [] rfl (fun _ => rfl) (fun e => absurd rfl e) (by simp; omega) hs2 ?_)
            intro p3 cap3 w3 R HR3 O3 HK3
            have K3 : Hid (Kept (fun _ => False) W w3) := K2.out.join HK3.out (fun _ _ e => e) (fun j hj e => by have := (O2.out.lt j e).1; omega)
            have HRI : Hid (R = insM L m) := by show _ = _; rw [HR3.out, HM2.out, HEN2.out]
            clear HK3
            go_wp2
            go_ret
            rw [← HRI.out]
            exact ⟨p3, cap3, rfl, O3.out.low (by omega), K0.out.calm2 K3.out⟩
          · have hb5 : (L.length : Int) < (cap : Int) := by omega
            go_wp2_with (at_builtin; refine wpList_append_list _ rfl (.tmp 34) (.tmp 37) rfl W.heap.size p2 cap2 M2 rfl O2.out (some ⟨g, L.length * 7, none⟩) (cap - L.length) [] rfl (fun e => by cases e) (fun e => absurd rfl e) (by simp; omega) hs2 ?_)
            intro p3 cap3 w3 R HR3 O3 HK3
            have K3 : Hid (Kept (fun _ => False) W w3) := K2.out.join HK3.out (fun _ _ e => e) (fun j hj e => by have := (O2.out.lt j e).1; omega)
            have HRI : Hid (R = insM L m) := by show _ = _; rw [HR3.out, HM2.out, HEN2.out]
            clear HK3
            go_wp2
            go_ret
            rw [← HRI.out]
            exact ⟨p3, cap3, rfl, O3.out.low (by omega), K0.out.calm2 K3.out⟩
end Go.Proofs.YtgclehnhjjkdbaaGreatDoor
