import Derived.Test.YtgclehnhjjkdbaaGreatDoorLine
namespace Go.Proofs.YtgclehnhjjkdbaaGreatDoor
open Go.RowKit

theorem ReadsC.calm1 {w w' : World} {p : Option Addr} {L : List Cmd} (h : ReadsC w p L) (hk : Kept (fun _ => False) w w') : ReadsC w' p L := h.keep hk (fun _ _ _ _ e => e)

theorem headW_short (cs : List Cmd) (hn : cs.length ≤ 64) (h : ∀ c ∈ cs, IntC c) (i : Nat) : (∀ x ∈ itoaW cs.length :: (cs.take i).flatMap cmdW, Short x) ∧ (itoaW cs.length :: (cs.take i).flatMap cmdW).length ≤ 321 := by
  constructor
  · intro x hx
    rcases List.mem_cons.1 hx with rfl | hx
    · exact itoaW_short _ (by omega)
    · obtain ⟨c, hc, hx⟩ := List.mem_flatMap.1 hx
      exact cmdW_short c (h c (List.mem_of_mem_take hc)) x hx
  · have := words_len (cs.take i) cmdW 5 (fun c _ => cmdW_few c)
    rw [List.length_take] at this
    simp only [List.length_cons]
    have : min i cs.length * 5 ≤ 64 * 5 := Nat.mul_le_mul_right 5 (by omega)
    omega

set_option maxHeartbeats 4000000 in
set_option maxRecDepth 100000 in
theorem tickLine_c (pc : Option Addr) (capc : Nat) (cs : List Cmd) (t : Int) (p : Option Addr) (cap : Nat) (L : List Mob) (ev : Int) (w : World) (hn : cs.length ≤ 64) (hl : L.length ≤ 32) (hC : ReadsC w pc cs) (hR : Reads w p L) (hIC : ∀ c ∈ cs, IntC c) (hIM : ∀ m ∈ L, IntM m) (he : 1 ≤ ev ∧ ev ≤ 64) (ht : 0 ≤ t ∧ t ≤ 500) (hT : Tabs w) :
    Calls Tryz.prog 32 #[.slice pc cs.length capc, .agg #[.int .i64 t, .slice p L.length cap], .int .i64 ev] w fun e w' => e = .returned (.string ⟨(lineL (tickW cs t L ev)).toArray⟩) ∧ Kept (fun _ => False) w w' := by
  have hsf := store_float Tryz.prog
  have HC := hide hC
  have HR := hide hR
  have HIC := hide hIC
  have HIM := hide hIM
  have HT := hide hT
  have hev : (ev == 0) = false := by simp; omega
  have hev0 : ev ≠ 0 := by omega
  clear hC hR hIC hIM hT
  have K0 := hide (Kept.alloc w (.cells #[.int .i64 t, .slice p L.length cap] 56))
  have HB := hide (heap_alloc_new w (.cells #[.int .i64 t, .slice p L.length cap] 56))
  go_enter Tryz.func32, Tryz.ntmps32
  go_wp2_with fail
  generalize w.alloc (.cells #[.int .i64 t, .slice p L.length cap] 56) = W at *
  have hWb := heap_lt HB.out
  refine (intWord_c (cs.length : Int) W (by omega) (HT.out.calm K0.out)).mono ?_
  rintro e w1 ⟨rfl, k1⟩
  have K1 := hide k1
  clear k1
  have O1 := hide (OwnS.new w1 w1.heap.size [itoaW cs.length] (Nat.le_refl _) (by simp))
  have KA := hide (Kept.alloc w1 (.cells (rowS [itoaW cs.length]).toArray 9))
  go_wp2
  go_loopw [7, 18] (fun s a wr => ∃ i g cp, ∃ X : List ByteArray, i ≤ cs.length ∧ a = .int .i64 (i : Nat) ∧ s = .slice (some ⟨g, 0, none⟩) X.length cp ∧ Hid (X = itoaW cs.length :: (cs.take i).flatMap cmdW) ∧ Hid (OwnS wr w1.heap.size g cp X) ∧ Hid (Kept (fun _ => False) w1 wr)) (fun _ a _ => cs.length - (intOf a).toNat)
  case atStart => exact ⟨0, _, _, [itoaW cs.length], Nat.zero_le _, rfl, rfl, rfl, O1, KA⟩
  case round =>
    obtain ⟨i, g, cp, X, hil, rfl, rfl, HX, HO, HK⟩ := hrel
    clear O1 KA
    have hXs : (∀ x ∈ X, Short x) ∧ X.length ≤ 321 := by rw [HX.out]; exact headW_short cs hn HIC.out i
    have hXl := hXs.2
    have HKW := hide ((K0.out.calm2 K1.out).calm2 HK.out)
    have hsz := HK.out.size
    by_cases hlt : i < cs.length
    · obtain ⟨b, off, rfl, hb', c0, c1, c2, c3, c4, c5⟩ := (HC.out.calm1 HKW.out).at i hlt
      have hb1 : (0 : Int) ≤ (i : Int) := by omega
      have hb2 : (i : Int) < (cs.length : Int) := by omega
      have HX' : Hid (X ++ cmdW cs[i] = itoaW cs.length :: (cs.take (i + 1)).flatMap cmdW) := by show _ = _; rw [HX.out, words_take cs cmdW i hlt]; rfl
      have HIc := hide (HIC.out cs[i] (List.getElem_mem hlt))
      have hfew := cmdW_few cs[i]
      have hpos := cmdW_pos cs[i]
      generalize cs[i] = c at *
      have KB := hide (Kept.alloc wr (.cells #[.int .i64 c.kind, .int .i64 c.id, .int .i64 c.team, .float .f32 c.x, .float .f32 c.y, .int .i64 c.n] 39))
      go_wp2_with fail
      refine (cmdW_c c _ HIc.out (HT.out.calm (HKW.out.calm2 KB.out))).mono ?_
      rintro e w2 ⟨g2, rfl, hg2, q2, k2⟩
      have Q2 := hide q2
      have K2 := hide (KB.out.calm2 k2)
      have hs2 := K2.out.size
      clear q2 k2 c0 c1 c2 c3 c4 c5
      generalize cmdW c = Y at *
      go_wp2_with (at_builtin; refine wpList_append_words _ rfl (.tmp 22) (.tmp 24) rfl w1.heap.size g cp X rfl (HO.out.calm K2.out) g2 Y.length Y rfl Q2.out (by omega) hpos (by omega) ?_)
      intro g3 cp3 w3 R HRR O3 HK3
      have K3 : Hid (Kept (fun _ => False) w1 w3) := (HK.out.calm2 K2.out).join HK3.out (fun _ _ e => e) (fun j hj e => by have := HO.out.cells.2.2.2; omega)
      clear HK3
      go_wp2
      go_roundw
      case rel => exact ⟨i + 1, g3, cp3, R, by omega, by go_num, rfl, (by show _ = _; rw [HRR.out]; exact HX'.out), O3, K3⟩
      case measure => simp [intOf]; omega
    · obtain rfl : i = cs.length := by omega
      rw [List.take_length] at HX
      have HXH : Hid (X = headW cs) := HX
      have BR : Hid (wr.heap[w.heap.size]? = some (.cells #[.int .i64 t, .slice p L.length cap] 56 (0, 0))) := by show _ = _; rw [(K1.out.calm2 HK.out).block _ hWb (fun e => e)]; exact HB.out
      obtain ⟨a0, a1, -, -⟩ := two_cells BR.out
      clear HX
      by_cases hm : t % ev = 0
      · have hmb : (t % ev == 0) = true := by simp [hm]
        have HF : Hid (tickW cs t L ev = X ++ (itoaW L.length :: L.flatMap entW)) := by show _ = _; unfold tickW; rw [if_pos hm, HXH.out]
        clear hm
        go_wp2_with fail
        refine (intWord_c (L.length : Int) wr (by omega) (HT.out.calm HKW.out)).mono ?_
        rintro e w4 ⟨rfl, k4⟩
        have K4 := hide (HK.out.calm2 k4)
        have KA := hide (Kept.alloc w4 (.cells (rowS [itoaW L.length]).toArray 9))
        have HA := hide (heap_alloc_new w4 (.cells (rowS [itoaW L.length]).toArray 9))
        have HO4 := hide ((HO.out.calm k4).calm KA.out)
        have B4 : Hid (w4.heap[w.heap.size]? = some (.cells #[.int .i64 t, .slice p L.length cap] 56 (0, 0))) := by show _ = _; rw [k4.block _ (heap_lt BR.out) (fun e => e)]; exact BR.out
        clear k4 a0 a1
        have hs4 := K4.out.size
        go_wp2_with (at_builtin; refine wpList_append_words _ rfl (.tmp 32) (.tmp 37) rfl w1.heap.size g cp X rfl HO4.out w4.heap.size 1 [itoaW L.length] rfl HA.out (by simp; omega) (by simp) (by simp; omega) ?_)
        intro g5 cp5 w5 R5 HR5 O5 HK5
        have K5 : Hid (Kept (fun _ => False) w1 w5) := (K4.out.calm2 KA.out).join HK5.out (fun _ _ e => e) (fun j hj e => by have := HO.out.cells.2.2.2; omega)
        have B5 : Hid (w5.heap[w.heap.size]? = some (.cells #[.int .i64 t, .slice p L.length cap] 56 (0, 0))) := by show _ = _; rw [(K1.out.calm2 K5.out).block _ hWb (fun e => e)]; exact HB.out
        obtain ⟨a0, a1, -, -⟩ := two_cells B5.out
        clear HK5 HO4 HA KA K4 B4 BR HO HK
        go_wp2
        clear a0 a1
        go_loopw [7, 42] (fun s a wr => ∃ i g cp, ∃ X2 : List ByteArray, i ≤ L.length ∧ a = .int .i64 (i : Nat) ∧ s = .slice (some ⟨g, 0, none⟩) X2.length cp ∧ Hid (X2 = X ++ (itoaW L.length :: (L.take i).flatMap entW)) ∧ Hid (OwnS wr w1.heap.size g cp X2) ∧ Hid (Kept (fun _ => False) w1 wr)) (fun _ a _ => L.length - (intOf a).toNat)
        case atStart => exact ⟨0, g5, cp5, R5, Nat.zero_le _, rfl, rfl, (by show _ = _; rw [HR5.out]; rfl), O5, K5⟩
        case round =>
          clear O5 K5 B5 HR5
          obtain ⟨i, g, cp, X2, hil, rfl, rfl, HX, HO, HK⟩ := hrel
          have hX2 : (∀ x ∈ X2, Short x) ∧ X2.length ≤ 600 := by
            rw [HX.out]
            constructor
            · intro x hx
              rcases List.mem_append.1 hx with hx | hx
              · exact hXs.1 x hx
              · rcases List.mem_cons.1 hx with rfl | hx
                · exact itoaW_short _ (by omega)
                · obtain ⟨m, hm, hx⟩ := List.mem_flatMap.1 hx
                  exact entW_short m (HIM.out m (List.mem_of_mem_take hm)) x hx
            · have h7 := words_len (L.take i) entW 7 (fun m _ => by simp [entW])
              rw [List.length_take] at h7
              have h8 : min i L.length * 7 ≤ 32 * 7 := Nat.mul_le_mul_right 7 (by omega)
              simp only [List.length_append, List.length_cons]
              omega
          have hXl2 := hX2.2
          have HKW2 := hide ((K0.out.calm2 K1.out).calm2 HK.out)
          have hsz2 := HK.out.size
          by_cases hlt : i < L.length
          · obtain ⟨b, off, rfl, hb', c0, c1, c2, c3, c4, c5, c6⟩ := (HR.out.calm HKW2.out).at i hlt
            have hb1 : (0 : Int) ≤ (i : Int) := by omega
            have hb2 : (i : Int) < (L.length : Int) := by omega
            have HX' : Hid (X2 ++ entW L[i] = X ++ (itoaW L.length :: (L.take (i + 1)).flatMap entW)) := by show _ = _; rw [HX.out, words_take L entW i hlt]; simp
            have HIm := hide (HIM.out L[i] (List.getElem_mem hlt))
            generalize L[i] = m at *
            have KB := hide (Kept.alloc wr (.cells #[.int .i64 m.id, .int .i64 m.team, .float .f32 m.x, .float .f32 m.y, .float .f32 m.vx, .float .f32 m.vy, .int .i64 m.health] 52))
            go_wp2_with fail
            refine (entW_c m _ HIm.out (HT.out.calm (HKW2.out.calm2 KB.out))).mono ?_
            rintro e w2 ⟨g2, rfl, hg2, q2, k2⟩
            have Q2 := hide q2
            have K2 := hide (KB.out.calm2 k2)
            have hs2 := K2.out.size
            have h7 : (entW m).length = 7 := rfl
            clear q2 k2 c0 c1 c2 c3 c4 c5 c6
            generalize entW m = Y at *
            go_wp2_with (at_builtin; refine wpList_append_words _ rfl (.tmp 46) (.tmp 48) rfl w1.heap.size g cp X2 rfl (HO.out.calm K2.out) g2 7 Y (by rw [h7]; rfl) Q2.out (by omega) (by omega) (by omega) ?_)
            intro g3 cp3 w3 R HRR O3 HK3
            have K3 : Hid (Kept (fun _ => False) w1 w3) := (HK.out.calm2 K2.out).join HK3.out (fun _ _ e => e) (fun j hj e => by have := HO.out.cells.2.2.2; omega)
            clear HK3
            go_wp2
            go_roundw
            case rel => exact ⟨i + 1, g3, cp3, R, by omega, by go_num, rfl, (by show _ = _; rw [HRR.out]; exact HX'.out), O3, K3⟩
            case measure => simp [intOf]; omega
          · obtain rfl : i = L.length := by omega
            rw [List.take_length] at HX
            have HF2 : Hid (tickW cs t L ev = X2) := by show _ = _; rw [HF.out, HX.out]
            have LC := hide (line_c g cp X2 wr HO.out.cells.1 HO.out.cells.2.1 (by omega) HO.out.cells.2.2.1 hX2.1)
            clear HF HX
            go_wp2_with fail
            refine LC.out.mono ?_
            rintro e w6 ⟨rfl, k6⟩
            have K6 := hide (HKW2.out.calm2 k6)
            clear k6 LC
            go_wp2
            go_ret
            exact ⟨ret1 (by rw [HF2.out]; rfl), K6.out⟩
      · have hmb : (t % ev == 0) = false := by simp [hm]
        have HF : Hid (tickW cs t L ev = X) := by show _ = _; unfold tickW; rw [if_neg hm, List.append_nil, HXH.out]
        clear hm
        have LC := hide (line_c g cp X wr HO.out.cells.1 HO.out.cells.2.1 (by omega) HO.out.cells.2.2.1 hXs.1)
        go_wp2_with fail
        refine LC.out.mono ?_
        rintro e w6 ⟨rfl, k6⟩
        have K6 := hide (HKW.out.calm2 k6)
        clear k6 LC
        go_wp2
        go_ret
        exact ⟨ret1 (by rw [HF.out]; rfl), K6.out⟩
end Go.Proofs.YtgclehnhjjkdbaaGreatDoor
