import Derived.Test.YtlfmfhmbkpnjbaaGreatDoorAl15
import Derived.Test.YtlfmfhmbkpnjbaaGreatDoorAl9
import Derived.Lib.BufferMore
import Derived.Test.YtlfmfhmbkpnjbaaGreatDoorAl13
import Derived.Test.YtlfmfhmbkpnjbaaGreatDoorAl10
namespace Go.Proofs.YtlfmfhmbkpnjbaaGreatDoor
open Go.RowKit

theorem ReadsC.calm1 {w w' : World} {p : Option Addr} {L : List Cmd} (h : ReadsC w p L) (hk : Kept (fun _ => False) w w') : ReadsC w' p L := h.keep hk (fun _ _ _ _ e => e)

theorem headW_short (cs : List Cmd) (hn : cs.length ≤ 64) (h : ∀ c ∈ cs, IntC c) (i : Nat) : (∀ x ∈ itoaW cs.length :: (cs.take i).flatMap cmdW, Short x) ∧ (itoaW cs.length :: (cs.take i).flatMap cmdW).length ≤ 321 := by
  constructor
  · intro x hx
    rcases List.mem_cons.1 hx with rfl | hx
    · exact itoaW_short _ (by omega)
    · obtain ⟨c, hc, hx⟩ := List.mem_flatMap.1 hx
      exact cmdW_short c (h c (List.mem_of_mem_take hc)) x hx
  · have := words_len (cs.take i) cmdW 5 (fun c _ => cmdW_few c)
    rw [List.length_take] at this
    simp only [List.length_cons]
    have : min i cs.length * 5 ≤ 64 * 5 := Nat.mul_le_mul_right 5 (by omega)
    omega

set_option maxHeartbeats 4000000 in
set_option maxRecDepth 100000 in
theorem tickLine_c (pc : Option Addr) (capc : Nat) (cs : List Cmd) (t : Int) (p : Option Addr) (cap : Nat) (L : List Mob) (ev : Int) (w : World) (hn : cs.length ≤ 64) (hl : L.length ≤ 32) (hC : ReadsC w pc cs) (hR : Reads w p L) (hIC : ∀ c ∈ cs, IntC c) (hIM : ∀ m ∈ L, IntM m) (he : 1 ≤ ev ∧ ev ≤ 64) (ht : 0 ≤ t ∧ t ≤ 500) (hT : Tabs w) :
    Calls Tryz.prog 39 #[.slice pc cs.length capc, .agg #[.int .i64 t, .slice p L.length cap], .int .i64 ev] w fun e w' => e = .returned (.string ⟨(lineL (tickW cs t L ev)).toArray⟩) ∧ Kept (fun _ => False) w w' := by
  have hsf := store_float Tryz.prog
  have HC := hide hC
  have HR := hide hR
  have HIC := hide hIC
  have HIM := hide hIM
  have HT := hide hT
  have hev : (ev == 0) = false := by simp; omega
  have hev0 : ev ≠ 0 := by omega
  clear hC hR hIC hIM hT
  have K0 := hide (Kept.alloc w (.cells #[.int .i64 t, .slice p L.length cap] 38))
  have HB := hide (heap_alloc_new w (.cells #[.int .i64 t, .slice p L.length cap] 38))
  go_enter Tryz.func39, Tryz.ntmps39
  go_wp2_with fail
  generalize w.alloc (.cells #[.int .i64 t, .slice p L.length cap] 38) = W at *
  have hWb := heap_lt HB.out
  refine (intWord_c (cs.length : Int) W (by omega) (HT.out.calm K0.out)).mono ?_
  rintro e w1 ⟨rfl, k1⟩
  have K1 := hide k1
  clear k1
  have O1 := hide (OwnS.new w1 w1.heap.size [itoaW cs.length] (Nat.le_refl _) (by simp))
  have KA := hide (Kept.alloc w1 (.cells (rowS [itoaW cs.length]).toArray 9))
  go_wp2
  go_loopw [7, 18] (fun s a wr => ∃ i g cp, ∃ X : List ByteArray, i ≤ cs.length ∧ a = .int .i64 (i : Nat) ∧ s = .slice (some ⟨g, 0, none⟩) X.length cp ∧ Hid (X = itoaW cs.length :: (cs.take i).flatMap cmdW) ∧ Hid (OwnS wr w1.heap.size g cp X) ∧ Hid (Kept (fun _ => False) w1 wr)) (fun _ a _ => cs.length - (intOf a).toNat)
  case atStart => exact ⟨0, _, _, [itoaW cs.length], Nat.zero_le _, rfl, rfl, rfl, O1, KA⟩
  case round =>
    obtain ⟨i, g, cp, X, hil, rfl, rfl, HX, HO, HK⟩ := hrel
    clear O1 KA
    have hXs : (∀ x ∈ X, Short x) ∧ X.length ≤ 321 := by rw [HX.out]; exact headW_short cs hn HIC.out i
    have hXl := hXs.2
    have HKW := hide ((K0.out.calm2 K1.out).calm2 HK.out)
    have hsz := HK.out.size
    by_cases hlt : i < cs.length
    · obtain ⟨b, off, rfl, hb', c0, c1, c2, c3, c4, c5⟩ := (HC.out.calm1 HKW.out).at i hlt
      have hb1 : (0 : Int) ≤ (i : Int) := by omega
      have hb2 : (i : Int) < (cs.length : Int) := by omega
      have HX' : Hid (X ++ cmdW cs[i] = itoaW cs.length :: (cs.take (i + 1)).flatMap cmdW) := by show _ = _; rw [HX.out, words_take cs cmdW i hlt]; rfl
      have HIc := hide (HIC.out cs[i] (List.getElem_mem hlt))
      have hfew := cmdW_few cs[i]
      have hpos := cmdW_pos cs[i]
      generalize cs[i] = c at *
      have KB := hide (Kept.alloc wr (.cells #[.int .i64 c.kind, .int .i64 c.id, .int .i64 c.team, .float .f32 c.x, .float .f32 c.y, .int .i64 c.n] 57))
      go_wp2_with fail
      refine (cmdW_c c _ HIc.out (HT.out.calm (HKW.out.calm2 KB.out))).mono ?_
      rintro e w2 ⟨g2, rfl, hg2, q2, k2⟩
      have Q2 := hide q2
      have K2 := hide (KB.out.calm2 k2)
      have hs2 := K2.out.size
      clear q2 k2 c0 c1 c2 c3 c4 c5
      generalize cmdW c = Y at *
      go_wp2_with (at_builtin; refine wpList_append_words _ rfl (.tmp 22) (.tmp 24) rfl w1.heap.size g cp X rfl (HO.out.calm K2.out) g2 Y.length Y rfl Q2.out (by omega) hpos (by omega) ?_)
      intro g3 cp3 w3 R HRR O3 HK3
      have K3 : Hid (Kept (fun _ => False) w1 w3) := (HK.out.calm2 K2.out).join HK3.out (fun _ _ e => e) (fun j hj e => by have := HO.out.cells.2.2.2; omega)
      clear HK3
      go_wp2
      go_roundw
      case rel => exact ⟨i + 1, g3, cp3, R, by omega, by go_num, rfl, (by show _ = _; rw [HRR.out]; exact HX'.out), O3, K3⟩
      case measure => simp [intOf]; omega
    · obtain rfl : i = cs.length := by omega
      rw [List.take_length] at HX
      have HXH : Hid (X = headW cs) := HX
      have BR : Hid (wr.heap[w.heap.size]? = some (.cells #[.int .i64 t, .slice p L.length cap] 38 (0, 0))) := by show _ = _; rw [(K1.out.calm2 HK.out).block _ hWb (fun e => e)]; exact HB.out
      obtain ⟨a0, a1, -, -⟩ := two_cells BR.out
      clear HX
      by_cases hm : t % ev = 0
      · have hmb : (t % ev == 0) = true := by simp [hm]
        have HF : Hid (tickW cs t L ev = X ++ (itoaW L.length :: L.flatMap entW)) := by show _ = _; unfold tickW; rw [if_pos hm, HXH.out]
        clear hm
        go_wp2_with fail
        refine (intWord_c (L.length : Int) wr (by omega) (HT.out.calm HKW.out)).mono ?_
        rintro e w4 ⟨rfl, k4⟩
        have K4 := hide (HK.out.calm2 k4)
        have KA := hide (Kept.alloc w4 (.cells (rowS [itoaW L.length]).toArray 9))
        have HA := hide (heap_alloc_new w4 (.cells (rowS [itoaW L.length]).toArray 9))
        have HO4 := hide ((HO.out.calm k4).calm KA.out)
        have B4 : Hid (w4.heap[w.heap.size]? = some (.cells #[.int .i64 t, .slice p L.length cap] 38 (0, 0))) := by show _ = _; rw [k4.block _ (heap_lt BR.out) (fun e => e)]; exact BR.out
        clear k4 a0 a1
        have hs4 := K4.out.size
        go_wp2_with (at_builtin; refine wpList_append_words _ rfl (.tmp 32) (.tmp 37) rfl w1.heap.size g cp X rfl HO4.out w4.heap.size 1 [itoaW L.length] rfl HA.out (by simp; omega) (by simp) (by simp; omega) ?_)
        intro g5 cp5 w5 R5 HR5 O5 HK5
        have K5 : Hid (Kept (fun _ => False) w1 w5) := (K4.out.calm2 KA.out).join HK5.out (fun _ _ e => e) (fun j hj e => by have := HO.out.cells.2.2.2; omega)
        have B5 : Hid (w5.heap[w.heap.size]? = some (.cells #[.int .i64 t, .slice p L.length cap] 38 (0, 0))) := by show _ = _; rw [(K1.out.calm2 K5.out).block _ hWb (fun e => e)]; exact HB.out
        obtain ⟨a0, a1, -, -⟩ := two_cells B5.out
        clear HK5 HO4 HA KA K4 B4 BR HO HK
        go_wp2
        clear a0 a1
        go_loopw [7, 42] (fun s a wr => ∃ i g cp, ∃ X2 : List ByteArray, i ≤ L.length ∧ a = .int .i64 (i : Nat) ∧ s = .slice (some ⟨g, 0, none⟩) X2.length cp ∧ Hid (X2 = X ++ (itoaW L.length :: (L.take i).flatMap entW)) ∧ Hid (OwnS wr w1.heap.size g cp X2) ∧ Hid (Kept (fun _ => False) w1 wr)) (fun _ a _ => L.length - (intOf a).toNat)
        case atStart => exact ⟨0, g5, cp5, R5, Nat.zero_le _, rfl, rfl, (by show _ = _; rw [HR5.out]; rfl), O5, K5⟩
        case round =>
          clear O5 K5 B5 HR5
          obtain ⟨i, g, cp, X2, hil, rfl, rfl, HX, HO, HK⟩ := hrel
          have hX2 : (∀ x ∈ X2, Short x) ∧ X2.length ≤ 600 := by
            rw [HX.out]
            constructor
            · intro x hx
              rcases List.mem_append.1 hx with hx | hx
              · exact hXs.1 x hx
              · rcases List.mem_cons.1 hx with rfl | hx
                · exact itoaW_short _ (by omega)
                · obtain ⟨m, hm, hx⟩ := List.mem_flatMap.1 hx
                  exact entW_short m (HIM.out m (List.mem_of_mem_take hm)) x hx
            · have h7 := words_len (L.take i) entW 7 (fun m _ => by simp [entW])
              rw [List.length_take] at h7
              have h8 : min i L.length * 7 ≤ 32 * 7 := Nat.mul_le_mul_right 7 (by omega)
              simp only [List.length_append, List.length_cons]
              omega
          have hXl2 := hX2.2
          have HKW2 := hide ((K0.out.calm2 K1.out).calm2 HK.out)
          have hsz2 := HK.out.size
          by_cases hlt : i < L.length
          · obtain ⟨b, off, rfl, hb', c0, c1, c2, c3, c4, c5, c6⟩ := (HR.out.calm HKW2.out).at i hlt
            have hb1 : (0 : Int) ≤ (i : Int) := by omega
            have hb2 : (i : Int) < (L.length : Int) := by omega
            have HX' : Hid (X2 ++ entW L[i] = X ++ (itoaW L.length :: (L.take (i + 1)).flatMap entW)) := by show _ = _; rw [HX.out, words_take L entW i hlt]; simp
            have HIm := hide (HIM.out L[i] (List.getElem_mem hlt))
            generalize L[i] = m at *
            have KB := hide (Kept.alloc wr (.cells #[.int .i64 m.id, .int .i64 m.team, .float .f32 m.x, .float .f32 m.y, .float .f32 m.vx, .float .f32 m.vy, .int .i64 m.health] 83))
            go_wp2_with fail
            refine (entW_c m _ HIm.out (HT.out.calm (HKW2.out.calm2 KB.out))).mono ?_
            rintro e w2 ⟨g2, rfl, hg2, q2, k2⟩
            have Q2 := hide q2
            have K2 := hide (KB.out.calm2 k2)
            have hs2 := K2.out.size
            have h7 : (entW m).length = 7 := rfl
            clear q2 k2 c0 c1 c2 c3 c4 c5 c6
            generalize entW m = Y at *
            go_wp2_with (at_builtin; refine wpList_append_words _ rfl (.tmp 46) (.tmp 48) rfl w1.heap.size g cp X2 rfl (HO.out.calm K2.out) g2 7 Y (by rw [h7]; rfl) Q2.out (by omega) (by omega) (by omega) ?_)
            intro g3 cp3 w3 R HRR O3 HK3
            have K3 : Hid (Kept (fun _ => False) w1 w3) := (HK.out.calm2 K2.out).join HK3.out (fun _ _ e => e) (fun j hj e => by have := HO.out.cells.2.2.2; omega)
            clear HK3
            go_wp2
            go_roundw
            case rel => exact ⟨i + 1, g3, cp3, R, by omega, by go_num, rfl, (by show _ = _; rw [HRR.out]; exact HX'.out), O3, K3⟩
            case measure => simp [intOf]; omega
          · obtain rfl : i = L.length := by omega
            rw [List.take_length] at HX
            have HF2 : Hid (tickW cs t L ev = X2) := by show _ = _; rw [HF.out, HX.out]
            have LC := hide (line_c g cp X2 wr HO.out.cells.1 HO.out.cells.2.1 (by omega) HO.out.cells.2.2.1 hX2.1)
            clear HF HX
            go_wp2_with fail
            refine LC.out.mono ?_
            rintro e w6 ⟨rfl, k6⟩
            have K6 := hide (HKW2.out.calm2 k6)
            clear k6 LC
            go_wp2
            go_ret
            exact ⟨ret1 (by rw [HF2.out]; rfl), K6.out⟩
      · have hmb : (t % ev == 0) = false := by simp [hm]
        have HF : Hid (tickW cs t L ev = X) := by show _ = _; unfold tickW; rw [if_neg hm, List.append_nil, HXH.out]
        clear hm
        have LC := hide (line_c g cp X wr HO.out.cells.1 HO.out.cells.2.1 (by omega) HO.out.cells.2.2.1 hXs.1)
        go_wp2_with fail
        refine LC.out.mono ?_
        rintro e w6 ⟨rfl, k6⟩
        have K6 := hide (HKW.out.calm2 k6)
        clear k6 LC
        go_wp2
        go_ret
        exact ⟨ret1 (by rw [HF.out]; rfl), K6.out⟩
end Go.Proofs.YtlfmfhmbkpnjbaaGreatDoor

namespace Go.Proofs.YtlfmfhmbkpnjbaaGreatDoor
open Go.RowKit

/-- A list of entities in a block of its own. -/
structure Fresh (w : World) (B : Nat) (q : Option Addr) (n cq : Nat) (X : List Mob) : Prop where
  reads : Reads w q X
  raw : (q = none ∧ n = 0 ∧ cq = 0) ∨ ∃ g cur, q = some ⟨g, 0, none⟩ ∧ w.heap[g]? = some (.cells (cur : List Value).toArray 83 (0, 0)) ∧ cur.length = cq * 7 ∧ n ≤ cq
  new : ∀ j off, q = some ⟨j, off, none⟩ → B ≤ j ∧ j < w.heap.size
theorem Fresh.keep {w w' : World} {S : Nat → Prop} {B : Nat} {q : Option Addr} {n cq : Nat} {X : List Mob} (h : Fresh w B q n cq X) (k : Kept S w w') (hS : ∀ j off, q = some ⟨j, off, none⟩ → ¬ S j) : Fresh w' B q n cq X := by
  refine ⟨h.reads.keep k hS, ?_, fun j off e => ⟨(h.new j off e).1, Nat.lt_of_lt_of_le (h.new j off e).2 k.size⟩⟩
  rcases h.raw with r | ⟨g, cur, e, hb, r⟩
  · exact Or.inl r
  · exact Or.inr ⟨g, cur, e, by rw [k.block g (heap_lt hb) (hS g 0 e)]; exact hb, r⟩
theorem Fresh.calm {w w' : World} {B : Nat} {q : Option Addr} {n cq : Nat} {X : List Mob} (h : Fresh w B q n cq X) (k : Kept (fun _ => False) w w') : Fresh w' B q n cq X := h.keep k (fun _ _ _ e => e)
theorem Fresh.low {w : World} {B B' : Nat} {q : Option Addr} {n cq : Nat} {X : List Mob} (h : Fresh w B q n cq X) (hB : B' ≤ B) : Fresh w B' q n cq X := ⟨h.reads, h.raw, fun j off e => ⟨Nat.le_trans hB (h.new j off e).1, (h.new j off e).2⟩⟩
theorem Fresh.of_own {w : World} {B : Nat} {v : Value} {X : List Mob} (h : w.ownsRow B 83 7 v X.length (rowM X)) : ∃ q cq, v = .slice q X.length cq ∧ Fresh w B q X.length cq X := by
  rcases h.2 with ⟨rfl, h0⟩ | ⟨g, cap, cur, rfl, hb, hh, h1, h2, h3, h4⟩
  · refine ⟨none, 0, by rw [h0], ⟨fun e => absurd (List.eq_nil_of_length_eq_zero h0) e, Or.inl ⟨rfl, h0, rfl⟩, fun j off e => by cases e⟩⟩
  · refine ⟨_, cap, rfl, ⟨fun _ => ⟨g, 0, rfl, heap_lt hh, fun j u hu => ?_⟩, Or.inr ⟨g, cur.toList, rfl, by simpa using hh, by simpa using h3, h1⟩, fun j off e => by cases e; exact ⟨hb, heap_lt hh⟩⟩⟩
    rw [Nat.zero_add, cell_block hh]
    rw [← h4, List.getElem?_take] at hu
    split at hu
    · simpa using hu
    · cases hu

set_option maxHeartbeats 1000000 in
set_option maxRecDepth 100000 in
theorem clone_c (g cap : Nat) (X : List Mob) (w : World) (hl : X.length ≤ 100) (h : Reads w (some ⟨g, 0, none⟩) X) :
    Calls Tryz.prog 56 #[.slice (some ⟨g, 0, none⟩) X.length cap] w fun e w' => ∃ q cq, e = .returned (.slice q X.length cq) ∧ Fresh w' w.heap.size q X.length cq X ∧ Kept (fun _ => False) w w' := by
  obtain ⟨i0, hi, hz0, hz1, hz2⟩ := info_parts info_mob
  have HR := hide h
  clear h
  go_enter Tryz.func56, Tryz.ntmps56
  have hnil : ∀ w : World, (binOp .eql 36 (.slice (some ⟨g, 0, none⟩) X.length cap) (.slice none 0 0)).run Tryz.prog w = .ok (.bool false) w := fun w => Lib.run_eql_slice_some_nil w _ _ _ Tryz.underlying36
  have HN : Hid (∀ j u, (rowM X)[j]? = some u → (w.alloc (.cells #[] 83)).cell? ((⟨g, 0, none⟩ : Addr).add j) = some u) := fun j u hu => by
    have hne : X ≠ [] := by intro e; subst e; simp [rowM] at hu
    obtain ⟨b, off, e, _, h3⟩ := (HR.out.calm (Kept.alloc w (.cells #[] 83))) hne
    cases e
    rw [addr_add2]; exact h3 j u hu
  have HO : Hid ((w.alloc (.cells #[] 83)).ownsRow w.heap.size 83 7 (.slice (some ⟨w.heap.size, 0, none⟩) 0 0) 0 []) := World.ownsRow_made w #[] 0 (Nat.le_refl _) (by decide) rfl
  go_wp2_with (at_builtin; refine wpList_append_own _ rfl (.tmp 5) (.tmp 6) 36 rfl w.heap.size 83 i0 _ 7 40 Tryz.underlying36 hi hz0 hz1 hz2 rfl (by decide) _ 0 [] rfl HO.out ⟨g, 0, none⟩ X.length cap (rowM X) rfl (rowM_length X) HN.out (rowM_one X) (by unfold maxLen; omega) (by omega) (by simp) ?_)
  intro v' w' ho' hg' _
  obtain ⟨q, cq, rfl, hf⟩ := Fresh.of_own ho'
  have F := hide hf
  have K : Hid (Kept (fun _ => False) w w') := (Kept.alloc w (.cells #[] 83)).join (Kept.of_grown hg') (fun _ _ e => e) (fun j hj e => by have e' : some j = some w.heap.size := e; simp only [Option.some.injEq] at e'; omega)
  clear ho' hg' hf
  go_wp2
  go_ret
  exact ⟨q, cq, rfl, F.out, K.out⟩

theorem first_small (ev : Int) (he : 1 ≤ ev ∧ ev ≤ 64) : ([] : List UInt8).length + (⟨(lineL (firstW ev)).toArray⟩ : ByteArray).size ≤ 140737488355328 := by
  have h1 := join_short (firstW ev) (by
    intro x hx
    simp only [firstW, List.mem_cons, List.not_mem_nil, or_false] at hx
    rcases hx with rfl | rfl
    · show (6 : Nat) ≤ 24; decide
    · exact itoaW_short ev (by omega))
  have h2 : (⟨(lineL (firstW ev)).toArray⟩ : ByteArray).size = (lineL (firstW ev)).length := by show (lineL (firstW ev)).toArray.size = _; simp
  rw [h2]
  unfold lineL
  have h3 : (firstW ev).length = 2 := rfl
  rw [h3] at h1
  simp only [List.length_append, List.length_nil, List.length_cons]
  omega

set_option maxHeartbeats 1000000 in
set_option maxRecDepth 100000 in
theorem newRec_c (ev : Int) (w : World) (he : 1 ≤ ev ∧ ev ≤ 64) (h : Tabs w) :
    Calls Tryz.prog 19 #[.int .i64 ev] w fun e w' => ∃ rb buf, e = .returned (.tuple #[.pointer (some ⟨rb, 0, none⟩), .int .i64 0]) ∧ w.heap.size ≤ rb ∧ Rec w' rb (.int .i64 ev) (.int .i64 0) (.slice none 0 0) (.pointer (some ⟨rb, 3, none⟩)) buf (lineL (firstW ev)) ∧ (∀ j, buf.ownBlock = some j → w.heap.size ≤ j) ∧ Kept (fun _ => False) w w' := by
  have HT := hide h
  clear h
  have h1 : ¬ ev < 1 := by omega
  have h2 : ¬ (64 : Int) < ev := by omega
  have K0 := hide (Kept.alloc w (.cells #[.int .i64 ev, .int .i64 0, .slice none 0 0, .pointer none, .slice none 0 0] 98))
  have R0 : Hid (Rec (w.alloc (.cells #[.int .i64 ev, .int .i64 0, .slice none 0 0, .pointer none, .slice none 0 0] 98)) w.heap.size (.int .i64 ev) (.int .i64 0) (.slice none 0 0) (.pointer none) (.slice none 0 0) []) := ⟨heap_alloc_new w _, ⟨rfl, Or.inl ⟨rfl, rfl⟩⟩, Or.inl rfl⟩
  go_enter Tryz.func19, Tryz.ntmps19
  go_wp2
  generalize w.alloc (.cells #[.int .i64 ev, .int .i64 0, .slice none 0 0, .pointer none, .slice none 0 0] 98) = wa at *
  have hb := heap_lt R0.out.blk
  obtain ⟨s0, s1, s2, s3, s4, -⟩ := five_cells R0.out.blk
  go_region_held3 (fun w' => True) (go_keep)
    (first
      | (go_at_call 36; refine (firstLine_c ev _ he (HT.out.calm (K0.out.calm2 (Kept.drew wa)))).mono ?_; rintro e w1 ⟨rfl, k1⟩; have K1 := hide ((Kept.drew wa).calm2 k1); clear k1)
      | (go_at_call 35; refine (write_c w.heap.size (.int .i64 ev) (.int .i64 0) (.slice none 0 0) (.pointer none) (.slice none 0 0) [] ⟨(lineL (firstW ev)).toArray⟩ w1 (R0.out.calm K1.out) (first_small ev he)).mono ?_; rintro e w2 ⟨rfl, buf', r2, k2, m2⟩; have R2 := hide r2; have K2 := hide k2; have M2 := hide m2; clear r2 k2 m2))
  have hs1 := K1.out.size
  have hsa := K0.out.size
  clear s0 s1 s2 s3 s4
  go_wp2
  go_ret2
  refine ⟨w.heap.size, buf', rfl, Nat.le_refl _, ?_, fun j hj => ?_, ?_⟩
  · have := R2.out
    simpa using this
  · rcases M2.out j hj with e | e
    · cases e
    · omega
  · exact (K0.out.calm2 K1.out).join K2.out (fun _ _ e => e) (fun j hj e => by
      rcases e with e | e
      · omega
      · cases e)

theorem file_c (rb : Nat) (c0 c1 c2 ad buf : Value) (s : List UInt8) (w : World) (h : Rec w rb c0 c1 c2 ad buf s) (h0 : s ≠ []) :
    Calls Tryz.prog 20 #[.pointer (some ⟨rb, 0, none⟩)] w fun e w' => e = .returned (.string ⟨s.toArray⟩) ∧ Rec w' rb c0 c1 c2 ad buf s ∧ Kept (fun j => buf.ownBlock = some j) w w' := by
  have HS := hide (string_c rb c0 c1 c2 ad buf s w h h0)
  go_enter Tryz.func20, Tryz.ntmps20
  go_wp2_with fail
  refine HS.out.mono ?_
  rintro e w1 ⟨rfl, r1, k1⟩
  have R1 := hide r1
  have K1 := hide k1
  clear r1 k1 HS
  go_wp2
  go_ret
  exact ⟨rfl, R1.out, K1.out⟩

theorem two_sets_kept (w4 : World) (b8 : Nat) (u v : Value) : Kept (fun k => k = b8) w4 ((w4.setCell ⟨b8, 0, none⟩ u).setCell ⟨b8, 1, none⟩ v) := (Kept.setCell w4 _ u).join (Kept.setCell _ _ v) (fun _ _ e => e) (fun _ _ e => e)

set_option maxHeartbeats 1000000 in
set_option maxRecDepth 100000 in
theorem copyOf_c (t : Int) (g cap : Nat) (X : List Mob) (w : World) (hl : X.length ≤ 100) (h : Reads w (some ⟨g, 0, none⟩) X) :
    Calls Tryz.prog 28 #[.agg #[.int .i64 t, .slice (some ⟨g, 0, none⟩) X.length cap]] w fun e w' => ∃ q cq, e = .returned (.agg #[.int .i64 t, .slice q X.length cq]) ∧ Fresh w' w.heap.size q X.length cq X ∧ Kept (fun _ => False) w w' := by
  have HR := hide h
  clear h
  have LT := hide (laid_two w t (.slice (some ⟨g, 0, none⟩) X.length cap))
  go_enter Tryz.func28, Tryz.ntmps28
  go_wp2
  generalize (w.alloc (.cells #[.int .i64 t, .slice (some ⟨g, 0, none⟩) X.length cap] 38)).alloc (.cells #[.int .i64 0, .slice none 0 0] 38) = wa at *
  have ha0 := heap_lt LT.out.2.1
  have ha1 := heap_lt LT.out.2.2
  obtain ⟨a0, a1, -, -⟩ := two_cells LT.out.2.1
  obtain ⟨b0, b1, -, -⟩ := two_cells LT.out.2.2
  go_region_held3 (fun w' => w'.cell? ⟨w.heap.size, 0, none⟩ = some (.int .i64 t) ∧ w'.cell? ⟨w.heap.size, 1, none⟩ = some (.slice (some ⟨g, 0, none⟩) X.length cap)) (go_keep)
    ((go_at_call 56; refine (clone_c g cap X wa.drew hl (HR.out.calm (LT.out.1.calm2 (Kept.drew wa)))).mono ?_; rintro e w1 ⟨q, cq, rfl, f1, k1⟩; have F1 := hide f1; have K1 := hide ((Kept.drew wa).calm2 k1); clear f1 k1; have A1 : Hid (w1.heap[w.heap.size]? = some (.cells #[.int .i64 t, .slice (some ⟨g, 0, none⟩) X.length cap] 38 (0, 0))) := (by show _ = _; rw [K1.out.block _ ha0 (fun e => e)]; exact LT.out.2.1); have B1 : Hid (w1.heap[w.heap.size + 1]? = some (.cells #[.int .i64 0, .slice none 0 0] 38 (0, 0))) := (by show _ = _; rw [K1.out.block _ ha1 (fun e => e)]; exact LT.out.2.2); obtain ⟨x0, x1, -, -⟩ := two_cells A1.out; obtain ⟨c0, c1, fz0, fz1⟩ := two_cells B1.out))
  all_goals
    clear a0 a1 b0 b1 x0 x1 c0 c1 fz0 fz1
    obtain ⟨d0, d1, -, -⟩ := two_cells (two_sets B1.out (.int .i64 t) (.slice q X.length cq))
    have hsl := LT.out.1.size
    go_wp2
    refine bodyPost_ret (v := .agg #[.int .i64 t, .slice q X.length cq]) (by simp [results, Tryz.results28, go_sem, d0, d1]) rfl ?_
    refine ⟨q, cq, rfl, ?_, two_kept (LT.out.1.calm2 K1.out) (by omega) _ _⟩
    exact (F1.out.keep (two_sets_kept w1 (w.heap.size + 1) _ _) (fun j off e ej => by have h1 : wa.heap.size ≤ j := (F1.out.new j off e).1; omega)).low (by show w.heap.size ≤ wa.heap.size; omega)

theorem Rec.now {w : World} {rb : Nat} {c0 c1 c2 ad buf : Value} {s : List UInt8} (h : Rec w rb c0 c1 c2 ad buf s) (u v : Value) : Rec ((w.setCell ⟨rb, 1, none⟩ u).setCell ⟨rb, 2, none⟩ v) rb c0 u v ad buf s ∧ Kept (fun k => k = rb) w ((w.setCell ⟨rb, 1, none⟩ u).setCell ⟨rb, 2, none⟩ v) := by
  have k : Kept (fun k => k = rb) w ((w.setCell ⟨rb, 1, none⟩ u).setCell ⟨rb, 2, none⟩ v) := (Kept.setCell w ⟨rb, 1, none⟩ u).join (Kept.setCell _ ⟨rb, 2, none⟩ v) (fun _ _ e => e) (fun _ _ e => e)
  exact ⟨⟨row_set (row_set h.blk 1 u) 2 v, ownsF_block h.own (fun g hg => k.block g (h.own.lt g hg).2 (fun e => h.ne (by rw [hg, e]))), h.self⟩, k⟩

theorem tick_short (cs : List Cmd) (t : Int) (L : List Mob) (ev : Int) (hn : cs.length ≤ 64) (hl : L.length ≤ 32) (hIC : ∀ c ∈ cs, IntC c) (hIM : ∀ m ∈ L, IntM m) : (lineL (tickW cs t L ev)).length ≤ 15001 := by
  have h1 := headW_short cs hn hIC cs.length
  rw [List.take_length] at h1
  have h2 : (∀ x ∈ tickW cs t L ev, Short x) ∧ (tickW cs t L ev).length ≤ 600 := by
    unfold tickW headW
    constructor
    · intro x hx
      rcases List.mem_append.1 hx with hx | hx
      · exact h1.1 x hx
      · split at hx
        · rcases List.mem_cons.1 hx with rfl | hx
          · exact itoaW_short _ (by omega)
          · obtain ⟨m, hm, hx⟩ := List.mem_flatMap.1 hx
            exact entW_short m (hIM m hm) x hx
        · cases hx
    · have h7 := words_len L entW 7 (fun m _ => by simp [entW])
      have h8 : L.length * 7 ≤ 32 * 7 := Nat.mul_le_mul_right 7 hl
      rw [List.length_append]
      split
      · have := h1.2
        simp only [List.length_cons] at this ⊢
        omega
      · have := h1.2
        simp only [List.length_cons, List.length_nil] at this ⊢
        omega
  have h3 := join_short _ h2.1
  unfold lineL
  have := Nat.mul_le_mul_right 25 h2.2
  simp only [List.length_append, List.length_cons, List.length_nil]
  omega

set_option maxHeartbeats 4000000 in
set_option maxRecDepth 100000 in
theorem record_ok (B rb : Nat) (ev t : Int) (p : Option Addr) (cap : Nat) (L : List Mob) (ad buf : Value) (s : List UInt8) (pc : Option Addr) (capc : Nat) (cs : List Cmd) (w : World)
    (hB4 : 6 < B) (_hB2 : 4 < B) (hBr : B ≤ rb) (_hBb : ∀ j, buf.ownBlock = some j → B ≤ j)
    (hrec : Rec w rb (.int .i64 ev) (.int .i64 t) (.slice p L.length cap) ad buf s) (hR : Reads w p L) (hp : p = none → cap = 0) (hC : ReadsC w pc cs) (hT : Tabs w)
    (hb : worldB t L = true) (ht : t ≠ 500) (hn : cs.length ≤ 64) (he : 1 ≤ ev ∧ ev ≤ 64) (hIC : ∀ c ∈ cs, IntC c) (hIM : ∀ m ∈ stepL cs L, IntM m) (hs : s.length ≤ 100000000000000)
    (hCne : ∀ b off, pc = some ⟨b, off, none⟩ → b ≠ rb ∧ buf.ownBlock ≠ some b) :
    Calls Tryz.prog 22 #[.pointer (some ⟨rb, 0, none⟩), .slice pc cs.length capc] w fun e w' => ∃ q cq gN buf', e = .returned (.tuple #[.agg #[.int .i64 (t + 1), .slice q (stepL cs L).length cq], .int .i64 0]) ∧
      Fresh w' w.heap.size q (stepL cs L).length cq (stepL cs L) ∧ Rec w' rb (.int .i64 ev) (.int .i64 (t + 1)) (.slice (some ⟨gN, 0, none⟩) (stepL cs L).length 32) (.pointer (some ⟨rb, 3, none⟩)) buf' (s ++ lineL (tickW cs (t + 1) (stepL cs L) ev)) ∧
      Reads w' (some ⟨gN, 0, none⟩) (stepL cs L) ∧ typ w' gN 83 ∧ w.heap.size ≤ gN ∧ (∀ j off, q = some ⟨j, off, none⟩ → gN < j) ∧ (∀ j, buf'.ownBlock = some j → buf.ownBlock = some j ∨ w.heap.size ≤ j) ∧ Kept (fun j => j = rb ∨ buf.ownBlock = some j) w w' := by
  obtain ⟨ht0, ht1, hF⟩ := worldB_fine hb
  have hsh := hF.short
  have hNx := worldB_next cs hb ht
  have hshX := (worldB_fine hNx).2.2.short
  have HREC := hide hrec
  have HR := hide hR
  have HC := hide hC
  have HT := hide hT
  have HIC := hide hIC
  have HIM := hide hIM
  have hrbl := heap_lt hrec.blk
  clear hrec hR hC hT hIC hIM hF hNx
  have K0 := hide (Kept.alloc w (.cells #[.int .i64 0, .slice none 0 0] 38))
  have HA := hide (heap_alloc_new w (.cells #[.int .i64 0, .slice none 0 0] 38))
  obtain ⟨d0, d1, d2, d3, d4, df⟩ := five_cells (HREC.out.calm K0.out).blk
  go_enter Tryz.func22, Tryz.ntmps22
  go_wp2_with fail
  generalize w.alloc (.cells #[.int .i64 0, .slice none 0 0] 38) = wa at *
  refine (step_ok t p pc cap capc L cs wa (by omega) (HR.out.calm K0.out) hp (HC.out.calm1 K0.out) hb ht hn).mono ?_
  rintro e w1 ⟨gN, cur, hgN, rfl, q1, k1⟩
  have Q1 := hide q1
  have K1 := hide k1
  clear q1 k1 d0 d1 d2 d3 d4 df
  generalize hXe : stepL cs L = X at *
  have HXE := hide hXe
  clear hXe
  have hsa := K0.out.size
  have K01 := hide (K0.out.calm2 K1.out)
  have R1 := hide (HREC.out.calm K01.out)
  obtain ⟨d0, d1, d2, d3, d4, df⟩ := five_cells R1.out.blk
  have RN := hide (R1.out.now (.int .i64 (t + 1)) (.slice (some ⟨gN, 0, none⟩) X.length 32))
  have hw1 := K01.out.size
  have hNb := heap_lt Q1.out.blk
  have hgr : gN ≠ rb := typ_ne (typ_blk Q1.out.blk) (typ_blk R1.out.blk) (by decide)
  have A1 : Hid (w1.heap[w.heap.size]? = some (.cells #[.int .i64 0, .slice none 0 0] 38 (0, 0))) := by show _ = _; rw [K1.out.block _ (heap_lt HA.out) (fun e => e)]; exact HA.out
  have hza := heap_lt A1.out
  have hrb1 : rb < w1.heap.size := by omega
  have hrb2 : rb ≠ w1.heap.size := by omega
  have hrb3 : w1.heap.size ≠ rb := by omega
  go_wp2
  have KT := hide (Kept.alloc ((w1.setCell ⟨rb, 1, none⟩ (.int .i64 (t + 1))).setCell ⟨rb, 2, none⟩ (.slice (some ⟨gN, 0, none⟩) X.length 32)) (.cells #[.int .i64 (t + 1), .slice (some ⟨gN, 0, none⟩) X.length 32] 38))
  have HT6 := hide (heap_alloc_new ((w1.setCell ⟨rb, 1, none⟩ (.int .i64 (t + 1))).setCell ⟨rb, 2, none⟩ (.slice (some ⟨gN, 0, none⟩) X.length 32)) (.cells #[.int .i64 (t + 1), .slice (some ⟨gN, 0, none⟩) X.length 32] 38))
  have hsz6 : ((w1.setCell ⟨rb, 1, none⟩ (.int .i64 (t + 1))).setCell ⟨rb, 2, none⟩ (.slice (some ⟨gN, 0, none⟩) X.length 32)).heap.size = w1.heap.size := by simp
  clear d0 d1 d2 d3 d4 df
  rw [hsz6] at HT6
  generalize ((w1.setCell ⟨rb, 1, none⟩ (.int .i64 (t + 1))).setCell ⟨rb, 2, none⟩ (.slice (some ⟨gN, 0, none⟩) X.length 32)).alloc (.cells #[.int .i64 (t + 1), .slice (some ⟨gN, 0, none⟩) X.length 32] 38) = w2 at *
  have K12 : Hid (Kept (fun j => j = rb) w1 w2) := RN.out.2.join KT.out (fun _ _ e => e) (fun _ _ e => e.elim)
  have R2 := hide (RN.out.1.calm KT.out)
  have Q2 : Hid (EntAt w2 gN X cur) := Q1.out.keep K12.out hgr
  have KW2 : Hid (Kept (fun j => j = rb) w w2) := K01.out.join K12.out (fun _ _ e => e.elim) (fun _ _ e => e)
  have TW2 : Hid (Tabs w2) := HT.out.keep KW2.out (by omega) (by omega)
  have C2 : Hid (ReadsC w2 pc cs) := HC.out.keep KW2.out (fun b off e _ => (hCne b off e).1)
  have A2 : Hid (w2.heap[w.heap.size]? = some (.cells #[.int .i64 0, .slice none 0 0] 38 (0, 0))) := by show _ = _; rw [K12.out.block _ hza (by omega)]; exact A1.out
  have hs12 := K12.out.size
  have hT6 := heap_lt HT6.out
  clear RN KT K12 A1 Q1 R1 K1 K0
  have CE : Hid (∀ w', Kept (fun _ => False) w2 w' → w'.cell? ⟨w1.heap.size, 0, none⟩ = some (.int .i64 (t + 1)) ∧ w'.cell? ⟨w1.heap.size, 1, none⟩ = some (.slice (some ⟨gN, 0, none⟩) X.length 32) ∧ w'.cell? ⟨rb, 0, none⟩ = some (.int .i64 ev)) := fun w' hk => by
    obtain ⟨e0, e1, -, -⟩ := two_cells (show w'.heap[w1.heap.size]? = some _ by rw [hk.block _ hT6 (fun e => e)]; exact HT6.out)
    exact ⟨e0, e1, (five_cells (R2.out.calm hk).blk).1⟩
  obtain ⟨s0, s1, s2⟩ := CE.out w2 (Kept.refl _ _)
  have hle := tick_short cs (t + 1) X ev hn (by omega) HIC.out HIM.out
  have hsz7 : s.length + (⟨(lineL (tickW cs (t + 1) X ev)).toArray⟩ : ByteArray).size ≤ 140737488355328 := by
    have h2 : (⟨(lineL (tickW cs (t + 1) X ev)).toArray⟩ : ByteArray).size = (lineL (tickW cs (t + 1) X ev)).length := by show (lineL (tickW cs (t + 1) X ev)).toArray.size = _; simp
    rw [h2]; omega
  go_region_held3 (fun w' => w'.cell? ⟨w1.heap.size, 0, none⟩ = some (.int .i64 (t + 1)) ∧ w'.cell? ⟨w1.heap.size, 1, none⟩ = some (.slice (some ⟨gN, 0, none⟩) X.length 32) ∧ w'.cell? ⟨rb, 0, none⟩ = some (.int .i64 ev)) (go_keep)
    (first
      | (go_at_call 39; refine (tickLine_c pc capc cs (t + 1) (some ⟨gN, 0, none⟩) 32 X ev w2.drew hn (by omega) (C2.out.calm1 (Kept.drew w2)) (Q2.out.reads.calm (Kept.drew w2)) HIC.out HIM.out he (by omega) (TW2.out.calm (Kept.drew w2))).mono ?_; rintro e w3 ⟨rfl, k3⟩; have K3 := hide ((Kept.drew w2).calm2 k3); clear k3; obtain ⟨u0, u1, u2⟩ := CE.out w3 K3.out)
      | (go_at_call 35; refine (write_c rb _ _ _ ad buf s ⟨(lineL (tickW cs (t + 1) X ev)).toArray⟩ w3 (R2.out.calm K3.out) hsz7).mono ?_; rintro e w4 ⟨rfl, buf', r4, k4, m4⟩; have R4 := hide r4; have K4 := hide k4; have M4 := hide m4; clear r4 k4 m4; obtain ⟨v2, -, -, -, -, -⟩ := five_cells R4.out.blk; obtain ⟨v0, v1, -, -⟩ := two_cells (show w4.heap[w1.heap.size]? = some (.cells #[.int .i64 (t + 1), .slice (some ⟨gN, 0, none⟩) X.length 32] 38 (0, 0)) by rw [K4.out.block _ (Nat.lt_of_lt_of_le hT6 K3.out.size) (fun e => by rcases e with e | e; (· exact hrb3 e); (· exact typ_ne (typ_ownF (R2.out.calm K3.out).own _ e) (typ_keep (typ_blk HT6.out) K3.out (fun e => e)) (by decide) rfl)), K3.out.block _ hT6 (fun e => e)]; exact HT6.out)))
  have hs3 := K3.out.size
  have hs4 := K4.out.size
  have nS : Hid (∀ j T, T ≠ 98 → T ≠ 5 → typ w2 j T → ¬ (j = rb ∨ buf.ownBlock = some j)) := fun j T h1 h2 ht e => by
    rcases e with e | e
    · rw [e] at ht
      exact typ_ne ht (typ_blk R2.out.blk) h1 rfl
    · exact typ_ne (typ_ownF R2.out.own _ e) ht (fun e => h2 e.symm) rfl
  have K24 : Hid (Kept (fun j => j = rb ∨ buf.ownBlock = some j) w2 w4) := K3.out.join K4.out (fun _ _ e => e.elim) (fun _ _ e => e)
  have Q4 : Hid (Reads w4 (some ⟨gN, 0, none⟩) X) := Q2.out.reads.keep K24.out (fun b off e => by cases e; exact nS.out gN _ (by decide) (by decide) (typ_blk Q2.out.blk))
  have TG4 : Hid (typ w4 gN 83) := typ_keep (typ_blk Q2.out.blk) K24.out (nS.out gN _ (by decide) (by decide) (typ_blk Q2.out.blk))
  have A4 : Hid (w4.heap[w.heap.size]? = some (.cells #[.int .i64 0, .slice none 0 0] 38 (0, 0))) := by show _ = _; rw [K24.out.block _ (heap_lt A2.out) (nS.out _ _ (by decide) (by decide) (typ_blk A2.out))]; exact A2.out
  have KW4 : Hid (Kept (fun j => j = rb ∨ buf.ownBlock = some j) w w4) := KW2.out.join K24.out (fun _ _ e => Or.inl e) (fun _ _ e => e)
  clear s0 s1 s2 u0 u1 u2 CE
  go_wp2_with fail
  refine (copyOf_c (t + 1) gN 32 X w4 (by omega) Q4.out).mono ?_
  rintro e w5 ⟨q, cq, rfl, f5, k5⟩
  have F5 := hide f5
  have K5 := hide k5
  have A5 : Hid (w5.heap[w.heap.size]? = some (.cells #[.int .i64 0, .slice none 0 0] 38 (0, 0))) := by show _ = _; rw [k5.block _ (heap_lt A4.out) (fun e => e)]; exact A4.out
  clear f5 k5 v0 v1 v2
  obtain ⟨c0, c1, fz0, fz1⟩ := two_cells A5.out
  obtain ⟨d0, d1, -, -⟩ := two_cells (two_sets A5.out (.int .i64 (t + 1)) (.slice q X.length cq))
  go_wp2
  refine bodyPost_ret (v := .tuple #[.agg #[.int .i64 (t + 1), .slice q X.length cq], .int .i64 0]) (by simp [results, Tryz.results22, go_sem, d0, d1]) rfl ?_
  have KS := two_sets_kept w5 w.heap.size (.int .i64 (t + 1)) (.slice q X.length cq)
  have hgN4 := typ_lt TG4.out
  rw [HXE.out]
  refine ⟨q, cq, gN, buf', rfl, ?_, ?_, ?_, ?_, by omega, fun j off e => ?_, fun j hj => ?_, ?_⟩
  · exact (F5.out.keep KS (fun j off e ej => by have := (F5.out.new j off e).1; omega)).low (by omega)
  · have := (R4.out.calm K5.out).keep KS (by omega) (fun j hj e => typ_ne (typ_keep (typ_ownF R4.out.own j hj) K5.out (fun e => e)) (typ_blk A5.out) (by decide) e)
    simpa using this
  · exact (Q4.out.calm K5.out).keep KS (fun b off e ej => by cases e; exact typ_ne (typ_keep TG4.out K5.out (fun e => e)) (typ_blk A5.out) (by decide) ej)
  · exact typ_keep (typ_keep TG4.out K5.out (fun e => e)) KS (fun ej => typ_ne (typ_keep TG4.out K5.out (fun e => e)) (typ_blk A5.out) (by decide) ej)
  · have := (F5.out.new j off e).1; omega
  · rcases M4.out j hj with e | e
    · exact Or.inl e
    · exact Or.inr (by omega)
  · exact (KW4.out.join K5.out (fun _ _ e => e) (fun _ _ e => e.elim)).join KS (fun _ _ e => e) (fun j hj e => by omega)
end Go.Proofs.YtlfmfhmbkpnjbaaGreatDoor

namespace Go.Proofs.YtlfmfhmbkpnjbaaGreatDoor
open Go.RowKit

/-- What is seen: tick, entities, error. -/
structure Sn where
  t : Int
  X : List Mob
  e : Int

theorem Raw.typ {w : World} {q : Option Addr} {n cq : Nat} (h : Raw w q n cq) (j : Nat) (hj : HB q j) : typ w j 83 := (h.home 0).typ j hj
theorem Raw.keep {w w' : World} {S : Nat → Prop} {q : Option Addr} {n cq : Nat} (h : Raw w q n cq) (hk : Kept S w w') (hS : ∀ j, HB q j → ¬ S j) : Raw w' q n cq := by
  rcases h with h | ⟨g, cur, h1, h2, h3⟩
  · exact Or.inl h
  · exact Or.inr ⟨g, cur, h1, by rw [hk.block g (heap_lt h2) (hS g ⟨0, h1⟩)]; exact h2, h3⟩

theorem sets_kept (w4 : World) (b8 : Nat) (u v : Value) : Kept (fun k => k = b8) w4 ((w4.setCell ⟨b8, 0, none⟩ u).setCell ⟨b8, 1, none⟩ v) := (Kept.setCell w4 _ u).join (Kept.setCell _ _ v) (fun _ _ e => e) (fun _ _ e => e)

/-- The answer is laid into a struct of the caller's. -/
structure Laid (w0 w5 : World) (b8 : Nat) (u v : Value) (q : Option Addr) (X : List Mob) : Prop where
  kept : Kept (fun _ => False) w0 w5
  blk : w5.heap[b8]? = some (.cells #[u, v] 38 (0, 0))
  reads : Reads w5 q X
  typs : ∀ j, HB q j → typ w5 j 83

theorem laid_set {w0 w4 : World} {b8 : Nat} {q : Option Addr} {X : List Mob} (k : Kept (fun _ => False) w0 w4) (hb : w0.heap.size ≤ b8) (h : w4.heap[b8]? = some (.cells #[.int .i64 0, .slice none 0 0] 38 (0, 0))) (rd : Reads w4 q X) (ht : ∀ j, HB q j → typ w4 j 83) (u v : Value) :
    Laid w0 ((w4.setCell ⟨b8, 0, none⟩ u).setCell ⟨b8, 1, none⟩ v) b8 u v q X :=
  ⟨two_kept k hb u v, two_sets h u v, rd.keep (sets_kept w4 b8 u v) (fun b off e => typ_ne (ht b ⟨off, e⟩) (typ_blk h) (by decide)), fun j hj => typ_keep (ht j hj) (sets_kept w4 b8 u v) (typ_ne (ht j hj) (typ_blk h) (by decide))⟩
theorem laid_new {w0 w4 : World} {q : Option Addr} {X : List Mob} (k : Kept (fun _ => False) w0 w4) (rd : Reads w4 q X) (ht : ∀ j, HB q j → typ w4 j 83) (u v : Value) :
    Laid w0 (w4.alloc (.cells #[u, v] 38)) w4.heap.size u v q X :=
  ⟨k.calm2 (Kept.alloc _ _), heap_alloc_new _ _, rd.calm (Kept.alloc _ _), fun j hj => typ_keep (ht j hj) (Kept.alloc _ _) (fun e => e)⟩

theorem block_reads {w : World} {g : Nat} {M : List Mob} (h : w.heap[g]? = some (.cells (rowM M).toArray 83 (0, 0))) : Reads w (some ⟨g, 0, none⟩) M := fun _ => ⟨g, 0, rfl, heap_lt h, fun j u hu => by rw [Nat.zero_add, cell_block h]; simpa using hu⟩
theorem Reads.pre {w : World} {p : Option Addr} {A B : List Mob} (h : Reads w p (A ++ B)) : Reads w p A := fun hA => by
  obtain ⟨b, off, h1, h2, h3⟩ := h (by intro e; exact hA (List.append_eq_nil_iff.1 e).1)
  refine ⟨b, off, h1, h2, fun j u hu => h3 j u ?_⟩
  rw [rowM_append, List.getElem?_append_left (List.getElem?_eq_some_iff.1 hu).1]; exact hu
end Go.Proofs.YtlfmfhmbkpnjbaaGreatDoor

namespace Go.Proofs.YtlfmfhmbkpnjbaaGreatDoor
open Go.RowKit

theorem find_at {L : List Mob} (hr : Rises L) (i : Nat) (hi : i < L.length) : findI L L[i].id = i ∧ findB L L[i].id = true := by
  have h1 : findI L L[i].id = i := findI_is L _ i (by omega) (fun j hj hji => hr j i hj hi hji) (fun _ => by omega)
  exact ⟨h1, findB_true i h1 hi rfl⟩

theorem plI_is (L : List Mob) (id : Int) (a : Nat) (ha : a ≤ L.length) (h1 : ∀ j (h : j < L.length), j < a → L[j].id ≠ id) (h2 : ∀ h : a < L.length, L[a].id = id) : plI L id = a := by
  induction L generalizing a with
  | nil => simp at ha; simp [plI, ha]
  | cons m r ih =>
    cases a with
    | zero => have := h2 (by simp); simp at this; simp [plI, this]
    | succ b =>
      have h0 := h1 0 (by simp) (by omega)
      simp only [List.getElem_cons_zero] at h0
      simp only [plI, h0, if_false]
      rw [ih b (by simpa using ha) (fun j hj hjb => by have := h1 (j + 1) (by simpa using hj) (by omega); simpa using this) (fun h => by have := h2 (by simpa using h); simpa using this)]

theorem pl_none {L : List Mob} {id : Int} (hr : Rises L) (hf : findB L id = false) : plR L id = -1 := by
  have h : plI L id = L.length := plI_is L id L.length (Nat.le_refl _) (fun j hj _ e => by
    have := (find_at hr j hj).2
    rw [e, hf] at this
    cases this) (fun h => absurd h (Nat.lt_irrefl _))
  unfold plR
  rw [h, if_neg (Nat.lt_irrefl _)]

theorem pl_some {L : List Mob} {id : Int} (hr : Rises L) (hf : findB L id = true) : ∃ h : findI L id < L.length, L[findI L id].id = id ∧ plR L id = (findI L id : Int) := by
  simp only [findB, decide_eq_true_eq] at hf
  obtain ⟨h, e⟩ := hf
  refine ⟨h, e, ?_⟩
  have h2 : plI L id = findI L id := plI_is L id _ (by omega) (fun j hj hji e2 => by have := hr j _ hj h hji; omega) (fun _ => e)
  unfold plR
  rw [h2, if_pos h]

end Go.Proofs.YtlfmfhmbkpnjbaaGreatDoor
