import Derived.Test.YtlfmfhmbkpnjbaaGreatDoorPz41
import Derived.BigQuiet
import Derived.Deep.QuietTactic
import Derived.Test.YtlfmfhmbkpnjbaaGreatDoorPz43
import Derived.Test.YtlfmfhmbkpnjbaaGreatDoorCards
import Derived.Test.YtlfmfhmbkpnjbaaGreatDoorTie
import Derived.SevenTiedAt
namespace Go.Proofs.YtlfmfhmbkpnjbaaGreatDoor
open Go.RowKit

set_option maxHeartbeats 8000000 in
set_option maxRecDepth 100000 in
theorem replayed_walk (every cut : Int) (q1 q2 : Option Addr) (zss : List (List Int)) (zs : List Int) (cap1 cap2 : Nat) (w : World) (he : I64 every) (hcut : I64 cut) (hn1 : ((zss.length : Nat) : Int) ≤ 9223372036854775807) (hn2 : ((zs.length : Nat) : Int) ≤ 17592186044416) (h1 : RTZ w q1 zss) (h2 : RZ w q2 zs) (hE : Errs w) :
    Calls Tryz.prog 5 #[.int .i64 every, .slice q1 zss.length cap1, .int .i64 cut, .slice q2 zs.length cap2] w fun e w' => e = .returned (.bool true) ∧ Below w.heap.size w w' := by
  have H2 := hide h2
  have HE := hide hE
  have H1 := hide h1
  have HM := hide hE.mine_size
  clear h1 h2 hE
  go_enter Tryz.func5, Tryz.ntmps5
  go_wp2_with fail
  refine (recorded_s every q1 zss cap1 w he hn1 H1.out HE.out.tabs).mono ?_
  rintro e w1 ⟨g, cp, gs, sc, WS, rfl, mt, hst⟩
  have MT := hide mt
  have K1 := hide mt.run.kept
  have ST := hide hst
  clear mt H1 hst
  have HWL := hide MT.out.len
  have HO := hide (file_opens every zss)
  have HF := hide (file_size every zss)
  have hlen : (recM (1 + pickN_keep every 20) (zss.map cmdsOf) (min 60 zss.length)).cmds.length = min 60 zss.length := recM_len _ _ _
  have HAT : Hid (∀ k t, t ≤ k → (recM (1 + pickN_keep every 20) (zss.map cmdsOf) k).at t = mobsAt (zss.map cmdsOf) t) := fun k t ht => recM_at _ _ k t ht
  have HLN : Hid (∀ k, (recM (1 + pickN_keep every 20) (zss.map cmdsOf) k).cmds.length = k) := fun k => recM_len _ _ k
  have HCO : Hid (∀ n M, M ≤ min 60 zss.length → (fileAt (1 + (pickN_keep every 20 : Int)) (zss.map cmdsOf) M).length ≤ n → (∀ j, M < j → j ≤ min 60 zss.length → n < (fileAt (1 + (pickN_keep every 20 : Int)) (zss.map cmdsOf) j).length) → matchL ((fileAt (1 + (pickN_keep every 20 : Int)) (zss.map cmdsOf) (min 60 zss.length)).take n) = some (recM (1 + pickN_keep every 20) (zss.map cmdsOf) M)) := fun n M a b c => cut_opens every zss n M a b c
  have hK : min 60 zss.length ≤ 60 := by omega
  have hfs : (fileAt (1 + (pickN_keep every 20 : Int)) (zss.map cmdsOf) (min 60 zss.length)).length ≤ 1000000 := by
    have h20 := pickN_lt_keep every 20 (by decide)
    have := file_short (1 + (pickN_keep every 20 : Int)) (zss.map cmdsOf) (min 60 zss.length) (by omega) (by omega) (fun cs hc => by
      obtain ⟨zs, _, rfl⟩ := List.mem_map.1 hc
      exact ⟨cmdsOf_few zs, cmdsOf_int zs⟩)
    omega
  have hf0 : (fileAt (1 + (pickN_keep every 20 : Int)) (zss.map cmdsOf) 0).length ≤ (fileAt (1 + (pickN_keep every 20 : Int)) (zss.map cmdsOf) (min 60 zss.length)).length := by
    have := file_mono (1 + (pickN_keep every 20 : Int)) (zss.map cmdsOf) 0 (min 60 zss.length)
    rwa [Nat.zero_add] at this
  have CS : Hid (∀ j, j ≤ min 60 zss.length → gs < w1.heap.size ∧ w1.cell? ⟨gs, j, none⟩ = some (.int .i64 ((fileAt (1 + (pickN_keep every 20 : Int)) (zss.map cmdsOf) j).length : Int))) := fun j hj => stands_cell ST.out j hj
  clear ST
  obtain ⟨s, hs⟩ : ∃ s, fileAt (1 + (pickN_keep every 20 : Int)) (zss.map cmdsOf) (min 60 zss.length) = s := ⟨_, rfl⟩
  rw [hs] at HO HF HCO hfs hf0 ⊢
  have hbs := baL_size s
  clear hs
  obtain ⟨f, hf⟩ : ∃ f : Nat → Nat, (fun j => (fileAt (1 + (pickN_keep every 20 : Int)) (zss.map cmdsOf) j).length) = f := ⟨_, rfl⟩
  have HFE : Hid (∀ j, (fileAt (1 + (pickN_keep every 20 : Int)) (zss.map cmdsOf) j).length = f j) := fun j => congrFun hf j
  clear hf
  rw [HFE.out] at hf0
  generalize recM (1 + pickN_keep every 20) (zss.map cmdsOf) = R at *
  generalize min 60 zss.length = K at *
  have CS' : Hid (∀ j, j ≤ K → gs < w1.heap.size ∧ w1.cell? ⟨gs, j, none⟩ = some (.int .i64 (f j : Int))) := fun j hj => by have := CS.out j hj; rwa [HFE.out] at this
  have HCO' : Hid (∀ n M, M ≤ K → f M ≤ n → (∀ j, M < j → j ≤ K → n < f j) → matchL (s.take n) = some (R M)) := fun n M a b c => HCO.out n M a (by rw [HFE.out]; exact b) (fun j hj hk => by rw [HFE.out]; exact c j hj hk)
  clear CS HCO HFE
  generalize zss.map cmdsOf = css at *
  obtain ⟨S, hS⟩ : ∃ S, baL s = S := ⟨_, rfl⟩
  have HS := hide hS
  have OP : Hid (∀ w, Mine w.heap.size → Errs w → Calls Tryz.prog 9 #[.string S] w fun e w' => ∃ pb d, e = .returned (.tuple #[.pointer (some ⟨pb, 0, none⟩), .int .i64 0]) ∧ PL w' (fun j => w.heap.size ≤ j ∧ j < w'.heap.size) pb (R K) 0 d ∧ Kept (fun _ => False) w w') := fun w a b => by rw [← HS.out]; exact open_ok s (R K) w HO.out HF.out a b
  rw [hS] at hbs
  have hfS : f 0 ≤ S.size := by omega
  have hsS : (S.size : Int) ≤ 1000000 := by omega
  clear hbs
  rw [show (⟨s.toArray⟩ : ByteArray) = S from hS]
  clear hS
  have hnil1 : ∀ w : World, (binOp .eql 27 (.slice (some ⟨g, 0, none⟩) WS.length cp) (.slice none 0 0)).run Tryz.prog w = .ok (.bool false) w := fun w => Lib.run_eql_slice_some_nil w _ _ _ Tryz.underlying27
  have hs1 := K1.out.size
  go_wp2_with fail
  refine (OP.out w1 (HM.out.up hs1) (HE.out.calm K1.out)).mono ?_
  rintro e w2 ⟨pa, da, rfl, pl1, k2⟩
  have P1 := hide pl1
  have K2 := hide k2
  clear pl1 k2
  have hs2 := K2.out.size
  have hc0 : w2.cell? ⟨gs, 0, none⟩ = some (.int .i64 (f 0 : Int)) := by
    obtain ⟨a, b⟩ := CS'.out 0 (Nat.zero_le _)
    rw [cell_keep K2.out a (fun e => e)]
    exact b
  have hwd : IntKind.i64.wrap ((S.size : Int) - (f 0 : Int)) = (S.size : Int) - (f 0 : Int) := wrap_id _ (by omega)
  have hwe : IntKind.i64.wrap ((S.size : Int) - (f 0 : Int) + 1) = (S.size : Int) - (f 0 : Int) + 1 := wrap_id _ (by omega)
  go_wp2_with fail
  refine (picke_c cut _ (S.size - f 0 + 1) w2 hcut (by omega) (by omega) (by omega)).mono ?_
  rintro e wp ⟨rfl, rfl⟩
  have hpk := pickN_lt_keep cut (S.size - f 0 + 1) (by omega)
  obtain ⟨n, hn⟩ : ∃ n : Nat, (S.size : Int) - (pickN_keep cut (S.size - f 0 + 1) : Int) = (n : Int) := ⟨((S.size : Int) - (pickN_keep cut (S.size - f 0 + 1) : Int)).toNat, by omega⟩
  have hwn : IntKind.i64.wrap ((S.size : Int) - (pickN_keep cut (S.size - f 0 + 1) : Int)) = (n : Int) := by rw [hn]; exact wrap_id _ (by omega)
  have hnb : f 0 ≤ n ∧ n ≤ S.size := by omega
  clear hn hpk
  have hn0 : (0 : Int) ≤ (n : Int) := by omega
  have hnS : (n : Int) ≤ (S.size : Int) := by omega
  obtain ⟨M, hMK, hfM, hMx⟩ := most_ex f K n hnb.1
  have HXT : Hid (S.extract 0 n = baL (s.take n)) := by show _ = _; rw [← HS.out, Lib.extract_eq]; simp
  have HMX := hide hMx
  have HOC := hide (HCO'.out n M hMK hfM hMx)
  clear hMx hwd hwe
  go_wp2_with fail
  rw [HXT.out]
  refine (open_ok (s.take n) (R M) wp HOC.out (by rw [List.length_take]; have := HF.out; omega) ((HM.out.up hs1).up hs2) ((HE.out.calm K1.out).calm K2.out)).mono ?_
  rintro e w3 ⟨pb, db, rfl, pl2, k3⟩
  have D0 := hide (Duo.mk2 P1.out pl2 K2.out k3)
  have K3 : Hid (Kept (fun j => w1.heap.size ≤ j) w1 w3) := (K2.out.calm2 k3).mono (fun _ _ e => e.elim)
  have CS3 : Hid (∀ j, j ≤ K → w3.cell? ⟨gs, j, none⟩ = some (.int .i64 (f j : Int))) := fun j hj => by
    obtain ⟨a, b⟩ := CS'.out j hj
    rw [cell_keep (K2.out.calm2 k3) a (fun e => e)]
    exact b
  clear pl2 k3 P1 hc0 hnil1
  go_wp2
  go_loopw [17, 18] (fun a b wr => ∃ (i l : Nat), i ≤ K + 1 ∧ b = .int .i64 i ∧ a = .int .i64 l ∧ l ≤ M ∧ Hid (∀ j, j < i → f j ≤ n → j ≤ l) ∧ wr = w3) (fun _ b _ => K + 1 - (intOf b).toNat)
  case atStart => exact ⟨0, 0, Nat.zero_le _, rfl, rfl, Nat.zero_le _, (fun j hj => by omega), rfl⟩
  case round =>
    obtain ⟨i, l, hi, rfl, rfl, hl, HJ, rfl⟩ := hrel
    by_cases hlt : i < K + 1
    · have c := CS3.out i (by omega)
      have hb1 : (0 : Int) ≤ (i : Int) := by omega
      have hb2 : (i : Int) < (K : Int) + 1 := by omega
      have hb3 : (i : Int) < ((K + 1 : Nat) : Int) := by omega
      by_cases hle : (f i : Int) ≤ (n : Int)
      · go_wp2
        go_roundw
        case rel =>
          refine ⟨i + 1, i, by omega, by go_num, rfl, ?_, hide (show ∀ j, j < i + 1 → f j ≤ n → j ≤ i from fun j hj hf => by omega), trivial⟩
          apply Classical.byContradiction
          intro e
          have := HMX.out i (by omega) (by omega)
          omega
        case measure => simp [intOf]; omega
      · go_wp2
        go_roundw
        case rel =>
          refine ⟨i + 1, l, by omega, by go_num, rfl, hl, hide (show ∀ j, j < i + 1 → f j ≤ n → j ≤ l from fun j hj hf => ?_), trivial⟩
          by_cases e : j = i
          · subst e; omega
          · exact HJ.out j (by omega) hf
        case measure => simp [intOf]; omega
    · have hb2 : ¬ (i : Int) < (K : Int) + 1 := by omega
      have hb3 : ¬ (i : Int) < ((K + 1 : Nat) : Int) := by omega
      obtain rfl : l = M := by have := HJ.out M (by omega) hfM; omega
      clear HJ hlt
      have hlM := HLN.out l
      have hwl : IntKind.i64.wrap ((WS.length : Int) - 1) = (K : Int) := by
        have := HWL.out
        rw [show (WS.length : Int) - 1 = (K : Int) by omega]
        exact wrap_id _ (by omega)
      go_wp2_with fail
      refine D0.out.ticks1.mono ?_
      rintro e wp2 ⟨rfl, rfl⟩
      clear hb2 hb3
      go_wp2_with fail
      refine D0.out.swap.ticks1.mono ?_
      rintro e wp2 ⟨rfl, rfl⟩
      rw [hlM]
      obtain ⟨N, hN⟩ : ∃ N : Nat, zs.length + WS.length = N := ⟨_, rfl⟩
      have hwN : IntKind.i64.wrap ((zs.length : Int) + (WS.length : Int)) = (N : Int) := by rw [show (zs.length : Int) + (WS.length : Int) = (N : Int) by omega]; exact wrap_id _ (by have := HWL.out; omega)
      have hNb : N ≤ 18000000000000 := by have := HWL.out; omega
      have HNN := hide hN
      clear hN
      go_wp2
      go_loopw [21] (fun a wr => ∃ (i k k2 : Nat) (F1 F2 : Nat → Prop), i ≤ N ∧ a = .int .i64 i ∧ Hid (Duo w1.heap.size wr pa pb (R K) (R l) k k2 F1 F2) ∧ Hid (Kept (fun j => w1.heap.size ≤ j) w1 wr)) (fun a _ => N - (intOf a).toNat)
      case atStart => exact ⟨0, 0, 0, _, _, Nat.zero_le _, rfl, D0, K3⟩
      case round =>
        obtain ⟨i, k, k2, F1, F2, hil, rfl, HD, HK⟩ := hrel
        clear D0 K3 CS3
        have KW : Hid (Kept (fun j => w.heap.size ≤ j) w wr) := K1.out.join HK.out (fun _ _ e => e.elim) (fun j _ e => by omega)
        by_cases hlt : i < N
        · have hb2 : (i : Int) < (N : Int) := by omega
          have hsr : w1.heap.size ≤ wr.heap.size := HK.out.size
          by_cases hcs : i < WS.length
          case' pos =>
            have hbw : ¬ (WS.length : Int) ≤ (i : Int) := by omega
            go_wp2_with fail
            obtain ⟨t, ht⟩ : ∃ t, i = t := ⟨_, rfl⟩
            have htW : t < WS.length := by omega
            rw [show (i : Int) = (t : Int) by rw [ht]]
            clear hbw hcs
          case' neg =>
            have hbw : (WS.length : Int) ≤ (i : Int) := by omega
            obtain ⟨v, hv⟩ : ∃ v : Nat, (i : Int) - (WS.length : Int) = (v : Int) := ⟨i - WS.length, by omega⟩
            have hwv : IntKind.i64.wrap ((i : Int) - (WS.length : Int)) = (v : Int) := by rw [hv]; exact wrap_id _ (by have := HNN.out; omega)
            have hvz : v < zs.length := by have := HNN.out; omega
            have hv1 : (0 : Int) ≤ (v : Int) := by omega
            have hv2 : (v : Int) < (zs.length : Int) := by omega
            obtain ⟨bz, offz, hq, hbz, hall⟩ := (H2.out.keep KW.out (fun b hb e => by omega)) (by intro e; subst e; simp at hvz)
            subst hq
            obtain ⟨hz, cz⟩ := hall v zs[v] (by simp [hvz])
            clear hall hv
            generalize zs[v] = z at *
            go_wp2_with fail
            refine (picke_c z (WS.length : Int) WS.length wr hz rfl (by have := HWL.out; omega) (by have := HWL.out; omega)).mono ?_
            rintro e wp3 ⟨rfl, rfl⟩
            have htW := pickN_lt_keep z WS.length (by have := HWL.out; omega)
            obtain ⟨t, ht⟩ : ∃ t, pickN_keep z WS.length = t := ⟨_, rfl⟩
            rw [ht] at htW ⊢
            clear hbw hcs hwv hvz hv1 hv2 cz hbz ht
            rename World => wr
            go_wp2_with fail
          all_goals
            have htK : t ≤ K := by have := HWL.out; omega
            have htW2 : (t : Int) < (WS.length : Int) := by omega
            have ht0 : (0 : Int) ≤ (t : Int) := by omega
            have HAE := hide (HAT.out K t htK)
            refine (HD.out.seek1 (by have := HK.out.size; omega) t (by omega)).mono ?_
            rintro e w4 ⟨q, cq, G, rfl, fr, hqn, d4, k4⟩
            have hs4 := k4.size
            have HF1 : Hid (∀ j, F1 j → w1.heap.size ≤ j) := HD.out.b1
            have hk2l : k2 ≤ l := by
              obtain ⟨d2, h2⟩ := HD.out.two
              have := h2.at_
              omega
            have KA4 := hide (Kept.alloc w4 (.cells #[.int .i64 (t : Int), .slice q ((R K).at t).length cq] 38))
            have A4 : Hid ((w4.alloc (.cells #[.int .i64 (t : Int), .slice q ((R K).at t).length cq] 38)).heap[w4.heap.size]? = some (.cells #[.int .i64 (t : Int), .slice q ((R K).at t).length cq] 38 (0, 0))) := heap_alloc_new w4 _
            have D4 := hide (d4.calm KA4.out)
            have R4 := hide (fr.reads.calm KA4.out)
            have K4 : Hid (Kept (fun j => w1.heap.size ≤ j) w1 (w4.alloc (.cells #[.int .i64 (t : Int), .slice q ((R K).at t).length cq] 38))) := HK.out.join (k4.join KA4.out (R := F1) (fun _ _ e => e) (fun _ _ e => e.elim)) (fun _ _ e => e) (fun j _ e => HF1.out j e)
            clear fr hqn d4 k4 HD
            have HGD := hide (MT.out.world K4.out t htK)
            go_wp2_with fail
            obtain ⟨wA, hwA⟩ : ∃ wA, w4.alloc (.cells #[.int .i64 (t : Int), .slice q ((R K).at t).length cq] 38) = wA := ⟨_, rfl⟩
            have hsA : w4.heap.size + 1 = wA.heap.size := by rw [← hwA]; simp
            rw [hwA] at D4 A4 R4 K4 HGD ⊢
            clear hwA KA4
            rw [← HAE.out] at HGD
            obtain ⟨x0, x1, -, -⟩ := two_cells A4.out
            obtain ⟨pw, cw, z0, z1, zr, zg, hgl⟩ := HGD.out
            have hsh := (worldB_fine zg).2.2.short
            have HQ := hide (mob_same zg)
            have ZR := hide zr
            have hgA : g < wA.heap.size := by have := K4.out.size; omega
            have GE : Hid (wA.cell? ⟨g, t * 2, none⟩ = some (.int .i64 (t : Int)) ∧ wA.cell? ⟨g, t * 2 + 1, none⟩ = some (.slice pw ((R K).at t).length cw)) := ⟨z0, z1⟩
            have CE : Hid (∀ w', Kept (fun _ => False) wA w' → w'.cell? ⟨w4.heap.size, 0, none⟩ = some (.int .i64 (t : Int)) ∧ w'.cell? ⟨w4.heap.size, 1, none⟩ = some (.slice q ((R K).at t).length cq) ∧ w'.cell? ⟨g, t * 2, none⟩ = some (.int .i64 (t : Int)) ∧ w'.cell? ⟨g, t * 2 + 1, none⟩ = some (.slice pw ((R K).at t).length cw)) := fun w' hk => by
              have h1 := heap_lt A4.out
              exact ⟨by rw [cell_keep hk h1 (fun e => e)]; exact x0, by rw [cell_keep hk h1 (fun e => e)]; exact x1, by rw [cell_keep hk hgA (fun e => e)]; exact z0, by rw [cell_keep hk hgA (fun e => e)]; exact z1⟩
            clear HGD zr zg
            go_region_held3 (fun w' => w'.cell? ⟨w4.heap.size, 0, none⟩ = some (.int .i64 (t : Int)) ∧ w'.cell? ⟨w4.heap.size, 1, none⟩ = some (.slice q ((R K).at t).length cq) ∧ w'.cell? ⟨g, t * 2, none⟩ = some (.int .i64 (t : Int)) ∧ w'.cell? ⟨g, t * 2 + 1, none⟩ = some (.slice pw ((R K).at t).length cw)) (go_keep)
              ((go_at_call 13; refine (same_k (t : Int) (t : Int) q pw cq cw ((R K).at t) ((R K).at t) wA.drew (R4.out.calm (Kept.drew wA)) (ZR.out.calm (Kept.drew wA)) hsh).mono ?_; rintro e w6 ⟨b6, rfl, hb6, k6⟩; obtain rfl : b6 = true := hb6 rfl rfl HQ.out; have K6 := hide ((Kept.drew wA).calm2 k6); clear hb6 k6 x0 x1 z0 z1; obtain ⟨u1, u2, u3, u4⟩ := CE.out w6 K6.out))
            all_goals
              clear u1 u2 u3 u4 CE
              have hs6 := K6.out.size
              have D6 := hide (D4.out.calm K6.out)
              have K6w : Hid (Kept (fun j => w1.heap.size ≤ j) w1 w6) := K4.out.join K6.out (fun _ _ e => e) (fun _ _ e => e.elim)
              clear D4 A4 R4 K4 ZR GE
              have HF2 : Hid (∀ j, F2 j → w1.heap.size ≤ j) := D6.out.b2
              by_cases htl : t ≤ l
              · have hgt : ¬ (l : Int) < (t : Int) := by omega
                have HAL := hide (HAT.out l t htl)
                go_wp2_with fail
                refine (D6.out.swap.seek1 (by omega) t (by omega)).mono ?_
                rintro e w7 ⟨q', cq', G', rfl, fr7, hqn7, d7, k7⟩
                have hs7 := k7.size
                have KA7 := hide (Kept.alloc w7 (.cells #[.int .i64 (t : Int), .slice q' ((R l).at t).length cq'] 38))
                have A7 : Hid ((w7.alloc (.cells #[.int .i64 (t : Int), .slice q' ((R l).at t).length cq'] 38)).heap[w7.heap.size]? = some (.cells #[.int .i64 (t : Int), .slice q' ((R l).at t).length cq'] 38 (0, 0))) := heap_alloc_new w7 _
                have D7 := hide (d7.calm KA7.out)
                have R7 := hide (fr7.reads.calm KA7.out)
                have K7 : Hid (Kept (fun j => w1.heap.size ≤ j) w1 (w7.alloc (.cells #[.int .i64 (t : Int), .slice q' ((R l).at t).length cq'] 38))) := K6w.out.join (k7.join KA7.out (R := F2) (fun _ _ e => e) (fun _ _ e => e.elim)) (fun _ _ e => e) (fun j _ e => HF2.out j e)
                clear fr7 hqn7 d7 k7 D6
                have HGD := hide (MT.out.world K7.out t htK)
                go_wp2_with fail
                obtain ⟨wB, hwB⟩ : ∃ wB, w7.alloc (.cells #[.int .i64 (t : Int), .slice q' ((R l).at t).length cq'] 38) = wB := ⟨_, rfl⟩
                have hsB : w7.heap.size + 1 = wB.heap.size := by rw [← hwB]; simp
                rw [hwB] at D7 A7 R7 K7 HGD ⊢
                clear hwB KA7
                rw [← HAL.out] at HGD
                refine D7.out.at1.mono ?_
                rintro e wB2 ⟨rfl, rfl⟩
                obtain ⟨x0, x1, -, -⟩ := two_cells A7.out
                obtain ⟨pv, cv, z0, z1, zr, zg, -⟩ := HGD.out
                have hshl := (worldB_fine zg).2.2.short
                have HQL := hide (mob_same zg)
                have ZR := hide zr
                have CE : Hid (∀ w', Kept (fun _ => False) wB2 w' → w'.cell? ⟨w7.heap.size, 0, none⟩ = some (.int .i64 (t : Int)) ∧ w'.cell? ⟨w7.heap.size, 1, none⟩ = some (.slice q' ((R l).at t).length cq') ∧ w'.cell? ⟨g, t * 2, none⟩ = some (.int .i64 (t : Int)) ∧ w'.cell? ⟨g, t * 2 + 1, none⟩ = some (.slice pv ((R l).at t).length cv)) := fun w' hk => by
                  have h1 := heap_lt A7.out
                  have h2 : g < wB2.heap.size := by have := K7.out.size; omega
                  exact ⟨by rw [cell_keep hk h1 (fun e => e)]; exact x0, by rw [cell_keep hk h1 (fun e => e)]; exact x1, by rw [cell_keep hk h2 (fun e => e)]; exact z0, by rw [cell_keep hk h2 (fun e => e)]; exact z1⟩
                clear HGD zr zg
                go_wp2_with fail
                go_region_held3 (fun w' => w'.cell? ⟨w7.heap.size, 0, none⟩ = some (.int .i64 (t : Int)) ∧ w'.cell? ⟨w7.heap.size, 1, none⟩ = some (.slice q' ((R l).at t).length cq') ∧ w'.cell? ⟨g, t * 2, none⟩ = some (.int .i64 (t : Int)) ∧ w'.cell? ⟨g, t * 2 + 1, none⟩ = some (.slice pv ((R l).at t).length cv)) (go_keep)
                  ((go_at_call 13; refine (same_k (t : Int) (t : Int) q' pv cq' cv ((R l).at t) ((R l).at t) wB2.drew (R7.out.calm (Kept.drew wB2)) (ZR.out.calm (Kept.drew wB2)) hshl).mono ?_; rintro e w8 ⟨b8, rfl, hb8, k8⟩; obtain rfl : b8 = true := hb8 rfl rfl HQL.out; have K8 := hide ((Kept.drew wB2).calm2 k8); clear hb8 k8 x0 x1 z0 z1; obtain ⟨u1, u2, u3, u4⟩ := CE.out w8 K8.out))
                all_goals
                  clear u1 u2 u3 u4 CE
                  go_wp2
                  go_roundw
                  case rel => first
                    | exact ⟨i + 1, t, t, _, _, by omega, by go_num, D7.out.swap.calm K8.out, K7.out.join K8.out (fun _ _ e => e) (fun _ _ e => e.elim)⟩
                    | exact ⟨t + 1, t, t, _, _, by omega, by go_num, D7.out.swap.calm K8.out, K7.out.join K8.out (fun _ _ e => e) (fun _ _ e => e.elim)⟩
                  case measure => simp [intOf]; omega
              · have hgt : (l : Int) < (t : Int) := by omega
                have hk2 : ¬ (l : Int) < (k2 : Int) := by omega
                go_wp2_with fail
                refine (D6.out.swap.seek0 (t : Int) (by omega)).mono ?_
                rintro e w7 ⟨rfl, k7⟩
                have KA7 : Hid (Kept (fun _ => False) w6 (w7.alloc (.cells #[.int .i64 0, .slice none 0 0] 38))) := k7.calm2 (Kept.alloc w7 _)
                have A7 : Hid ((w7.alloc (.cells #[.int .i64 0, .slice none 0 0] 38)).heap[w7.heap.size]? = some (.cells #[.int .i64 0, .slice none 0 0] 38 (0, 0))) := heap_alloc_new w7 _
                have D7 := hide (D6.out.calm KA7.out)
                clear k7 D6
                go_wp2_with fail
                obtain ⟨wB, hwB⟩ : ∃ wB, w7.alloc (.cells #[.int .i64 0, .slice none 0 0] 38) = wB := ⟨_, rfl⟩
                rw [hwB] at D7 A7 KA7 ⊢
                clear hwB
                refine D7.out.swap.at1.mono ?_
                rintro e wB2 ⟨rfl, rfl⟩
                obtain ⟨x0, x1, -, -⟩ := two_cells A7.out
                go_wp2
                go_roundw
                case rel => first
                  | exact ⟨i + 1, t, k2, _, _, by omega, by go_num, D7, K6w.out.join KA7.out (fun _ _ e => e) (fun _ _ e => e.elim)⟩
                  | exact ⟨t + 1, t, k2, _, _, by omega, by go_num, D7, K6w.out.join KA7.out (fun _ _ e => e) (fun _ _ e => e.elim)⟩
                case measure => simp [intOf]; omega
        · have hb2 : ¬ (i : Int) < (N : Int) := by omega
          go_wp2
          go_ret
          exact ⟨rfl, KW.out.below _ (Nat.le_refl _) (fun _ _ e => by omega)⟩
end Go.Proofs.YtlfmfhmbkpnjbaaGreatDoor

namespace Go.Proofs.YtlfmfhmbkpnjbaaGreatDoor.replayedP
open Go.ChangeShapes Go.WideShapes Go.ChangeAt Go.RowKit Go.Deep
open laidP
set_option linter.unusedVariables false
set_option maxRecDepth 100000

theorem lifted (os : Os) (started : os.Started) (H : Type) (enc : TypeId × Value → H) :
    ReturnsInHanded {} Tryz.checked os 5 .any (fun w args => (Rows.replayedSpec.pre enc Tryz.prog Tryz.f5 [] false w args ∧ laidMetH Tryz.prog laid5 w) ∧ sizedMet enc Tryz.prog Tryz.f5 (OpenSpec.ofChange Rows.replayedSpec) false w args)
      (Rows.replayedSpec.post enc Tryz.prog Tryz.f5 false true false false) := by
  refine returnsInHanded_of_change_and (C := Tryz.checked) (X := fun w _ => laidMetH Tryz.prog laid5 w) (fun _ _ _ hh h => h.of_heap hh) own started (by kernel_rfl) Tryz.func5
    (ChangeSpec.witness_shaped (enc := enc) (C := Tryz.checked) (os := os) (X := fun w _ => laidMetH Tryz.prog laid5 w) false (World.doorLaid Tryz.prog 4000 os) #[.int .i64 0, .slice none 0 0, .int .i64 0, .slice none 0 0] 8 rfl (World.shaped_of_RefB (by kernel_rfl) (by kernel_rfl)) (by kernel_rfl) (by kernel_rfl) (by kernel_rfl) (door_met os _)) ?_
  intro W base args ds gs before hval0 hW _ hsz0 hL _
  have hval : ∀ (j : Nat) t v, Tryz.f5.params[j]? = some t → args[j]? = some v → Value.okWide Tryz.prog W .any base t v := hval0
  have hW' := hW
  obtain ⟨p, q, hA0, hV, rfl, hfz, hnd⟩ := hW
  have hA : DataW.TrodAll enc Tryz.prog W 0 (fun _ => true) true Tryz.f5.params.toList args.toList ds p := hA0
  have hsz : (DataW.weightsEach Tryz.prog (Tryz.f5.params.toList ++ Rows.replayedSpec.plain.varTypes Tryz.prog) (ds ++ gs)).all (· ≤ reachBytes) = true := hsz0
  rw [Tryz.params5] at hA hval hsz
  obtain ⟨v0, vs0, d0, ds0, p0, q0, hargs, rfl, rfl, h0, r0⟩ := trodAll_cons hA
  obtain ⟨v1, vs1, d1, ds1, p1, q1, rfl, rfl, rfl, h1, r1⟩ := trodAll_cons r0
  obtain ⟨v2, vs2, d2, ds2, p2, q2, rfl, rfl, rfl, h2, r2⟩ := trodAll_cons r1
  obtain ⟨v3, vs3, d3, ds3, p3, q3, rfl, rfl, rfl, h3, r3⟩ := trodAll_cons r2
  obtain ⟨rfl, rfl, rfl⟩ := trodAll_nil r3
  obtain rfl : args = #[v0, v1, v2, v3] := by cases args; simp_all
  obtain ⟨rfl, rfl⟩ := trodVars_none hV
  obtain ⟨a1, len1, cap1, rfl⟩ := okWide_slice Tryz.underlying25 (hval 1 25 v1 rfl rfl)
  obtain ⟨a3, len3, cap3, rfl⟩ := okWide_slice Tryz.underlying26 (hval 3 26 v3 rfl rfl)
  have k1 := h1
  have k3 := h3
  have lt1 : ∀ x ∈ p1, x.block < W.heap.size := by obtain ⟨m, hm⟩ := k1; exact DataW.trod_lt m _ _ _ hm
  have lt3 : ∀ x ∈ p3, x.block < W.heap.size := by obtain ⟨m, hm⟩ := k3; exact DataW.trod_lt m _ _ _ hm
  obtain ⟨a0, rfl, rfl, rfl, w0⟩ := open_int Tryz.underlying3 (hval 0 3 v0 rfl rfl) h0
  obtain ⟨a2, rfl, rfl, rfl, w2⟩ := open_int Tryz.underlying3 (hval 2 3 v2 rfl rfl) h2
  clear hA0 hval0 hsz0
  obtain ⟨zss1, rfl, hn1, hR1⟩ := open_lists h1
  have hl3 : ((len3 : Nat) : Int) ≤ 17592186044416 := by
    rcases open_sized h3 with e | ⟨el, sp, rfl, hle⟩
    · omega
    · have := sized_slice hsz (j := 3) (t := 26) (e := 3) rfl rfl Tryz.underlying26
      rw [bytesI] at this
      simp only [reachBytes] at this
      omega
  obtain ⟨zs3, rfl, -, hR3⟩ := open_list h3
  refine (replayed_walk a0 a2 a1 a3 zss1 zs3 cap1 cap3 W (bounds_i64 w0) (bounds_i64 w2) hn1 hl3 hR1 hR3 (of_laid hL)).mono fun e W' ⟨he, bel⟩ => ?_
  subst he
  exact ⟨_, rfl, _, _, _, [], _, [], hW', trodAll_mk1 (shut_bool Tryz.underlying4 _), (trodAll_cons_mk (shut_int Tryz.underlying3 w0) (trodAll_cons_mk (Below.trod laidOut (by kernel_rfl) (of_decide_eq_true (by kernel_rfl)) k1 bel lt1) (trodAll_cons_mk (shut_int Tryz.underlying3 w2) (trodAll_cons_mk (Below.trod laidOut (by kernel_rfl) (of_decide_eq_true (by kernel_rfl)) k3 bel lt3) trodAll_mk0)))), rfl, bel.frame _, fun h => by cases h⟩

theorem over : Rows.ReplayedSaid :=
  OpenClaim.holds_of_wide 5 Tryz.f5 rfl rfl rfl rfl rfl rfl rfl ⟨rfl, rfl, rfl, rfl, rfl⟩ rfl rfl rfl rfl rfl (by kernel_rfl) Tryz.func5 (by kernel_rfl)
    (of_decide_eq_true (by kernel_rfl)) (by unfold Func.isWrapper; first | (rw [if_pos (by decide +kernel)]; kernel_rfl) | (rw [if_neg (by decide +kernel)]; exact ⟨rfl, rfl⟩))
    (fun os started H enc _ => lifted os started H enc)
end Go.Proofs.YtlfmfhmbkpnjbaaGreatDoor.replayedP

namespace Go.Proofs.YtlfmfhmbkpnjbaaGreatDoor
theorem replayed_holds : Rows.ReplayedCardSaid :=
  Claim7.holds_tied_plain_at .later [] [.data, .data, .data, .sentinel, .sentinel] true (true, "de327b41a66542c32e6ac8a13bc9f5b17f69e4109b6199f7c0cc9202a2eeede6") true
    replayedP.over (fun _ h => by cases h) (by kernel_rfl) (fun _ h => by cases h) replayed_row_tie rfl ⟨rfl, rfl⟩ (by kernel_rfl) rfl
    (fun f fn hf hfn => by
      obtain rfl : f = 5 := Option.some.inj ((show Tryz.prog.funcNamed "encore/encorekeep.Replayed" = some 5 by kernel_rfl).symm.trans hf) |>.symm
      obtain rfl : fn = Tryz.f5 := (Option.some.inj (Tryz.func5.symm.trans hfn)).symm
      exact ⟨by kernel_rfl, fun j t ht => by
        rw [Tryz.params5] at ht
        have hm : t ∈ [3, 25, 3, 26] := by simpa using Array.mem_of_getElem? ht
        have hall : ([3, 25, 3, 26].all fun u => !Tryz.prog.wantsStandIn u) = true := by kernel_rfl
        exact (show Tryz.prog.wantsStandIn t = false by simpa using List.all_eq_true.1 hall t hm)⟩)
    (by kernel_rfl)
#print axioms replayed_holds
end Go.Proofs.YtlfmfhmbkpnjbaaGreatDoor
