import Derived.Test.YtlfmfhmbkpnjbaaGreatDoorPz38
import Derived.Test.YtlfmfhmbkpnjbaaGreatDoorPz36
import Derived.BigQuiet
import Derived.Deep.QuietTactic
import Derived.Test.YtlfmfhmbkpnjbaaGreatDoorPz43
import Derived.Test.YtlfmfhmbkpnjbaaGreatDoorCards
import Derived.Test.YtlfmfhmbkpnjbaaGreatDoorTie
import Derived.SevenTiedAt
namespace Go.Proofs.YtlfmfhmbkpnjbaaGreatDoor
open Go.RowKit
theorem Duo.move1 {B : Nat} {w : World} {pa pb : Nat} {ma mb : Mt} {k k2 : Nat} {F1 F2 : Nat → Prop} (h : Duo B w pa pb ma mb k k2 F1 F2) (hB : B ≤ w.heap.size) (b : Int) (t : Nat) (hb : (k : Int) + b = (t : Int)) (ht : t ≤ ma.cmds.length) :
    Calls Tryz.prog 15 #[.pointer (some ⟨pa, 0, none⟩), .int .i64 b] w (Went B w pa pb ma mb t k2 F1 F2) := by
  obtain ⟨d, h1⟩ := h.one
  exact (move_ok F1 pa ma k t d b w hb ht h1).mono (fun e w' hs => h.went hB d h1 e w' hs)
theorem Duo.move0 {B : Nat} {w : World} {pa pb : Nat} {ma mb : Mt} {k k2 : Nat} {F1 F2 : Nat → Prop} (h : Duo B w pa pb ma mb k k2 F1 F2) (b : Int) (hb : (k : Int) + b < 0 ∨ (ma.cmds.length : Int) < (k : Int) + b) :
    Calls Tryz.prog 15 #[.pointer (some ⟨pa, 0, none⟩), .int .i64 b] w fun e w' => e = .returned (.tuple #[.agg #[.int .i64 0, .slice none 0 0], .int .i64 4]) ∧ Kept (fun _ => False) w w' := by
  obtain ⟨d, h1⟩ := h.one
  exact move_bad F1 pa ma k d b w (by omega) h1
end Go.Proofs.YtlfmfhmbkpnjbaaGreatDoor

namespace Go.Proofs.YtlfmfhmbkpnjbaaGreatDoor
open Go.RowKit

set_option maxHeartbeats 8000000 in
set_option maxRecDepth 100000 in
theorem walked_walk (every : Int) (q1 q2 : Option Addr) (zss : List (List Int)) (zs : List Int) (cap1 cap2 : Nat) (w : World) (he : I64 every) (hn1 : ((zss.length : Nat) : Int) ≤ 9223372036854775807) (hn2 : ((zs.length : Nat) : Int) ≤ 9223372036854775807) (h1 : RTZ w q1 zss) (h2 : RZ w q2 zs) (hE : Errs w) :
    Calls Tryz.prog 6 #[.int .i64 every, .slice q1 zss.length cap1, .slice q2 zs.length cap2] w fun e w' => e = .returned (.bool true) ∧ Below w.heap.size w w' := by
  have H2 := hide h2
  have HE := hide hE
  have H1 := hide h1
  have HM := hide hE.mine_size
  clear h1 h2 hE
  go_enter Tryz.func6, Tryz.ntmps6
  go_wp2_with fail
  refine (recorded_c every q1 zss cap1 w he hn1 H1.out HE.out.tabs).mono ?_
  rintro e w1 ⟨g, cp, vs, WS, rfl, mt⟩
  have MT := hide mt
  have K1 := hide mt.run.kept
  clear mt H1
  have HWL := hide MT.out.len
  have HO := hide (file_opens every zss)
  have HF := hide (file_size every zss)
  have hlen : (recM (1 + pickN_keep every 20) (zss.map cmdsOf) (min 60 zss.length)).cmds.length = min 60 zss.length := recM_len _ _ _
  have HAT : Hid (∀ t, t ≤ min 60 zss.length → (recM (1 + pickN_keep every 20) (zss.map cmdsOf) (min 60 zss.length)).at t = mobsAt (zss.map cmdsOf) t) := fun t ht => recM_at _ _ _ t ht
  have hK : min 60 zss.length ≤ 60 := by omega
  generalize fileAt (1 + (pickN_keep every 20 : Int)) (zss.map cmdsOf) (min 60 zss.length) = s at *
  generalize recM (1 + pickN_keep every 20) (zss.map cmdsOf) (min 60 zss.length) = m at *
  generalize min 60 zss.length = K at *
  generalize zss.map cmdsOf = css at *
  have hnil1 : ∀ w : World, (binOp .eql 27 (.slice (some ⟨g, 0, none⟩) WS.length cp) (.slice none 0 0)).run Tryz.prog w = .ok (.bool false) w := fun w => Lib.run_eql_slice_some_nil w _ _ _ Tryz.underlying27
  have hs1 := K1.out.size
  go_wp2_with fail
  refine (open_ok s m w1 HO.out HF.out (HM.out.up hs1) (HE.out.calm K1.out)).mono ?_
  rintro e w2 ⟨pa, da, rfl, pl1, k2⟩
  have P1 := hide pl1
  have K2 := hide k2
  clear pl1 k2
  have hs2 := K2.out.size
  go_wp2_with fail
  refine (open_ok s m w2 HO.out HF.out ((HM.out.up hs1).up hs2) ((HE.out.calm K1.out).calm K2.out)).mono ?_
  rintro e w3 ⟨pb, db, rfl, pl2, k3⟩
  have D0 := hide (Duo.mk2 P1.out pl2 K2.out k3)
  have K3 : Hid (Kept (fun j => w1.heap.size ≤ j) w1 w3) := (K2.out.calm2 k3).mono (fun _ _ e => e.elim)
  clear pl2 k3 P1
  go_wp2
  go_loopw [14] (fun a wr => ∃ (i k k2 : Nat) (F1 F2 : Nat → Prop), i ≤ zs.length ∧ a = .int .i64 i ∧ k ≤ K ∧ Hid (Duo w1.heap.size wr pa pb m m k k2 F1 F2) ∧ Hid (Kept (fun j => w1.heap.size ≤ j) w1 wr)) (fun a _ => zs.length - (intOf a).toNat)
  case atStart => exact ⟨0, 0, 0, _, _, Nat.zero_le _, rfl, Nat.zero_le _, D0, K3⟩
  case round =>
    obtain ⟨i, k, k2, F1, F2, hil, rfl, hkK, HD, HK⟩ := hrel
    clear D0 K3
    have KW : Hid (Kept (fun j => w.heap.size ≤ j) w wr) := K1.out.join HK.out (fun _ _ e => e.elim) (fun j _ e => by omega)
    by_cases hlt : i < zs.length
    · have hb1 : (0 : Int) ≤ (i : Int) := by omega
      have hb2 : (i : Int) < (zs.length : Int) := by omega
      obtain ⟨bz, offz, hq, hbz, hall⟩ := (H2.out.keep KW.out (fun b hb e => by omega)) (by intro e; subst e; simp at hlt)
      subst hq
      obtain ⟨hz, cz⟩ := hall i zs[i] (by simp [hlt])
      clear hall
      generalize zs[i] = z at *
      have hp := pickN_lt_keep z 31 (by decide)
      have hw15 : IntKind.i64.wrap ((pickN_keep z 31 : Int) - 15) = (pickN_keep z 31 : Int) - 15 := wrap_id _ (by omega)
      have hsr : w1.heap.size ≤ wr.heap.size := HK.out.size
      go_wp2_with fail
      refine (picke_c z 31 31 wr hz rfl (by decide) (by decide)).mono ?_
      rintro e wp ⟨rfl, rfl⟩
      go_wp2_with fail
      refine HD.out.at1.mono ?_
      rintro e wp ⟨rfl, rfl⟩
      clear hnil1 cz
      have hbr : -15 ≤ (pickN_keep z 31 : Int) - 15 ∧ (pickN_keep z 31 : Int) - 15 ≤ 15 := by omega
      generalize (pickN_keep z 31 : Int) - 15 = b at *
      by_cases hin : 0 ≤ (k : Int) + b ∧ (k : Int) + b ≤ (K : Int)
      · obtain ⟨t, ht⟩ : ∃ t : Nat, (k : Int) + b = (t : Int) := ⟨((k : Int) + b).toNat, by omega⟩
        have htK : t ≤ K := by omega
        have hwt : IntKind.i64.wrap ((k : Int) + b) = (t : Int) := by rw [ht]; exact wrap_id _ (by omega)
        have htn : ¬ (t : Int) < 0 := by omega
        have htW : ¬ (WS.length : Int) ≤ (t : Int) := by have := HWL.out; omega
        have htW2 : (t : Int) < (WS.length : Int) := by have := HWL.out; omega
        have ht0 : (0 : Int) ≤ (t : Int) := by omega
        have HAE := hide (HAT.out t htK)
        have HTT := hide ht
        clear ht
        have hgd := MT.out.world HK.out t htK
        have HGD := hide hgd
        clear hgd hin
        go_wp2_with fail
        refine (HD.out.move1 hsr b t HTT.out (by omega)).mono ?_
        rintro e w4 ⟨q, cq, G, rfl, fr, hqn, d4, k4⟩
        have hs4 := k4.size
        have F4 := hide fr
        have HF1 : Hid (∀ j, F1 j → w1.heap.size ≤ j) := HD.out.b1
        have HF2 : Hid (∀ j, F2 j → w1.heap.size ≤ j ∧ j < wp.heap.size) := fun j hj => by
          obtain ⟨d2, h2⟩ := HD.out.two
          exact ⟨HD.out.b2 j hj, h2.lt j hj⟩
        have D4 := hide (d4.calm (Kept.alloc w4 (.cells #[.int .i64 (t : Int), .slice q (m.at t).length cq] 38)))
        have A4 : Hid ((w4.alloc (.cells #[.int .i64 (t : Int), .slice q (m.at t).length cq] 38)).heap[w4.heap.size]? = some (.cells #[.int .i64 (t : Int), .slice q (m.at t).length cq] 38 (0, 0))) := heap_alloc_new w4 _
        have R4 : Hid (Reads (w4.alloc (.cells #[.int .i64 (t : Int), .slice q (m.at t).length cq] 38)) q (m.at t)) := fr.reads.calm (Kept.alloc w4 _)
        have K4 : Hid (Kept (fun j => w1.heap.size ≤ j) w1 (w4.alloc (.cells #[.int .i64 (t : Int), .slice q (m.at t).length cq] 38))) := HK.out.join (k4.join (Kept.alloc w4 _) (R := F1) (fun _ _ e => e) (fun _ _ e => e.elim)) (fun _ _ e => e) (fun j _ e => HF1.out j e)
        have Q4 := hide hqn
        clear fr hqn d4 k4 HD
        go_wp2_with fail
        obtain ⟨wA, hwA⟩ : ∃ wA, w4.alloc (.cells #[.int .i64 (t : Int), .slice q (m.at t).length cq] 38) = wA := ⟨_, rfl⟩
        have hsA : w4.heap.size + 1 = wA.heap.size := by rw [← hwA]; simp
        rw [hwA] at D4 A4 R4 K4 ⊢
        clear hwA
        refine D4.out.at1.mono ?_
        rintro e wp2 ⟨rfl, rfl⟩
        go_wp2_with fail
        refine (D4.out.swap.seek1 (by omega) t (by omega)).mono ?_
        rintro e w5 ⟨q', cq', G', rfl, fr5, hqn5, d5, k5⟩
        have hs5 := k5.size
        have A5 : Hid ((w5.alloc (.cells #[.int .i64 (t : Int), .slice q' (m.at t).length cq'] 38)).heap[w4.heap.size]? = some (.cells #[.int .i64 (t : Int), .slice q (m.at t).length cq] 38 (0, 0))) := by
          show _ = _
          rw [(Kept.alloc w5 _).block _ (by omega) (fun e => e), k5.block _ (by omega) (fun e => by have := HF2.out _ e; omega)]
          exact A4.out
        have B5 : Hid ((w5.alloc (.cells #[.int .i64 (t : Int), .slice q' (m.at t).length cq'] 38)).heap[w5.heap.size]? = some (.cells #[.int .i64 (t : Int), .slice q' (m.at t).length cq'] 38 (0, 0))) := heap_alloc_new w5 _
        have R5 : Hid (Reads (w5.alloc (.cells #[.int .i64 (t : Int), .slice q' (m.at t).length cq'] 38)) q (m.at t)) := (R4.out.keep k5 (fun b off e => (Q4.out b off e).2)).calm (Kept.alloc w5 _)
        have S5 : Hid (Reads (w5.alloc (.cells #[.int .i64 (t : Int), .slice q' (m.at t).length cq'] 38)) q' (m.at t)) := fr5.reads.calm (Kept.alloc w5 _)
        have D5 := hide (d5.swap.calm (Kept.alloc w5 (.cells #[.int .i64 (t : Int), .slice q' (m.at t).length cq'] 38)))
        have K5 : Hid (Kept (fun j => w1.heap.size ≤ j) w1 (w5.alloc (.cells #[.int .i64 (t : Int), .slice q' (m.at t).length cq'] 38))) := K4.out.join (k5.join (Kept.alloc w5 _) (R := F2) (fun _ _ e => e) (fun _ _ e => e.elim)) (fun _ _ e => e) (fun j _ e => (HF2.out j e).1)
        clear fr5 hqn5 d5 k5 D4 A4 R4 K4 F4 Q4 HK HGD
        have HGD := hide (MT.out.world K5.out t htK)
        obtain ⟨x0, x1, -, -⟩ := two_cells A5.out
        obtain ⟨y0, y1, -, -⟩ := two_cells B5.out
        go_wp2_with fail
        obtain ⟨wB, hwB⟩ : ∃ wB, w5.alloc (.cells #[.int .i64 (t : Int), .slice q' (m.at t).length cq'] 38) = wB := ⟨_, rfl⟩
        rw [hwB] at A5 B5 R5 S5 D5 K5 HGD x0 x1 y0 y1 ⊢
        clear hwB
        rw [← HAE.out] at HGD
        obtain ⟨pw, cw, z0, z1, zr, zg, hgl⟩ := HGD.out
        have hsh := (worldB_fine zg).2.2.short
        have HQ := hide (mob_same zg)
        have ZR := hide zr
        clear HGD zr zg
        refine (same_k (t : Int) (t : Int) q q' cq cq' (m.at t) (m.at t) wB R5.out S5.out hsh).mono ?_
        rintro e w6 ⟨b6, rfl, hb6, k6⟩
        obtain rfl : b6 = true := hb6 rfl rfl HQ.out
        have K6 := hide k6
        have CE : Hid (∀ w', Kept (fun _ => False) wB w' → w'.cell? ⟨w4.heap.size, 0, none⟩ = some (.int .i64 (t : Int)) ∧ w'.cell? ⟨w4.heap.size, 1, none⟩ = some (.slice q (m.at t).length cq) ∧ w'.cell? ⟨g, t * 2, none⟩ = some (.int .i64 (t : Int)) ∧ w'.cell? ⟨g, t * 2 + 1, none⟩ = some (.slice pw (m.at t).length cw)) := fun w' hk => by
          have h1 := heap_lt A5.out
          have h2 : g < wB.heap.size := by have := K5.out.size; omega
          exact ⟨by rw [cell_keep hk h1 (fun e => e)]; exact x0, by rw [cell_keep hk h1 (fun e => e)]; exact x1, by rw [cell_keep hk h2 (fun e => e)]; exact z0, by rw [cell_keep hk h2 (fun e => e)]; exact z1⟩
        clear hb6 k6 x0 x1 y0 y1 z0 z1
        obtain ⟨u1, u2, u3, u4⟩ := CE.out w6 K6.out
        go_wp2
        go_region_held3 (fun w' => w'.cell? ⟨w4.heap.size, 0, none⟩ = some (.int .i64 (t : Int)) ∧ w'.cell? ⟨w4.heap.size, 1, none⟩ = some (.slice q (m.at t).length cq) ∧ w'.cell? ⟨g, t * 2, none⟩ = some (.int .i64 (t : Int)) ∧ w'.cell? ⟨g, t * 2 + 1, none⟩ = some (.slice pw (m.at t).length cw)) (go_keep)
          ((go_at_call 13; refine (same_k (t : Int) (t : Int) q pw cq cw (m.at t) (m.at t) w6.drew (R5.out.calm (K6.out.calm2 (Kept.drew w6))) (ZR.out.calm (K6.out.calm2 (Kept.drew w6))) hsh).mono ?_; rintro e w7 ⟨b7, rfl, hb7, k7⟩; obtain rfl : b7 = true := hb7 rfl rfl HQ.out; have K7 := hide (K6.out.calm2 ((Kept.drew w6).calm2 k7)); clear hb7 k7 u1 u2 u3 u4; obtain ⟨u1, u2, u3, u4⟩ := CE.out w7 K7.out))
        all_goals
          clear u1 u2 u3 u4 CE
          go_wp2
          go_roundw
          case rel => exact ⟨i + 1, t, t, _, _, by omega, by go_num, htK, D5.out.calm K7.out, K5.out.join K7.out (fun _ _ e => e) (fun _ _ e => e.elim)⟩
          case measure => simp [intOf]; omega
      · have hout : (k : Int) + b < 0 ∨ (m.cmds.length : Int) < (k : Int) + b := by omega
        obtain ⟨n, hn⟩ : ∃ n : Int, (k : Int) + b = n := ⟨_, rfl⟩
        have hwn : IntKind.i64.wrap ((k : Int) + b) = n := by rw [hn]; exact wrap_id _ (by omega)
        have HTT := hide hn
        have HOU := hide hout
        have hcase : n < 0 ∨ (¬ n < 0 ∧ (WS.length : Int) ≤ n) := by have := HWL.out; omega
        clear hn hout hin
        go_wp2_with fail
        refine (HD.out.move0 b HOU.out).mono ?_
        rintro e w4 ⟨rfl, k4⟩
        have KA : Hid (Kept (fun _ => False) wp (w4.alloc (.cells #[.int .i64 0, .slice none 0 0] 38))) := k4.calm2 (Kept.alloc w4 _)
        have A4 : Hid ((w4.alloc (.cells #[.int .i64 0, .slice none 0 0] 38)).heap[w4.heap.size]? = some (.cells #[.int .i64 0, .slice none 0 0] 38 (0, 0))) := heap_alloc_new w4 _
        have D4 := hide (HD.out.calm KA.out)
        have K4 : Hid (Kept (fun j => w1.heap.size ≤ j) w1 (w4.alloc (.cells #[.int .i64 0, .slice none 0 0] 38))) := HK.out.join KA.out (fun _ _ e => e) (fun _ _ e => e.elim)
        clear k4 HD
        go_wp2_with fail
        obtain ⟨wA, hwA⟩ : ∃ wA, w4.alloc (.cells #[.int .i64 0, .slice none 0 0] 38) = wA := ⟨_, rfl⟩
        rw [hwA] at D4 A4 K4 KA ⊢
        clear hwA
        refine D4.out.at1.mono ?_
        rintro e wp2 ⟨rfl, rfl⟩
        go_wp2_with fail
        refine (D4.out.swap.seek0 n (by have := HTT.out; have := HOU.out; omega)).mono ?_
        rintro e w5 ⟨rfl, k5⟩
        have KB : Hid (Kept (fun _ => False) wp2 (w5.alloc (.cells #[.int .i64 0, .slice none 0 0] 38))) := k5.calm2 (Kept.alloc w5 _)
        have A5 : Hid ((w5.alloc (.cells #[.int .i64 0, .slice none 0 0] 38)).heap[w4.heap.size]? = some (.cells #[.int .i64 0, .slice none 0 0] 38 (0, 0))) := by
          show _ = _
          rw [KB.out.block _ (heap_lt A4.out) (fun e => e)]
          exact A4.out
        have B5 : Hid ((w5.alloc (.cells #[.int .i64 0, .slice none 0 0] 38)).heap[w5.heap.size]? = some (.cells #[.int .i64 0, .slice none 0 0] 38 (0, 0))) := heap_alloc_new w5 _
        obtain ⟨x0, x1, -, -⟩ := two_cells A5.out
        obtain ⟨y0, y1, -, -⟩ := two_cells B5.out
        clear k5
        go_wp2_with fail
        obtain ⟨wB, hwB⟩ : ∃ wB, w5.alloc (.cells #[.int .i64 0, .slice none 0 0] 38) = wB := ⟨_, rfl⟩
        rw [hwB] at A5 B5 KB x0 x1 y0 y1 ⊢
        clear hwB
        refine (same_k 0 0 none none 0 0 [] [] wB (fun e => absurd rfl e) (fun e => absurd rfl e) (by decide)).mono ?_
        rintro e w6 ⟨b6, rfl, hb6, k6⟩
        obtain rfl : b6 = true := hb6 rfl rfl (fun m hm => by cases hm)
        have K6 := hide (KB.out.calm2 k6)
        clear hb6 k6 x0 x1 y0 y1
        rcases hcase with hneg | ⟨hpos, hbig⟩
        · go_wp2
          go_roundw
          case rel => exact ⟨i + 1, k, k2, F1, F2, by omega, by go_num, hkK, D4.out.calm K6.out, K4.out.join K6.out (fun _ _ e => e) (fun _ _ e => e.elim)⟩
          case measure => simp [intOf]; omega
        · go_wp2
          go_roundw
          case rel => exact ⟨i + 1, k, k2, F1, F2, by omega, by go_num, hkK, D4.out.calm K6.out, K4.out.join K6.out (fun _ _ e => e) (fun _ _ e => e.elim)⟩
          case measure => simp [intOf]; omega
    · have hb2 : ¬ (i : Int) < (zs.length : Int) := by omega
      go_wp2
      go_ret
      exact ⟨rfl, KW.out.below _ (Nat.le_refl _) (fun _ _ e => by omega)⟩
end Go.Proofs.YtlfmfhmbkpnjbaaGreatDoor

namespace Go.Proofs.YtlfmfhmbkpnjbaaGreatDoor.walkedP
open Go.ChangeShapes Go.WideShapes Go.ChangeAt Go.RowKit Go.Deep
open laidP
set_option linter.unusedVariables false
set_option maxRecDepth 100000

theorem lifted (os : Os) (started : os.Started) (H : Type) (enc : TypeId × Value → H) :
    ReturnsInHanded {} Tryz.checked os 6 .any (fun w args => (Rows.walkedSpec.pre enc Tryz.prog Tryz.f6 [] false w args ∧ laidMetH Tryz.prog laid5 w) ∧ sizedMet enc Tryz.prog Tryz.f6 (OpenSpec.ofChange Rows.walkedSpec) false w args)
      (Rows.walkedSpec.post enc Tryz.prog Tryz.f6 false true false false) := by
  refine returnsInHanded_of_change_and (C := Tryz.checked) (X := fun w _ => laidMetH Tryz.prog laid5 w) (fun _ _ _ hh h => h.of_heap hh) own started (by kernel_rfl) Tryz.func6
    (ChangeSpec.witness_shaped (enc := enc) (C := Tryz.checked) (os := os) (X := fun w _ => laidMetH Tryz.prog laid5 w) false (World.doorLaid Tryz.prog 4000 os) #[.int .i64 0, .slice none 0 0, .slice none 0 0] 8 rfl (World.shaped_of_RefB (by kernel_rfl) (by kernel_rfl)) (by kernel_rfl) (by kernel_rfl) (by kernel_rfl) (door_met os _)) ?_
  intro W base args ds gs before hval0 hW _ _ hL _
  have hval : ∀ (j : Nat) t v, Tryz.f6.params[j]? = some t → args[j]? = some v → Value.okWide Tryz.prog W .any base t v := hval0
  have hW' := hW
  obtain ⟨p, q, hA0, hV, rfl, hfz, hnd⟩ := hW
  have hA : DataW.TrodAll enc Tryz.prog W 0 (fun _ => true) true Tryz.f6.params.toList args.toList ds p := hA0
  rw [Tryz.params6] at hA hval
  obtain ⟨v0, vs0, d0, ds0, p0, q0, hargs, rfl, rfl, h0, r0⟩ := trodAll_cons hA
  obtain ⟨v1, vs1, d1, ds1, p1, q1, rfl, rfl, rfl, h1, r1⟩ := trodAll_cons r0
  obtain ⟨v2, vs2, d2, ds2, p2, q2, rfl, rfl, rfl, h2, r2⟩ := trodAll_cons r1
  obtain ⟨rfl, rfl, rfl⟩ := trodAll_nil r2
  obtain rfl : args = #[v0, v1, v2] := by cases args; simp_all
  obtain ⟨rfl, rfl⟩ := trodVars_none hV
  obtain ⟨a1, len1, cap1, rfl⟩ := okWide_slice Tryz.underlying25 (hval 1 25 v1 rfl rfl)
  obtain ⟨a2, len2, cap2, rfl⟩ := okWide_slice Tryz.underlying26 (hval 2 26 v2 rfl rfl)
  have k1 := h1
  have k2 := h2
  have lt1 : ∀ x ∈ p1, x.block < W.heap.size := by obtain ⟨m, hm⟩ := k1; exact DataW.trod_lt m _ _ _ hm
  have lt2 : ∀ x ∈ p2, x.block < W.heap.size := by obtain ⟨m, hm⟩ := k2; exact DataW.trod_lt m _ _ _ hm
  obtain ⟨a0, rfl, rfl, rfl, w0⟩ := open_int Tryz.underlying3 (hval 0 3 v0 rfl rfl) h0
  clear hA0 hval0
  obtain ⟨zss1, rfl, hn1, hR1⟩ := open_lists h1
  obtain ⟨zs2, rfl, hn2, hR2⟩ := open_list h2
  refine (walked_walk a0 a1 a2 zss1 zs2 cap1 cap2 W (bounds_i64 w0) hn1 hn2 hR1 hR2 (of_laid hL)).mono fun e W' ⟨he, bel⟩ => ?_
  subst he
  exact ⟨_, rfl, _, _, _, [], _, [], hW', trodAll_mk1 (shut_bool Tryz.underlying4 _), (trodAll_cons_mk (shut_int Tryz.underlying3 w0) (trodAll_cons_mk (Below.trod laidOut (by kernel_rfl) (of_decide_eq_true (by kernel_rfl)) k1 bel lt1) (trodAll_cons_mk (Below.trod laidOut (by kernel_rfl) (of_decide_eq_true (by kernel_rfl)) k2 bel lt2) trodAll_mk0))), rfl, bel.frame _, fun h => by cases h⟩

theorem over : Rows.WalkedSaid :=
  OpenClaim.holds_of_wide 6 Tryz.f6 rfl rfl rfl rfl rfl rfl rfl ⟨rfl, rfl, rfl, rfl, rfl⟩ rfl rfl rfl rfl rfl (by kernel_rfl) Tryz.func6 (by kernel_rfl)
    (of_decide_eq_true (by kernel_rfl)) (by unfold Func.isWrapper; first | (rw [if_pos (by decide +kernel)]; kernel_rfl) | (rw [if_neg (by decide +kernel)]; exact ⟨rfl, rfl⟩))
    (fun os started H enc _ => lifted os started H enc)
end Go.Proofs.YtlfmfhmbkpnjbaaGreatDoor.walkedP

namespace Go.Proofs.YtlfmfhmbkpnjbaaGreatDoor
theorem walked_holds : Rows.WalkedCardSaid :=
  Claim7.holds_tied_plain_at .later [] [.data, .data, .data, .sentinel, .sentinel] true (true, "de327b41a66542c32e6ac8a13bc9f5b17f69e4109b6199f7c0cc9202a2eeede6") true
    walkedP.over (fun _ h => by cases h) (by kernel_rfl) (fun _ h => by cases h) walked_row_tie rfl ⟨rfl, rfl⟩ (by kernel_rfl) rfl
    (fun f fn hf hfn => by
      obtain rfl : f = 6 := Option.some.inj ((show Tryz.prog.funcNamed "encore/encorekeep.Walked" = some 6 by kernel_rfl).symm.trans hf) |>.symm
      obtain rfl : fn = Tryz.f6 := (Option.some.inj (Tryz.func6.symm.trans hfn)).symm
      exact ⟨by kernel_rfl, fun j t ht => by
        rw [Tryz.params6] at ht
        have hm : t ∈ [3, 25, 26] := by simpa using Array.mem_of_getElem? ht
        have hall : ([3, 25, 26].all fun u => !Tryz.prog.wantsStandIn u) = true := by kernel_rfl
        exact (show Tryz.prog.wantsStandIn t = false by simpa using List.all_eq_true.1 hall t hm)⟩)
    (by kernel_rfl)
#print axioms walked_holds
end Go.Proofs.YtlfmfhmbkpnjbaaGreatDoor
