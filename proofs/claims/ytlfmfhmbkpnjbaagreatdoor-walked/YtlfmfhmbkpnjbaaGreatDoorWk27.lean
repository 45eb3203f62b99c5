import Derived.Test.YtlfmfhmbkpnjbaaGreatDoorWk26
import Derived.BigQuiet
import Derived.Deep.QuietTactic
import Derived.Test.YtlfmfhmbkpnjbaaGreatDoorWk19
import Derived.Test.YtlfmfhmbkpnjbaaGreatDoorWk12
import Derived.Test.YtlfmfhmbkpnjbaaGreatDoorRows
import Derived.Deep.Slices
import Derived.ProofKit
import Derived.LaidMore
import Derived.OpenShut
import Derived.ShutString
import Derived.ChangeOld
import Derived.Below
import Derived.Stop.Joined
import Derived.Stop.LaidErr
import Derived.Lib.TrailingZeros
import Derived.Deep.DeepHandedRow
import Derived.Lib.LaidTab
import Derived.Test.YtlfmfhmbkpnjbaaGreatDoorCards
import Derived.Test.YtlfmfhmbkpnjbaaGreatDoorTie
import Derived.SevenTiedAt
namespace Go.Proofs.YtlfmfhmbkpnjbaaGreatDoor
open Go.RowKit

/-- A file that opens. -/
theorem open_ok (s : List UInt8) (m : Mt) (w : World) (hm : matchL s = some m) (hl : s.length ≤ 140737488355328) (hM : Mine w.heap.size) (hE : Errs w) :
    Calls Tryz.prog 9 #[.string (baL s)] w fun e w' => ∃ pb d, e = .returned (.tuple #[.pointer (some ⟨pb, 0, none⟩), .int .i64 0]) ∧ PL w' (fun j => w.heap.size ≤ j ∧ j < w'.heap.size) pb m 0 d ∧ Kept (fun _ => False) w w' := by
  refine (open_c s w hl hM hE).mono ?_
  rintro e w' ⟨k, h⟩
  rcases h with ⟨hn, _⟩ | ⟨m', pb, d, h1, h2, h3⟩
  · rw [hm] at hn; cases hn
  · rw [hm] at h1
    cases h1
    exact ⟨pb, d, h2, h3, k⟩
/-- Two players of one file. -/
theorem Duo.mk2 {w1 w2 w3 : World} {pa pb : Nat} {ma mb : Mt} {da db : PD} (h1 : PL w2 (fun j => w1.heap.size ≤ j ∧ j < w2.heap.size) pa ma 0 da) (h2 : PL w3 (fun j => w2.heap.size ≤ j ∧ j < w3.heap.size) pb mb 0 db) (k1 : Kept (fun _ => False) w1 w2) (k2 : Kept (fun _ => False) w2 w3) :
    Duo w1.heap.size w3 pa pb ma mb 0 0 (fun j => w1.heap.size ≤ j ∧ j < w2.heap.size) (fun j => w2.heap.size ≤ j ∧ j < w3.heap.size) :=
  ⟨⟨da, h1.calm k2⟩, ⟨db, h2⟩, fun j hj => hj.1, fun j hj => by have := k1.size; omega, fun j hj hk => by omega⟩

set_option maxHeartbeats 8000000 in
set_option maxRecDepth 100000 in
theorem walked_walk (every : Int) (q1 q2 : Option Addr) (zss : List (List Int)) (zs : List Int) (cap1 cap2 : Nat) (w : World) (he : I64 every) (hn1 : ((zss.length : Nat) : Int) ≤ 9223372036854775807) (hn2 : ((zs.length : Nat) : Int) ≤ 9223372036854775807) (h1 : RTZ w q1 zss) (h2 : RZ w q2 zs) (hE : Errs w) :
    Calls Tryz.prog 6 #[.int .i64 every, .slice q1 zss.length cap1, .slice q2 zs.length cap2] w fun e w' => e = .returned (.bool true) ∧ Below w.heap.size w w' := by
  have H2 := hide h2
  have HE := hide hE
  have H1 := hide h1
  have HM := hide hE.mine_size
  clear h1 h2 hE
  go_enter Tryz.func6, Tryz.ntmps6
  go_wp2_with fail
  refine (recorded_c every q1 zss cap1 w he hn1 H1.out HE.out.tabs).mono ?_
  rintro e w1 ⟨g, cp, vs, WS, rfl, mt⟩
  have MT := hide mt
  have K1 := hide mt.run.kept
  clear mt H1
  have HWL := hide MT.out.len
  have HO := hide (file_opens every zss)
  have HF := hide (file_size every zss)
  have hlen : (recM (1 + pickN_keep every 20) (zss.map cmdsOf) (min 60 zss.length)).cmds.length = min 60 zss.length := recM_len _ _ _
  have HAT : Hid (∀ t, t ≤ min 60 zss.length → (recM (1 + pickN_keep every 20) (zss.map cmdsOf) (min 60 zss.length)).at t = mobsAt (zss.map cmdsOf) t) := fun t ht => recM_at _ _ _ t ht
  have hK : min 60 zss.length ≤ 60 := by omega
  generalize fileAt (1 + (pickN_keep every 20 : Int)) (zss.map cmdsOf) (min 60 zss.length) = s at *
  generalize recM (1 + pickN_keep every 20) (zss.map cmdsOf) (min 60 zss.length) = m at *
  generalize min 60 zss.length = K at *
  generalize zss.map cmdsOf = css at *
  have hnil1 : ∀ w : World, (binOp .eql 27 (.slice (some ⟨g, 0, none⟩) WS.length cp) (.slice none 0 0)).run Tryz.prog w = .ok (.bool false) w := fun w => Lib.run_eql_slice_some_nil w _ _ _ Tryz.underlying27
  have hs1 := K1.out.size
  go_wp2_with fail
  refine (open_ok s m w1 HO.out HF.out (HM.out.up hs1) (HE.out.calm K1.out)).mono ?_
  rintro e w2 ⟨pa, da, rfl, pl1, k2⟩
  have P1 := hide pl1
  have K2 := hide k2
  clear pl1 k2
  have hs2 := K2.out.size
  go_wp2_with fail
  refine (open_ok s m w2 HO.out HF.out ((HM.out.up hs1).up hs2) ((HE.out.calm K1.out).calm K2.out)).mono ?_
  rintro e w3 ⟨pb, db, rfl, pl2, k3⟩
  have D0 := hide (Duo.mk2 P1.out pl2 K2.out k3)
  have K3 : Hid (Kept (fun j => w1.heap.size ≤ j) w1 w3) := (K2.out.calm2 k3).mono (fun _ _ e => e.elim)
  clear pl2 k3 P1
  go_wp2
  go_loopw [14] (fun a wr => ∃ (i k k2 : Nat) (F1 F2 : Nat → Prop), i ≤ zs.length ∧ a = .int .i64 i ∧ k ≤ K ∧ Hid (Duo w1.heap.size wr pa pb m m k k2 F1 F2) ∧ Hid (Kept (fun j => w1.heap.size ≤ j) w1 wr)) (fun a _ => zs.length - (intOf a).toNat)
  case atStart => exact ⟨0, 0, 0, _, _, Nat.zero_le _, rfl, Nat.zero_le _, D0, K3⟩
  case round =>
    obtain ⟨i, k, k2, F1, F2, hil, rfl, hkK, HD, HK⟩ := hrel
    clear D0 K3
    have KW : Hid (Kept (fun j => w.heap.size ≤ j) w wr) := K1.out.join HK.out (fun _ _ e => e.elim) (fun j _ e => by omega)
    by_cases hlt : i < zs.length
    · have hb1 : (0 : Int) ≤ (i : Int) := by omega
      have hb2 : (i : Int) < (zs.length : Int) := by omega
      obtain ⟨bz, offz, hq, hbz, hall⟩ := (H2.out.keep KW.out (fun b hb e => by omega)) (by intro e; subst e; simp at hlt)
      subst hq
      obtain ⟨hz, cz⟩ := hall i zs[i] (by simp [hlt])
      clear hall
      generalize zs[i] = z at *
      have hp := pickN_lt_keep z 31 (by decide)
      have hw15 : IntKind.i64.wrap ((pickN_keep z 31 : Int) - 15) = (pickN_keep z 31 : Int) - 15 := wrap_id _ (by omega)
      have hsr : w1.heap.size ≤ wr.heap.size := HK.out.size
      go_wp2_with fail
      refine (picke_c z 31 31 wr hz rfl (by decide) (by decide)).mono ?_
      rintro e wp ⟨rfl, rfl⟩
      go_wp2_with fail
      refine HD.out.at1.mono ?_
      rintro e wp ⟨rfl, rfl⟩
      clear hnil1 cz
      have hbr : -15 ≤ (pickN_keep z 31 : Int) - 15 ∧ (pickN_keep z 31 : Int) - 15 ≤ 15 := by omega
      generalize (pickN_keep z 31 : Int) - 15 = b at *
      by_cases hin : 0 ≤ (k : Int) + b ∧ (k : Int) + b ≤ (K : Int)
      · obtain ⟨t, ht⟩ : ∃ t : Nat, (k : Int) + b = (t : Int) := ⟨((k : Int) + b).toNat, by omega⟩
        have htK : t ≤ K := by omega
        have hwt : IntKind.i64.wrap ((k : Int) + b) = (t : Int) := by rw [ht]; exact wrap_id _ (by omega)
        have htn : ¬ (t : Int) < 0 := by omega
        have htW : ¬ (WS.length : Int) ≤ (t : Int) := by have := HWL.out; omega
        have htW2 : (t : Int) < (WS.length : Int) := by have := HWL.out; omega
        have ht0 : (0 : Int) ≤ (t : Int) := by omega
        have HAE := hide (HAT.out t htK)
        have HTT := hide ht
        clear ht
        have hgd := MT.out.world HK.out t htK
        have HGD := hide hgd
        clear hgd hin
        go_wp2_with fail
        refine (HD.out.move1 hsr b t HTT.out (by omega)).mono ?_
        rintro e w4 ⟨q, cq, G, rfl, fr, hqn, d4, k4⟩
        have hs4 := k4.size
        have F4 := hide fr
        have HF1 : Hid (∀ j, F1 j → w1.heap.size ≤ j) := HD.out.b1
        have HF2 : Hid (∀ j, F2 j → w1.heap.size ≤ j ∧ j < wp.heap.size) := fun j hj => by
          obtain ⟨d2, h2⟩ := HD.out.two
          exact ⟨HD.out.b2 j hj, h2.lt j hj⟩
        have D4 := hide (d4.calm (Kept.alloc w4 (.cells #[.int .i64 (t : Int), .slice q (m.at t).length cq] 38)))
        have A4 : Hid ((w4.alloc (.cells #[.int .i64 (t : Int), .slice q (m.at t).length cq] 38)).heap[w4.heap.size]? = some (.cells #[.int .i64 (t : Int), .slice q (m.at t).length cq] 38 (0, 0))) := heap_alloc_new w4 _
        have R4 : Hid (Reads (w4.alloc (.cells #[.int .i64 (t : Int), .slice q (m.at t).length cq] 38)) q (m.at t)) := fr.reads.calm (Kept.alloc w4 _)
        have K4 : Hid (Kept (fun j => w1.heap.size ≤ j) w1 (w4.alloc (.cells #[.int .i64 (t : Int), .slice q (m.at t).length cq] 38))) := HK.out.join (k4.join (Kept.alloc w4 _) (R := F1) (fun _ _ e => e) (fun _ _ e => e.elim)) (fun _ _ e => e) (fun j _ e => HF1.out j e)
        have Q4 := hide hqn
        clear fr hqn d4 k4 HD
        go_wp2_with fail
        obtain ⟨wA, hwA⟩ : ∃ wA, w4.alloc (.cells #[.int .i64 (t : Int), .slice q (m.at t).length cq] 38) = wA := ⟨_, rfl⟩
        have hsA : w4.heap.size + 1 = wA.heap.size := by rw [← hwA]; simp
        rw [hwA] at D4 A4 R4 K4 ⊢
        clear hwA
        refine D4.out.at1.mono ?_
        rintro e wp2 ⟨rfl, rfl⟩
        go_wp2_with fail
        refine (D4.out.swap.seek1 (by omega) t (by omega)).mono ?_
        rintro e w5 ⟨q', cq', G', rfl, fr5, hqn5, d5, k5⟩
        have hs5 := k5.size
        have A5 : Hid ((w5.alloc (.cells #[.int .i64 (t : Int), .slice q' (m.at t).length cq'] 38)).heap[w4.heap.size]? = some (.cells #[.int .i64 (t : Int), .slice q (m.at t).length cq] 38 (0, 0))) := by
          show _ = _
          rw [(Kept.alloc w5 _).block _ (by omega) (fun e => e), k5.block _ (by omega) (fun e => by have := HF2.out _ e; omega)]
          exact A4.out
        have B5 : Hid ((w5.alloc (.cells #[.int .i64 (t : Int), .slice q' (m.at t).length cq'] 38)).heap[w5.heap.size]? = some (.cells #[.int .i64 (t : Int), .slice q' (m.at t).length cq'] 38 (0, 0))) := heap_alloc_new w5 _
        have R5 : Hid (Reads (w5.alloc (.cells #[.int .i64 (t : Int), .slice q' (m.at t).length cq'] 38)) q (m.at t)) := (R4.out.keep k5 (fun b off e => (Q4.out b off e).2)).calm (Kept.alloc w5 _)
        have S5 : Hid (Reads (w5.alloc (.cells #[.int .i64 (t : Int), .slice q' (m.at t).length cq'] 38)) q' (m.at t)) := fr5.reads.calm (Kept.alloc w5 _)
        have D5 := hide (d5.swap.calm (Kept.alloc w5 (.cells #[.int .i64 (t : Int), .slice q' (m.at t).length cq'] 38)))
        have K5 : Hid (Kept (fun j => w1.heap.size ≤ j) w1 (w5.alloc (.cells #[.int .i64 (t : Int), .slice q' (m.at t).length cq'] 38))) := K4.out.join (k5.join (Kept.alloc w5 _) (R := F2) (fun _ _ e => e) (fun _ _ e => e.elim)) (fun _ _ e => e) (fun j _ e => (HF2.out j e).1)
        clear fr5 hqn5 d5 k5 D4 A4 R4 K4 F4 Q4 HK HGD
        have HGD := hide (MT.out.world K5.out t htK)
        obtain ⟨x0, x1, -, -⟩ := two_cells A5.out
        obtain ⟨y0, y1, -, -⟩ := two_cells B5.out
        go_wp2_with fail
        obtain ⟨wB, hwB⟩ : ∃ wB, w5.alloc (.cells #[.int .i64 (t : Int), .slice q' (m.at t).length cq'] 38) = wB := ⟨_, rfl⟩
        rw [hwB] at A5 B5 R5 S5 D5 K5 HGD x0 x1 y0 y1 ⊢
        clear hwB
        rw [← HAE.out] at HGD
        obtain ⟨pw, cw, z0, z1, zr, zg, hgl⟩ := HGD.out
        have hsh := (worldB_fine zg).2.2.short
        have HQ := hide (mob_same zg)
        have ZR := hide zr
        clear HGD zr zg
        refine (same_k (t : Int) (t : Int) q q' cq cq' (m.at t) (m.at t) wB R5.out S5.out hsh).mono ?_
        rintro e w6 ⟨b6, rfl, hb6, k6⟩
        obtain rfl : b6 = true := hb6 rfl rfl HQ.out
        have K6 := hide k6
        have CE : Hid (∀ w', Kept (fun _ => False) wB w' → w'.cell? ⟨w4.heap.size, 0, none⟩ = some (.int .i64 (t : Int)) ∧ w'.cell? ⟨w4.heap.size, 1, none⟩ = some (.slice q (m.at t).length cq) ∧ w'.cell? ⟨g, t * 2, none⟩ = some (.int .i64 (t : Int)) ∧ w'.cell? ⟨g, t * 2 + 1, none⟩ = some (.slice pw (m.at t).length cw)) := fun w' hk => by
          have h1 := heap_lt A5.out
          have h2 : g < wB.heap.size := by have := K5.out.size; omega
          exact ⟨by rw [cell_keep hk h1 (fun e => e)]; exact x0, by rw [cell_keep hk h1 (fun e => e)]; exact x1, by rw [cell_keep hk h2 (fun e => e)]; exact z0, by rw [cell_keep hk h2 (fun e => e)]; exact z1⟩
        clear hb6 k6 x0 x1 y0 y1 z0 z1
        obtain ⟨u1, u2, u3, u4⟩ := CE.out w6 K6.out
        go_wp2
        go_region_held3 (fun w' => w'.cell? ⟨w4.heap.size, 0, none⟩ = some (.int .i64 (t : Int)) ∧ w'.cell? ⟨w4.heap.size, 1, none⟩ = some (.slice q (m.at t).length cq) ∧ w'.cell? ⟨g, t * 2, none⟩ = some (.int .i64 (t : Int)) ∧ w'.cell? ⟨g, t * 2 + 1, none⟩ = some (.slice pw (m.at t).length cw)) (go_keep)
          ((go_at_call 13; refine (same_k (t : Int) (t : Int) q pw cq cw (m.at t) (m.at t) w6.drew (R5.out.calm (K6.out.calm2 (Kept.drew w6))) (ZR.out.calm (K6.out.calm2 (Kept.drew w6))) hsh).mono ?_; rintro e w7 ⟨b7, rfl, hb7, k7⟩; obtain rfl : b7 = true := hb7 rfl rfl HQ.out; have K7 := hide (K6.out.calm2 ((Kept.drew w6).calm2 k7)); clear hb7 k7 u1 u2 u3 u4; obtain ⟨u1, u2, u3, u4⟩ := CE.out w7 K7.out))
        all_goals
          clear u1 u2 u3 u4 CE
          go_wp2
          go_roundw
          case rel => exact ⟨i + 1, t, t, _, _, by omega, by go_num, htK, D5.out.calm K7.out, K5.out.join K7.out (fun _ _ e => e) (fun _ _ e => e.elim)⟩
          case measure => simp [intOf]; omega
      · have hout : (k : Int) + b < 0 ∨ (m.cmds.length : Int) < (k : Int) + b := by omega
        obtain ⟨n, hn⟩ : ∃ n : Int, (k : Int) + b = n := ⟨_, rfl⟩
        have hwn : IntKind.i64.wrap ((k : Int) + b) = n := by rw [hn]; exact wrap_id _ (by omega)
        have HTT := hide hn
        have HOU := hide hout
        have hcase : n < 0 ∨ (¬ n < 0 ∧ (WS.length : Int) ≤ n) := by have := HWL.out; omega
        clear hn hout hin
        go_wp2_with fail
        refine (HD.out.move0 b HOU.out).mono ?_
        rintro e w4 ⟨rfl, k4⟩
        have KA : Hid (Kept (fun _ => False) wp (w4.alloc (.cells #[.int .i64 0, .slice none 0 0] 38))) := k4.calm2 (Kept.alloc w4 _)
        have A4 : Hid ((w4.alloc (.cells #[.int .i64 0, .slice none 0 0] 38)).heap[w4.heap.size]? = some (.cells #[.int .i64 0, .slice none 0 0] 38 (0, 0))) := heap_alloc_new w4 _
        have D4 := hide (HD.out.calm KA.out)
        have K4 : Hid (Kept (fun j => w1.heap.size ≤ j) w1 (w4.alloc (.cells #[.int .i64 0, .slice none 0 0] 38))) := HK.out.join KA.out (fun _ _ e => e) (fun _ _ e => e.elim)
        clear k4 HD
        go_wp2_with fail
        obtain ⟨wA, hwA⟩ : ∃ wA, w4.alloc (.cells #[.int .i64 0, .slice none 0 0] 38) = wA := ⟨_, rfl⟩
        rw [hwA] at D4 A4 K4 KA ⊢
        clear hwA
        refine D4.out.at1.mono ?_
        rintro e wp2 ⟨rfl, rfl⟩
        go_wp2_with fail
        refine (D4.out.swap.seek0 n (by have := HTT.out; have := HOU.out; omega)).mono ?_
        rintro e w5 ⟨rfl, k5⟩
        have KB : Hid (Kept (fun _ => False) wp2 (w5.alloc (.cells #[.int .i64 0, .slice none 0 0] 38))) := k5.calm2 (Kept.alloc w5 _)
        have A5 : Hid ((w5.alloc (.cells #[.int .i64 0, .slice none 0 0] 38)).heap[w4.heap.size]? = some (.cells #[.int .i64 0, .slice none 0 0] 38 (0, 0))) := by
          show _ = _
          rw [KB.out.block _ (heap_lt A4.out) (fun e => e)]
          exact A4.out
        have B5 : Hid ((w5.alloc (.cells #[.int .i64 0, .slice none 0 0] 38)).heap[w5.heap.size]? = some (.cells #[.int .i64 0, .slice none 0 0] 38 (0, 0))) := heap_alloc_new w5 _
        obtain ⟨x0, x1, -, -⟩ := two_cells A5.out
        obtain ⟨y0, y1, -, -⟩ := two_cells B5.out
        clear k5
        go_wp2_with fail
        obtain ⟨wB, hwB⟩ : ∃ wB, w5.alloc (.cells #[.int .i64 0, .slice none 0 0] 38) = wB := ⟨_, rfl⟩
        rw [hwB] at A5 B5 KB x0 x1 y0 y1 ⊢
        clear hwB
        refine (same_k 0 0 none none 0 0 [] [] wB (fun e => absurd rfl e) (fun e => absurd rfl e) (by decide)).mono ?_
        rintro e w6 ⟨b6, rfl, hb6, k6⟩
        obtain rfl : b6 = true := hb6 rfl rfl (fun m hm => by cases hm)
        have K6 := hide (KB.out.calm2 k6)
        clear hb6 k6 x0 x1 y0 y1
        rcases hcase with hneg | ⟨hpos, hbig⟩
        · go_wp2
          go_roundw
          case rel => exact ⟨i + 1, k, k2, F1, F2, by omega, by go_num, hkK, D4.out.calm K6.out, K4.out.join K6.out (fun _ _ e => e) (fun _ _ e => e.elim)⟩
          case measure => simp [intOf]; omega
        · go_wp2
          go_roundw
          case rel => exact ⟨i + 1, k, k2, F1, F2, by omega, by go_num, hkK, D4.out.calm K6.out, K4.out.join K6.out (fun _ _ e => e) (fun _ _ e => e.elim)⟩
          case measure => simp [intOf]; omega
    · have hb2 : ¬ (i : Int) < (zs.length : Int) := by omega
      go_wp2
      go_ret
      exact ⟨rfl, KW.out.below _ (Nat.le_refl _) (fun _ _ e => by omega)⟩
end Go.Proofs.YtlfmfhmbkpnjbaaGreatDoor

namespace Go.Proofs.YtlfmfhmbkpnjbaaGreatDoor.laidP
open Go.ChangeShapes Go.WideShapes Go.ChangeAt Go.RowKit Go.Deep
set_option linter.unusedVariables false
set_option maxRecDepth 100000

theorem own : ownKnob Tryz.prog.godebug = none := by kernel_rfl
theorem laidOut : laidOutB Tryz.prog = true := by kernel_rfl
theorem cellsL : Tryz.prog.cellsOf 26 = 1 := by kernel_rfl

theorem inner {H : Type} {enc : TypeId × Value → H} {W : World} {spare : Nat → Bool} {held : Bool} {n : Nat} {cs : List Value} {x : DataW H × List MemPlace} (h : DataW.trod enc Tryz.prog W 0 spare held n 26 cs = some x) :
    ∃ p c, ∃ zs : List Int, cs = [.slice p zs.length c] ∧ ((zs.length : Nat) : Int) ≤ 9223372036854775807 ∧ RZ W p zs := by
  rcases open_ints Tryz.underlying26 Tryz.underlying3 (by kernel_rfl) h with ⟨hcs, _⟩ | ⟨x, l, c, zs, hcs, _, hl, hm, hz, _, hcell, hwz⟩
  · exact ⟨none, 0, [], hcs, by decide, fun e => absurd rfl e⟩
  · have hz' : l ≤ zs.length := by rw [hz]; split <;> omega
    have hlen : (zs.take l).length = l := by rw [List.length_take]; omega
    refine ⟨some x, c, zs.take l, by rw [hlen]; exact hcs, by rw [hlen]; unfold maxLen at hm; omega, fun hne => ?_⟩
    have hpos : 0 < l := by
      by_cases e : 0 < l
      · exact e
      · exact absurd (List.eq_nil_of_length_eq_zero (by rw [hlen]; omega)) hne
    obtain ⟨b, off, spot⟩ := x
    have h0 := hcell 0 (by omega)
    have e : (⟨b, off, spot⟩ : Addr).add 0 = ⟨b, off, spot⟩ := by simp [Addr.add]
    rw [e] at h0
    obtain rfl := World.cell?_spot h0
    refine ⟨b, off, rfl, World.block_lt_of_cell? (w := W) (a := ⟨b, off, none⟩) h0, fun j z hj => ?_⟩
    have hjl : j < l := by
      have := (List.getElem?_eq_some_iff.1 hj).1
      omega
    have hj' := hcell j (by omega)
    rw [addr_add2] at hj'
    have hzj : zs.getD j 0 = z := by
      rw [List.getElem?_take, if_pos hjl] at hj
      simp [List.getD, hj]
    rw [hzj] at hj'
    refine ⟨?_, hj'⟩
    have h6 := range_i64 hwz j
    have h7 : zs[j]?.getD 0 = z := hzj
    rw [h7] at h6
    exact h6

theorem lists_at {W : World} {b off : Nat} (n : Nat) (h : ∀ j, j < n → ∃ p c, ∃ zs : List Int, W.cell? ⟨b, off + j, none⟩ = some (.slice p zs.length c) ∧ ((zs.length : Nat) : Int) ≤ 9223372036854775807 ∧ RZ W p zs) :
    ∃ zss : List (List Int), zss.length = n ∧ ∀ j zs, zss[j]? = some zs → ∃ p c, W.cell? ⟨b, off + j, none⟩ = some (.slice p zs.length c) ∧ ((zs.length : Nat) : Int) ≤ 9223372036854775807 ∧ RZ W p zs := by
  induction n with
  | zero => exact ⟨[], rfl, fun j zs hj => by simp at hj⟩
  | succ m ih =>
    obtain ⟨zss, hl, hr⟩ := ih (fun j hj => h j (by omega))
    obtain ⟨p, c, zs, h1, h2, h3⟩ := h m (by omega)
    refine ⟨zss ++ [zs], by simp [hl], fun j ys hj => ?_⟩
    by_cases hlt : j < zss.length
    · rw [List.getElem?_append_left hlt] at hj
      exact hr j ys hj
    · have hjl := (List.getElem?_eq_some_iff.1 hj).1
      have hjm : j = m := by simp at hjl; omega
      subst hjm
      rw [List.getElem?_append_right (by omega), show j - zss.length = 0 from by omega] at hj
      obtain rfl : zs = ys := by simpa using hj
      exact ⟨p, c, h1, h2, h3⟩

theorem open_lists {H : Type} {enc : TypeId × Value → H} {W : World} {a0 : Option Addr} {len0 cap0 : Nat} {d0 : DataW H} {p0 : List MemPlace} (h0 : DataW.Trod enc Tryz.prog W 0 (fun _ => true) true 25 (.slice a0 len0 cap0) d0 p0) :
    ∃ zss : List (List Int), zss.length = len0 ∧ ((len0 : Nat) : Int) ≤ 9223372036854775807 ∧ RTZ W a0 zss := by
  obtain ⟨fuel, hf⟩ := h0
  rcases open_slice Tryz.underlying25 hf with ⟨hcs, _⟩ | ⟨a, len, cap, m, n, D, Pl, hcs, _, hl, hcm, hmm, hx, hel⟩
  · simp [Value.cells] at hcs
    obtain ⟨rfl, rfl, rfl⟩ := hcs
    exact ⟨[], rfl, by decide, fun e => absurd rfl e⟩
  · simp [Value.cells] at hcs
    obtain ⟨rfl, rfl, rfl⟩ := hcs
    rw [cellsL] at hel
    have hlm : len0 ≤ m := by rw [hmm]; split <;> omega
    have cell : ∀ j, j < len0 → ∃ p c, ∃ zs : List Int, W.cell? (a.add j) = some (.slice p zs.length c) ∧ ((zs.length : Nat) : Int) ≤ 9223372036854775807 ∧ RZ W p zs := by
      intro j hj
      obtain ⟨cs', h1, h2⟩ := hel j (by omega)
      obtain ⟨p, c, zs, rfl, q1, q2⟩ := inner h2
      have h3 := (World.cells?_some h1).2.2 0 (by omega)
      rw [Nat.mul_one] at h3
      have e : (a.add j).add 0 = a.add j := by simp [Addr.add]
      rw [e] at h3
      exact ⟨p, c, zs, h3, q1, q2⟩
    by_cases hpos : 0 < len0
    · obtain ⟨b, off, spot⟩ := a
      obtain ⟨p, c, zs, h3, _⟩ := cell 0 hpos
      have e : (⟨b, off, spot⟩ : Addr).add 0 = ⟨b, off, spot⟩ := by simp [Addr.add]
      rw [e] at h3
      obtain rfl := World.cell?_spot h3
      obtain ⟨zss, hz1, hz2⟩ := lists_at (W := W) (b := b) (off := off) len0 (fun j hj => by
        obtain ⟨p, c, zs, h4, h5, h6⟩ := cell j hj
        rw [addr_add2] at h4
        exact ⟨p, c, zs, h4, h5, h6⟩)
      exact ⟨zss, hz1, by unfold maxLen at hcm; omega, fun _ => ⟨b, off, rfl, World.block_lt_of_cell? (w := W) (a := ⟨b, off, none⟩) h3, hz2⟩⟩
    · exact ⟨[], by simp; omega, by omega, fun e => absurd rfl e⟩

theorem open_list {H : Type} {enc : TypeId × Value → H} {W : World} {a0 : Option Addr} {len0 cap0 : Nat} {d0 : DataW H} {p0 : List MemPlace} (h0 : DataW.Trod enc Tryz.prog W 0 (fun _ => true) true 26 (.slice a0 len0 cap0) d0 p0) :
    ∃ zs : List Int, zs.length = len0 ∧ ((len0 : Nat) : Int) ≤ 9223372036854775807 ∧ RZ W a0 zs := by
  obtain ⟨fuel, hf⟩ := h0
  obtain ⟨p, c, zs, hcs, h1, h2⟩ := inner hf
  simp [Value.cells] at hcs
  obtain ⟨rfl, rfl, rfl⟩ := hcs
  exact ⟨zs, rfl, h1, h2⟩

/-- What is laid. -/
def laid5 : List (String × DataW Unit) := [("math/bits.deBruijn32tab", Rows.laid_math_bits_deBruijn32tab), ("math/bits.deBruijn64tab", Rows.laid_math_bits_deBruijn64tab), ("internal/strconv.uint64pow10", Rows.laid_internal_strconv_uint64pow10), ("strconv.ErrRange", Rows.laid_strconv_ErrRange), ("strconv.ErrSyntax", Rows.laid_strconv_ErrSyntax)]

theorem door_met0 (os : Os) (args : Array Value) : laidMet Tryz.prog laid5 ((World.doorLaid Tryz.prog 4000 os).forCall (fun _ _ => 0) ⟨#[], args, []⟩).memory :=
  laidMet_of_run' 8 (by kernel_rfl) (by kernel_rfl)
theorem door_met (os : Os) (args : Array Value) : laidMetH Tryz.prog laid5 ((World.doorLaid Tryz.prog 4000 os).forCall (fun _ _ => 0) ⟨#[], args, []⟩).memory := by
  rw [MakeChecks.laidMetH_plain _ _ _ (by kernel_rfl)]
  exact door_met0 os args

theorem star : "*" ++ "errors.errorString" = "*errors.errorString" := by decide
theorem rowE (u : TypeId) (h : Tryz.prog.typeName? 3 u = some "*errors.errorString") : u = 227 :=
  typeName_ptr_named (nm := "errors.errorString") (by rw [star]; kernel_rfl) (by kernel_rfl) (by decide) u (by rw [star]; exact h)
theorem gR : Tryz.prog.globalNamed "strconv.ErrRange" = some 3 := by kernel_rfl
theorem gS : Tryz.prog.globalNamed "strconv.ErrSyntax" = some 2 := by kernel_rfl
theorem gRT : (Tryz.prog.globals[3]?).map (·.type) = some 100 := by kernel_rfl
theorem gST : (Tryz.prog.globals[2]?).map (·.type) = some 100 := by kernel_rfl
theorem cellsE : Tryz.prog.cellsOf 229 = 1 := by kernel_rfl
theorem cellsS : Tryz.prog.cellsOf 9 = 1 := by kernel_rfl

theorem of_laid {W : World} (h : laidMetH Tryz.prog laid5 W) : Errs W := by
  rw [MakeChecks.laidMetH_plain _ _ _ (by kernel_rfl)] at h
  have h2 := h.tail
  have h3 := h2.tail
  have h4 := h3.tail
  have h5 := h4.tail
  refine ⟨⟨?_, ?_⟩, ?_, ?_⟩
  · have t := Lib.tabIs_of_head (k := .u8) (zs := Lib.deBruijn64tab.map (fun n : Nat => (n : Int))) (g := 6) (t := 232) (e := 5) (n := 64) (by kernel_rfl) (by kernel_rfl) Tryz.underlying232 Tryz.underlying5 (by kernel_rfl) (by kernel_rfl) (h2 : laidMet Tryz.prog (("math/bits.deBruijn64tab", Lib.tabData .u8 (Lib.deBruijn64tab.map (fun n : Nat => (n : Int)))) :: _) W)
    have := t.cell (g := 6) (by kernel_rfl) 15 (by decide)
    exact this
  · exact Lib.tabIs_of_head (k := .u64) (zs := Lib.pow10Tab) (g := 4) (t := 223) (e := 189) (n := 20) (by kernel_rfl) (by kernel_rfl) Tryz.underlying223 Tryz.underlying189 (by kernel_rfl) (by kernel_rfl) (h3 : laidMet Tryz.prog (("internal/strconv.uint64pow10", Lib.tabData .u64 Lib.pow10Tab) :: _) W)
  · obtain ⟨a, s, hv, _, _, _⟩ := laid_sentinel h5 gS gST Tryz.underlying100 rowE Tryz.underlying227 Tryz.underlying229 rfl rfl Tryz.underlying9 cellsE cellsS
    exact ⟨_, _, by simpa using World.var?_cell gS hv 0⟩
  · obtain ⟨a, s, hv, _, _, _⟩ := laid_sentinel h4 gR gRT Tryz.underlying100 rowE Tryz.underlying227 Tryz.underlying229 rfl rfl Tryz.underlying9 cellsE cellsS
    exact ⟨_, _, by simpa using World.var?_cell gR hv 0⟩
end Go.Proofs.YtlfmfhmbkpnjbaaGreatDoor.laidP

namespace Go.Proofs.YtlfmfhmbkpnjbaaGreatDoor.walkedP
open Go.ChangeShapes Go.WideShapes Go.ChangeAt Go.RowKit Go.Deep
open laidP
set_option linter.unusedVariables false
set_option maxRecDepth 100000

theorem lifted (os : Os) (started : os.Started) (H : Type) (enc : TypeId × Value → H) :
    ReturnsInHanded {} Tryz.checked os 6 .any (fun w args => (Rows.walkedSpec.pre enc Tryz.prog Tryz.f6 [] false w args ∧ laidMetH Tryz.prog laid5 w) ∧ sizedMet enc Tryz.prog Tryz.f6 (OpenSpec.ofChange Rows.walkedSpec) false w args)
      (Rows.walkedSpec.post enc Tryz.prog Tryz.f6 false true false false) := by
  refine returnsInHanded_of_change_and (C := Tryz.checked) (X := fun w _ => laidMetH Tryz.prog laid5 w) (fun _ _ _ hh h => h.of_heap hh) own started (by kernel_rfl) Tryz.func6
    (ChangeSpec.witness_shaped (enc := enc) (C := Tryz.checked) (os := os) (X := fun w _ => laidMetH Tryz.prog laid5 w) false (World.doorLaid Tryz.prog 4000 os) #[.int .i64 0, .slice none 0 0, .slice none 0 0] 8 rfl (World.shaped_of_RefB (by kernel_rfl) (by kernel_rfl)) (by kernel_rfl) (by kernel_rfl) (by kernel_rfl) (door_met os _)) ?_
  intro W base args ds gs before hval0 hW _ _ hL _
  have hval : ∀ (j : Nat) t v, Tryz.f6.params[j]? = some t → args[j]? = some v → Value.okWide Tryz.prog W .any base t v := hval0
  have hW' := hW
  obtain ⟨p, q, hA0, hV, rfl, hfz, hnd⟩ := hW
  have hA : DataW.TrodAll enc Tryz.prog W 0 (fun _ => true) true Tryz.f6.params.toList args.toList ds p := hA0
  rw [Tryz.params6] at hA hval
  obtain ⟨v0, vs0, d0, ds0, p0, q0, hargs, rfl, rfl, h0, r0⟩ := trodAll_cons hA
  obtain ⟨v1, vs1, d1, ds1, p1, q1, rfl, rfl, rfl, h1, r1⟩ := trodAll_cons r0
  obtain ⟨v2, vs2, d2, ds2, p2, q2, rfl, rfl, rfl, h2, r2⟩ := trodAll_cons r1
  obtain ⟨rfl, rfl, rfl⟩ := trodAll_nil r2
  obtain rfl : args = #[v0, v1, v2] := by cases args; simp_all
  obtain ⟨rfl, rfl⟩ := trodVars_none hV
  obtain ⟨a1, len1, cap1, rfl⟩ := okWide_slice Tryz.underlying25 (hval 1 25 v1 rfl rfl)
  obtain ⟨a2, len2, cap2, rfl⟩ := okWide_slice Tryz.underlying26 (hval 2 26 v2 rfl rfl)
  have k1 := h1
  have k2 := h2
  have lt1 : ∀ x ∈ p1, x.block < W.heap.size := by obtain ⟨m, hm⟩ := k1; exact DataW.trod_lt m _ _ _ hm
  have lt2 : ∀ x ∈ p2, x.block < W.heap.size := by obtain ⟨m, hm⟩ := k2; exact DataW.trod_lt m _ _ _ hm
  obtain ⟨a0, rfl, rfl, rfl, w0⟩ := open_int Tryz.underlying3 (hval 0 3 v0 rfl rfl) h0
  clear hA0 hval0
  obtain ⟨zss1, rfl, hn1, hR1⟩ := open_lists h1
  obtain ⟨zs2, rfl, hn2, hR2⟩ := open_list h2
  refine (walked_walk a0 a1 a2 zss1 zs2 cap1 cap2 W (bounds_i64 w0) hn1 hn2 hR1 hR2 (of_laid hL)).mono fun e W' ⟨he, bel⟩ => ?_
  subst he
  exact ⟨_, rfl, _, _, _, [], _, [], hW', trodAll_mk1 (shut_bool Tryz.underlying4 _), (trodAll_cons_mk (shut_int Tryz.underlying3 w0) (trodAll_cons_mk (Below.trod laidOut (by kernel_rfl) (of_decide_eq_true (by kernel_rfl)) k1 bel lt1) (trodAll_cons_mk (Below.trod laidOut (by kernel_rfl) (of_decide_eq_true (by kernel_rfl)) k2 bel lt2) trodAll_mk0))), rfl, bel.frame _, fun h => by cases h⟩

theorem over : Rows.WalkedSaid :=
  OpenClaim.holds_of_wide 6 Tryz.f6 rfl rfl rfl rfl rfl rfl rfl ⟨rfl, rfl, rfl, rfl, rfl⟩ rfl rfl rfl rfl rfl (by kernel_rfl) Tryz.func6 (by kernel_rfl)
    (of_decide_eq_true (by kernel_rfl)) (by unfold Func.isWrapper; first | (rw [if_pos (by decide +kernel)]; kernel_rfl) | (rw [if_neg (by decide +kernel)]; exact ⟨rfl, rfl⟩))
    (fun os started H enc _ => lifted os started H enc)
end Go.Proofs.YtlfmfhmbkpnjbaaGreatDoor.walkedP

namespace Go.Proofs.YtlfmfhmbkpnjbaaGreatDoor
theorem walked_holds : Rows.WalkedCardSaid :=
  Claim7.holds_tied_plain_at .later [] [.data, .data, .data, .sentinel, .sentinel] true (true, "de327b41a66542c32e6ac8a13bc9f5b17f69e4109b6199f7c0cc9202a2eeede6") true
    walkedP.over (fun _ h => by cases h) (by kernel_rfl) (fun _ h => by cases h) walked_row_tie rfl ⟨rfl, rfl⟩ (by kernel_rfl) rfl
    (fun f fn hf hfn => by
      obtain rfl : f = 6 := Option.some.inj ((show Tryz.prog.funcNamed "encore/encorekeep.Walked" = some 6 by kernel_rfl).symm.trans hf) |>.symm
      obtain rfl : fn = Tryz.f6 := (Option.some.inj (Tryz.func6.symm.trans hfn)).symm
      exact ⟨by kernel_rfl, fun j t ht => by
        rw [Tryz.params6] at ht
        have hm : t ∈ [3, 25, 26] := by simpa using Array.mem_of_getElem? ht
        have hall : ([3, 25, 26].all fun u => !Tryz.prog.wantsStandIn u) = true := by kernel_rfl
        exact (show Tryz.prog.wantsStandIn t = false by simpa using List.all_eq_true.1 hall t hm)⟩)
    (by kernel_rfl)
#print axioms walked_holds
end Go.Proofs.YtlfmfhmbkpnjbaaGreatDoor
