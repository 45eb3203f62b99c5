import Derived.Test.YtlfmfhmbkpnjbaaGreatDoorPz40
import Derived.Test.YtlfmfhmbkpnjbaaGreatDoorPz22
import Derived.Test.YtlfmfhmbkpnjbaaGreatDoorPz43
import Derived.Test.YtlfmfhmbkpnjbaaGreatDoorRows
import Derived.Test.YtlfmfhmbkpnjbaaGreatDoorCards
import Derived.Test.YtlfmfhmbkpnjbaaGreatDoorTie
import Derived.SevenTiedAt
import Derived.Deep.Slices
import Derived.ProofKit
import Derived.LaidMore
import Derived.OpenShut
import Derived.ShutString
import Derived.ChangeOld
import Derived.Below
import Derived.Stop.Joined
import Derived.Stop.LaidErr
import Derived.Lib.TrailingZeros
import Derived.Deep.DeepHandedRow
import Derived.Lib.LaidTab
namespace Go.Proofs.YtlfmfhmbkpnjbaaGreatDoor
open Go.RowKit

theorem minv_first6 {w : World} {B bk : Nat} (hB : B ≤ bk) (h : w.heap[bk]? = some (.cells #[.slice none 0 0, .slice none 0 0, .slice none 0 0, .slice none 0 0, .int .i64 6] 51 (0, 0))) :
    MInv B w bk (.slice none 0 0) (.slice none 0 0) 6 (.slice none 0 0) [] [] where
  book := ⟨h, ⟨rfl, Or.inl ⟨rfl, rfl⟩⟩, (fun i hi => absurd hi (Nat.not_lt_zero _)), (fun i hi => absurd hi (Nat.not_lt_zero _)), (fun i hi => absurd hi (Nat.not_lt_zero _)), rfl⟩
  blow := hB
  elow := fun j hj => by cases hj
  list := ⟨rfl, Or.inl ⟨rfl, rfl⟩⟩
  llow := fun j hj => by cases hj
  each := fun i hi => absurd hi (Nat.not_lt_zero _)
  low := fun i hi => absurd hi (Nat.not_lt_zero _)
  apart := fun i hi => absurd hi (Nat.not_lt_zero _)

/-- The world behind the first rows of 'UpTo'. -/
def laidA (w : World) : World :=
  ((w.alloc (.cells #[.slice none 0 0, .slice none 0 0, .slice none 0 0, .slice none 0 0, .int .i64 6] 51)).alloc
    (.cells #[.int .i64 1, .int .i64 3, .int .i64 0, .float .f32 1092616192, .float .f32 1148829696, .int .i64 0, .int .i64 2, .int .i64 3, .int .i64 0, .float .f32 1082130432, .float .f32 1073741824, .int .i64 0] 57)).alloc
    (.cells #[.int .i64 1, .int .i64 0, .int .i64 2, .slice none 0 0, .int .i64 2, .int .i64 0, .int .i64 0, .slice (some ⟨w.heap.size + 1, 0, none⟩) 2 2, .int .i64 2, .int .i64 0, .int .i64 0, .slice none 0 0, .int .i64 2, .int .i64 0, .int .i64 0, .slice none 0 0, .int .i64 3, .int .i64 0, .int .i64 (-1), .slice none 0 0, .int .i64 4, .int .i64 0, .int .i64 3, .slice none 0 0, .int .i64 5, .int .i64 0, .int .i64 (-1), .slice none 0 0] 54)
theorem laidA_kept (w : World) : Kept (fun _ => False) w (laidA w) := ((Kept.alloc _ _).calm2 (Kept.alloc _ _)).calm2 (Kept.alloc _ _)
theorem laidA_inv (w : World) : MInv w.heap.size (laidA w) w.heap.size (.slice none 0 0) (.slice none 0 0) 6 (.slice none 0 0) [] [] := by
  refine minv_first6 (Nat.le_refl _) ?_
  unfold laidA
  rw [((Kept.alloc _ _).calm2 (Kept.alloc _ _)).block w.heap.size (by simp) (fun e => e)]
  exact heap_alloc_new w _
theorem laidA_ops (w : World) : RO w.heap.size (laidA w) (some ⟨w.heap.size + 2, 0, none⟩) 7 (fun j o => j = 0 → o.k = 1 ∧ o.n = 2) := by
  refine first_ops (cb := w.heap.size + 1) ?_ ?_
  · unfold laidA
    rw [(Kept.alloc _ _).block (w.heap.size + 1) (by simp) (fun e => e)]
    have := heap_alloc_new (w.alloc (.cells #[.slice none 0 0, .slice none 0 0, .slice none 0 0, .slice none 0 0, .int .i64 6] 51)) (.cells #[.int .i64 1, .int .i64 3, .int .i64 0, .float .f32 1092616192, .float .f32 1148829696, .int .i64 0, .int .i64 2, .int .i64 3, .int .i64 0, .float .f32 1082130432, .float .f32 1073741824, .int .i64 0] 57)
    simpa using this
  · unfold laidA
    have h2 : ((w.alloc (.cells #[.slice none 0 0, .slice none 0 0, .slice none 0 0, .slice none 0 0, .int .i64 6] 51)).alloc (.cells #[.int .i64 1, .int .i64 3, .int .i64 0, .float .f32 1092616192, .float .f32 1148829696, .int .i64 0, .int .i64 2, .int .i64 3, .int .i64 0, .float .f32 1082130432, .float .f32 1073741824, .int .i64 0] 57)).heap.size = w.heap.size + 2 := by simp
    rw [← h2]
    exact heap_alloc_new _ _

theorem laidA_ainv (w : World) : AInv w.heap.size (laidA w) w.heap.size (.slice none 0 0) (.slice none 0 0) (.slice none 0 0) [] [] [] where
  m := laidA_inv w
  hist := fun i hi => absurd hi (Nat.not_lt_zero _)
  list := ⟨rfl, Or.inl ⟨rfl, rfl⟩⟩
  llow := fun j hj => by cases hj
  each := fun i hi => absurd hi (Nat.not_lt_zero _)
  low := fun i hi => absurd hi (Nat.not_lt_zero _)
  apart := fun i hi => absurd hi (Nat.not_lt_zero _)
  sbs := fun i hi => absurd hi (Nat.not_lt_zero _)
  dis := fun i hi => absurd hi (Nat.not_lt_zero _)
  pre := fun i hi => absurd hi (Nat.not_lt_zero _)

set_option maxHeartbeats 4000000 in
set_option maxRecDepth 100000 in
theorem uptoA_c (p : Option Addr) (n cap : Nat) (w : World) (hn : n ≤ 1048576) (hE : Errs w) (hR : RO w.heap.size w p n (fun _ _ => True)) :
    Calls Tryz.prog 7 #[.slice p n cap, .int .i64 6] w fun e w' => e = .returned (.int .i64 (-1)) ∧ Below w.heap.size w w' := by
  have HE := hide (hE.calm (laidA_kept w))
  have hT := hE.tabs
  have hMS := hide hE.mine_size
  have HR := hide (hR.calm (laidA_kept w))
  have HF := hide (laidA_ops w)
  have HI := hide (laidA_ainv w)
  have HK0 := hide (laidA_kept w)
  have hB2 := hT.pow_lt
  have hB4 : 6 < w.heap.size := World.block_lt_of_cell? w ⟨6, 15, none⟩ hT.four
  have hBs := (laidA_kept w).size
  have hnb : (n : Int) ≤ 9223372036854775807 := by omega
  clear hT hR hE
  go_enter Tryz.func7, Tryz.ntmps7
  go_wp2
  obtain ⟨ws, hws⟩ : ∃ ws, ws = laidA w := ⟨_, rfl⟩
  rw [← hws] at HE HR HF HI HK0 hBs
  unfold laidA at hws
  rw [← hws]
  clear hws
  generalize hBn : w.heap.size = B at *
  go_loopw [7] (fun a wr => ∃ (i : Nat) (mv sv ev : Value) (Q : List Els) (D : List MD) (X : List SD), a = .int .i64 i ∧ i ≤ 7 ∧ Hid (AInv B wr B mv sv ev Q D X) ∧ Hid (0 < i → 0 < D.length) ∧ D.length ≤ i ∧ X.length ≤ i ∧ Q.length ≤ 4 * i ∧ Hid (Kept (Far ws B) ws wr)) (fun a _ => 7 - (intOf a).toNat)
  case atStart => exact ⟨0, _, _, _, [], [], [], rfl, Nat.zero_le _, HI.out, (fun e => absurd e (Nat.not_lt_zero _) : _ → _), Nat.zero_le _, Nat.zero_le _, Nat.zero_le _, Kept.refl _ _⟩
  case round =>
    obtain ⟨i, mv, sv, ev, Q, D, X, rfl, hi, HM, HD0, hDl, hXl, hQl, HK⟩ := hrel
    have hBr : B ≤ wr.heap.size := Nat.le_trans hBs HK.out.size
    have HEr := hide (HE.out.far hMS.out (HK.out.mono (fun _ _ e => e.1)))
    by_cases hlt : i < 7
    · have hb2 : (i : Int) < 7 := by omega
      have hb1 : (0 : Int) ≤ (i : Int) := by omega
      obtain ⟨b, off, hp, hb, -, hj⟩ := (HF.out.keep HK.out) (by decide)
      obtain ⟨o, hP, ho, q0, q1, q2, q3⟩ := hj i hlt
      simp only [Option.some.injEq, Addr.mk.injEq, and_true] at hp
      obtain ⟨rfl, rfl⟩ := hp
      rw [Nat.zero_add] at q0 q1 q2 q3
      have hk2 : o.k = 2 ∨ o.k = 3 → 0 < D.length := fun e => by
        by_cases h0 : i = 0
        · have := (hP h0).1; omega
        · exact HD0.out (by omega)
      have HS := hide (stepA_c B B mv sv ev Q D X o wr HM.out hBr HEr.out hB4 hB2 (by omega) (by omega) hk2 (by omega) ho)
      have HP := hide hP
      clear hP ho hj hk2
      go_wp2_with fail
      refine HS.out.mono ?_
      rintro e w2 ⟨rfl, mv', sv', ev', Q', D', X', h1, h2, h3, hx3, h4, h5, k2⟩
      have HM2 := hide h1
      have H4 := hide h4
      have HK2 := hide (Far.join HK.out k2)
      clear h1 h4 k2 q0 q1 q2 q3 HS
      go_wp2
      go_roundw
      case rel => exact ⟨i + 1, mv', sv', ev', Q', D', X', by go_num, by omega, HM2.out, (fun _ => by
        by_cases h0 : i = 0
        · obtain ⟨e1, e2⟩ := HP.out h0
          exact H4.out ⟨e1, by omega, by omega⟩
        · have := HD0.out (by omega); omega : _ → _), by omega, by omega, by omega, HK2.out⟩
      case measure => simp [intOf]; omega
    · have hD0 := HD0.out (by omega)
      have hb2 : ¬ (i : Int) < 7 := by omega
      go_wp2
      have HMs := hide HM.out
      have HKs := hide HK.out
      have HD7 : D.length ≤ 7 := by omega
      have HX7 : X.length ≤ 7 := by omega
      have HQ7 : Q.length ≤ 28 := by omega
      clear HM HK HEr hBr hi HD0 hlt hDl hXl hQl HF HI hb2
      generalize i = i0 at *
      generalize wr = wr0 at *
      generalize u4 = v4 at *
      go_loopw [9] (fun a wr => ∃ (i : Nat) (mv sv ev : Value) (Q : List Els) (D : List MD) (X : List SD), a = .int .i64 i ∧ i ≤ n ∧ Hid (AInv B wr B mv sv ev Q D X) ∧ 0 < D.length ∧ D.length ≤ 7 + i ∧ X.length ≤ 7 + i ∧ Q.length ≤ 28 + 4 * i ∧ Hid (Kept (Far ws B) ws wr)) (fun a _ => n - (intOf a).toNat)
      case atStart => exact ⟨0, mv, sv, ev, Q, D, X, rfl, Nat.zero_le _, HMs.out, hD0, by omega, by omega, by omega, HKs.out⟩
      case round =>
        clear HMs HKs hD0 HD7 HX7 HQ7
        clear mv sv ev Q D X
        obtain ⟨i, mv, sv, ev, Q, D, X, rfl, hi, HM, hD0, hDl, hXl, hQl, HK⟩ := hrel
        have hBr : B ≤ wr.heap.size := Nat.le_trans hBs HK.out.size
        have HEr := hide (HE.out.far hMS.out (HK.out.mono (fun _ _ e => e.1)))
        by_cases hlt : i < n
        · have hb2 : (i : Int) < (n : Int) := by omega
          have hb1 : (0 : Int) ≤ (i : Int) := by omega
          obtain ⟨b, off, rfl, hb, -, hj⟩ := (HR.out.keep HK.out) (by omega)
          obtain ⟨o, -, ho, q0, q1, q2, q3⟩ := hj i hlt
          have HS := hide (stepA_c B B mv sv ev Q D X o wr HM.out hBr HEr.out hB4 hB2 (by omega) (by omega) (fun _ => hD0) (by omega) ho)
          clear ho hj
          go_wp2_with fail
          refine HS.out.mono ?_
          rintro e w2 ⟨rfl, mv', sv', ev', Q', D', X', h1, h2, h3, hx3, -, h5, k2⟩
          have HM2 := hide h1
          have HK2 := hide (Far.join HK.out k2)
          clear h1 k2 q0 q1 q2 q3 HS HK HM HEr
          go_wp2_with fail
          refine (wholeF B mv' sv' 6 ev' Q' w2 (by omega) HM2.out.m.book).mono ?_
          rintro e w3 ⟨rfl, k3⟩
          have HM3 := hide (HM2.out.calm k3)
          have HK3 := hide (Far.join HK2.out k3.far)
          clear k3 HM2 HK2
          go_wp2
          go_roundw
          case rel => exact ⟨i + 1, mv', sv', ev', Q', D', X', by go_num, by omega, HM3.out, by omega, by omega, by omega, by omega, HK3.out⟩
          case measure => simp [intOf]; omega
        · have hb2 : ¬ (i : Int) < (n : Int) := by omega
          go_wp2
          have HMs := hide HM.out
          have HKs := hide HK.out
          obtain ⟨ao, cp, rfl⟩ : ∃ ao cp, sv = .slice ao X.length cp := by
            rcases HM.out.list.2 with ⟨rfl, h0⟩ | ⟨g, cp, _, rfl, _⟩
            · exact ⟨none, 0, by rw [h0]⟩
            · exact ⟨_, _, rfl⟩
          have hXb : X.length ≤ 1100000 := by omega
          have hQb : Q.length ≤ 1000000000 := by omega
          clear HM HK HEr hBr hi hlt hDl hXl hQl hb2 hD0
          generalize wr = wx at *
          generalize u4 = v44 at *
          generalize i = i00 at *
          go_loopw [12] (fun a wr => ∃ (i : Nat), a = .int .i64 i ∧ i ≤ X.length ∧ Hid (AInv B wr B mv (.slice ao X.length cp) ev Q D X) ∧ Hid (Kept (Far ws B) ws wr)) (fun a _ => X.length - (intOf a).toNat)
          case atStart => exact ⟨0, rfl, Nat.zero_le _, HMs.out, HKs.out⟩
          case round =>
            clear HMs HKs
            obtain ⟨i, rfl, hi, HM, HK⟩ := hrel
            obtain ⟨c0, c1, c2, c3, c4, cf⟩ := five_cells HM.out.m.book.blk
            by_cases hlt : i < X.length
            · have hb1 : (0 : Int) ≤ (i : Int) := by omega
              have hb2 : (i : Int) < (X.length : Int) := by omega
              obtain ⟨g, hao⟩ : ∃ g, ao = some ⟨g, 0, none⟩ := by
                rcases HM.out.list.2 with ⟨_, h0⟩ | ⟨g, cp', _, e, _⟩
                · omega
                · injection e with e1
                  exact ⟨g, e1⟩
              subst hao
              have cg : wr.cell? ⟨g, i, none⟩ = some (ptrS X[i]) := by
                have h2 := HM.out.list.cells (g := g) rfl i (ptrS X[i]) (by simp [hlt])
                rwa [addr_add2, Nat.zero_add] at h2
              obtain ⟨pa, hpa⟩ : ∃ pa, ptrS X[i] = .pointer (some pa) := ⟨_, rfl⟩
              have HPL : Hid (Calls Tryz.prog 18 #[.pointer (some ⟨B, 0, none⟩), .pointer (some pa), .agg #[.int .i64 6, .int .i64 0, .int .i64 0, .slice none 0 0]] wr fun e w' => e = .returned (.bool true) ∧ Kept (fun _ => False) wr w') := by
                rw [← hpa]
                exact plays_told B B mv (.slice (some ⟨g, 0, none⟩) X.length cp) ev Q D X i hlt ⟨6, 0, 0, none, 0, []⟩ wr HM.out (by decide) (by decide)
              rw [hpa] at cg
              clear hpa
              go_wp2_with fail
              refine HPL.out.mono ?_
              rintro e w2 ⟨rfl, k2⟩
              have HM2 := hide (HM.out.calm k2)
              have HK2 := hide (Far.join HK.out k2.far)
              clear k2 HPL HM HK c0 c1 c2 c3 c4 cf cg
              go_wp2
              go_roundw
              case rel => exact ⟨i + 1, by go_num, by omega, HM2.out, HK2.out⟩
              case measure => simp [intOf]; omega
            · have hb2 : ¬ (i : Int) < (X.length : Int) := by omega
              go_wp2
              go_ret
              exact ⟨rfl, (HK0.out.join HK.out (R := fun j => B ≤ j) (fun _ _ e => e.elim) (fun _ _ e => e.1)).below _ (by omega) (fun j hj e => by omega)⟩

set_option maxHeartbeats 1000000 in
set_option maxRecDepth 100000 in
theorem all_walk (p : Option Addr) (n cap : Nat) (w : World) (hn : n ≤ 1048576) (hE : Errs w) (hR : RO w.heap.size w p n (fun _ _ => True)) :
    Calls Tryz.prog 4 #[.slice p n cap] w fun e w' => e = .returned (.bool true) ∧ Below w.heap.size w w' := by
  have HU := hide (uptoA_c p n cap w hn hE hR)
  clear hE hR
  go_enter Tryz.func4, Tryz.ntmps4
  go_wp2_with fail
  refine HU.out.mono ?_
  rintro e w1 ⟨rfl, hb⟩
  have HB := hide hb
  clear hb
  go_wp2
  go_ret
  exact ⟨rfl, HB.out⟩
end Go.Proofs.YtlfmfhmbkpnjbaaGreatDoor

namespace Go.Proofs.YtlfmfhmbkpnjbaaGreatDoor.allP
open Go.ChangeShapes Go.WideShapes Go.ChangeAt Go.RowKit Go.Deep
open openoP laidP
set_option linter.unusedVariables false
set_option maxRecDepth 100000

theorem contract (H : Type) (enc : TypeId × Value → H) (W : World) (base : Nat) (args : Array Value) (ds gs : List (DataW H)) (before : List MemPlace)
    (hval : ∀ (j : Nat) t v, Tryz.f4.params[j]? = some t → args[j]? = some v → Value.okWide Tryz.prog W .any base t v)
    (hW : DataW.Whole enc Tryz.prog Tryz.f4.params.toList Rows.allSpec.vars false W args.toList ds gs before) (hk : Rows.uptoSmall H (ds ++ gs) = true) (hL : laidMetH Tryz.prog laid5 W) :
    Calls Tryz.prog 4 args W fun e W' => ∃ v, e = .returned v ∧ Rows.allSpec.post enc Tryz.prog Tryz.f4 false true false false W args v W' := by
  have hW' := hW
  obtain ⟨p, q, hA0, hV, rfl, hfz, hnd⟩ := hW
  have hA : DataW.TrodAll enc Tryz.prog W 0 (fun _ => true) true Tryz.f4.params.toList args.toList ds p := hA0
  rw [Tryz.params4] at hA hval
  obtain ⟨v0, vs0, d0, ds0, p0, q0, hargs, rfl, rfl, h0, r0⟩ := trodAll_cons hA
  obtain ⟨rfl, rfl, rfl⟩ := trodAll_nil r0
  obtain rfl : args = #[v0] := by cases args; simp_all
  obtain ⟨rfl, rfl⟩ := trodVars_none hV
  have k0 := h0
  have lt0 : ∀ x ∈ p0, x.block < W.heap.size := by obtain ⟨m, hm⟩ := k0; exact DataW.trod_lt m _ _ _ hm
  clear hA0
  simp only [List.append_nil] at hk
  have hbulk : Rows.uptoBulkAll [d0] ≤ 1048576 := of_decide_eq_true hk
  simp only [Rows.uptoBulkAll] at hbulk
  obtain ⟨a1, len1, cap1, rfl⟩ := okWide_slice Tryz.underlying22 (hval 0 22 v0 rfl rfl)
  obtain ⟨hn1, hRO⟩ := open_ops h0 (by omega)
  refine (all_walk a1 len1 cap1 W hn1 (of_laid hL) hRO).mono fun e W' ⟨he, bel⟩ => ?_
  subst he
  exact ⟨_, rfl, _, _, _, [], _, [], hW', trodAll_mk1 (shut_bool Tryz.underlying4 _), (trodAll_cons_mk (Below.trod laidOut (by kernel_rfl) (of_decide_eq_true (by kernel_rfl)) k0 bel lt0) trodAll_mk0), rfl, bel.frame _, fun h => by cases h⟩

theorem reads (os : Os) {H : Type} (enc : TypeId × Value → H) : ∃ places, DataW.whole enc Tryz.prog ((World.doorLaid Tryz.prog 4000 os).forCall (fun _ _ => 0) ⟨#[], #[.slice none 0 0], []⟩).memory Tryz.f4.params.toList Rows.allSpec.vars false #[Value.slice none 0 0].toList 8 = some ([.nil], [], places) :=
  ⟨[], by kernel_rfl⟩

theorem lifted (os : Os) (started : os.Started) (H : Type) (enc : TypeId × Value → H) (F : Stop.Interp) :
    ReturnsInHanded {} Tryz.checked os 4 .any ((Rows.OpenSpec.upto Rows.allSpec).preRow enc Tryz.prog Tryz.f4 Rows.allUptoRow.domain false Rows.allUptoRow.laid) (((Rows.OpenSpec.upto Rows.allSpec).at F).post enc Tryz.prog Tryz.f4 false true false false) := by
  obtain ⟨places, hx⟩ := reads os enc
  refine returnsInHanded_of_row (C := Tryz.checked) (s := Rows.OpenSpec.upto Rows.allSpec) own started (by kernel_rfl) Tryz.func4
    (witness_row_at (enc := enc) (C := Tryz.checked) false (World.doorLaid Tryz.prog 4000 os) #[.slice none 0 0] rfl (by kernel_rfl) (by kernel_rfl) (by kernel_rfl)
      (OpenSpec.preRow_of_cond 8 hx (by kernel_rfl) (fun k hk => by cases hk; kernel_rfl) (by kernel_rfl) (door_met0 os _))) ?_
  intro W base args ds gs before hval hW _ hcond _ hL _ _
  exact contract H enc W base args ds gs before hval hW (hcond _ rfl) hL

theorem over : Rows.AllUptoSaid :=
  OpenClaim.holds_of_cond 4 Tryz.f4 rfl rfl rfl rfl rfl rfl rfl ⟨rfl, rfl, rfl, rfl, rfl⟩ rfl rfl rfl rfl rfl (by kernel_rfl) Tryz.func4 (by kernel_rfl)
    (of_decide_eq_true (by kernel_rfl)) (by unfold Func.isWrapper; first | (rw [if_pos (by decide +kernel)]; kernel_rfl) | (rw [if_neg (by decide +kernel)]; exact ⟨rfl, rfl⟩))
    (fun os started H enc _ F => by rw [OpenClaim.pre_eq_preRow]; exact lifted os started H enc F)
end Go.Proofs.YtlfmfhmbkpnjbaaGreatDoor.allP

namespace Go.Proofs.YtlfmfhmbkpnjbaaGreatDoor
theorem all_holds : Rows.AllUptoCardSaid :=
  Claim7.holds_tied_plain_at .later [] [.data, .data, .data, .sentinel, .sentinel] true (true, "de327b41a66542c32e6ac8a13bc9f5b17f69e4109b6199f7c0cc9202a2eeede6") true
    allP.over (fun _ h => by cases h) (by kernel_rfl) (fun _ h => by cases h) allUpto_row_tie rfl ⟨rfl, rfl⟩ (by kernel_rfl) rfl
    (fun f fn hf hfn => by
      obtain rfl : f = 4 := Option.some.inj ((show Tryz.prog.funcNamed "encore/encorelaw.All" = some 4 by kernel_rfl).symm.trans hf) |>.symm
      obtain rfl : fn = Tryz.f4 := (Option.some.inj (Tryz.func4.symm.trans hfn)).symm
      exact ⟨by kernel_rfl, fun j t ht => by
        rw [Tryz.params4] at ht
        have hm : t ∈ [22] := by simpa using Array.mem_of_getElem? ht
        have hall : ([22].all fun u => !Tryz.prog.wantsStandIn u) = true := by kernel_rfl
        exact (show Tryz.prog.wantsStandIn t = false by simpa using List.all_eq_true.1 hall t hm)⟩)
    (by kernel_rfl)
#print axioms all_holds
end Go.Proofs.YtlfmfhmbkpnjbaaGreatDoor
