import Derived.Test.YtgclehnhjjkdbaaDoorRecorded
import Derived.Test.YtgclehnhjjkdbaaDoorInj
namespace Go.Proofs.YtgclehnhjjkdbaaDoor
open Go.RowKit

theorem small_all (zss : List (List Int)) : ∀ cs ∈ zss.map cmdsOf, ∀ c ∈ cs, SmallC c := by
  intro cs hc
  obtain ⟨zs, _, rfl⟩ := List.mem_map.1 hc
  exact cmdsOf_small zs

theorem Match.calm {w w' w'' : World} {css : List (List Cmd)} {k g cap : Nat} {WS : List Wd} (h : Match w w' css k g cap WS) (k2 : Kept (fun _ => False) w' w'') : Match w w'' css k g cap WS :=
  ⟨h.run.keep k2 (fun _ _ e => e) (fun _ _ e => e) (fun _ e => e.elim), h.len, h.mobs⟩

set_option maxHeartbeats 4000000 in
set_option maxRecDepth 100000 in
theorem named_walk (every : Int) (q1 q2 : Option Addr) (zss1 zss2 : List (List Int)) (cap1 cap2 : Nat) (w : World) (he : I64 every) (hn1 : ((zss1.length : Nat) : Int) ≤ 9223372036854775807) (hn2 : ((zss2.length : Nat) : Int) ≤ 9223372036854775807) (h1 : RTZ w q1 zss1) (h2 : RTZ w q2 zss2) (hT : Tabs w) :
    Calls Tryd.prog 3 #[.int .i64 every, .slice q1 zss1.length cap1, .slice q2 zss2.length cap2] w fun e w' => e = .returned (.bool true) ∧ Below w.heap.size w w' := by
  have H1 := hide h1
  have H2 := hide h2
  have HT := hide hT
  clear h1 h2 hT
  go_enter Tryd.func3, Tryd.ntmps3
  go_wp2_with fail
  refine (recorded_c every q1 zss1 cap1 w he hn1 H1.out HT.out).mono ?_
  rintro e w1 ⟨g1, cp1, vs1, WS1, rfl, m1⟩
  have M1 := hide m1
  have K1 := hide m1.run.kept
  clear m1
  go_wp2_with fail
  refine (recorded_c every q1 zss1 cap1 w1 he hn1 (H1.out.calm K1.out) (HT.out.calm K1.out)).mono ?_
  rintro e w2 ⟨g2, cp2, vs2, WS2, rfl, m2⟩
  have K2 := hide (K1.out.calm2 m2.run.kept)
  have K12 := hide m2.run.kept
  clear m2
  go_wp2_with fail
  refine (recorded_c every q2 zss2 cap2 w2 he hn2 (H2.out.calm K2.out) (HT.out.calm K2.out)).mono ?_
  rintro e w3 ⟨g3, cp3, vs3, WS3, rfl, m3⟩
  have M3 := hide m3
  have K3 := hide (K2.out.calm2 m3.run.kept)
  have M1' := hide (M1.out.calm (K12.out.calm2 m3.run.kept))
  clear m3 M1 H1 H2
  have hnil1 : ∀ w : World, (binOp .eql 23 (.slice (some ⟨g1, 0, none⟩) WS1.length cp1) (.slice none 0 0)).run Tryd.prog w = .ok (.bool false) w := fun w => Lib.run_eql_slice_some_nil w _ _ _ Tryd.underlying23
  have hnil3 : ∀ w : World, (binOp .eql 23 (.slice (some ⟨g3, 0, none⟩) WS3.length cp3) (.slice none 0 0)).run Tryd.prog w = .ok (.bool false) w := fun w => Lib.run_eql_slice_some_nil w _ _ _ Tryd.underlying23
  have HI : Hid (fileAt (1 + (pickN_keep every 20 : Int)) (zss1.map cmdsOf) (min 60 zss1.length) = fileAt (1 + (pickN_keep every 20 : Int)) (zss2.map cmdsOf) (min 60 zss2.length) → WS1.length = WS3.length ∧ ∀ j (h1 : j < WS1.length) (h3 : j < WS3.length), WS1[j].t = WS3[j].t ∧ WS1[j].L = WS3[j].L) := fun hE => by
    obtain ⟨hk, hm⟩ := file_inj _ _ _ _ _ (small_all zss1) (small_all zss2) hE
    have hl1 := M1'.out.len
    have hl3 := M3.out.len
    refine ⟨by omega, fun j h1 h3 => ⟨by rw [M1'.out.run.tick j h1, M3.out.run.tick j h3], ?_⟩⟩
    rw [M1'.out.mobs j h1, M3.out.mobs j h3]
    exact hm j (by omega)
  generalize fileAt (1 + (pickN_keep every 20 : Int)) (zss1.map cmdsOf) (min 60 zss1.length) = A at *
  generalize fileAt (1 + (pickN_keep every 20 : Int)) (zss2.map cmdsOf) (min 60 zss2.length) = C at *
  go_wp2
  go_loopw [16, 17] (fun s a wr => ∃ (b : Bool) (i : Nat), s = .bool b ∧ a = .int .i64 i ∧ i ≤ WS1.length ∧ Hid (b = true → WS1.length = WS3.length) ∧ Hid (A = C → b = true) ∧ Hid (Kept (fun _ => False) w3 wr)) (fun _ a _ => WS1.length - (intOf a).toNat)
  case atStart =>
    refine ⟨((WS1.length : Int) == (WS3.length : Int)), 0, rfl, rfl, Nat.zero_le _, (fun e => ?_ : _ → _), (fun e => ?_ : _ → _), Kept.refl _ _⟩
    · have := of_decide_eq_true e
      omega
    · have := (HI.out e).1
      simp [this]
  case round =>
    obtain ⟨b, i, rfl, rfl, hil, HBL, HBE, HK⟩ := hrel
    by_cases hgo : i < WS1.length ∧ b = true
    · obtain ⟨hlt, rfl⟩ := hgo
      have hb1 : (0 : Int) ≤ (i : Int) := by omega
      have hb2 : (i : Int) < (WS1.length : Int) := by omega
      have hL := HBL.out rfl
      have hlt3 : i < WS3.length := by omega
      have hb3 : (i : Int) < (WS3.length : Int) := by omega
      have M1r := hide (M1'.out.calm HK.out)
      have M3r := hide (M3.out.calm HK.out)
      have HL := hide hL
      clear hL
      obtain ⟨x0, x1, x2⟩ := M1r.out.run.cells i hlt
      obtain ⟨y0, y1, y2⟩ := M3r.out.run.cells i hlt3
      have O1 := hide (M1r.out.run.ok WS1[i] (List.getElem_mem hlt))
      have O3 := hide (M3r.out.run.ok WS3[i] (List.getElem_mem hlt3))
      have HE : Hid (A = C → WS1[i].t = WS3[i].t ∧ WS1[i].L = WS3[i].L) := fun e => (HI.out e).2 i hlt hlt3
      have hle : i + 1 ≤ WS1.length := hlt
      have h61 : WS1.length ≤ 61 := by have := M1'.out.len; omega
      have hle2 : WS1.length - (i + 1) < WS1.length - i := by omega
      generalize WS1[i] = d1 at *
      generalize WS3[i] = d3 at *
      have hsh := O1.out.short
      have HQ := hide (mob_same O1.out.good)
      have CE : Hid (∀ w', Kept (fun _ => False) wr w' → w'.cell? ⟨g1, i * 2, none⟩ = some (.int .i64 d1.t) ∧ w'.cell? ⟨g1, i * 2 + 1, none⟩ = some (.slice d1.p d1.L.length d1.cap) ∧ w'.cell? ⟨g3, i * 2, none⟩ = some (.int .i64 d3.t) ∧ w'.cell? ⟨g3, i * 2 + 1, none⟩ = some (.slice d3.p d3.L.length d3.cap)) := fun w' hk =>
        ⟨by rw [cell_keep hk x0 (fun e => e)]; exact x1, by rw [cell_keep hk x0 (fun e => e)]; exact x2, by rw [cell_keep hk y0 (fun e => e)]; exact y1, by rw [cell_keep hk y0 (fun e => e)]; exact y2⟩
      go_wp2
      go_region_held3 (fun w' => w'.cell? ⟨g1, i * 2, none⟩ = some (.int .i64 d1.t) ∧ w'.cell? ⟨g1, i * 2 + 1, none⟩ = some (.slice d1.p d1.L.length d1.cap) ∧ w'.cell? ⟨g3, i * 2, none⟩ = some (.int .i64 d3.t) ∧ w'.cell? ⟨g3, i * 2 + 1, none⟩ = some (.slice d3.p d3.L.length d3.cap)) (go_keep)
        ((go_at_call 5; refine (same_k d1.t d3.t d1.p d3.p d1.cap d3.cap d1.L d3.L wr.drew (O1.out.reads.calm (Kept.drew wr)) (O3.out.reads.calm (Kept.drew wr)) hsh).mono ?_; rintro e w4 ⟨b4, rfl, hb4, k4⟩; have HB4 := hide hb4; have K4 := hide ((Kept.drew wr).calm2 k4); clear hb4 k4; obtain ⟨u1, u2, u3, u4⟩ := CE.out w4 K4.out))
      all_goals
        clear u1 u2 u3 u4 CE x1 x2 y1 y2
        go_wp2
        go_roundw
        case rel => exact ⟨b4, i + 1, rfl, by go_num, hle, (fun _ => HL.out), (fun e => HB4.out (HE.out e).1 (HE.out e).2 HQ.out), HK.out.calm2 K4.out⟩
        case measure => simp [intOf]; omega
    · have HKW := hide (K3.out.calm2 HK.out)
      by_cases hlt : i < WS1.length
      · have hbf : b = false := by
          cases b
          · rfl
          · exact absurd ⟨hlt, rfl⟩ hgo
        subst hbf
        have hne : A ≠ C := fun e => by have := HBE.out e; cases this
        have hb2 : (i : Int) < (WS1.length : Int) := by omega
        have hAC : (A == C) = false := by simpa using hne
        go_wp2
        go_ret
        exact ⟨ret1 (by simp), HKW.out.below _ (Nat.le_refl _) (fun _ _ e => e)⟩
      · have hb2 : ¬ (i : Int) < (WS1.length : Int) := by omega
        cases b
        · have hne : A ≠ C := fun e => by have := HBE.out e; cases this
          have hAC : (A == C) = false := by simpa using hne
          go_wp2
          go_ret
          exact ⟨ret1 (by simp), HKW.out.below _ (Nat.le_refl _) (fun _ _ e => e)⟩
        · go_wp2
          go_ret
          exact ⟨rfl, HKW.out.below _ (Nat.le_refl _) (fun _ _ e => e)⟩
end Go.Proofs.YtgclehnhjjkdbaaDoor
