import Derived.Test.YtlfmfhmbkpnjbaaPm8
import Derived.Test.YtlfmfhmbkpnjbaaPm9
import Derived.Test.YtlfmfhmbkpnjbaaPm10
import Derived.Deep.OwnRows
import Derived.WalkKit
import Derived.ProofKit
import Derived.OpenShut
import Derived.ShutString
import Derived.ChangeOld
import Derived.Below
namespace Go.Proofs.Ytlfmfhmbkpnjbaa
open Go.RowKit

/-- The cache, and the two arrays, in memory. -/
structure FMem (B : Nat) (w wr : World) (c a1 a2 n : Nat) (L : List (Int × Int)) (W V : Nat → Int) (r : Value) : Prop where
  is : Isii wr c r n L
  val : wr.rowIs a1 65 12 (fun j => .int .i64 (V j))
  whn : wr.rowIs a2 65 12 (fun j => .int .i64 (W j))
  low : Below B w wr
  foot : ∀ j, Foot c r j → B ≤ j ∧ j ≠ a1 ∧ j ≠ a2
  b1 : B ≤ a1
  b2 : B ≤ a2
  ne : a1 ≠ a2

theorem FMem.kept {B : Nat} {w wr w' : World} {c a1 a2 n : Nat} {L : List (Int × Int)} {W V : Nat → Int} {r : Value} (h : FMem B w wr c a1 a2 n L W V r) (hk : Kept (fun _ => False) wr w') : FMem B w w' c a1 a2 n L W V r :=
  ⟨CacheAt.keep h.is hk (fun _ _ e => e), h.val.of_block (hk.block _ h.val.lt (fun e => e)), h.whn.of_block (hk.block _ h.whn.lt (fun e => e)),
    ⟨hk.os.trans h.low.os, hk.tape.trans h.low.tape, hk.output.trans h.low.output, Nat.le_trans h.low.size hk.size, fun k hB =>
      (hk.block k (by have := h.b1; have := h.val.lt; omega) (fun e => e)).trans (h.low.block k hB)⟩, h.foot, h.b1, h.b2, h.ne⟩

theorem FMem.setV {B : Nat} {w wr : World} {c a1 a2 n : Nat} {L : List (Int × Int)} {W V : Nat → Int} {r : Value} (h : FMem B w wr c a1 a2 n L W V r) (k : Nat) (x : Int) : FMem B w (wr.setCell ⟨a1, k, none⟩ (.int .i64 x)) c a1 a2 n L W (upd V k x) r :=
  ⟨CacheAt.keep h.is (Kept.setCell wr ⟨a1, k, none⟩ _) (fun j hj e => (h.foot j hj).2.1 e), (h.val.set k _).congr (fun j _ => by simp only [upd]; split <;> rfl), h.whn.setOther (fun e => h.ne e.symm) _, h.low.setCell h.b1 _, h.foot, h.b1, h.b2, h.ne⟩

theorem FMem.setW {B : Nat} {w wr : World} {c a1 a2 n : Nat} {L : List (Int × Int)} {W V : Nat → Int} {r : Value} (h : FMem B w wr c a1 a2 n L W V r) (k : Nat) (x : Int) : FMem B w (wr.setCell ⟨a2, k, none⟩ (.int .i64 x)) c a1 a2 n L (upd W k x) V r :=
  ⟨CacheAt.keep h.is (Kept.setCell wr ⟨a2, k, none⟩ _) (fun j hj e => (h.foot j hj).2.2 e), h.val.setOther h.ne _, (h.whn.set k _).congr (fun j _ => by simp only [upd]; split <;> rfl), h.low.setCell h.b2 _, h.foot, h.b1, h.b2, h.ne⟩

/-- Behind a call on the cache. -/
theorem FMem.turned {B : Nat} {w wr w' : World} {c a1 a2 n : Nat} {L L' : List (Int × Int)} {W V : Nat → Int} {r r' : Value} (h : FMem B w wr c a1 a2 n L W V r) (hi : Isii w' c r' n L') (hk : Kept (Foot c r) wr w') (hr : NewRow wr r r') : FMem B w w' c a1 a2 n L' W V r' := by
  have l1 := h.val.lt
  have l2 := h.whn.lt
  refine ⟨hi, h.val.of_block (hk.block _ l1 (fun e => (h.foot _ e).2.1 rfl)), h.whn.of_block (hk.block _ l2 (fun e => (h.foot _ e).2.2 rfl)),
    ⟨hk.os.trans h.low.os, hk.tape.trans h.low.tape, hk.output.trans h.low.output, Nat.le_trans h.low.size hk.size, fun k hB =>
      (hk.block k (by have := h.b1; omega) (fun e => by have := (h.foot _ e).1; omega)).trans (h.low.block k hB)⟩, ?_, h.b1, h.b2, h.ne⟩
  intro j hj
  rcases hj with rfl | hj
  · exact h.foot _ (Or.inl rfl)
  · rcases hr with hr | ⟨g, hr, hg⟩
    · exact h.foot j (Or.inr (by rw [← hr]; exact hj))
    · rw [hr] at hj
      simp only [Option.some.injEq] at hj
      subst hj
      have := h.b1
      exact ⟨by omega, by omega, by omega⟩

theorem FMem.cellV {B : Nat} {w wr : World} {c a1 a2 n : Nat} {L : List (Int × Int)} {W V : Nat → Int} {r : Value} (h : FMem B w wr c a1 a2 n L W V r) (k : Nat) (hk : k < 12) : wr.cell? ⟨a1, k, none⟩ = some (.int .i64 (V k)) := h.val.cell hk
theorem FMem.cellW {B : Nat} {w wr : World} {c a1 a2 n : Nat} {L : List (Int × Int)} {W V : Nat → Int} {r : Value} (h : FMem B w wr c a1 a2 n L W V r) (k : Nat) (hk : k < 12) : wr.cell? ⟨a2, k, none⟩ = some (.int .i64 (W k)) := h.whn.cell hk

def zeros12 : Array Value := #[.int .i64 0, .int .i64 0, .int .i64 0, .int .i64 0, .int .i64 0, .int .i64 0, .int .i64 0, .int .i64 0, .int .i64 0, .int .i64 0, .int .i64 0, .int .i64 0]

theorem zeros_row (w : World) (t : TypeId) : (w.alloc (.cells zeros12 t)).rowIs w.heap.size t 12 (fun _ => .int .i64 0) :=
  World.rowIs_alloc w zeros12 t _ (fun i hi => by
    have : i < 12 := hi
    match i, this with
    | 0, _ | 1, _ | 2, _ | 3, _ | 4, _ | 5, _ | 6, _ | 7, _ | 8, _ | 9, _ | 10, _ | 11, _ => rfl)

/-- Ahead of the loop. -/
theorem FMem.start {w w1 w2 w3 : World} {r1 r2 : Value} {n : Nat} {L : List (Int × Int)} (k1 : Kept (fun _ => False) w w1) (hr1 : r1.ownBlock = none) (k2 : Kept (Foot w.heap.size r1) w1 w2) (n2 : NewRow w1 r1 r2) (h1 : w.heap.size < w1.heap.size) (k3 : Kept (Foot w.heap.size r2) w2 w3) (i3 : Isii w3 w.heap.size r2 n L) :
    FMem w.heap.size w ((w3.alloc (.cells zeros12 65)).alloc (.cells zeros12 65)) w.heap.size w3.heap.size (w3.heap.size + 1) n L (fun _ => 0) (fun _ => 0) r2 := by
  have s2 := k2.size
  have s3 := k3.size
  have g2 : ∀ g, r2.ownBlock = some g → w1.heap.size ≤ g := by
    intro g hg
    rcases n2 with n2 | ⟨g', n2, n3⟩
    · rw [n2, hr1] at hg; cases hg
    · rw [n2] at hg; cases hg; exact n3
  have l3 := CacheAt.lt i3
  have z1 := zeros_row w3 65
  have z2 := zeros_row (w3.alloc (.cells zeros12 65)) 65
  have e : (w3.alloc (.cells zeros12 65)).heap.size = w3.heap.size + 1 := by simp
  rw [e] at z2
  refine ⟨CacheAt.keep (CacheAt.keep i3 (Kept.alloc _ _) (fun _ _ e => e)) (Kept.alloc _ _) (fun _ _ e => e), z1.alloc _, z2, ?_, ?_, by omega, by omega, by omega⟩
  · have b : Below w.heap.size w w3 := ((k1.below w.heap.size (Nat.le_refl _) (fun _ _ e => e)).trans (k2.below w.heap.size (by omega) (fun i hi e => by
      rcases e with e | e
      · omega
      · rw [hr1] at e; cases e))).trans (k3.below w.heap.size (by omega) (fun i hi e => by
      rcases e with e | e
      · omega
      · have := g2 i e; omega))
    exact (b.alloc (by omega) _).alloc (by simp; omega) _
  · intro j hj
    have := l3 j hj
    refine ⟨?_, by omega, by omega⟩
    rcases hj with rfl | hj
    · omega
    · have := g2 j hj; omega

theorem FMem.free {B : Nat} {w wr : World} {c a1 a2 n : Nat} {L : List (Int × Int)} {W V : Nat → Int} {r : Value} (h : FMem B w wr c a1 a2 n L W V r) (k : Nat) : wr.frozen? ⟨a1, k, none⟩ = false ∧ wr.frozen? ⟨a2, k, none⟩ = false := ⟨h.val.frozen k, h.whn.frozen k⟩

theorem get_hit {L L' : List (Int × Int)} {k v : Int} (hx : idx L k < L.length) (h1 : L[idx L k] = (k, v)) (h2 : touch L (idx L k) (k, v) = L') : getL_ii L k = (v, true, L') := by
  simp only [getL_ii, hx, dif_pos, h1, h2]

theorem get_miss {L : List (Int × Int)} {k : Int} (h : fHas L k = false) : getL_ii L k = (0, false, L) := by
  have : ¬ idx L k < L.length := by simpa [fHas] using h
  simp only [getL_ii, this, dif_neg, not_false_eq_true]

theorem full_take_len (V : Nat → Int) (R : List Nat) (n : Nat) : ((full V R).take n).length ≤ n := by rw [List.length_take]; omega

theorem succ_cast (i : Nat) : ((i + 1 : Nat) : Int) = (i : Int) + 1 := by omega

theorem tdiv12 (z : Int) (h : -9223372036854775808 ≤ z ∧ z ≤ 9223372036854775807) : -9223372036854775808 ≤ z.tdiv 12 ∧ z.tdiv 12 ≤ 9223372036854775807 := by
  by_cases h0 : 0 ≤ z
  · rw [Int.tdiv_eq_ediv_of_nonneg h0]; omega
  · obtain ⟨y, rfl⟩ : ∃ y, z = -y := ⟨-z, by omega⟩
    rw [Int.neg_tdiv, Int.tdiv_eq_ediv_of_nonneg (by omega)]; omega

theorem setCell_size (w : World) (p : Addr) (u : Value) : (w.setCell p u).heap.size = w.heap.size := by simp [World.setCell]

theorem first_put (n : Nat) (hn : 1 ≤ n) : putL n ([] : List (Int × Int)) (100, 7) = [(100, 7)] := by
  simp [putL, fHas, idx, show 0 < n from hn]

theorem first_get : getL_ii [((100 : Int), (7 : Int))] 100 = (7, true, [(100, 7)]) := by
  simp [getL_ii, idx, touch]

set_option maxHeartbeats 800000 in
set_option maxRecDepth 100000 in
theorem fresh_row (q b off len cp : Nat) (capacity : Int) (zs : List Int) (w : World) (h1 : -9223372036854775808 ≤ capacity) (h2 : capacity ≤ 9223372036854775807) (hlen : len ≤ 9223372036854775807)
    (hzr : ∀ j, j < len → -9223372036854775808 ≤ zs.getD j 0 ∧ zs.getD j 0 ≤ 9223372036854775807)
    (hb : b < w.heap.size) (hc : ∀ j, j < len → w.cell? ⟨b, off + j, none⟩ = some (.int .i64 (zs.getD j 0))) (hq : Hid (pickN_keep capacity 8 = q)) :
    Calls Try.prog 6 #[.int .i64 capacity, .slice (some ⟨b, off, none⟩) len cp] w fun e w' => e = .returned (.bool true) ∧ Below w.heap.size w w' := by
  have hq8 : q < 8 := by have := pickN_lt_keep capacity 8 (by decide); rw [hq.out] at this; exact this
  go_enter Try.func6, Try.ntmps6
  go_wp2_with fail
  refine (pick_keep capacity 8 8 _ h1 h2 rfl (by decide) (by decide)).mono ?_
  rintro e w' ⟨rfl, rfl⟩
  rw [hq.out]
  go_wp2_with fail
  rw [show (1 + (q : Int)) = ((q + 1 : Nat) : Int) from by omega]
  refine (new_good_ii (q + 1) _ (by omega) (by omega)).mono ?_
  rintro e w1 ⟨rfl, i1, k1⟩
  have I1 := hide i1
  have K1 := hide k1
  clear i1 k1
  go_wp2_with fail
  refine (put_ii w'.heap.size (q + 1) _ 100 7 [] _ (by omega) (by omega) (by simp) I1.out).mono ?_
  rintro e w2 ⟨rfl, r2, i2, k2, n2⟩
  rw [first_put (q + 1) (by omega)] at i2
  have I2 := hide i2
  have K2 := hide k2
  have N2 := hide n2
  clear i2 k2 n2
  go_wp2_with fail
  refine (get_ii w'.heap.size (q + 1) _ 100 [(100, 7)] _ (by omega) (by simp) I2.out).mono ?_
  rw [first_get]
  rintro e w3 ⟨rfl, i3, k3⟩
  have I3 := hide i3
  have K3 := hide k3
  clear i3 k3
  have hs1 : w'.heap.size < w1.heap.size := heap_lt I1.out.1
  have F0 : Hid (FMem w'.heap.size w' ((w3.alloc (.cells zeros12 65)).alloc (.cells zeros12 65)) w'.heap.size w3.heap.size (w3.heap.size + 1) (q + 1) ((full (fun _ => 0) []).take (q + 1)) (fun _ => 0) (fun _ => 0) r2) := by
    rw [full_start _ _ (by omega)]
    exact FMem.start K1.out rfl K2.out N2.out hs1 K3.out I3.out
  clear I1 K1 I2 K2 N2 I3 K3 hs1
  go_wp2_with fail
  go_loopw [12] (fun t wr => ∃ i : Nat, i ≤ len ∧ t = .int .i64 i ∧ ∃ W V R r, Hid (St i W R) ∧ Hid (FMem w'.heap.size w' wr w'.heap.size w3.heap.size (w3.heap.size + 1) (q + 1) ((full V R).take (q + 1)) W V r)) (fun t _ => len - (intOf t).toNat)
  case atStart => exact ⟨0, Nat.zero_le _, rfl, _, _, [], r2, St.start, F0⟩
  case round =>
    obtain ⟨i, hil, rfl, W, V, R, r, ST, M⟩ := hrel
    clear F0
    by_cases hlt : i < len
    · have hcell : wr.cell? ⟨b, off + i, none⟩ = some (.int .i64 (zs.getD i 0)) := (M.out.low.cell (p := ⟨b, off + i, none⟩) hb).trans (hc i hlt)
      have hzi := hzr i hlt
      clear hc hzr
      generalize zs.getD i 0 = z at *
      obtain ⟨wo, rfl⟩ : ∃ x, wr = x := ⟨wr, rfl⟩
      go_wp2_with fail
      refine (pick_keep z 12 12 _ hzi.1 hzi.2 rfl (by decide) (by decide)).mono ?_
      rintro e w4 ⟨rfl, rfl⟩
      have hk := pickN_lt_keep z 12 (by decide)
      generalize pickN_keep z 12 = k at *
      go_wp2_with fail
      have cWk := M.out.cellW k hk
      go_loopw [14, 15] (fun a j wj => ∃ m : Nat, m ≤ 12 ∧ j = .int .i64 m ∧ a = .int .i64 (cntTo W (W k) m) ∧ ∃ nq, wj = w4.drewN nq) (fun _ j _ => 12 - (intOf j).toNat)
      case atStart => exact ⟨0, Nat.zero_le _, rfl, rfl, 0, rfl⟩
      case round =>
        obtain ⟨m, hm, rfl, rfl, nq, rfl⟩ := hrel
        by_cases hm12 : m < 12
        · have cWm := M.out.cellW m hm12
          have hle := cntTo_le W (W k) m
          by_cases hgt : W k < W m
          · have HS : Hid (cntTo W (W k) (m + 1) = cntTo W (W k) m + 1) := by show _ = _; simp only [cntTo, hgt, if_true]
            go_wp2
            go_quiet (fail)
            go_wp2
            go_roundw
            case rel => exact ⟨m + 1, by omega, by go_num, by rw [HS.out]; go_num, _, rfl⟩
            case measure => simp [intOf]; omega
          · have HS : Hid (cntTo W (W k) (m + 1) = cntTo W (W k) m) := by show _ = _; simp only [cntTo, hgt, if_false, Nat.add_zero]
            go_wp2
            go_quiet (fail)
            go_wp2
            go_roundw
            case rel => exact ⟨m + 1, by omega, by go_num, by rw [HS.out], _, rfl⟩
            case measure => simp [intOf]; omega
        · obtain rfl : m = 12 := by omega
          have M5 := hide (M.out.kept (Kept.drewN _ nq))
          have hzd : -9223372036854775808 ≤ z.tdiv 12 ∧ z.tdiv 12 ≤ 9223372036854775807 := tdiv12 z hzi
          clear hm hm12
          by_cases hcase : 0 < W k ∧ cntTo W (W k) 12 < q + 1
          · obtain ⟨hw, hcn⟩ := hcase
            obtain ⟨hh, R', ST', ⟨hx, hg1, hg2⟩, hput⟩ := ST.out.has (V := V) (by omega) (q + 1) k hk hw hcn
            clear hh
            go_wp2_with fail
            refine (pick_keep (z.tdiv 12) 3 3 _ hzd.1 hzd.2 rfl (by decide) (by decide)).mono ?_
            rintro e w6 ⟨rfl, rfl⟩
            generalize pickN_keep (z.tdiv 12) 3 = s at *
            by_cases hs : s = 0
            · subst hs
              go_wp2_with fail
              refine (get_ii w'.heap.size (q + 1) r k _ _ (by omega) (full_take_len _ _ _) (by exact M5.out.is)).mono ?_
              rw [get_hit hx hg1 hg2]
              rintro e w7 ⟨rfl, i7, k7⟩
              have F7 := hide (M5.out.turned i7 k7 (Or.inl rfl))
              have d1 := F7.out.cellV k hk
              have d2 := F7.out.cellW k hk
              have d3 := (F7.out.free k).2
              have F8 := hide (F7.out.setW k ((i : Int) + 1))
              clear i7 k7 F7 M5 M cWk hput hx hg1 hg2
              go_wp2
              go_roundw
              case rel => first | exact ⟨i + 1, by omega, by go_num, _, _, R', r, by rw [succ_cast]; exact ST', F8⟩ | ((repeat apply Exists.intro); exact ⟨⟨i + 1, by omega, by go_num, _, _, R', r, by rw [succ_cast]; exact ST', F8⟩, rfl⟩)
              case measure => simp [intOf]; omega
            · have hs' : (((s : Nat) : Int) == 0) = false := by simp; omega
              have c1 := M.out.cellV k hk
              have c2 := (M.out.free k).1
              have M6 := hide (M5.out.setV k (i : Int))
              have M6' := hide ((M.out.setV k (i : Int)).kept (Kept.drewN _ nq))
              go_wp2_with fail
              refine (put_ii w'.heap.size (q + 1) r k i ((full V R).take (q + 1)) _ (by omega) (by omega) (full_take_len _ _ _) (by first | exact M6.out.is | exact M6'.out.is)).mono ?_
              rintro e w7 ⟨rfl, r', i7, k7, n7⟩
              obtain ⟨rest, hrest⟩ := putL_head (q + 1) ((full V R).take (q + 1)) ((k : Int), (i : Int))
              have hl7 : rest.length + 1 ≤ q + 1 := by
                have := (putL_length (q + 1) ((full V R).take (q + 1)) ((k : Int), (i : Int)) (by omega) (full_take_len _ _ _)).1
                rw [hrest] at this
                simpa using this
              have F7 : Hid (FMem w'.heap.size w' w7 w'.heap.size w3.heap.size (w3.heap.size + 1) (q + 1) (((k : Int), (i : Int)) :: rest) W (upd V k i) r') := by
                rw [← hrest]
                first | exact M6.out.turned i7 k7 n7 | exact M6'.out.turned i7 k7 n7
              have HP : Hid ((full (upd V k i) R').take (q + 1) = ((k : Int), (i : Int)) :: rest) := by show _ = _; rw [← hput, hrest]
              have d2 := F7.out.cellW k hk
              have d3 := (F7.out.free k).2
              have F8 := hide (F7.out.setW k ((i : Int) + 1))
              clear i7 k7 n7 F7 M5 M M6 M6' cWk c1 c2 hput hrest hx hg1 hg2
              go_wp2_with fail
              refine (keys_ii w'.heap.size (q + 1) r' (((k : Int), (i : Int)) :: rest) _ (by omega) (by simpa using hl7) (by exact F8.out.is)).mono ?_
              rintro e w9 ⟨rfl, b9, k9⟩
              rw [setCell_size] at b9
              have d9 : w9.cell? ⟨w7.heap.size, 0, none⟩ = some (.int .i64 k) := by rw [cell_block b9]; rfl
              have F9 := hide (F8.out.kept k9)
              clear b9 k9 F8 d2 d3
              go_wp2
              go_roundw
              case rel => exact ⟨i + 1, by omega, by go_num, _, _, R', r', by rw [succ_cast]; exact ST', by rw [HP.out]; exact F9⟩
              case measure => simp [intOf]; omega
          · obtain ⟨hh, R', ST', hput⟩ := ST.out.hasnt (V := V) (by omega) (q + 1) k (by omega) hk hcase
            by_cases hw : 0 < W k
            · have hcn : q + 1 ≤ cntTo W (W k) 12 := by omega
              clear hcase
              go_wp2_with fail
              refine (pick_keep (z.tdiv 12) 3 3 _ hzd.1 hzd.2 rfl (by decide) (by decide)).mono ?_
              rintro e w6 ⟨rfl, rfl⟩
              generalize pickN_keep (z.tdiv 12) 3 = s at *
              by_cases hs : s = 0
              · subst hs
                go_wp2_with fail
                refine (get_ii w'.heap.size (q + 1) r k _ _ (by omega) (full_take_len _ _ _) (by exact M5.out.is)).mono ?_
                rw [get_miss hh]
                rintro e w7 ⟨rfl, i7, k7⟩
                have F7 := hide (M5.out.turned i7 k7 (Or.inl rfl))
                have S7 := hide ST.out.later
                clear i7 k7 M5 M cWk hput
                go_wp2
                go_roundw
                case rel => first | exact ⟨i + 1, by omega, by go_num, _, _, R, r, by rw [succ_cast]; exact S7, F7⟩ | ((repeat apply Exists.intro); exact ⟨⟨i + 1, by omega, by go_num, _, _, R, r, by rw [succ_cast]; exact S7, F7⟩, rfl⟩)
                case measure => simp [intOf]; omega
              · have hs' : (((s : Nat) : Int) == 0) = false := by simp; omega
                have c1 := M.out.cellV k hk
                have c2 := (M.out.free k).1
                have M6 := hide (M5.out.setV k (i : Int))
                have M6' := hide ((M.out.setV k (i : Int)).kept (Kept.drewN _ nq))
                go_wp2_with fail
                refine (put_ii w'.heap.size (q + 1) r k i ((full V R).take (q + 1)) _ (by omega) (by omega) (full_take_len _ _ _) (by first | exact M6.out.is | exact M6'.out.is)).mono ?_
                rintro e w7 ⟨rfl, r', i7, k7, n7⟩
                obtain ⟨rest, hrest⟩ := putL_head (q + 1) ((full V R).take (q + 1)) ((k : Int), (i : Int))
                have hl7 : rest.length + 1 ≤ q + 1 := by
                  have := (putL_length (q + 1) ((full V R).take (q + 1)) ((k : Int), (i : Int)) (by omega) (full_take_len _ _ _)).1
                  rw [hrest] at this
                  simpa using this
                have F7 : Hid (FMem w'.heap.size w' w7 w'.heap.size w3.heap.size (w3.heap.size + 1) (q + 1) (((k : Int), (i : Int)) :: rest) W (upd V k i) r') := by
                  rw [← hrest]
                  first | exact M6.out.turned i7 k7 n7 | exact M6'.out.turned i7 k7 n7
                have HP : Hid ((full (upd V k i) R').take (q + 1) = ((k : Int), (i : Int)) :: rest) := by show _ = _; rw [← hput, hrest]
                have d2 := F7.out.cellW k hk
                have d3 := (F7.out.free k).2
                have F8 := hide (F7.out.setW k ((i : Int) + 1))
                clear i7 k7 n7 F7 M5 M M6 M6' cWk c1 c2 hput hrest hh
                go_wp2_with fail
                refine (keys_ii w'.heap.size (q + 1) r' (((k : Int), (i : Int)) :: rest) _ (by omega) (by simpa using hl7) (by exact F8.out.is)).mono ?_
                rintro e w9 ⟨rfl, b9, k9⟩
                rw [setCell_size] at b9
                have d9 : w9.cell? ⟨w7.heap.size, 0, none⟩ = some (.int .i64 k) := by rw [cell_block b9]; rfl
                have F9 := hide (F8.out.kept k9)
                clear b9 k9 F8 d2 d3
                go_wp2
                go_roundw
                case rel => exact ⟨i + 1, by omega, by go_num, _, _, R', r', by rw [succ_cast]; exact ST', by rw [HP.out]; exact F9⟩
                case measure => simp [intOf]; omega
            · clear hcase
              go_wp2_with fail
              refine (pick_keep (z.tdiv 12) 3 3 _ hzd.1 hzd.2 rfl (by decide) (by decide)).mono ?_
              rintro e w6 ⟨rfl, rfl⟩
              generalize pickN_keep (z.tdiv 12) 3 = s at *
              by_cases hs : s = 0
              · subst hs
                go_wp2_with fail
                refine (get_ii w'.heap.size (q + 1) r k _ _ (by omega) (full_take_len _ _ _) (by exact M5.out.is)).mono ?_
                rw [get_miss hh]
                rintro e w7 ⟨rfl, i7, k7⟩
                have F7 := hide (M5.out.turned i7 k7 (Or.inl rfl))
                have S7 := hide ST.out.later
                clear i7 k7 M5 M cWk hput
                go_wp2
                go_roundw
                case rel => first | exact ⟨i + 1, by omega, by go_num, _, _, R, r, by rw [succ_cast]; exact S7, F7⟩ | ((repeat apply Exists.intro); exact ⟨⟨i + 1, by omega, by go_num, _, _, R, r, by rw [succ_cast]; exact S7, F7⟩, rfl⟩)
                case measure => simp [intOf]; omega
              · have hs' : (((s : Nat) : Int) == 0) = false := by simp; omega
                have c1 := M.out.cellV k hk
                have c2 := (M.out.free k).1
                have M6 := hide (M5.out.setV k (i : Int))
                have M6' := hide ((M.out.setV k (i : Int)).kept (Kept.drewN _ nq))
                go_wp2_with fail
                refine (put_ii w'.heap.size (q + 1) r k i ((full V R).take (q + 1)) _ (by omega) (by omega) (full_take_len _ _ _) (by first | exact M6.out.is | exact M6'.out.is)).mono ?_
                rintro e w7 ⟨rfl, r', i7, k7, n7⟩
                obtain ⟨rest, hrest⟩ := putL_head (q + 1) ((full V R).take (q + 1)) ((k : Int), (i : Int))
                have hl7 : rest.length + 1 ≤ q + 1 := by
                  have := (putL_length (q + 1) ((full V R).take (q + 1)) ((k : Int), (i : Int)) (by omega) (full_take_len _ _ _)).1
                  rw [hrest] at this
                  simpa using this
                have F7 : Hid (FMem w'.heap.size w' w7 w'.heap.size w3.heap.size (w3.heap.size + 1) (q + 1) (((k : Int), (i : Int)) :: rest) W (upd V k i) r') := by
                  rw [← hrest]
                  first | exact M6.out.turned i7 k7 n7 | exact M6'.out.turned i7 k7 n7
                have HP : Hid ((full (upd V k i) R').take (q + 1) = ((k : Int), (i : Int)) :: rest) := by show _ = _; rw [← hput, hrest]
                have d2 := F7.out.cellW k hk
                have d3 := (F7.out.free k).2
                have F8 := hide (F7.out.setW k ((i : Int) + 1))
                clear i7 k7 n7 F7 M5 M M6 M6' cWk c1 c2 hput hrest hh
                go_wp2_with fail
                refine (keys_ii w'.heap.size (q + 1) r' (((k : Int), (i : Int)) :: rest) _ (by omega) (by simpa using hl7) (by exact F8.out.is)).mono ?_
                rintro e w9 ⟨rfl, b9, k9⟩
                rw [setCell_size] at b9
                have d9 : w9.cell? ⟨w7.heap.size, 0, none⟩ = some (.int .i64 k) := by rw [cell_block b9]; rfl
                have F9 := hide (F8.out.kept k9)
                clear b9 k9 F8 d2 d3
                go_wp2
                go_roundw
                case rel => exact ⟨i + 1, by omega, by go_num, _, _, R', r', by rw [succ_cast]; exact ST', by rw [HP.out]; exact F9⟩
                case measure => simp [intOf]; omega
    · have HB := hide M.out.low
      clear M
      go_wp2
      go_ret
      exact ⟨rfl, HB.out⟩
set_option maxHeartbeats 800000 in
set_option maxRecDepth 100000 in
theorem fresh_empty (q cp : Nat) (ao : Option Addr) (capacity : Int) (w : World) (h1 : -9223372036854775808 ≤ capacity) (h2 : capacity ≤ 9223372036854775807) (hq : Hid (pickN_keep capacity 8 = q)) :
    Calls Try.prog 6 #[.int .i64 capacity, .slice ao 0 cp] w fun e w' => e = .returned (.bool true) ∧ Below w.heap.size w w' := by
  have hq8 : q < 8 := by have := pickN_lt_keep capacity 8 (by decide); rw [hq.out] at this; exact this
  go_enter Try.func6, Try.ntmps6
  go_wp2_with fail
  refine (pick_keep capacity 8 8 _ h1 h2 rfl (by decide) (by decide)).mono ?_
  rintro e w' ⟨rfl, rfl⟩
  rw [hq.out]
  go_wp2_with fail
  rw [show (1 + (q : Int)) = ((q + 1 : Nat) : Int) from by omega]
  refine (new_good_ii (q + 1) _ (by omega) (by omega)).mono ?_
  rintro e w1 ⟨rfl, i1, k1⟩
  have I1 := hide i1
  have K1 := hide k1
  clear i1 k1
  go_wp2_with fail
  refine (put_ii w'.heap.size (q + 1) _ 100 7 [] _ (by omega) (by omega) (by simp) I1.out).mono ?_
  rintro e w2 ⟨rfl, r2, i2, k2, n2⟩
  rw [first_put (q + 1) (by omega)] at i2
  have I2 := hide i2
  have K2 := hide k2
  have N2 := hide n2
  clear i2 k2 n2
  go_wp2_with fail
  refine (get_ii w'.heap.size (q + 1) _ 100 [(100, 7)] _ (by omega) (by simp) I2.out).mono ?_
  rw [first_get]
  rintro e w3 ⟨rfl, i3, k3⟩
  have I3 := hide i3
  have K3 := hide k3
  clear i3 k3
  have hs1 : w'.heap.size < w1.heap.size := heap_lt I1.out.1
  have F0 : Hid (FMem w'.heap.size w' ((w3.alloc (.cells zeros12 65)).alloc (.cells zeros12 65)) w'.heap.size w3.heap.size (w3.heap.size + 1) (q + 1) ((full (fun _ => 0) []).take (q + 1)) (fun _ => 0) (fun _ => 0) r2) := by
    rw [full_start _ _ (by omega)]
    exact FMem.start K1.out rfl K2.out N2.out hs1 K3.out I3.out
  clear I1 K1 I2 K2 N2 I3 K3 hs1
  have HB := hide F0.out.low
  clear F0
  go_wp2_with fail
  refine wp_loop_rounds 1 ?_
  rw [rounds_succ]
  go_wp2
  go_ret
  exact ⟨rfl, HB.out⟩

end Go.Proofs.Ytlfmfhmbkpnjbaa

namespace Go.Proofs.Ytlfmfhmbkpnjbaa.freshest
open Go.ChangeShapes Go.WideShapes Go.ChangeAt Go.RowKit
open Go.ChangeMaps (open_string shut_string)
set_option linter.unusedVariables false

theorem own : ownKnob Try.prog.godebug = none := by kernel_rfl
theorem laidOut : laidOutB Try.prog = true := by kernel_rfl

/-- A slice of integers that came in. -/
def IsRow (k : IntKind) (w : World) (a : Option Addr) (len cap : Nat) (zs : List Int) : Prop :=
  (a = none ∧ len = 0 ∧ cap = 0 ∧ zs = []) ∨
  ∃ x, a = some x ∧ len ≤ cap ∧ cap ≤ maxLen ∧ zs.length = cap ∧ (∀ i, i < zs.length → w.cell? (x.add i) = some (.int k (zs.getD i 0))) ∧ ∀ n ∈ zs, (Lit.int k n).wf = true

theorem walk (a0 : Int) (a1 : Option Addr) (len1 cap1 : Nat) (z1 : List Int) (w : World) (w0 : (Lit.int .i64 a0).wf = true) (w1 : IsRow .i64 w a1 len1 cap1 z1) :
    Calls Try.prog 6 #[.int .i64 a0, .slice a1 len1 cap1] w fun e w' => e = .returned (.bool true) ∧ Below w.heap.size w w' := by
  have b0 := bounds_i64 w0
  rcases w1 with ⟨rfl, rfl, rfl, rfl⟩ | ⟨x, rfl, hl, hm, hz, hcell, hwz⟩
  · exact fresh_empty _ _ _ _ _ b0.1 b0.2 rfl
  · by_cases h0 : len1 = 0
    · subst h0
      exact fresh_empty _ _ _ _ _ b0.1 b0.2 rfl
    · obtain ⟨b, off, rfl, hc⟩ := ints_at hcell (by omega)
      have hb : b < w.heap.size := World.block_lt_of_cell? (w := w) (a := ⟨b, off + 0, none⟩) (hc 0 (by omega))
      unfold maxLen at hm
      exact fresh_row _ b off len1 cap1 a0 z1 w b0.1 b0.2 (by omega) (fun j hj => by have := range_i64 hwz j; rw [List.getD]; exact this) hb (fun j hj => hc j (by omega)) rfl

set_option maxRecDepth 100000 in
theorem lifted (os : Os) (started : os.Started) (H : Type) (enc : TypeId × Value → H) :
    ReturnsInHanded {} Try.checked os 6 .any (Rows.freshestSpec.pre6 enc Try.prog Try.f6 Rows.freshestRow.domain false) (Rows.freshestSpec.post enc Try.prog Try.f6 false true false false) := by
  refine returnsInHanded_of_change (C := Try.checked) own started (by kernel_rfl) Try.func6
    (ChangeSpec.witness6 (enc := enc) (C := Try.checked) false ⟨#[], #[.int .i64 0, .slice none 0 0], []⟩ 8 (by kernel_rfl) (by kernel_rfl) (by kernel_rfl) (by kernel_rfl)) ?_
  intro W base args ds gs before hval0 hW hcnd _
  have hval : ∀ (j : Nat) t v, Try.f6.params[j]? = some t → args[j]? = some v → Value.okWide Try.prog W .any base t v := hval0
  have hW' := hW
  obtain ⟨p, q, hA0, hV, rfl, hfz, hnd⟩ := hW
  have hA : DataW.TrodAll enc Try.prog W 0 (fun _ => true) true Try.f6.params.toList args.toList ds p := hA0
  rw [Try.params6] at hA hval
  obtain ⟨v0, vs0, d0, ds0, p0, q0, hargs, rfl, rfl, h0, r0⟩ := trodAll_cons hA
  obtain ⟨v1, vs1, d1, ds1, p1, q1, rfl, rfl, rfl, h1, r1⟩ := trodAll_cons r0
  obtain ⟨rfl, rfl, rfl⟩ := trodAll_nil r1
  obtain rfl : args = #[v0, v1] := by cases args; simp_all
  obtain ⟨rfl, rfl⟩ := trodVars_none hV
  obtain ⟨a0, rfl, rfl, rfl, w0⟩ := open_int Try.underlying3 (hval 0 3 v0 rfl rfl) h0
  obtain ⟨a1, len1, cap1, rfl⟩ := okWide_slice Try.underlying53 (hval 1 53 v1 rfl rfl)
  have k1 := h1
  have lt1 : ∀ x ∈ p1, x.block < W.heap.size := by obtain ⟨m, hm⟩ := k1; exact DataW.trod_lt m _ _ _ hm
  obtain ⟨z1, w1⟩ : ∃ zs, IsRow .i64 W a1 len1 cap1 zs := by
    obtain ⟨fuel, hf⟩ := h1
    rcases open_ints Try.underlying53 Try.underlying3 (by kernel_rfl) hf with ⟨hcs, _⟩ | ⟨x, l, c, zs, hcs, _, hl, hm, hz, _, hcell, hwz⟩
    · simp [Value.cells] at hcs
      obtain ⟨rfl, rfl, rfl⟩ := hcs
      exact ⟨[], .inl ⟨rfl, rfl, rfl, rfl⟩⟩
    · simp [Value.cells] at hcs
      obtain ⟨rfl, rfl, rfl⟩ := hcs
      exact ⟨zs, .inr ⟨_, rfl, hl, hm, by simpa using hz, hcell, hwz⟩⟩
  clear hA0 hval0
  refine (walk a0 a1 len1 cap1 z1 W w0 w1).mono fun e W' ⟨he, bel⟩ => ?_
  subst he
  exact ⟨_, rfl, _, _, _, [], _, [], hW', trodAll_mk1 (shut_bool Try.underlying4 _), (trodAll_cons_mk (shut_int Try.underlying3 w0) (trodAll_cons_mk (Below.trod laidOut (by kernel_rfl) (of_decide_eq_true (by kernel_rfl)) k1 bel lt1) trodAll_mk0)), rfl, bel.frame _, fun h => by cases h⟩

theorem over : Rows.freshestRow.holds Try.pinned (OpenSpec.ofChange Rows.freshestSpec) :=
  OpenClaim.holds_of_wide 6 Try.f6 rfl rfl rfl rfl rfl rfl rfl ⟨rfl, rfl, rfl, rfl, rfl⟩ rfl rfl rfl rfl rfl (by kernel_rfl) Try.func6 (by kernel_rfl)
    (of_decide_eq_true (by kernel_rfl)) (by unfold Func.isWrapper; first | (rw [if_pos (by decide +kernel)]; kernel_rfl) | (rw [if_neg (by decide +kernel)]; exact ⟨rfl, rfl⟩))
    (fun os started H enc _ => lifted os started H enc)

end Go.Proofs.Ytlfmfhmbkpnjbaa.freshest

namespace Go.Proofs.Ytlfmfhmbkpnjbaa
theorem freshest_holds : Rows.FreshestSaid := freshest.over
#print axioms freshest_holds
end Go.Proofs.Ytlfmfhmbkpnjbaa
