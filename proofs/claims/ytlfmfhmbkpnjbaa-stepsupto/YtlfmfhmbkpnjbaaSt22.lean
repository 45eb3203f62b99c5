import Derived.Test.YtlfmfhmbkpnjbaaSt21
import Derived.Test.YtlfmfhmbkpnjbaaSt9
import Derived.Test.YtlfmfhmbkpnjbaaSt20
import Derived.Test.YtlfmfhmbkpnjbaaSt8
import Derived.Test.YtlfmfhmbkpnjbaaSt13
namespace Go.Proofs.Ytlfmfhmbkpnjbaa
open Go.RowKit

theorem Run.cells {w wr : World} {WS : List Wd} {g cap : Nat} (R : Run w wr WS (some ⟨g, 0, none⟩) cap) (i : Nat) (hi : i < WS.length) :
    wr.cell? ⟨g, i * 2, none⟩ = some (.int .i64 WS[i].t) ∧ wr.cell? ⟨g, i * 2 + 1, none⟩ = some (.slice WS[i].p WS[i].L.length WS[i].cap) := by
  obtain ⟨r0, r1⟩ := rowW_get WS i hi
  have h := R.own.cells (g := g) rfl
  exact ⟨by have := h _ _ r0; rwa [addr_add] at this, by have := h _ _ r1; rwa [addr_add] at this⟩

theorem Run.calm {w wr w' : World} {WS : List Wd} {g cap : Nat} (R : Run w wr WS (some ⟨g, 0, none⟩) cap) (k : Kept (fun _ => False) wr w') : Run w w' WS (some ⟨g, 0, none⟩) cap :=
  ⟨owns_block R.own (fun j hj => k.block j (owns_lt R.own j hj) (fun e => e)), fun d hd => (R.ok d hd).keep k (fun _ _ e => e), R.tick, R.kept.calm2 k⟩

theorem Run.lt {w wr : World} {WS : List Wd} {g cap : Nat} (R : Run w wr WS (some ⟨g, 0, none⟩) cap) : g < wr.heap.size := (R.own.lt g rfl).2

theorem not_nil (g n cap : Nat) (w : World) : (binOp .eql 68 (.slice (some ⟨g, 0, none⟩) n cap) (.slice none 0 0)).run Try.prog w = .ok (.bool false) w :=
  Lib.run_eql_slice_nil w 68 40 _ _ _ _ _ Try.underlying68

set_option maxHeartbeats 2000000 in
set_option maxRecDepth 100000 in
theorem sound_walk (q : Option Addr) (n capq : Nat) (w : World) (hn : (n : Int) ≤ 9223372036854775807) (h : RT w q n) :
    Calls Try.prog 7 #[.slice q n capq] w fun e w' => e = .returned (.bool true) ∧ Below w.heap.size w w' := by
  go_enter Try.func7, Try.ntmps7
  go_wp2_with fail
  refine (played_c q n capq _ hn h).mono ?_
  rintro e w1 ⟨g, cap, WS, h1, h61, rfl, R⟩
  have R0 := hide R
  have hnil := not_nil g WS.length cap
  clear R h
  go_wp2
  go_loopw [4] (fun t wr => ∃ i : Nat, i ≤ WS.length ∧ t = .int .i64 i ∧ Hid (Run w wr WS (some ⟨g, 0, none⟩) cap)) (fun t _ => WS.length - (intOf t).toNat)
  case atStart => exact ⟨0, Nat.zero_le _, rfl, R0⟩
  case round =>
    obtain ⟨i, hil, rfl, HR⟩ := hrel
    clear R0
    by_cases hlt : i < WS.length
    · obtain ⟨c0, c1⟩ := HR.out.cells i hlt
      have HO := hide (HR.out.ok WS[i] (List.getElem_mem hlt))
      have ht := HR.out.tick i hlt
      have hb1 : (0 : Int) ≤ (i : Int) := by omega
      have hb2 : (i : Int) < (WS.length : Int) := by omega
      generalize WS[i] = d at *
      rw [ht] at c0
      have HT := hide ht
      clear ht
      go_wp2_with fail
      refine (sound_c i d.p d.cap d.L _ HO.out.reads (by rw [← HT.out]; exact HO.out.good)).mono ?_
      rintro e w2 ⟨rfl, k2⟩
      have R2 := hide (HR.out.calm k2)
      have c0' : w2.cell? ⟨g, i * 2, none⟩ = some (.int .i64 i) := by rw [cell_keep k2 HR.out.lt (fun e => e)]; exact c0
      have hne : ((i : Int) != (i : Int)) = false := by simp
      clear k2 c0 c1
      go_wp2
      go_roundw
      case rel => exact ⟨i + 1, by omega, by go_num, R2⟩
      case measure => simp [intOf]; omega
    · go_wp2
      go_ret
      exact ⟨rfl, HR.out.kept.below _ (Nat.le_refl _) (fun _ _ e => e)⟩
end Go.Proofs.Ytlfmfhmbkpnjbaa

namespace Go.Proofs.Ytlfmfhmbkpnjbaa
open Go.RowKit

theorem key_zero : key 0 = 0 := by decide
theorem ok_zero : okV 0 := num_zero.ok

theorem fits_key {x : Nat} (h : fitsB x 1148846080 = true) : -1148846080 ≤ key x ∧ key x ≤ 1148846080 := by
  have hn := (place_num h).ok
  have e1 : Op.negFloat .f32 1148846080 = 3296329728 := by decide
  have k1 : key 3296329728 = -1148846080 := by decide
  have k2 : key 1148846080 = 1148846080 := by decide
  have o1 : okV 3296329728 := by unfold okV; decide
  have o2 : okV 1148846080 := by unfold okV; decide
  simp only [fitsB, fge, fle, e1, ford_key hn o1, ford_key hn o2, k1, k2, Bool.and_eq_true, Bool.or_eq_true, beq_iff_eq, Option.some.injEq, Int.compare_eq_gt, Int.compare_eq_eq, Int.compare_eq_lt] at h
  omega

theorem moved_key {x v : Nat} (hx : fitsB x 1148846080 = true) (hv : isNum v) : (0 ≤ key v → key x ≤ key (movedF x v).1) ∧ (key v ≤ 0 → key (movedF x v).1 ≤ key x) := by
  have hn := place_num hx
  have hf := fits_key hx
  have oy := (fadd_ok hn hv.ok).2
  have k1 : key 3296329728 = -1148846080 := by decide
  have k2 : key 1148846080 = 1148846080 := by decide
  have o1 : okV 3296329728 := by unfold okV; decide
  have o2 : okV 1148846080 := by unfold okV; decide
  unfold movedF
  rw [ford_key oy o1, ford_key oy o2, k1, k2]
  simp only [Option.some.injEq, Int.compare_eq_lt, Int.compare_eq_gt]
  constructor
  · intro h0
    have := add_ge hn hv h0
    split
    · simp only [k1]; omega
    · split
      · simp only [k2]; omega
      · exact this
  · intro h0
    have := add_le hn hv h0
    split
    · simp only [k1]; omega
    · split
      · simp only [k2]; omega
      · exact this

theorem moved_slow (x : Nat) {v : Nat} (hv : isNum v) : rung (movedF x v).2 ≤ rung v ∧ isNum (movedF x v).2 := by
  have h1 := mul_slow hv
  have h2 := mul_half hv
  have h3 := mul_slow h2.2.1
  unfold movedF
  split
  · exact ⟨Nat.le_trans h3.1 h2.1, h3.2.1⟩
  · split
    · exact ⟨Nat.le_trans h3.1 h2.1, h3.2.1⟩
    · exact ⟨h1.1, h1.2.1⟩

/-- What a tick without commands does along one axis. -/
structure Axis (x v x' v' : Nat) : Prop where
  sq : (FloatKind.f32.format.order (fmul v' v') (fmul v v) == some .gt) = false
  m1 : ∀ w, (binOp .mul 54 (.float .f32 v') (.float .f32 v')).run Try.prog w = .ok (.float .f32 (fmul v' v')) w
  m2 : ∀ w, (binOp .mul 54 (.float .f32 v) (.float .f32 v)).run Try.prog w = .ok (.float .f32 (fmul v v)) w
  way : ((FloatKind.f32.format.order v 0 == some .eq) = true ∧ (FloatKind.f32.format.order v 0 == some .gt) = false ∧ (FloatKind.f32.format.order v 0 == some .lt) = false ∧ (FloatKind.f32.format.order x' x != some .eq) = false) ∨
    ((FloatKind.f32.format.order v 0 == some .eq) = false ∧ (FloatKind.f32.format.order v 0 == some .gt) = true ∧ (FloatKind.f32.format.order v 0 == some .lt) = false ∧ (FloatKind.f32.format.order x' x == some .lt) = false) ∨
    ((FloatKind.f32.format.order v 0 == some .eq) = false ∧ (FloatKind.f32.format.order v 0 == some .gt) = false ∧ (FloatKind.f32.format.order v 0 == some .lt) = true ∧ (FloatKind.f32.format.order x' x == some .gt) = false)

theorem axis_of {x v : Nat} (hx : fitsB x 1148846080 = true) (hv : isNum v) : Axis x v (movedF x v).1 (movedF x v).2 := by
  obtain ⟨r1, n1⟩ := moved_slow x hv
  obtain ⟨g1, g2⟩ := moved_key hx hv
  have ox := (place_num hx).ok
  have oy := (place_num (moved_fits (place_num hx) hv).1).ok
  have hz := ford_key hv.ok ok_zero
  have hk := ford_key oy ox
  rw [key_zero] at hz
  refine ⟨sq_mono n1 hv r1, fun w => run_float_arith w .mul _ .f32 _ _ _ (sq_key n1).2.2, fun w => run_float_arith w .mul _ .f32 _ _ _ (sq_key hv).2.2, ?_⟩
  have hz' : FloatKind.f32.format.order v 0 = some (compare (key v) 0) := hz
  have hk' : FloatKind.f32.format.order (movedF x v).1 x = some (compare (key (movedF x v).1) (key x)) := hk
  rw [hz', hk']
  rcases Int.lt_trichotomy (key v) 0 with q | q | q
  · right; right
    have := g2 (by omega)
    rw [Int.compare_eq_lt.2 q]
    refine ⟨rfl, rfl, rfl, ?_⟩
    rw [beq_eq_false_iff_ne]
    intro e
    have := Int.compare_eq_gt.1 (Option.some.inj e)
    omega
  · left
    have a1 := g1 (by omega)
    have a2 := g2 (by omega)
    rw [Int.compare_eq_eq.2 q, Int.compare_eq_eq.2 (show key (movedF x v).1 = key x by omega)]
    exact ⟨rfl, rfl, rfl, rfl⟩
  · right; left
    have := g1 (by omega)
    rw [Int.compare_eq_gt.2 q]
    refine ⟨rfl, rfl, rfl, ?_⟩
    rw [beq_eq_false_iff_ne]
    intro e
    have := Int.compare_eq_lt.1 (Option.some.inj e)
    omega

theorem keep_all {t : Int} {L : List Mob} (h : worldB t L = true) : keepL L = L := by
  unfold keepL
  rw [List.filter_eq_self]
  intro m hm
  have := (mob_parts (worldB_mobs h m hm)).2.2.2.2.1
  simp [liveB]; omega

theorem step_none {t : Int} {L : List Mob} (h : worldB t L = true) : stepL [] L = L.map moveM := by
  show (keepL L).map moveM = _
  rw [keep_all h]

theorem mob_axes {m : Mob} (h : mobB m = true) : Axis m.x m.vx (moveM m).x (moveM m).vx ∧ Axis m.y m.vy (moveM m).y (moveM m).vy := by
  simp only [mobB, Bool.and_eq_true, decide_eq_true_eq, placeB] at h
  exact ⟨axis_of h.1.1.1.1.2.1 (fin_num h.1.1.1.2), axis_of h.1.1.1.1.2.2 (fin_num h.1.1.2)⟩
end Go.Proofs.Ytlfmfhmbkpnjbaa

namespace Go.Proofs.Ytlfmfhmbkpnjbaa
open Go.RowKit

end Go.Proofs.Ytlfmfhmbkpnjbaa

namespace Go.Proofs.Ytlfmfhmbkpnjbaa
open Go.RowKit

def hasB (X : List Mob) (m : Mob) : Bool := X.any (fun e => eqM e m)

set_option maxHeartbeats 2000000 in
set_option maxRecDepth 100000 in
theorem has_c (t : Int) (p : Option Addr) (cap : Nat) (X : List Mob) (m : Mob) (w : World) (h : Reads w p X) (hl : X.length ≤ 32) :
    Calls Try.prog 32 #[.agg #[.int .i64 t, .slice p X.length cap], .agg #[.int .i64 m.id, .int .i64 m.team, .float .f32 m.x, .float .f32 m.y, .float .f32 m.vx, .float .f32 m.vy, .int .i64 m.health]] w fun e w' => e = .returned (.bool (hasB X m)) ∧ Kept (fun _ => False) w w' := by
  have HR := hide h
  clear h
  have K0 := hide ((Kept.alloc w (.cells #[.int .i64 t, .slice p X.length cap] 40)).calm2 (Kept.alloc _ (.cells #[.int .i64 m.id, .int .i64 m.team, .float .f32 m.x, .float .f32 m.y, .float .f32 m.vx, .float .f32 m.vy, .int .i64 m.health] 57)))
  have A0 := hide (show ((w.alloc (.cells #[.int .i64 t, .slice p X.length cap] 40)).alloc (.cells #[.int .i64 m.id, .int .i64 m.team, .float .f32 m.x, .float .f32 m.y, .float .f32 m.vx, .float .f32 m.vy, .int .i64 m.health] 57)).heap[w.heap.size]? = some (.cells #[.int .i64 t, .slice p X.length cap] 40 (0, 0)) by rw [Below.heap_alloc _ _ _ (by simp)]; exact heap_alloc_new w _)
  have B0 : Hid (((w.alloc (.cells #[.int .i64 t, .slice p X.length cap] 40)).alloc (.cells #[.int .i64 m.id, .int .i64 m.team, .float .f32 m.x, .float .f32 m.y, .float .f32 m.vx, .float .f32 m.vy, .int .i64 m.health] 57)).heap[w.heap.size + 1]? = some (.cells #[.int .i64 m.id, .int .i64 m.team, .float .f32 m.x, .float .f32 m.y, .float .f32 m.vx, .float .f32 m.vy, .int .i64 m.health] 57 (0, 0))) := by
    have q := heap_alloc_new (w.alloc (.cells #[.int .i64 t, .slice p X.length cap] 40)) (.cells #[.int .i64 m.id, .int .i64 m.team, .float .f32 m.x, .float .f32 m.y, .float .f32 m.vx, .float .f32 m.vy, .int .i64 m.health] 57)
    rw [show (w.alloc (.cells #[.int .i64 t, .slice p X.length cap] 40)).heap.size = w.heap.size + 1 from by simp] at q
    exact q
  go_enter Try.func32, Try.ntmps32
  go_wp2
  generalize (w.alloc (.cells #[.int .i64 t, .slice p X.length cap] 40)).alloc (.cells #[.int .i64 m.id, .int .i64 m.team, .float .f32 m.x, .float .f32 m.y, .float .f32 m.vx, .float .f32 m.vy, .int .i64 m.health] 57) = W at *
  go_loopw [5] (fun a wr => ∃ i : Nat, i ≤ X.length ∧ a = .int .i64 i ∧ Hid (∀ j (h : j < X.length), j < i → eqM X[j] m = false) ∧ Hid (Kept (fun _ => False) W wr)) (fun a _ => X.length - (intOf a).toNat)
  case atStart => exact ⟨0, Nat.zero_le _, rfl, (fun _ _ h => absurd h (Nat.not_lt_zero _)), Kept.refl _ _⟩
  case round =>
    obtain ⟨i, hil, rfl, HN, HK⟩ := hrel
    have AR : Hid (wr.heap[w.heap.size]? = some (.cells #[.int .i64 t, .slice p X.length cap] 40 (0, 0))) := by show _ = _; rw [HK.out.block _ (heap_lt A0.out) (fun e => e)]; exact A0.out
    have BR : Hid (wr.heap[w.heap.size + 1]? = some (.cells #[.int .i64 m.id, .int .i64 m.team, .float .f32 m.x, .float .f32 m.y, .float .f32 m.vx, .float .f32 m.vy, .int .i64 m.health] 57 (0, 0))) := by show _ = _; rw [HK.out.block _ (heap_lt B0.out) (fun e => e)]; exact B0.out
    obtain ⟨a0, a1, -, -⟩ := two_cells AR.out
    have KW := hide (K0.out.calm2 HK.out)
    by_cases hlt : i < X.length
    · obtain ⟨b, off, hp, hb, c0, c1, c2, c3, c4, c5, c6⟩ := (HR.out.calm KW.out).at i hlt
      obtain ⟨n0, n1, n2, n3, n4, n5, n6⟩ := seven_cells BR.out
      have heq := eql_mob X[i] m
      have hb1 : (0 : Int) ≤ (i : Int) := by omega
      have hb2 : (i : Int) < (X.length : Int) := by omega
      subst hp
      cases hv : eqM X[i] m
      · rw [hv] at heq
        have HN1 : Hid (∀ j (h : j < X.length), j < i + 1 → eqM X[j] m = false) := fun j hj hji => by
          by_cases e : j = i
          · subst e; exact hv
          · exact HN.out j hj (by omega)
        clear hv
        go_wp2
        go_quiet (fail)
        go_wp2
        go_roundw
        case rel => exact ⟨i + 1, by omega, by go_num, HN1, HK.out.calm2 (Kept.drewN _ _)⟩
        case measure => simp [intOf]; omega
      · rw [hv] at heq
        have H : Hid (hasB X m = true) := by show _ = _; unfold hasB; rw [List.any_eq_true]; exact ⟨X[i], List.getElem_mem hlt, hv⟩
        clear hv
        go_wp2
        go_quiet (fail)
        go_wp2
        go_ret
        exact ⟨ret1 (by rw [H.out]; rfl), KW.out.calm2 (Kept.drewN _ _)⟩
    · have H : Hid (hasB X m = false) := by
        show _ = _
        unfold hasB
        rw [List.any_eq_false]
        intro x hx
        obtain ⟨j, hj, rfl⟩ := List.getElem_of_mem hx
        rw [HN.out j hj (by omega)]; decide
      go_wp2
      go_ret
      exact ⟨ret1 (by rw [H.out]; rfl), KW.out⟩

theorem feq_refl {x : Nat} (h : okV x) : feq x x = true := by
  show (ford x x == some .eq) = true
  rw [ford_key h h, Int.compare_eq_eq.2 rfl]; rfl
theorem eqM_refl {m : Mob} (h : mobB m = true) : eqM m m = true := by
  have hp := mob_pl h
  simp only [mobB, Bool.and_eq_true, decide_eq_true_eq] at h
  unfold eqM
  rw [feq_refl hp.x.ok, feq_refl hp.y.ok, feq_refl (fin_num h.1.1.1.2).ok, feq_refl (fin_num h.1.1.2).ok]
  simp
theorem eqM_id {e m : Mob} (h : eqM e m = true) : e.id = m.id := by
  unfold eqM at h
  split at h
  · rename_i q; simpa using q
  · cases h

/-- Who is in a part of a world. -/
theorem has_filter {t : Int} {L : List Mob} (h : worldB t L = true) (f : Mob → Bool) (k : Nat) (hk : k < L.length) : hasB (L.filter f) L[k] = f L[k] := by
  have hr := rises_of (worldB_fine h).2.2.rises
  cases hf : f L[k]
  · unfold hasB
    rw [List.any_eq_false]
    intro x hx
    obtain ⟨hx1, hx2⟩ := List.mem_filter.1 hx
    intro he
    have hid := eqM_id he
    obtain ⟨j, hj, rfl⟩ := List.getElem_of_mem hx1
    have : j = k := by
      rcases Nat.lt_trichotomy j k with q | q | q
      · have := hr j k hj hk q; omega
      · exact q
      · have := hr k j hk hj q; omega
    subst this
    rw [hf] at hx2; cases hx2
  · unfold hasB
    rw [List.any_eq_true]
    exact ⟨L[k], List.mem_filter.2 ⟨List.getElem_mem hk, hf⟩, eqM_refl (worldB_mobs h _ (List.getElem_mem hk))⟩
theorem has_all {t : Int} {L : List Mob} (h : worldB t L = true) (m : Mob) (hm : m ∈ L) : hasB L m = true := by
  unfold hasB
  rw [List.any_eq_true]
  exact ⟨m, hm, eqM_refl (worldB_mobs h m hm)⟩

theorem sees_far {a e : Mob} {u v : Nat} (ha : Pl a) (he : Pl e) (hu : isNum u) (hv : okV v) (h : rung u ≤ rung v) (hs : seesB a e u = true) : seesB a e v = true := by
  unfold seesB at *
  cases ht : (a.team == e.team)
  · rw [ht] at hs
    simp only [Bool.false_or] at hs ⊢
    obtain ⟨su, _, ou⟩ := sq_any hu.ok
    obtain ⟨sv, _, ov⟩ := sq_any hv
    have od := (dist_ok ha he).1
    have hm := sqR_mono ((num_iff u).1 hu) hv h
    have ku : key (fmul u u) = (sqR (rung u) : Int) := by rw [su, key_word _ _ (sqR_le _)]; rfl
    have kv : key (fmul v v) = (sqR (rung v) : Int) := by rw [sv, key_word _ _ (sqR_le _)]; rfl
    simp only [fle, ford_key od ou, ford_key od ov, Bool.or_eq_true, beq_iff_eq, Option.some.injEq, Int.compare_eq_lt, Int.compare_eq_eq] at hs ⊢
    omega
  · rfl

/-- far, and further. -/
theorem int_far (k : Nat) (hk : k ≤ 3000) : isNum (floatOfInt .f32 (k : Int)) ∧ 0 ≤ key (floatOfInt .f32 (k : Int)) := by
  have e : floatOfInt .f32 (k : Int) = Ieee.single.word false (rungOf k 0) := by
    show Ieee.single.nearest (decide ((k : Int) < 0)) (k : Int).natAbs 0 = _
    rw [show decide ((k : Int) < 0) = false from by simp, Int.natAbs_natCast, nearest_rung]
  have hm : rungOf k 0 ≤ rungOf 4096 0 := rung_mono _ _ _ _ (leV_of 0 (by decide) (by decide) (by simp; omega))
  have h4 : rungOf 4096 0 = 1166016512 := by kernel_rfl
  rw [e]
  refine ⟨by rw [num_iff, rung_word _ _ (rungOf_le _ _)]; omega, ?_⟩
  rw [key_word _ _ (rungOf_le _ _)]; simp [sg]

theorem not_neg {v : Nat} (h : okV v) (hk : 0 ≤ key v) : (FloatKind.f32.format.order v 0 == some .lt) = false := by
  apply ford_bne
  rw [ford_key h ok_zero, key_zero]
  intro e
  have := Int.compare_eq_lt.1 (Option.some.inj e)
  omega

theorem rung_of_key {u v : Nat} (hu : 0 ≤ key u) (h : key u ≤ key v) : rung u ≤ rung v := by
  unfold key sg at hu h
  generalize neg u = s at *
  generalize neg v = t at *
  cases s <;> cases t <;> simp only [if_true, if_false, Bool.false_eq_true] at hu h <;> omega

end Go.Proofs.Ytlfmfhmbkpnjbaa
