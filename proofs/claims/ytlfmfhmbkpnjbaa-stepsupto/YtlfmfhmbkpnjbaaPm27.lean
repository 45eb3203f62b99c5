import Derived.Test.YtlfmfhmbkpnjbaaPm26
namespace Go.Proofs.Ytlfmfhmbkpnjbaa
open Go.RowKit

def hasB (X : List Mob) (m : Mob) : Bool := X.any (fun e => eqM e m)

set_option maxHeartbeats 2000000 in
set_option maxRecDepth 100000 in
theorem has_c (t : Int) (p : Option Addr) (cap : Nat) (X : List Mob) (m : Mob) (w : World) (h : Reads w p X) (hl : X.length ≤ 32) :
    Calls Try.prog 32 #[.agg #[.int .i64 t, .slice p X.length cap], .agg #[.int .i64 m.id, .int .i64 m.team, .float .f32 m.x, .float .f32 m.y, .float .f32 m.vx, .float .f32 m.vy, .int .i64 m.health]] w fun e w' => e = .returned (.bool (hasB X m)) ∧ Kept (fun _ => False) w w' := by
  have HR := hide h
  clear h
  have K0 := hide ((Kept.alloc w (.cells #[.int .i64 t, .slice p X.length cap] 40)).calm2 (Kept.alloc _ (.cells #[.int .i64 m.id, .int .i64 m.team, .float .f32 m.x, .float .f32 m.y, .float .f32 m.vx, .float .f32 m.vy, .int .i64 m.health] 57)))
  have A0 := hide (show ((w.alloc (.cells #[.int .i64 t, .slice p X.length cap] 40)).alloc (.cells #[.int .i64 m.id, .int .i64 m.team, .float .f32 m.x, .float .f32 m.y, .float .f32 m.vx, .float .f32 m.vy, .int .i64 m.health] 57)).heap[w.heap.size]? = some (.cells #[.int .i64 t, .slice p X.length cap] 40 (0, 0)) by rw [Below.heap_alloc _ _ _ (by simp)]; exact heap_alloc_new w _)
  have B0 : Hid (((w.alloc (.cells #[.int .i64 t, .slice p X.length cap] 40)).alloc (.cells #[.int .i64 m.id, .int .i64 m.team, .float .f32 m.x, .float .f32 m.y, .float .f32 m.vx, .float .f32 m.vy, .int .i64 m.health] 57)).heap[w.heap.size + 1]? = some (.cells #[.int .i64 m.id, .int .i64 m.team, .float .f32 m.x, .float .f32 m.y, .float .f32 m.vx, .float .f32 m.vy, .int .i64 m.health] 57 (0, 0))) := by
    have q := heap_alloc_new (w.alloc (.cells #[.int .i64 t, .slice p X.length cap] 40)) (.cells #[.int .i64 m.id, .int .i64 m.team, .float .f32 m.x, .float .f32 m.y, .float .f32 m.vx, .float .f32 m.vy, .int .i64 m.health] 57)
    rw [show (w.alloc (.cells #[.int .i64 t, .slice p X.length cap] 40)).heap.size = w.heap.size + 1 from by simp] at q
    exact q
  go_enter Try.func32, Try.ntmps32
  go_wp2
  generalize (w.alloc (.cells #[.int .i64 t, .slice p X.length cap] 40)).alloc (.cells #[.int .i64 m.id, .int .i64 m.team, .float .f32 m.x, .float .f32 m.y, .float .f32 m.vx, .float .f32 m.vy, .int .i64 m.health] 57) = W at *
  go_loopw [5] (fun a wr => ∃ i : Nat, i ≤ X.length ∧ a = .int .i64 i ∧ Hid (∀ j (h : j < X.length), j < i → eqM X[j] m = false) ∧ Hid (Kept (fun _ => False) W wr)) (fun a _ => X.length - (intOf a).toNat)
  case atStart => exact ⟨0, Nat.zero_le _, rfl, (fun _ _ h => absurd h (Nat.not_lt_zero _)), Kept.refl _ _⟩
  case round =>
    obtain ⟨i, hil, rfl, HN, HK⟩ := hrel
    have AR : Hid (wr.heap[w.heap.size]? = some (.cells #[.int .i64 t, .slice p X.length cap] 40 (0, 0))) := by show _ = _; rw [HK.out.block _ (heap_lt A0.out) (fun e => e)]; exact A0.out
    have BR : Hid (wr.heap[w.heap.size + 1]? = some (.cells #[.int .i64 m.id, .int .i64 m.team, .float .f32 m.x, .float .f32 m.y, .float .f32 m.vx, .float .f32 m.vy, .int .i64 m.health] 57 (0, 0))) := by show _ = _; rw [HK.out.block _ (heap_lt B0.out) (fun e => e)]; exact B0.out
    obtain ⟨a0, a1, -, -⟩ := two_cells AR.out
    have KW := hide (K0.out.calm2 HK.out)
    by_cases hlt : i < X.length
    · obtain ⟨b, off, hp, hb, c0, c1, c2, c3, c4, c5, c6⟩ := (HR.out.calm KW.out).at i hlt
      obtain ⟨n0, n1, n2, n3, n4, n5, n6⟩ := seven_cells BR.out
      have heq := eql_mob X[i] m
      have hb1 : (0 : Int) ≤ (i : Int) := by omega
      have hb2 : (i : Int) < (X.length : Int) := by omega
      subst hp
      cases hv : eqM X[i] m
      · rw [hv] at heq
        have HN1 : Hid (∀ j (h : j < X.length), j < i + 1 → eqM X[j] m = false) := fun j hj hji => by
          by_cases e : j = i
          · subst e; exact hv
          · exact HN.out j hj (by omega)
        clear hv
        go_wp2
        go_quiet (fail)
        go_wp2
        go_roundw
        case rel => exact ⟨i + 1, by omega, by go_num, HN1, HK.out.calm2 (Kept.drewN _ _)⟩
        case measure => simp [intOf]; omega
      · rw [hv] at heq
        have H : Hid (hasB X m = true) := by show _ = _; unfold hasB; rw [List.any_eq_true]; exact ⟨X[i], List.getElem_mem hlt, hv⟩
        clear hv
        go_wp2
        go_quiet (fail)
        go_wp2
        go_ret
        exact ⟨ret1 (by rw [H.out]; rfl), KW.out.calm2 (Kept.drewN _ _)⟩
    · have H : Hid (hasB X m = false) := by
        show _ = _
        unfold hasB
        rw [List.any_eq_false]
        intro x hx
        obtain ⟨j, hj, rfl⟩ := List.getElem_of_mem hx
        rw [HN.out j hj (by omega)]; decide
      go_wp2
      go_ret
      exact ⟨ret1 (by rw [H.out]; rfl), KW.out⟩

theorem feq_refl {x : Nat} (h : okV x) : feq x x = true := by
  show (ford x x == some .eq) = true
  rw [ford_key h h, Int.compare_eq_eq.2 rfl]; rfl
theorem eqM_refl {m : Mob} (h : mobB m = true) : eqM m m = true := by
  have hp := mob_pl h
  simp only [mobB, Bool.and_eq_true, decide_eq_true_eq] at h
  unfold eqM
  rw [feq_refl hp.x.ok, feq_refl hp.y.ok, feq_refl (fin_num h.1.1.1.2).ok, feq_refl (fin_num h.1.1.2).ok]
  simp
theorem eqM_id {e m : Mob} (h : eqM e m = true) : e.id = m.id := by
  unfold eqM at h
  split at h
  · rename_i q; simpa using q
  · cases h

/-- Who is in a part of a world. -/
theorem has_filter {t : Int} {L : List Mob} (h : worldB t L = true) (f : Mob → Bool) (k : Nat) (hk : k < L.length) : hasB (L.filter f) L[k] = f L[k] := by
  have hr := rises_of (worldB_fine h).2.2.rises
  cases hf : f L[k]
  · unfold hasB
    rw [List.any_eq_false]
    intro x hx
    obtain ⟨hx1, hx2⟩ := List.mem_filter.1 hx
    intro he
    have hid := eqM_id he
    obtain ⟨j, hj, rfl⟩ := List.getElem_of_mem hx1
    have : j = k := by
      rcases Nat.lt_trichotomy j k with q | q | q
      · have := hr j k hj hk q; omega
      · exact q
      · have := hr k j hk hj q; omega
    subst this
    rw [hf] at hx2; cases hx2
  · unfold hasB
    rw [List.any_eq_true]
    exact ⟨L[k], List.mem_filter.2 ⟨List.getElem_mem hk, hf⟩, eqM_refl (worldB_mobs h _ (List.getElem_mem hk))⟩
theorem has_all {t : Int} {L : List Mob} (h : worldB t L = true) (m : Mob) (hm : m ∈ L) : hasB L m = true := by
  unfold hasB
  rw [List.any_eq_true]
  exact ⟨m, hm, eqM_refl (worldB_mobs h m hm)⟩

theorem sees_far {a e : Mob} {u v : Nat} (ha : Pl a) (he : Pl e) (hu : isNum u) (hv : okV v) (h : rung u ≤ rung v) (hs : seesB a e u = true) : seesB a e v = true := by
  unfold seesB at *
  cases ht : (a.team == e.team)
  · rw [ht] at hs
    simp only [Bool.false_or] at hs ⊢
    obtain ⟨su, _, ou⟩ := sq_any hu.ok
    obtain ⟨sv, _, ov⟩ := sq_any hv
    have od := (dist_ok ha he).1
    have hm := sqR_mono ((num_iff u).1 hu) hv h
    have ku : key (fmul u u) = (sqR (rung u) : Int) := by rw [su, key_word _ _ (sqR_le _)]; rfl
    have kv : key (fmul v v) = (sqR (rung v) : Int) := by rw [sv, key_word _ _ (sqR_le _)]; rfl
    simp only [fle, ford_key od ou, ford_key od ov, Bool.or_eq_true, beq_iff_eq, Option.some.injEq, Int.compare_eq_lt, Int.compare_eq_eq] at hs ⊢
    omega
  · rfl

/-- far, and further. -/
theorem int_far (k : Nat) (hk : k ≤ 3000) : isNum (floatOfInt .f32 (k : Int)) ∧ 0 ≤ key (floatOfInt .f32 (k : Int)) := by
  have e : floatOfInt .f32 (k : Int) = Ieee.single.word false (rungOf k 0) := by
    show Ieee.single.nearest (decide ((k : Int) < 0)) (k : Int).natAbs 0 = _
    rw [show decide ((k : Int) < 0) = false from by simp, Int.natAbs_natCast, nearest_rung]
  have hm : rungOf k 0 ≤ rungOf 4096 0 := rung_mono _ _ _ _ (leV_of 0 (by decide) (by decide) (by simp; omega))
  have h4 : rungOf 4096 0 = 1166016512 := by kernel_rfl
  rw [e]
  refine ⟨by rw [num_iff, rung_word _ _ (rungOf_le _ _)]; omega, ?_⟩
  rw [key_word _ _ (rungOf_le _ _)]; simp [sg]

theorem not_neg {v : Nat} (h : okV v) (hk : 0 ≤ key v) : (FloatKind.f32.format.order v 0 == some .lt) = false := by
  apply ford_bne
  rw [ford_key h ok_zero, key_zero]
  intro e
  have := Int.compare_eq_lt.1 (Option.some.inj e)
  omega

theorem rung_of_key {u v : Nat} (hu : 0 ≤ key u) (h : key u ≤ key v) : rung u ≤ rung v := by
  unfold key sg at hu h
  generalize neg u = s at *
  generalize neg v = t at *
  cases s <;> cases t <;> simp only [if_true, if_false, Bool.false_eq_true] at hu h <;> omega

end Go.Proofs.Ytlfmfhmbkpnjbaa
