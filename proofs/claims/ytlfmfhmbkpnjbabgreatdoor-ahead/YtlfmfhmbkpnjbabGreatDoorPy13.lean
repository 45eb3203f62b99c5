import Derived.Test.YtlfmfhmbkpnjbabGreatDoorPy12
namespace Go.Proofs.YtlfmfhmbkpnjbabGreatDoor
open Go.RowKit

set_option maxHeartbeats 2000000 in
set_option maxRecDepth 100000 in
theorem hexu_nil (w : World) :
    Calls Tryz.prog 118 #[.string (baL []), .int .i64 16, .int .i64 32] w fun e w' => e = .returned (.tuple #[.int .u64 0, .iface 167 (.int .i64 2)]) ∧ w' = w := by
  go_enter Tryz.func118, Tryz.ntmps118
  go_wp2
  go_ret2
  exact ⟨rfl, rfl⟩

theorem hexi_c (x : List UInt8) (hmax : x.length ≤ 140737488355328) (w : World) :
    Calls Tryz.prog 118 #[.string (baL x), .int .i64 16, .int .i64 32] w fun e w' => ((∃ u : Nat, x ≠ [] ∧ hexA 0 x = some u ∧ e = .returned (.tuple #[.int .u64 u, .nilIface])) ∨
      ((x = [] ∨ hexA 0 x = none) ∧ ∃ v k, (k = 1 ∨ k = 2) ∧ e = .returned (.tuple #[.int .u64 v, .iface 167 (.int .i64 k)]))) ∧ Kept (fun _ => False) w w' := by
  by_cases hx : x = []
  · subst hx
    refine (hexu_nil w).mono ?_
    rintro e w' ⟨rfl, rfl⟩
    exact ⟨Or.inr ⟨Or.inl rfl, _, 2, Or.inr rfl, rfl⟩, Kept.refl _ _⟩
  · refine (hexu_c x hx hmax w).mono ?_
    rintro e w' ⟨h, rfl⟩
    refine ⟨?_, Kept.bytes _ _ _⟩
    rcases h with ⟨u, h1, h2⟩ | ⟨h1, v, k, h2, h3⟩
    · exact Or.inl ⟨u, hx, h1, h2⟩
    · exact Or.inr ⟨Or.inr h1, v, k, h2, h3⟩

set_option maxHeartbeats 2000000 in
set_option maxRecDepth 100000 in
theorem hexp_c (x : List UInt8) (hmax : x.length ≤ 140737488355328) (w : World) (hE : Errs w) :
    Calls Tryz.prog 112 #[.string (baL x), .int .i64 16, .int .i64 32] w fun e w' => ((∃ u : Nat, x ≠ [] ∧ hexA 0 x = some u ∧ e = .returned (.tuple #[.int .u64 u, .nilIface])) ∨
      ((x = [] ∨ hexA 0 x = none) ∧ ∃ v N, e = .returned (.tuple #[.int .u64 v, .iface 170 (.pointer (some ⟨N, 0, none⟩))]))) ∧ Kept (fun _ => False) w w' := by
  have hsz := hide (baL_size x)
  have HE := hide hE
  have HM := hide hmax
  clear hE hmax
  go_enter Tryz.func112, Tryz.ntmps112
  go_wp2_with fail
  refine (hexi_c x HM.out w).mono ?_
  rintro e w1 ⟨h, k1⟩
  have K1 := hide k1
  clear k1
  rcases h with ⟨u, h0, h1, rfl⟩ | ⟨h1, v, k, hk, rfl⟩
  · have HH := hide (And.intro h0 h1)
    clear h0 h1
    go_wp2
    go_ret2
    exact ⟨Or.inl ⟨u, HH.out.1, HH.out.2, rfl⟩, K1.out⟩
  · have HH := hide h1
    clear h1
    rcases hk with rfl | rfl
    · obtain ⟨te, pe, hv⟩ := (HE.out.calm K1.out).rng
      have HV := hide hv
      clear hv
      go_wp2_with fail
      refine (Tryz.strconv_toError_range _ (baL x) _ _ _ w1 (by have := hsz.out; have := HM.out; omega) HV.out (Or.inr ⟨te, pe, rfl⟩)).mono ?_
      rintro e w2 ⟨N, rfl, _, _, h2⟩
      have K2 := hide (Kept.of_below h2)
      clear h2
      go_wp2
      go_ret2
      exact ⟨Or.inr ⟨HH.out, _, _, rfl⟩, K1.out.join K2.out (fun _ _ e => e) (fun _ _ e => e)⟩
    · obtain ⟨te, pe, hv⟩ := (HE.out.calm K1.out).syn
      have HV := hide hv
      clear hv
      go_wp2_with fail
      refine (Tryz.strconv_toError_syntax _ (baL x) _ _ _ w1 (by have := hsz.out; have := HM.out; omega) HV.out (Or.inr ⟨te, pe, rfl⟩)).mono ?_
      rintro e w2 ⟨N, rfl, _, _, h2⟩
      have K2 := hide (Kept.of_below h2)
      clear h2
      go_wp2
      go_ret2
      exact ⟨Or.inr ⟨HH.out, _, _, rfl⟩, K1.out.join K2.out (fun _ _ e => e) (fun _ _ e => e)⟩

theorem bitsL_ok {x : List UInt8} {u : Nat} (h0 : x ≠ []) (h1 : hexA 0 x = some u) (h2 : hexL u = x) : bitsL x = some u := by unfold bitsL; rw [if_neg h0, h1]; exact if_pos h2
theorem bitsL_not {x : List UInt8} {u : Nat} (h0 : x ≠ []) (h1 : hexA 0 x = some u) (h2 : ¬ hexL u = x) : bitsL x = none := by unfold bitsL; rw [if_neg h0, h1]; exact if_neg h2
theorem bitsL_bad {x : List UInt8} (h : x = [] ∨ hexA 0 x = none) : bitsL x = none := by
  unfold bitsL
  by_cases h0 : x = []
  · exact if_pos h0
  · rw [if_neg h0, h.resolve_left h0]

set_option maxHeartbeats 2000000 in
set_option maxRecDepth 100000 in
theorem flt_c (b : Nat) (r : Rd) (w : World) (hs : r.small) (hB : Mine b) (hE : Errs w) (h : RdAt w b r) :
    Calls Tryz.prog 96 #[.pointer (some ⟨b, 0, none⟩)] w fun e w' => e = .returned (.float .f32 r.flt.1) ∧ RdAt w' b r.flt.2 ∧ Kept (fun k => k = b) w w' := by
  have H := hide h
  have HE := hide hE
  have HB := hide hB
  have HS := hide (word_small r hs)
  have HS0 := hide hs
  clear h hE hB hs
  go_enter Tryz.func96, Tryz.ntmps96
  go_wp2_with fail
  refine (word_c b r w HS0.out H.out).mono ?_
  rintro e w1 ⟨rfl, q1, k1⟩
  have Q1 := hide q1
  have K1 := hide k1
  clear q1 k1
  obtain ⟨x, hx⟩ : ∃ x, r.word.1 = x := ⟨_, rfl⟩
  obtain ⟨r2, hr2⟩ : ∃ r2, r.word.2 = r2 := ⟨_, rfl⟩
  rw [hx]
  rw [hr2] at Q1
  have HX := hide hx
  have HR := hide hr2
  have HXL : Hid (x.length ≤ 140737488355328) := by show _ ≤ _; rw [← HX.out]; exact HS.out.1
  clear hx hr2
  go_wp2_with fail
  refine (hexp_c x HXL.out w1 (HE.out.mine HB.out K1.out)).mono ?_
  rintro e w2 ⟨hN, k2⟩
  have K2 := hide k2
  obtain ⟨d0, d1, d2, g0, g1, g2⟩ := three_cells (Q1.out.calm k2)
  clear k2 d0 d1 g0 g1
  have bad : Hid (∀ w3, Kept (fun _ => False) w2 w3 → bitsL x = none → RdAt (w3.setCell ⟨b, 2, none⟩ (.bool true)) b r.flt.2 ∧ Kept (fun k => k = b) w (w3.setCell ⟨b, 2, none⟩ (.bool true)) ∧ r.flt.1 = 0) := by
    intro w3 k3 hn
    have e1 : r.flt = (0, r2.bad) := by unfold Rd.flt; rw [HX.out, hn, HR.out]
    rw [e1]
    exact ⟨((Q1.out.calm K2.out).calm k3).set2, K1.out.join ((K2.out.join k3 (R := fun _ => False) (fun _ _ e => e) (fun _ _ e => e)).join (Kept.setCell w3 ⟨b, 2, none⟩ _) (R := fun k => k = b) (fun _ _ e => e.elim) (fun _ _ e => e)) (fun _ _ e => e) (fun _ _ e => e), rfl⟩
  rcases hN with ⟨u, h0, ha, rfl⟩ | ⟨ha, v, N, rfl⟩
  · have hu := hexA_lt x 0 u (by decide) ha
    have HA := hide (And.intro h0 ha)
    have okN : Hid (∀ w3, Kept (fun _ => False) w2 w3 → hexL u = x → RdAt w3 b r.flt.2 ∧ Kept (fun k => k = b) w w3 ∧ r.flt.1 = u) := by
      intro w3 k3 h1
      have e1 : r.flt = (u, r2) := by unfold Rd.flt; rw [HX.out, bitsL_ok HA.out.1 HA.out.2 h1, HR.out]
      rw [e1]
      exact ⟨(Q1.out.calm K2.out).calm k3, K1.out.join (K2.out.join k3 (R := fun _ => False) (fun _ _ e => e) (fun _ _ e => e)) (fun _ _ e => e) (fun _ _ e => e.elim), rfl⟩
    have hwr : IntKind.u32.wrap (u : Int) = (u : Int) := by rw [IntKind.wrap_u32]; omega
    have hbits : ∀ w : World, (callFunc 113 #[.int .u32 u]).run Tryz.prog w = .ok (.value (.float .f32 u)) w := fun w => by
      rw [run_callFunc_extern Tryz.func113 (by kernel_rfl) (by kernel_rfl) (by kernel_rfl) (e := Extern.MathFloatBits.float32frombits) (by kernel_rfl)]
      rfl
    clear h0 ha
    go_wp2_with fail
    refine (bitsWord_c u w2 (by omega) ((HE.out.mine HB.out K1.out).calm K2.out).tabs.four).mono ?_
    rintro e w3 ⟨rfl, k3⟩
    have K3 := hide k3
    obtain ⟨p0, p1, p2, z0, z1, z2⟩ := three_cells ((Q1.out.calm K2.out).calm k3)
    clear k3 p0 p1 z0 z1 d2 g2
    by_cases hw : hexL u = x
    · have hb : (hexL u == x) = true := by rw [← hw]; simp
      have hb' : ((baL (hexL u)).toList == (baL x).toList) = true := by rw [baL_beq]; simp [hw]
      have HW := hide hw
      clear hw
      go_wp2
      go_ret
      obtain ⟨q1, q2, q3⟩ := okN.out w3 K3.out HW.out
      exact ⟨ret1 (by rw [q3]; rfl), q1, q2⟩
    · have hb : (hexL u == x) = false := by simp [hw]
      have hb' : ((baL (hexL u)).toList == (baL x).toList) = false := by rw [baL_beq]; simp [hw]
      have HW : Hid (bitsL x = none) := bitsL_not HA.out.1 HA.out.2 hw
      clear hw
      go_wp2
      go_ret
      obtain ⟨q1, q2, q3⟩ := bad.out w3 K3.out HW.out
      exact ⟨ret1 (by rw [q3]; rfl), q1, q2⟩
  · have HA : Hid (bitsL x = none) := bitsL_bad ha
    clear ha
    go_wp2
    go_ret
    obtain ⟨q1, q2, q3⟩ := bad.out w2 (Kept.refl _ _) HA.out
    exact ⟨ret1 (by rw [q3]; rfl), q1, q2⟩

set_option maxHeartbeats 2000000 in
set_option maxRecDepth 100000 in
theorem any_c (b : Nat) (r : Rd) (w : World) (hs : r.small) (hB : Mine b) (hE : Errs w) (h : RdAt w b r) :
    Calls Tryz.prog 95 #[.pointer (some ⟨b, 0, none⟩)] w fun e w' => e = .returned (.int .i64 r.any.1) ∧ RdAt w' b r.any.2 ∧ Kept (fun k => k = b) w w' := by
  go_enter Tryz.func95, Tryz.ntmps95
  go_wp2_with fail
  refine (int_c b r _ _ w hs hB hE h).mono ?_
  rintro e w1 ⟨rfl, q1, k1⟩
  have Q1 := hide q1
  have K1 := hide k1
  clear q1 k1
  go_wp2
  go_ret
  exact ⟨rfl, Q1.out, K1.out⟩

set_option maxHeartbeats 2000000 in
set_option maxRecDepth 100000 in
theorem done_c (b : Nat) (r : Rd) (w : World) (h : RdAt w b r) :
    Calls Tryz.prog 48 #[.pointer (some ⟨b, 0, none⟩)] w fun e w' => e = .returned (.bool r.done) ∧ w' = w := by
  obtain ⟨c0, c1, c2, f0, f1, f2⟩ := three_cells h
  clear h c0 f0 f1 f2
  unfold Rd.done
  cases ho : r.over with
  | true =>
    rw [ho] at c1
    go_enter Tryz.func48, Tryz.ntmps48
    go_wp2
    go_ret
    exact ⟨rfl, rfl⟩
  | false =>
    rw [ho] at c1
    go_enter Tryz.func48, Tryz.ntmps48
    go_wp2
    go_ret
    exact ⟨rfl, rfl⟩
end Go.Proofs.YtlfmfhmbkpnjbabGreatDoor

namespace Go.Proofs.YtlfmfhmbkpnjbabGreatDoor
open Go.RowKit

/-- A reader that goes on from a world. -/
structure RS (w0 w : World) (b : Nat) (r : Rd) : Prop where
  at_ : RdAt w b r
  kept : Kept (fun k => k = b) w0 w
  errs : Errs w
  small : r.small
theorem RS.start {w : World} {b : Nat} {r : Rd} (h : RdAt w b r) (hE : Errs w) (hs : r.small) : RS w w b r := ⟨h, Kept.refl _ _, hE, hs⟩
theorem RS.calm {w0 w w' : World} {b : Nat} {r : Rd} (h : RS w0 w b r) (k : Kept (fun _ => False) w w') : RS w0 w' b r := ⟨h.at_.calm k, h.kept.join k (fun _ _ e => e) (fun _ _ e => e.elim), h.errs.calm k, h.small⟩
theorem RS.blk {w0 w : World} {b c : Nat} {r : Rd} {o : Obj} (h : RS w0 w b r) (hc : w0.heap[c]? = some o) (hne : c ≠ b) : w.heap[c]? = some o := by rw [h.kept.block c (heap_lt hc) hne]; exact hc
theorem bad_small {r : Rd} (h : r.small) : r.bad.small := h
theorem int_small {r : Rd} (lo hi : Int) (h : r.small) : (r.int lo hi).2.small := by
  have := (word_small r h).2
  unfold Rd.int
  split
  · split
    · exact this
    · exact bad_small this
  · exact bad_small this
theorem any_small {r : Rd} (h : r.small) : r.any.2.small := int_small _ _ h
theorem flt_small {r : Rd} (h : r.small) : r.flt.2.small := by
  have := (word_small r h).2
  unfold Rd.flt
  split
  · exact this
  · exact bad_small this
theorem any_s (b : Nat) (r : Rd) (w0 w : World) (hB : Mine b) (h : RS w0 w b r) :
    Calls Tryz.prog 95 #[.pointer (some ⟨b, 0, none⟩)] w fun e w' => ∃ v r', r.any = (v, r') ∧ e = .returned (.int .i64 v) ∧ RS w0 w' b r' := by
  refine (any_c b r w h.small hB h.errs h.at_).mono ?_
  rintro e w' ⟨rfl, q1, q2⟩
  exact ⟨_, _, rfl, rfl, q1, h.kept.join q2 (fun _ _ e => e) (fun _ _ e => e), h.errs.mine hB q2, any_small h.small⟩
theorem int_s (b : Nat) (r : Rd) (lo hi : Int) (w0 w : World) (hB : Mine b) (h : RS w0 w b r) :
    Calls Tryz.prog 47 #[.pointer (some ⟨b, 0, none⟩), .int .i64 lo, .int .i64 hi] w fun e w' => ∃ v r', r.int lo hi = (v, r') ∧ e = .returned (.int .i64 v) ∧ RS w0 w' b r' := by
  refine (int_c b r lo hi w h.small hB h.errs h.at_).mono ?_
  rintro e w' ⟨rfl, q1, q2⟩
  exact ⟨_, _, rfl, rfl, q1, h.kept.join q2 (fun _ _ e => e) (fun _ _ e => e), h.errs.mine hB q2, int_small lo hi h.small⟩
theorem flt_s (b : Nat) (r : Rd) (w0 w : World) (hB : Mine b) (h : RS w0 w b r) :
    Calls Tryz.prog 96 #[.pointer (some ⟨b, 0, none⟩)] w fun e w' => ∃ v r', r.flt = (v, r') ∧ e = .returned (.float .f32 v) ∧ RS w0 w' b r' := by
  refine (flt_c b r w h.small hB h.errs h.at_).mono ?_
  rintro e w' ⟨rfl, q1, q2⟩
  exact ⟨_, _, rfl, rfl, q1, h.kept.join q2 (fun _ _ e => e) (fun _ _ e => e), h.errs.mine hB q2, flt_small h.small⟩

def six (w : World) (c : Nat) (k i t : Int) (x y : Nat) (n : Int) : Prop := w.heap[c]? = some (.cells #[.int .i64 k, .int .i64 i, .int .i64 t, .float .f32 x, .float .f32 y, .int .i64 n] 90 (0, 0))
theorem six_all {w : World} {c : Nat} {k i t : Int} {x y : Nat} {n : Int} (h : six w c k i t x y n) :
    (w.cell? ⟨c, 0, none⟩ = some (.int .i64 k) ∧ w.cell? ⟨c, 1, none⟩ = some (.int .i64 i) ∧ w.cell? ⟨c, 2, none⟩ = some (.int .i64 t) ∧ w.cell? ⟨c, 3, none⟩ = some (.float .f32 x) ∧ w.cell? ⟨c, 4, none⟩ = some (.float .f32 y) ∧ w.cell? ⟨c, 5, none⟩ = some (.int .i64 n)) ∧
    (w.frozen? ⟨c, 0, none⟩ = false ∧ w.frozen? ⟨c, 1, none⟩ = false ∧ w.frozen? ⟨c, 2, none⟩ = false ∧ w.frozen? ⟨c, 3, none⟩ = false ∧ w.frozen? ⟨c, 4, none⟩ = false ∧ w.frozen? ⟨c, 5, none⟩ = false) := by
  unfold six at h
  refine ⟨six_cells h, ?_⟩
  simp [World.frozen?, h]
/-- Only two blocks of one's own have turned besides. -/
theorem ends_kept {w w1 w2 : World} {b b2 b3 : Nat} (h : Kept (fun k => k = b ∨ k = b2 ∨ k = b3) w1 w2) (k1 : Kept (fun k => k = b) w w1) (h2 : w.heap.size ≤ b2) (h3 : w.heap.size ≤ b3) : Kept (fun k => k = b) w w2 :=
  k1.join h (fun _ _ e => e) (fun j hj e => by rcases e with e | e | e <;> omega)
theorem Kept.set' {S : Nat → Prop} {a w : World} {p : Addr} {u : Value} (h : Kept S a w) (hp : S p.block) : Kept S a (w.setCell p u) := h.join (Kept.setCell w p u) (fun _ _ e => e) (fun j _ e => by rw [e]; exact hp)
theorem Mine.up {b c : Nat} (h : Mine b) (hc : b ≤ c) : Mine c := ⟨Nat.lt_of_lt_of_le h.1 hc, Nat.lt_of_lt_of_le h.2.1 hc, Nat.lt_of_lt_of_le h.2.2.1 hc, Nat.lt_of_lt_of_le h.2.2.2 hc⟩
theorem cmd_end {w WA w1 W3 wn we : World} {b b2 b3 : Nat} {r1 r2 rn : Rd} (hb : b < w.heap.size) (hB : Mine b) (kA : Kept (fun _ => False) w WA) (s1 : RS WA w1 b r1) (k3 : Kept (fun _ => False) w1 W3) (sn : RS W3 wn b rn) (h2 : w.heap.size ≤ b2) (h3 : w.heap.size ≤ b3)
    (ke : Kept (fun k => k = b2 ∨ k = b3) wn we) (hr : rn = r2) : RS w we b r2 := by
  subst hr
  have m2 : Mine b2 := hB.up (by omega)
  have m3 : Mine b3 := hB.up (by omega)
  refine ⟨sn.at_.keep ke (fun e => by rcases e with e | e <;> omega), ?_, ?_, sn.small⟩
  · exact (kA.join s1.kept (R := fun k => k = b) (fun _ _ e => e.elim) (fun _ _ e => e)).join ((k3.join sn.kept (R := fun k => k = b) (fun _ _ e => e.elim) (fun _ _ e => e)).join ke (R := fun k => k = b ∨ k = b2 ∨ k = b3) (fun _ _ e => Or.inl e) (fun _ _ e => Or.inr e)) (fun _ _ e => e) (fun j hj e => by rcases e with e | e | e <;> omega)
  · refine sn.errs.keep ke (fun e => ?_) (fun e => ?_) (fun e => ?_) (fun e => ?_)
    · have := m2.1; have := m3.1; rcases e with e | e <;> omega
    · have := m2.2.1; have := m3.2.1; rcases e with e | e <;> omega
    · have := m2.2.2.1; have := m3.2.2.1; rcases e with e | e <;> omega
    · have := m2.2.2.2; have := m3.2.2.2; rcases e with e | e <;> omega
theorem six_set0 {w : World} {c : Nat} {k i t : Int} {x y : Nat} {n : Int} (h : six w c k i t x y n) (k' i' t' : Int) (x' y' : Nat) (n' : Int) :
    six ((((((w.setCell ⟨c, 0, none⟩ (.int .i64 k')).setCell ⟨c, 1, none⟩ (.int .i64 i')).setCell ⟨c, 2, none⟩ (.int .i64 t')).setCell ⟨c, 3, none⟩ (.float .f32 x')).setCell ⟨c, 4, none⟩ (.float .f32 y')).setCell ⟨c, 5, none⟩ (.int .i64 n')) c k' i' t' x' y' n' := by
  have e := (setCells_row c 90 [.int .i64 k', .int .i64 i', .int .i64 t', .float .f32 x', .float .f32 y', .int .i64 n'] 0 [.int .i64 k, .int .i64 i, .int .i64 t, .float .f32 x, .float .f32 y, .int .i64 n] w h (by simp)).1
  exact e
end Go.Proofs.YtlfmfhmbkpnjbabGreatDoor

namespace Go.Proofs.YtlfmfhmbkpnjbabGreatDoor
open Go.RowKit

set_option maxHeartbeats 1000000 in
set_option maxRecDepth 100000 in
theorem cmd1_c (b : Nat) (r : Rd) (w : World) (hk : r.any.1 = 1) (hB : Mine b) (hE : Errs w) (hs : r.small) (h : RdAt w b r) :
    Calls Tryz.prog 72 #[.pointer (some ⟨b, 0, none⟩)] w fun e w' => ∃ c r', r.cmd = (c, r') ∧ e = .returned (.agg #[.int .i64 c.kind, .int .i64 c.id, .int .i64 c.team, .float .f32 c.x, .float .f32 c.y, .int .i64 c.n]) ∧ RS w w' b r' := by
  have hb := heap_lt h
  have hsf := store_float Tryz.prog
  have HB := hide hB
  have KA := hide (Kept.alloc w (.cells #[.int .i64 0, .int .i64 0, .int .i64 0, .float .f32 0, .float .f32 0, .int .i64 0] 90))
  have A0 : Hid (six (w.alloc (.cells #[.int .i64 0, .int .i64 0, .int .i64 0, .float .f32 0, .float .f32 0, .int .i64 0] 90)) w.heap.size 0 0 0 0 0 0) := heap_alloc_new w _
  have S0 : Hid (RS (w.alloc (.cells #[.int .i64 0, .int .i64 0, .int .i64 0, .float .f32 0, .float .f32 0, .int .i64 0] 90)) (w.alloc (.cells #[.int .i64 0, .int .i64 0, .int .i64 0, .float .f32 0, .float .f32 0, .int .i64 0] 90)) b r) := RS.start (h.calm KA.out) (hE.calm KA.out) hs
  clear h hE hs hB
  go_enter Tryz.func72, Tryz.ntmps72
  go_wp2_with fail
  refine (any_s b r _ _ HB.out S0.out).mono ?_
  rintro e w1 ⟨k1, r1, hv1, rfl, s1⟩
  obtain rfl : k1 = 1 := by rw [hv1] at hk; exact hk
  clear hk
  have V1 := hide hv1
  clear hv1
  have A1 : Hid (six w1 w.heap.size 0 0 0 0 0 0) := s1.blk A0.out (by omega)
  have hz1 : w.heap.size < w1.heap.size := heap_lt A1.out
  have S1 := hide s1
  have K3 := hide (Kept.alloc w1 (.cells #[.int .i64 1, .int .i64 0, .int .i64 0, .float .f32 0, .float .f32 0, .int .i64 0] 90))
  have B3 : Hid (six (w1.alloc (.cells #[.int .i64 1, .int .i64 0, .int .i64 0, .float .f32 0, .float .f32 0, .int .i64 0] 90)) w1.heap.size 1 0 0 0 0 0) := heap_alloc_new w1 _
  have A3 : Hid (six (w1.alloc (.cells #[.int .i64 1, .int .i64 0, .int .i64 0, .float .f32 0, .float .f32 0, .int .i64 0] 90)) w.heap.size 0 0 0 0 0 0) := by show _ = _; rw [K3.out.block _ hz1 (fun e => e)]; exact A1.out
  have T2 : Hid (RS (w1.alloc (.cells #[.int .i64 1, .int .i64 0, .int .i64 0, .float .f32 0, .float .f32 0, .int .i64 0] 90)) (w1.alloc (.cells #[.int .i64 1, .int .i64 0, .int .i64 0, .float .f32 0, .float .f32 0, .int .i64 0] 90)) b r1) := RS.start (s1.at_.calm K3.out) (s1.errs.calm K3.out) s1.small
  clear s1
  go_wp2_with fail
  refine (any_s b _ _ _ HB.out T2.out).mono ?_
  rintro e w3 ⟨v3, r3, hv3, rfl, s3⟩
  have T3 := hide s3
  have V3 := hide hv3
  clear s3 hv3
  go_wp2_with fail
  refine (any_s b _ _ _ HB.out T3.out).mono ?_
  rintro e w4 ⟨v4, r4, hv4, rfl, s4⟩
  have T4 := hide s4
  have V4 := hide hv4
  clear s4 hv4
  go_wp2_with fail
  refine (flt_s b _ _ _ HB.out T4.out).mono ?_
  rintro e w5 ⟨v5, r5, hv5, rfl, s5⟩
  have T5 := hide s5
  have V5 := hide hv5
  clear s5 hv5
  go_wp2_with fail
  refine (flt_s b _ _ _ HB.out T5.out).mono ?_
  rintro e w6 ⟨v6, r6, hv6, rfl, s6⟩
  have T6 := hide s6
  have V6 := hide hv6
  clear s6 hv6
  obtain ⟨⟨a0, a1, a2, a3, a4, a5⟩, z0, z1, z2, z3, z4, z5⟩ := six_all (T6.out.blk A3.out (by omega))
  obtain ⟨⟨c0, c1, c2, c3, c4, c5⟩, y0, y1, y2, y3, y4, y5⟩ := six_all (T6.out.blk B3.out (by omega))
  have n1 : ¬ w.heap.size = w1.heap.size := by omega
  have n2 : ¬ w1.heap.size = w.heap.size := by omega
  go_wp2
  refine bodyPost_ret (v := .agg #[.int .i64 1, .int .i64 v3, .int .i64 v4, .float .f32 v5, .float .f32 v6, .int .i64 0]) (by simp [results, Tryz.results72, go_sem, a0, a1, a2, a3, a4, a5]) rfl ?_
  refine ⟨⟨1, v3, v4, v5, v6, 0⟩, _, (by unfold Rd.cmd; simp only [V1.out, V3.out, V4.out, V5.out, V6.out]; first | rfl | simp), rfl, cmd_end hb HB.out KA.out S1.out K3.out T6.out (b2 := w.heap.size) (b3 := w1.heap.size) (Nat.le_refl _) (by omega) ?_ rfl⟩
  repeat (refine Kept.set' ?_ (by first | exact Or.inl rfl | exact Or.inr rfl))
  exact Kept.refl _ _

set_option maxHeartbeats 1000000 in
set_option maxRecDepth 100000 in
theorem cmd2_c (b : Nat) (r : Rd) (w : World) (hk : r.any.1 = 2) (hB : Mine b) (hE : Errs w) (hs : r.small) (h : RdAt w b r) :
    Calls Tryz.prog 72 #[.pointer (some ⟨b, 0, none⟩)] w fun e w' => ∃ c r', r.cmd = (c, r') ∧ e = .returned (.agg #[.int .i64 c.kind, .int .i64 c.id, .int .i64 c.team, .float .f32 c.x, .float .f32 c.y, .int .i64 c.n]) ∧ RS w w' b r' := by
  have hb := heap_lt h
  have hsf := store_float Tryz.prog
  have HB := hide hB
  have KA := hide (Kept.alloc w (.cells #[.int .i64 0, .int .i64 0, .int .i64 0, .float .f32 0, .float .f32 0, .int .i64 0] 90))
  have A0 : Hid (six (w.alloc (.cells #[.int .i64 0, .int .i64 0, .int .i64 0, .float .f32 0, .float .f32 0, .int .i64 0] 90)) w.heap.size 0 0 0 0 0 0) := heap_alloc_new w _
  have S0 : Hid (RS (w.alloc (.cells #[.int .i64 0, .int .i64 0, .int .i64 0, .float .f32 0, .float .f32 0, .int .i64 0] 90)) (w.alloc (.cells #[.int .i64 0, .int .i64 0, .int .i64 0, .float .f32 0, .float .f32 0, .int .i64 0] 90)) b r) := RS.start (h.calm KA.out) (hE.calm KA.out) hs
  clear h hE hs hB
  go_enter Tryz.func72, Tryz.ntmps72
  go_wp2_with fail
  refine (any_s b r _ _ HB.out S0.out).mono ?_
  rintro e w1 ⟨k1, r1, hv1, rfl, s1⟩
  obtain rfl : k1 = 2 := by rw [hv1] at hk; exact hk
  clear hk
  have V1 := hide hv1
  clear hv1
  have A1 : Hid (six w1 w.heap.size 0 0 0 0 0 0) := s1.blk A0.out (by omega)
  have hz1 : w.heap.size < w1.heap.size := heap_lt A1.out
  have S1 := hide s1
  have K3 := hide (Kept.alloc w1 (.cells #[.int .i64 2, .int .i64 0, .int .i64 0, .float .f32 0, .float .f32 0, .int .i64 0] 90))
  have B3 : Hid (six (w1.alloc (.cells #[.int .i64 2, .int .i64 0, .int .i64 0, .float .f32 0, .float .f32 0, .int .i64 0] 90)) w1.heap.size 2 0 0 0 0 0) := heap_alloc_new w1 _
  have A3 : Hid (six (w1.alloc (.cells #[.int .i64 2, .int .i64 0, .int .i64 0, .float .f32 0, .float .f32 0, .int .i64 0] 90)) w.heap.size 0 0 0 0 0 0) := by show _ = _; rw [K3.out.block _ hz1 (fun e => e)]; exact A1.out
  have T2 : Hid (RS (w1.alloc (.cells #[.int .i64 2, .int .i64 0, .int .i64 0, .float .f32 0, .float .f32 0, .int .i64 0] 90)) (w1.alloc (.cells #[.int .i64 2, .int .i64 0, .int .i64 0, .float .f32 0, .float .f32 0, .int .i64 0] 90)) b r1) := RS.start (s1.at_.calm K3.out) (s1.errs.calm K3.out) s1.small
  clear s1
  go_wp2_with fail
  refine (any_s b _ _ _ HB.out T2.out).mono ?_
  rintro e w3 ⟨v3, r3, hv3, rfl, s3⟩
  have T3 := hide s3
  have V3 := hide hv3
  clear s3 hv3
  go_wp2_with fail
  refine (flt_s b _ _ _ HB.out T3.out).mono ?_
  rintro e w4 ⟨v4, r4, hv4, rfl, s4⟩
  have T4 := hide s4
  have V4 := hide hv4
  clear s4 hv4
  go_wp2_with fail
  refine (flt_s b _ _ _ HB.out T4.out).mono ?_
  rintro e w5 ⟨v5, r5, hv5, rfl, s5⟩
  have T5 := hide s5
  have V5 := hide hv5
  clear s5 hv5
  obtain ⟨⟨a0, a1, a2, a3, a4, a5⟩, z0, z1, z2, z3, z4, z5⟩ := six_all (T5.out.blk A3.out (by omega))
  obtain ⟨⟨c0, c1, c2, c3, c4, c5⟩, y0, y1, y2, y3, y4, y5⟩ := six_all (T5.out.blk B3.out (by omega))
  have n1 : ¬ w.heap.size = w1.heap.size := by omega
  have n2 : ¬ w1.heap.size = w.heap.size := by omega
  go_wp2
  refine bodyPost_ret (v := .agg #[.int .i64 2, .int .i64 v3, .int .i64 0, .float .f32 v4, .float .f32 v5, .int .i64 0]) (by simp [results, Tryz.results72, go_sem, a0, a1, a2, a3, a4, a5]) rfl ?_
  refine ⟨⟨2, v3, 0, v4, v5, 0⟩, _, (by unfold Rd.cmd; simp only [V1.out, V3.out, V4.out, V5.out]; first | rfl | simp), rfl, cmd_end hb HB.out KA.out S1.out K3.out T5.out (b2 := w.heap.size) (b3 := w1.heap.size) (Nat.le_refl _) (by omega) ?_ rfl⟩
  repeat (refine Kept.set' ?_ (by first | exact Or.inl rfl | exact Or.inr rfl))
  exact Kept.refl _ _

set_option maxHeartbeats 1000000 in
set_option maxRecDepth 100000 in
theorem cmd3_c (b : Nat) (r : Rd) (w : World) (hk : r.any.1 = 3) (hB : Mine b) (hE : Errs w) (hs : r.small) (h : RdAt w b r) :
    Calls Tryz.prog 72 #[.pointer (some ⟨b, 0, none⟩)] w fun e w' => ∃ c r', r.cmd = (c, r') ∧ e = .returned (.agg #[.int .i64 c.kind, .int .i64 c.id, .int .i64 c.team, .float .f32 c.x, .float .f32 c.y, .int .i64 c.n]) ∧ RS w w' b r' := by
  have hb := heap_lt h
  have hsf := store_float Tryz.prog
  have HB := hide hB
  have KA := hide (Kept.alloc w (.cells #[.int .i64 0, .int .i64 0, .int .i64 0, .float .f32 0, .float .f32 0, .int .i64 0] 90))
  have A0 : Hid (six (w.alloc (.cells #[.int .i64 0, .int .i64 0, .int .i64 0, .float .f32 0, .float .f32 0, .int .i64 0] 90)) w.heap.size 0 0 0 0 0 0) := heap_alloc_new w _
  have S0 : Hid (RS (w.alloc (.cells #[.int .i64 0, .int .i64 0, .int .i64 0, .float .f32 0, .float .f32 0, .int .i64 0] 90)) (w.alloc (.cells #[.int .i64 0, .int .i64 0, .int .i64 0, .float .f32 0, .float .f32 0, .int .i64 0] 90)) b r) := RS.start (h.calm KA.out) (hE.calm KA.out) hs
  clear h hE hs hB
  go_enter Tryz.func72, Tryz.ntmps72
  go_wp2_with fail
  refine (any_s b r _ _ HB.out S0.out).mono ?_
  rintro e w1 ⟨k1, r1, hv1, rfl, s1⟩
  obtain rfl : k1 = 3 := by rw [hv1] at hk; exact hk
  clear hk
  have V1 := hide hv1
  clear hv1
  have A1 : Hid (six w1 w.heap.size 0 0 0 0 0 0) := s1.blk A0.out (by omega)
  have hz1 : w.heap.size < w1.heap.size := heap_lt A1.out
  have S1 := hide s1
  have K3 := hide (Kept.alloc w1 (.cells #[.int .i64 3, .int .i64 0, .int .i64 0, .float .f32 0, .float .f32 0, .int .i64 0] 90))
  have B3 : Hid (six (w1.alloc (.cells #[.int .i64 3, .int .i64 0, .int .i64 0, .float .f32 0, .float .f32 0, .int .i64 0] 90)) w1.heap.size 3 0 0 0 0 0) := heap_alloc_new w1 _
  have A3 : Hid (six (w1.alloc (.cells #[.int .i64 3, .int .i64 0, .int .i64 0, .float .f32 0, .float .f32 0, .int .i64 0] 90)) w.heap.size 0 0 0 0 0 0) := by show _ = _; rw [K3.out.block _ hz1 (fun e => e)]; exact A1.out
  have T2 : Hid (RS (w1.alloc (.cells #[.int .i64 3, .int .i64 0, .int .i64 0, .float .f32 0, .float .f32 0, .int .i64 0] 90)) (w1.alloc (.cells #[.int .i64 3, .int .i64 0, .int .i64 0, .float .f32 0, .float .f32 0, .int .i64 0] 90)) b r1) := RS.start (s1.at_.calm K3.out) (s1.errs.calm K3.out) s1.small
  clear s1
  go_wp2_with fail
  refine (any_s b _ _ _ HB.out T2.out).mono ?_
  rintro e w3 ⟨v3, r3, hv3, rfl, s3⟩
  have T3 := hide s3
  have V3 := hide hv3
  clear s3 hv3
  go_wp2_with fail
  refine (any_s b _ _ _ HB.out T3.out).mono ?_
  rintro e w4 ⟨v4, r4, hv4, rfl, s4⟩
  have T4 := hide s4
  have V4 := hide hv4
  clear s4 hv4
  obtain ⟨⟨a0, a1, a2, a3, a4, a5⟩, z0, z1, z2, z3, z4, z5⟩ := six_all (T4.out.blk A3.out (by omega))
  obtain ⟨⟨c0, c1, c2, c3, c4, c5⟩, y0, y1, y2, y3, y4, y5⟩ := six_all (T4.out.blk B3.out (by omega))
  have n1 : ¬ w.heap.size = w1.heap.size := by omega
  have n2 : ¬ w1.heap.size = w.heap.size := by omega
  go_wp2
  refine bodyPost_ret (v := .agg #[.int .i64 3, .int .i64 v3, .int .i64 0, .float .f32 0, .float .f32 0, .int .i64 v4]) (by simp [results, Tryz.results72, go_sem, a0, a1, a2, a3, a4, a5]) rfl ?_
  refine ⟨⟨3, v3, 0, 0, 0, v4⟩, _, (by unfold Rd.cmd; simp only [V1.out, V3.out, V4.out]; first | rfl | simp), rfl, cmd_end hb HB.out KA.out S1.out K3.out T4.out (b2 := w.heap.size) (b3 := w1.heap.size) (Nat.le_refl _) (by omega) ?_ rfl⟩
  repeat (refine Kept.set' ?_ (by first | exact Or.inl rfl | exact Or.inr rfl))
  exact Kept.refl _ _

set_option maxHeartbeats 1000000 in
set_option maxRecDepth 100000 in
theorem cmd4_c (b : Nat) (r : Rd) (w : World) (hk : r.any.1 = 4) (hB : Mine b) (hE : Errs w) (hs : r.small) (h : RdAt w b r) :
    Calls Tryz.prog 72 #[.pointer (some ⟨b, 0, none⟩)] w fun e w' => ∃ c r', r.cmd = (c, r') ∧ e = .returned (.agg #[.int .i64 c.kind, .int .i64 c.id, .int .i64 c.team, .float .f32 c.x, .float .f32 c.y, .int .i64 c.n]) ∧ RS w w' b r' := by
  have hb := heap_lt h
  have hsf := store_float Tryz.prog
  have HB := hide hB
  have KA := hide (Kept.alloc w (.cells #[.int .i64 0, .int .i64 0, .int .i64 0, .float .f32 0, .float .f32 0, .int .i64 0] 90))
  have A0 : Hid (six (w.alloc (.cells #[.int .i64 0, .int .i64 0, .int .i64 0, .float .f32 0, .float .f32 0, .int .i64 0] 90)) w.heap.size 0 0 0 0 0 0) := heap_alloc_new w _
  have S0 : Hid (RS (w.alloc (.cells #[.int .i64 0, .int .i64 0, .int .i64 0, .float .f32 0, .float .f32 0, .int .i64 0] 90)) (w.alloc (.cells #[.int .i64 0, .int .i64 0, .int .i64 0, .float .f32 0, .float .f32 0, .int .i64 0] 90)) b r) := RS.start (h.calm KA.out) (hE.calm KA.out) hs
  clear h hE hs hB
  go_enter Tryz.func72, Tryz.ntmps72
  go_wp2_with fail
  refine (any_s b r _ _ HB.out S0.out).mono ?_
  rintro e w1 ⟨k1, r1, hv1, rfl, s1⟩
  obtain rfl : k1 = 4 := by rw [hv1] at hk; exact hk
  clear hk
  have V1 := hide hv1
  clear hv1
  have A1 : Hid (six w1 w.heap.size 0 0 0 0 0 0) := s1.blk A0.out (by omega)
  have hz1 : w.heap.size < w1.heap.size := heap_lt A1.out
  have S1 := hide s1
  have K3 := hide (Kept.alloc w1 (.cells #[.int .i64 4, .int .i64 0, .int .i64 0, .float .f32 0, .float .f32 0, .int .i64 0] 90))
  have B3 : Hid (six (w1.alloc (.cells #[.int .i64 4, .int .i64 0, .int .i64 0, .float .f32 0, .float .f32 0, .int .i64 0] 90)) w1.heap.size 4 0 0 0 0 0) := heap_alloc_new w1 _
  have A3 : Hid (six (w1.alloc (.cells #[.int .i64 4, .int .i64 0, .int .i64 0, .float .f32 0, .float .f32 0, .int .i64 0] 90)) w.heap.size 0 0 0 0 0 0) := by show _ = _; rw [K3.out.block _ hz1 (fun e => e)]; exact A1.out
  have T2 : Hid (RS (w1.alloc (.cells #[.int .i64 4, .int .i64 0, .int .i64 0, .float .f32 0, .float .f32 0, .int .i64 0] 90)) (w1.alloc (.cells #[.int .i64 4, .int .i64 0, .int .i64 0, .float .f32 0, .float .f32 0, .int .i64 0] 90)) b r1) := RS.start (s1.at_.calm K3.out) (s1.errs.calm K3.out) s1.small
  clear s1
  go_wp2_with fail
  refine (any_s b _ _ _ HB.out T2.out).mono ?_
  rintro e w3 ⟨v3, r3, hv3, rfl, s3⟩
  have T3 := hide s3
  have V3 := hide hv3
  clear s3 hv3
  obtain ⟨⟨a0, a1, a2, a3, a4, a5⟩, z0, z1, z2, z3, z4, z5⟩ := six_all (T3.out.blk A3.out (by omega))
  obtain ⟨⟨c0, c1, c2, c3, c4, c5⟩, y0, y1, y2, y3, y4, y5⟩ := six_all (T3.out.blk B3.out (by omega))
  have n1 : ¬ w.heap.size = w1.heap.size := by omega
  have n2 : ¬ w1.heap.size = w.heap.size := by omega
  go_wp2
  refine bodyPost_ret (v := .agg #[.int .i64 4, .int .i64 v3, .int .i64 0, .float .f32 0, .float .f32 0, .int .i64 0]) (by simp [results, Tryz.results72, go_sem, a0, a1, a2, a3, a4, a5]) rfl ?_
  refine ⟨⟨4, v3, 0, 0, 0, 0⟩, _, (by unfold Rd.cmd; simp only [V1.out, V3.out]; first | rfl | simp), rfl, cmd_end hb HB.out KA.out S1.out K3.out T3.out (b2 := w.heap.size) (b3 := w1.heap.size) (Nat.le_refl _) (by omega) ?_ rfl⟩
  repeat (refine Kept.set' ?_ (by first | exact Or.inl rfl | exact Or.inr rfl))
  exact Kept.refl _ _

set_option maxHeartbeats 1000000 in
set_option maxRecDepth 100000 in
theorem cmd0_c (b : Nat) (r : Rd) (w : World) (h1 : ¬ r.any.1 = 1) (h2 : ¬ r.any.1 = 2) (h3 : ¬ r.any.1 = 3) (h4 : ¬ r.any.1 = 4) (hB : Mine b) (hE : Errs w) (hs : r.small) (h : RdAt w b r) :
    Calls Tryz.prog 72 #[.pointer (some ⟨b, 0, none⟩)] w fun e w' => ∃ c r', r.cmd = (c, r') ∧ e = .returned (.agg #[.int .i64 c.kind, .int .i64 c.id, .int .i64 c.team, .float .f32 c.x, .float .f32 c.y, .int .i64 c.n]) ∧ RS w w' b r' := by
  have hb := heap_lt h
  have hsf := store_float Tryz.prog
  have HB := hide hB
  have KA := hide (Kept.alloc w (.cells #[.int .i64 0, .int .i64 0, .int .i64 0, .float .f32 0, .float .f32 0, .int .i64 0] 90))
  have A0 : Hid (six (w.alloc (.cells #[.int .i64 0, .int .i64 0, .int .i64 0, .float .f32 0, .float .f32 0, .int .i64 0] 90)) w.heap.size 0 0 0 0 0 0) := heap_alloc_new w _
  have S0 : Hid (RS (w.alloc (.cells #[.int .i64 0, .int .i64 0, .int .i64 0, .float .f32 0, .float .f32 0, .int .i64 0] 90)) (w.alloc (.cells #[.int .i64 0, .int .i64 0, .int .i64 0, .float .f32 0, .float .f32 0, .int .i64 0] 90)) b r) := RS.start (h.calm KA.out) (hE.calm KA.out) hs
  clear h hE hs hB
  go_enter Tryz.func72, Tryz.ntmps72
  go_wp2_with fail
  refine (any_s b r _ _ HB.out S0.out).mono ?_
  rintro e w1 ⟨k1, r1, hv1, rfl, s1⟩
  rw [hv1] at h1 h2 h3 h4
  simp only at h1 h2 h3 h4
  have e1 : (k1 == 1) = false := by simp [h1]
  have H1 := hide h1
  have e2 : (k1 == 2) = false := by simp [h2]
  have H2 := hide h2
  have e3 : (k1 == 3) = false := by simp [h3]
  have H3 := hide h3
  have e4 : (k1 == 4) = false := by simp [h4]
  have H4 := hide h4
  clear h1 h2 h3 h4
  have V1 := hide hv1
  clear hv1
  have A1 : Hid (six w1 w.heap.size 0 0 0 0 0 0) := s1.blk A0.out (by omega)
  have hz1 : w.heap.size < w1.heap.size := heap_lt A1.out
  have S1 := hide s1
  have K3 := hide (Kept.alloc w1 (.cells #[.int .i64 k1, .int .i64 0, .int .i64 0, .float .f32 0, .float .f32 0, .int .i64 0] 90))
  have B3 : Hid (six (w1.alloc (.cells #[.int .i64 k1, .int .i64 0, .int .i64 0, .float .f32 0, .float .f32 0, .int .i64 0] 90)) w1.heap.size k1 0 0 0 0 0) := heap_alloc_new w1 _
  have A3 : Hid (six (w1.alloc (.cells #[.int .i64 k1, .int .i64 0, .int .i64 0, .float .f32 0, .float .f32 0, .int .i64 0] 90)) w.heap.size 0 0 0 0 0 0) := by show _ = _; rw [K3.out.block _ hz1 (fun e => e)]; exact A1.out
  have T2 : Hid (RS (w1.alloc (.cells #[.int .i64 k1, .int .i64 0, .int .i64 0, .float .f32 0, .float .f32 0, .int .i64 0] 90)) (w1.alloc (.cells #[.int .i64 k1, .int .i64 0, .int .i64 0, .float .f32 0, .float .f32 0, .int .i64 0] 90)) b r1) := RS.start (s1.at_.calm K3.out) (s1.errs.calm K3.out) s1.small
  clear s1
  obtain ⟨⟨a0, a1, a2, a3, a4, a5⟩, z0, z1, z2, z3, z4, z5⟩ := six_all A1.out
  have n1 : ¬ w.heap.size = w1.heap.size := by omega
  have n2 : ¬ w1.heap.size = w.heap.size := by omega
  have SS := hide (six_set0 A1.out k1 0 0 0 0 0)
  go_wp2
  obtain ⟨⟨d0, d1, d2, d3, d4, d5⟩, -⟩ := six_all (show six _ w.heap.size k1 0 0 0 0 0 from (Below.heap_alloc _ (.cells #[.int .i64 k1, .int .i64 0, .int .i64 0, .float .f32 0, .float .f32 0, .int .i64 0] 90) w.heap.size (heap_lt SS.out)).trans SS.out)
  refine bodyPost_ret (v := .agg #[.int .i64 k1, .int .i64 0, .int .i64 0, .float .f32 0, .float .f32 0, .int .i64 0]) (by simp [results, Tryz.results72, go_sem, d0, d1, d2, d3, d4, d5]) rfl ?_
  refine ⟨⟨k1, 0, 0, 0, 0, 0⟩, _, (by unfold Rd.cmd; simp only [V1.out]; rw [if_neg H1.out, if_neg H2.out, if_neg H3.out, if_neg H4.out]), rfl, cmd_end hb HB.out KA.out S1.out (Kept.refl _ _) (RS.start S1.out.at_ S1.out.errs S1.out.small) (b2 := w.heap.size) (b3 := w1.heap.size) (Nat.le_refl _) (by omega) ?_ rfl⟩
  refine Kept.join ?_ (Kept.alloc _ _) (S := fun k => k = w.heap.size ∨ k = w1.heap.size) (fun _ _ e => e) (fun _ _ e => e.elim)
  repeat (refine Kept.set' ?_ (by first | exact Or.inl rfl | exact Or.inr rfl))
  exact Kept.refl _ _

theorem cmd_c (b : Nat) (r : Rd) (w : World) (hB : Mine b) (hE : Errs w) (hs : r.small) (h : RdAt w b r) :
    Calls Tryz.prog 72 #[.pointer (some ⟨b, 0, none⟩)] w fun e w' => ∃ c r', r.cmd = (c, r') ∧ e = .returned (.agg #[.int .i64 c.kind, .int .i64 c.id, .int .i64 c.team, .float .f32 c.x, .float .f32 c.y, .int .i64 c.n]) ∧ RS w w' b r' := by
  by_cases h1 : r.any.1 = 1
  · exact cmd1_c b r w h1 hB hE hs h
  · by_cases h2 : r.any.1 = 2
    · exact cmd2_c b r w h2 hB hE hs h
    · by_cases h3 : r.any.1 = 3
      · exact cmd3_c b r w h3 hB hE hs h
      · by_cases h4 : r.any.1 = 4
        · exact cmd4_c b r w h4 hB hE hs h
        · exact cmd0_c b r w h1 h2 h3 h4 hB hE hs h
end Go.Proofs.YtlfmfhmbkpnjbabGreatDoor
