import Derived.Test.YtlfmfhmbkpnjbaaPm23
import Derived.Test.YtlfmfhmbkpnjbaaPm17
namespace Go.Proofs.Ytlfmfhmbkpnjbaa
open Ieee

theorem ok_cases {v : Nat} (h : okV v) : (rung v < 2139095040 ∧ Ieee.single.read v = .number (neg v) (mant (rung v)) (expo (rung v))) ∨ (rung v = 2139095040 ∧ Ieee.single.read v = .infinity (neg v)) := by
  rcases Nat.lt_or_eq_of_le ((ok_iff v).1 h) with q | q
  · exact Or.inl ⟨q, read_mant v q⟩
  · exact Or.inr ⟨q, read_inf v q⟩

/-- The rung of a square, by the rung. -/
def sqR (r : Nat) : Nat := if r < 2139095040 then rungOf (mant r * mant r) (expo r + expo r) else 2139095040
theorem sqR_le (r : Nat) : sqR r ≤ 2139095040 := by unfold sqR; split; exact rungOf_le _ _; omega

theorem sq_any {v : Nat} (h : okV v) : fmul v v = Ieee.single.word false (sqR (rung v)) ∧ floatBits .mul .f32 v v = some (fmul v v) ∧ okV (fmul v v) := by
  have key : Ieee.single.mul v v = some (Ieee.single.word false (sqR (rung v))) := by
    unfold Format.mul sqR
    rcases ok_cases h with ⟨q, e⟩ | ⟨q, e⟩
    · rw [e, if_pos q]
      show some (Ieee.single.nearest (neg v ^^ neg v) _ _) = _
      rw [Bool.xor_self, nearest_rung]
    · rw [e, if_neg (by omega)]
      show some (Ieee.single.word (neg v ^^ neg v) _) = _
      rw [Bool.xor_self, inf_single]
  have hf : fmul v v = Ieee.single.word false (sqR (rung v)) := by unfold fmul; rw [key]; rfl
  refine ⟨hf, ?_, ?_⟩
  · show Ieee.single.mul v v = _
    rw [key, hf]
  · rw [hf, ok_iff, rung_word _ _ (sqR_le _)]; exact sqR_le _

theorem sqR_mono {u v : Nat} (hu : rung u < 2139095040) (hv : okV v) (h : rung u ≤ rung v) : sqR (rung u) ≤ sqR (rung v) := by
  rcases ok_cases hv with ⟨q, _⟩ | ⟨q, _⟩
  · have hle := val_mono hu q h
    unfold sqR
    rw [if_pos hu, if_pos q]
    apply rung_mono
    have h0 := hle (min (expo (rung u)) (expo (rung v))) (by omega) (by omega)
    refine leV_of (min (expo (rung u)) (expo (rung v)) + min (expo (rung u)) (expo (rung v))) (by omega) (by omega) ?_
    have h1 := Nat.mul_le_mul h0 h0
    rw [show ∀ a b : Nat, a * 2 ^ b * (a * 2 ^ b) = a * a * (2 ^ b * 2 ^ b) from fun a b => by rw [Nat.mul_mul_mul_comm], ← Nat.pow_add, show ∀ a b : Nat, a * 2 ^ b * (a * 2 ^ b) = a * a * (2 ^ b * 2 ^ b) from fun a b => by rw [Nat.mul_mul_mul_comm], ← Nat.pow_add] at h1
    rw [show (expo (rung u) + expo (rung u) - (min (expo (rung u)) (expo (rung v)) + min (expo (rung u)) (expo (rung v)))).toNat = (expo (rung u) - min (expo (rung u)) (expo (rung v))).toNat + (expo (rung u) - min (expo (rung u)) (expo (rung v))).toNat from by omega,
      show (expo (rung v) + expo (rung v) - (min (expo (rung u)) (expo (rung v)) + min (expo (rung u)) (expo (rung v)))).toNat = (expo (rung v) - min (expo (rung u)) (expo (rung v))).toNat + (expo (rung v) - min (expo (rung u)) (expo (rung v))).toNat from by omega]
    exact h1
  · unfold sqR
    rw [if_pos hu, if_neg (by omega)]
    exact rungOf_le _ _

/-- A difference. -/
theorem sub_any {x y : Nat} (hx : isNum x) (hy : isNum y) : floatBits .sub .f32 x y = some (fsub x y) ∧ okV (fsub x y) ∧
    rung (fsub x y) = rungOf (sg (neg x) (mant (rung x) * 2 ^ (expo (rung x) - min (expo (rung x)) (expo (rung y))).toNat) + sg (!neg y) (mant (rung y) * 2 ^ (expo (rung y) - min (expo (rung x)) (expo (rung y))).toNat)).natAbs (min (expo (rung x)) (expo (rung y))) := by
  have h1 := (num_iff x).1 hx
  have h2 := (num_iff y).1 hy
  have key : ∃ s, Ieee.single.sub x y = some (Ieee.single.nearest s (sg (neg x) (mant (rung x) * 2 ^ (expo (rung x) - min (expo (rung x)) (expo (rung y))).toNat) + sg (!neg y) (mant (rung y) * 2 ^ (expo (rung y) - min (expo (rung x)) (expo (rung y))).toNat)).natAbs (min (expo (rung x)) (expo (rung y)))) := by
    unfold Format.sub
    rw [read_mant x h1, read_mant y h2, ← signed_sg, ← signed_sg]
    exact ⟨_, rfl⟩
  obtain ⟨s, hs⟩ := key
  generalize (sg (neg x) (mant (rung x) * 2 ^ (expo (rung x) - min (expo (rung x)) (expo (rung y))).toNat) + sg (!neg y) (mant (rung y) * 2 ^ (expo (rung y) - min (expo (rung x)) (expo (rung y))).toNat)).natAbs = T at *
  generalize min (expo (rung x)) (expo (rung y)) = b at *
  have hf : fsub x y = Ieee.single.nearest s T b := by unfold fsub; rw [hs]; rfl
  refine ⟨?_, by rw [hf]; exact ok_nearest _ _ _, ?_⟩
  · show Ieee.single.sub x y = _
    rw [hs, hf]
  · rw [hf, nearest_rung, rung_word _ _ (rungOf_le _ _)]

theorem sub_swap {x y : Nat} (hx : isNum x) (hy : isNum y) : rung (fsub x y) = rung (fsub y x) := by
  obtain ⟨_, _, r1⟩ := sub_any hx hy
  obtain ⟨_, _, r2⟩ := sub_any hy hx
  rw [r1, r2, show min (expo (rung y)) (expo (rung x)) = min (expo (rung x)) (expo (rung y)) from by omega]
  congr 1
  generalize mant (rung x) * 2 ^ (expo (rung x) - min (expo (rung x)) (expo (rung y))).toNat = A
  generalize mant (rung y) * 2 ^ (expo (rung y) - min (expo (rung x)) (expo (rung y))).toNat = C
  cases neg x <;> cases neg y <;> simp only [sg, Bool.not_true, Bool.not_false, if_true, if_false, Bool.false_eq_true] <;> omega

/-- A sum of two that are not below zero. -/
theorem add_pos {r q : Nat} (hr : r ≤ 2139095040) (hq : q ≤ 2139095040) : floatBits .add .f32 (Ieee.single.word false r) (Ieee.single.word false q) = some (fadd (Ieee.single.word false r) (Ieee.single.word false q)) ∧ okV (fadd (Ieee.single.word false r) (Ieee.single.word false q)) := by
  have o1 : okV (Ieee.single.word false r) := by rw [ok_iff, rung_word _ _ hr]; exact hr
  have o2 : okV (Ieee.single.word false q) := by rw [ok_iff, rung_word _ _ hq]; exact hq
  have key : ∃ d, (Ieee.single.read (Ieee.single.word false r)).sum (Ieee.single.read (Ieee.single.word false q)) = some d ∧ d.isNaN = false := by
    rcases ok_cases o1 with ⟨_, e⟩ | ⟨_, e⟩ <;> rcases ok_cases o2 with ⟨_, f⟩ | ⟨_, f⟩ <;> rw [e, f]
    · exact ⟨_, rfl, rfl⟩
    · exact ⟨_, rfl, rfl⟩
    · exact ⟨_, rfl, rfl⟩
    · rw [neg_word _ _ hr, neg_word _ _ hq]
      exact ⟨.infinity false, rfl, rfl⟩
  obtain ⟨d, h1, h2⟩ := key
  have : Ieee.single.add (Ieee.single.word false r) (Ieee.single.word false q) = some (Ieee.single.write d) := by unfold Format.add; rw [h1]; rfl
  have e : fadd (Ieee.single.word false r) (Ieee.single.word false q) = Ieee.single.write d := by unfold fadd; rw [this]; rfl
  exact ⟨by rw [e]; exact this, by rw [e]; exact ok_write h2⟩

/-! float64(x) of a float32. -/
theorem inf_double : Ieee.double.infRung = 9218868437227405312 := by decide
theorem sign_double : Ieee.double.signWeight = 9223372036854775808 := by decide
theorem bin_double : Ieee.double.binade = 4503599627370496 := by decide
theorem least_double : Ieee.double.leastPlace = -1074 := by decide

theorem mod_double (s : Bool) (r : Nat) (h : r ≤ 9218868437227405312) : Ieee.double.word s r % 9223372036854775808 = r := by
  unfold Format.word
  rw [sign_double]
  split <;> omega

theorem double_word (s : Bool) (r : Nat) (h : r ≤ 9218868437227405312) : (Ieee.double.read (Ieee.double.word s r)).isNaN = false ∧ (r < 9218868437227405312 → (Ieee.double.read (Ieee.double.word s r)).isInfinity = false) := by
  unfold Format.read
  rw [bin_double, inf_double, sign_double, mod_double s r h]
  simp only
  by_cases h1 : r < 4503599627370496
  · rw [if_pos h1]; exact ⟨rfl, fun _ => rfl⟩
  · rw [if_neg h1]
    by_cases h2 : r < 9218868437227405312
    · rw [if_pos h2]; exact ⟨rfl, fun _ => rfl⟩
    · rw [if_neg h2, if_pos (by omega)]; exact ⟨rfl, fun e => absurd e h2⟩

theorem double_near (s : Bool) (m : Nat) (e : Int) (hm : m ≤ 16777215) (he : e ≤ 104) : ∃ r, Ieee.double.nearest s m e = Ieee.double.word s r ∧ r < 9218868437227405312 := by
  unfold Format.nearest
  split
  · exact ⟨0, rfl, by decide⟩
  · rename_i h0
    refine ⟨_, rfl, ?_⟩
    rw [inf_double, bin_double, least_double]
    have hlog : m.log2 < 24 := (Nat.log2_lt h0).2 (Nat.lt_of_le_of_lt hm (by decide))
    have hfb : (Ieee.double.fractionBits : Int) = 52 := rfl
    rw [hfb]
    generalize hl : max (e + (m.log2 : Int) - 52) (-1074) = l
    have hl2 : l ≤ 75 := by omega
    have hl3 : -1074 ≤ l := by omega
    have hk : Toward.even.cut s (m <<< (e - l).toNat) (l - e).toNat ≤ 9007199254740992 := by
      have : Toward.even.cut s (m <<< (e - l).toNat) (l - e).toNat ≤ Toward.even.cut false (2 ^ 53) 0 := by
        apply cut_mono
        rw [Nat.shiftLeft_eq, Nat.pow_zero, Nat.mul_one, ← Nat.pow_add]
        have hlt : m < 2 ^ (m.log2 + 1) := Nat.lt_log2_self
        exact Nat.le_trans (Nat.mul_le_mul_right _ (Nat.le_of_lt hlt)) (by rw [← Nat.pow_add]; exact Nat.pow_le_pow_right (by decide) (by omega))
      rw [cut_zero] at this
      exact this
    omega

theorem conv_ok {v : Nat} (h : okV v) : ∃ r, floatToFloatBits .f32 v .f64 = some r ∧ (FloatKind.f64.format.order r r != some .eq) = false := by
  have ord : ∀ d : Nat, (Ieee.double.read d).isNaN = false → (FloatKind.f64.format.order d d != some .eq) = false := by
    intro d hd
    have : FloatKind.f64.format.order d d = some .eq := by
      show (Ieee.double.read d).order (Ieee.double.read d) = _
      cases hr : Ieee.double.read d with
      | number s m i => simp [Datum.order]
      | infinity s => simp [Datum.order]
      | nan s t => rw [hr] at hd; cases hd
    rw [this]; rfl
  unfold floatToFloatBits
  rw [if_neg (by decide)]
  rcases ok_cases h with ⟨q, e⟩ | ⟨q, e⟩
  · obtain ⟨m, e', hr, _, h1, h2, h3⟩ := read_num v q
    have hd : FloatKind.f32.decode v = .number (neg v) m e' := hr
    rw [hd]
    obtain ⟨r, hn, hlt⟩ := double_near (neg v) m e' h3 h2
    have he : FloatKind.f64.encode (.number (neg v) m e') = Ieee.double.word (neg v) r := hn
    have hw := double_word (neg v) r (by omega)
    simp only [he]
    have hi : (FloatKind.f64.decode (Ieee.double.word (neg v) r)).isInfinity = false := hw.2 hlt
    rw [hi]
    exact ⟨_, rfl, ord _ hw.1⟩
  · have hd : FloatKind.f32.decode v = .infinity (neg v) := e
    rw [hd]
    have he : FloatKind.f64.encode (.infinity (neg v)) = Ieee.double.word (neg v) 9218868437227405312 := by
      show Ieee.double.word (neg v) Ieee.double.infRung = _
      rw [inf_double]
    refine ⟨_, rfl, ?_⟩
    rw [he]
    exact ord _ (double_word (neg v) _ (Nat.le_refl _)).1
end Go.Proofs.Ytlfmfhmbkpnjbaa

namespace Go.Proofs.Ytlfmfhmbkpnjbaa
open Go.RowKit

/-- How far two are apart, squared; who sees whom. -/
def dist (a e : Mob) : Nat := fadd (fmul (fsub e.x a.x) (fsub e.x a.x)) (fmul (fsub e.y a.y) (fsub e.y a.y))
def seesB (a e : Mob) (far : Nat) : Bool := (a.team == e.team) || fle (dist a e) (fmul far far)

structure Pl (m : Mob) : Prop where
  x : isNum m.x
  y : isNum m.y

theorem dist_ok {a e : Mob} (ha : Pl a) (he : Pl e) : okV (dist a e) ∧ floatBits .add .f32 (fmul (fsub e.x a.x) (fsub e.x a.x)) (fmul (fsub e.y a.y) (fsub e.y a.y)) = some (dist a e) := by
  have hx := sq_any (sub_any he.x ha.x).2.1
  have hy := sq_any (sub_any he.y ha.y).2.1
  unfold dist
  rw [hx.1, hy.1]
  have := add_pos (sqR_le (rung (fsub e.x a.x))) (sqR_le (rung (fsub e.y a.y)))
  exact ⟨this.2, this.1⟩

theorem dist_swap {a e : Mob} (ha : Pl a) (he : Pl e) : dist a e = dist e a := by
  have hx := sq_any (sub_any he.x ha.x).2.1
  have hy := sq_any (sub_any he.y ha.y).2.1
  have hx' := sq_any (sub_any ha.x he.x).2.1
  have hy' := sq_any (sub_any ha.y he.y).2.1
  unfold dist
  rw [hx.1, hy.1, hx'.1, hy'.1, sub_swap he.x ha.x, sub_swap he.y ha.y]

theorem sees_swap {a e : Mob} (ha : Pl a) (he : Pl e) (far : Nat) : seesB a e far = seesB e a far := by
  unfold seesB
  rw [dist_swap ha he, BEq.comm]

set_option maxHeartbeats 1000000 in
set_option maxRecDepth 100000 in
theorem sees_c (a e : Mob) (far : Nat) (w : World) (ha : Pl a) (he : Pl e) (hf : okV far) :
    Calls Try.prog 60 #[.agg #[.int .i64 a.id, .int .i64 a.team, .float .f32 a.x, .float .f32 a.y, .float .f32 a.vx, .float .f32 a.vy, .int .i64 a.health], .agg #[.int .i64 e.id, .int .i64 e.team, .float .f32 e.x, .float .f32 e.y, .float .f32 e.vx, .float .f32 e.vy, .int .i64 e.health], .float .f32 far] w fun r w' => r = .returned (.bool (seesB a e far)) ∧ Kept (fun _ => False) w w' := by
  have r1 : ∀ w, (binOp .sub 54 (.float .f32 e.x) (.float .f32 a.x)).run Try.prog w = .ok (.float .f32 (fsub e.x a.x)) w := fun w => run_float_arith w .sub _ .f32 _ _ _ (sub_any he.x ha.x).1
  have r2 : ∀ w, (binOp .sub 54 (.float .f32 e.y) (.float .f32 a.y)).run Try.prog w = .ok (.float .f32 (fsub e.y a.y)) w := fun w => run_float_arith w .sub _ .f32 _ _ _ (sub_any he.y ha.y).1
  have r3 : ∀ w, (binOp .mul 54 (.float .f32 (fsub e.x a.x)) (.float .f32 (fsub e.x a.x))).run Try.prog w = .ok (.float .f32 (fmul (fsub e.x a.x) (fsub e.x a.x))) w := fun w => run_float_arith w .mul _ .f32 _ _ _ (sq_any (sub_any he.x ha.x).2.1).2.1
  have r4 : ∀ w, (binOp .mul 54 (.float .f32 (fsub e.y a.y)) (.float .f32 (fsub e.y a.y))).run Try.prog w = .ok (.float .f32 (fmul (fsub e.y a.y) (fsub e.y a.y))) w := fun w => run_float_arith w .mul _ .f32 _ _ _ (sq_any (sub_any he.y ha.y).2.1).2.1
  have r5 : ∀ w, (binOp .add 54 (.float .f32 (fmul (fsub e.x a.x) (fsub e.x a.x))) (.float .f32 (fmul (fsub e.y a.y) (fsub e.y a.y)))).run Try.prog w = .ok (.float .f32 (dist a e)) w := fun w => run_float_arith w .add _ .f32 _ _ _ (dist_ok ha he).2
  have r6 : ∀ w, (binOp .mul 54 (.float .f32 far) (.float .f32 far)).run Try.prog w = .ok (.float .f32 (fmul far far)) w := fun w => run_float_arith w .mul _ .f32 _ _ _ (sq_any hf).2.1
  have HK := hide ((Kept.alloc w (.cells #[.int .i64 a.id, .int .i64 a.team, .float .f32 a.x, .float .f32 a.y, .float .f32 a.vx, .float .f32 a.vy, .int .i64 a.health] 57)).calm2 (Kept.alloc _ (.cells #[.int .i64 e.id, .int .i64 e.team, .float .f32 e.x, .float .f32 e.y, .float .f32 e.vx, .float .f32 e.vy, .int .i64 e.health] 57)))
  by_cases h1 : a.team = e.team
  · have H : Hid (seesB a e far = true) := by show _ = _; simp [seesB, h1]
    have h1' : (a.team == e.team) = true := by simp [h1]
    clear h1
    go_enter Try.func60, Try.ntmps60
    go_wp2
    go_ret
    exact ⟨ret1 (by rw [H.out]; rfl), HK.out⟩
  · have h1' : (a.team == e.team) = false := by simp [h1]
    have H : Hid (seesB a e far = fle (dist a e) (fmul far far)) := by show _ = _; simp [seesB, h1]
    clear h1
    go_enter Try.func60, Try.ntmps60
    go_wp2
    go_quiet (fail)
    go_wp2
    go_ret
    exact ⟨ret1 (by rw [H.out]; rfl), HK.out.calm2 (Kept.drewN _ _)⟩

theorem isNaN64_c (r : Nat) (w : World) (h : (FloatKind.f64.format.order r r != some .eq) = false) : Calls Try.prog 59 #[.float .f64 r] w fun e w' => e = .returned (.bool false) ∧ w' = w := by
  go_enter Try.func59, Try.ntmps59
  go_wp2
  go_ret
  exact ⟨rfl, rfl⟩
end Go.Proofs.Ytlfmfhmbkpnjbaa

namespace Go.Proofs.Ytlfmfhmbkpnjbaa
open Go.RowKit

/-- A row of entities with room. -/
structure RowAt (w : World) (g : Nat) (L : List Mob) (cap : Nat) (cur : List Value) : Prop where
  blk : w.heap[g]? = some (.cells cur.toArray 57 (0, 0))
  len : cur.length = cap * 7
  row : cur.take (L.length * 7) = rowM L
  short : L.length ≤ cap

theorem RowAt.keep {w w' : World} {S : Nat → Prop} {g : Nat} {L : List Mob} {cap : Nat} {cur : List Value} (h : RowAt w g L cap cur) (hk : Kept S w w') (hS : ¬ S g) : RowAt w' g L cap cur :=
  ⟨by rw [hk.block g (heap_lt h.blk) hS]; exact h.blk, h.len, h.row, h.short⟩
theorem RowAt.calm {w w' : World} {g : Nat} {L : List Mob} {cap : Nat} {cur : List Value} (h : RowAt w g L cap cur) (hk : Kept (fun _ => False) w w') : RowAt w' g L cap cur := h.keep hk (fun e => e)
theorem RowAt.reads {w : World} {g : Nat} {L : List Mob} {cap : Nat} {cur : List Value} (h : RowAt w g L cap cur) : Reads w (some ⟨g, 0, none⟩) L := fun _ => ⟨g, 0, rfl, heap_lt h.blk, fun j u hu => by
  rw [Nat.zero_add, cell_block h.blk]
  have hj := (List.getElem?_eq_some_iff.1 hu).1
  have e : cur = rowM L ++ cur.drop (L.length * 7) := by rw [← h.row, List.take_append_drop]
  rw [e]
  simp [List.getElem?_append_left hj, hu]⟩
theorem RowAt.more {w w' : World} {g : Nat} {L : List Mob} {cap : Nat} {cur : List Value} {m : Mob} (h : RowAt w g L cap cur) (hl : L.length < cap) (hw : w'.heap[g]? = some (.cells (splice cur (L.length * 7) (rowM [m])).toArray 57 (0, 0))) : RowAt w' g (L ++ [m]) cap (splice cur (L.length * 7) (rowM [m])) := by
  have h7 : (rowM [m]).length = 7 := rfl
  refine ⟨hw, by rw [length_splice _ _ _ (by rw [h.len, h7]; omega), h.len], ?_, by simp; omega⟩
  unfold splice
  rw [h.row, rowM_append, ← List.append_assoc, show (L ++ [m]).length * 7 = (rowM L ++ rowM [m]).length from by rw [← rowM_append, rowM_length], List.take_left]

end Go.Proofs.Ytlfmfhmbkpnjbaa

namespace Go.Proofs.Ytlfmfhmbkpnjbaa
open Go.RowKit

set_option maxHeartbeats 2000000 in
set_option maxRecDepth 100000 in
theorem seen_bad (t id : Int) (far : Nat) (p : Option Addr) (cap : Nat) (L : List Mob) (w : World) (hl : (L.length : Int) ≤ 4611686018427387903) (h : Reads w p L) (hb : worldB t L = false) :
    Calls Try.prog 23 #[.agg #[.int .i64 t, .slice p L.length cap], .int .i64 id, .float .f32 far] w fun e w' =>
      e = .returned (.tuple #[.agg #[.int .i64 0, .slice none 0 0], .int .i64 2]) ∧ Kept (fun _ => False) w w' := by
  have HR := hide h
  clear h
  have LT := hide (laid_two w t (.slice p L.length cap))
  go_enter Try.func23, Try.ntmps23
  go_wp2_with fail
  refine (isWorld_c t p cap L _ (by omega) (HR.out.calm LT.out.1)).mono ?_
  rw [hb]
  rintro e w1 ⟨rfl, q1⟩
  have K1 := hide (LT.out.1.calm2 q1)
  have A1 : Hid (w1.heap[w.heap.size]? = some (.cells #[.int .i64 t, .slice p L.length cap] 40 (0, 0))) := by show _ = _; rw [q1.block _ (heap_lt LT.out.2.1) (fun e => e)]; exact LT.out.2.1
  have B1 : Hid (w1.heap[w.heap.size + 1]? = some (.cells #[.int .i64 0, .slice none 0 0] 40 (0, 0))) := by show _ = _; rw [q1.block _ (heap_lt LT.out.2.2) (fun e => e)]; exact LT.out.2.2
  clear q1 LT
  obtain ⟨c0, c1, f0, f1⟩ := two_cells B1.out
  obtain ⟨d0, d1, -, -⟩ := two_cells (two_sets B1.out (.int .i64 0) (.slice none 0 0))
  go_wp2
  refine bodyPost_ret (v := .tuple #[.agg #[.int .i64 0, .slice none 0 0], .int .i64 2]) (by simp [results, Try.results23, go_sem, d0, d1]) rfl ?_
  exact ⟨rfl, two_kept K1.out (by omega) _ _⟩

set_option maxHeartbeats 2000000 in
set_option maxRecDepth 100000 in
theorem seen_none (t id : Int) (far : Nat) (p : Option Addr) (cap : Nat) (L : List Mob) (w : World) (hl : (L.length : Int) ≤ 4611686018427387903) (h : Reads w p L) (hb : worldB t L = true) (hf : findB L id = false) :
    Calls Try.prog 23 #[.agg #[.int .i64 t, .slice p L.length cap], .int .i64 id, .float .f32 far] w fun e w' =>
      e = .returned (.tuple #[.agg #[.int .i64 0, .slice none 0 0], .int .i64 5]) ∧ Kept (fun _ => False) w w' := by
  have HR := hide h
  clear h
  have HS := hide (rises_of (worldB_fine hb).2.2.rises)
  have LT := hide (laid_two w t (.slice p L.length cap))
  go_enter Try.func23, Try.ntmps23
  go_wp2_with fail
  refine (isWorld_c t p cap L _ (by omega) (HR.out.calm LT.out.1)).mono ?_
  rw [hb]
  rintro e w1 ⟨rfl, q1⟩
  have K1 := hide (LT.out.1.calm2 q1)
  have A1 : Hid (w1.heap[w.heap.size]? = some (.cells #[.int .i64 t, .slice p L.length cap] 40 (0, 0))) := by show _ = _; rw [q1.block _ (heap_lt LT.out.2.1) (fun e => e)]; exact LT.out.2.1
  have B1 : Hid (w1.heap[w.heap.size + 1]? = some (.cells #[.int .i64 0, .slice none 0 0] 40 (0, 0))) := by show _ = _; rw [q1.block _ (heap_lt LT.out.2.2) (fun e => e)]; exact LT.out.2.2
  clear q1 LT
  obtain ⟨a0, a1, -, -⟩ := two_cells A1.out
  go_wp2_with fail
  refine (find_c p cap id L _ (by omega) HS.out (HR.out.calm K1.out)).mono ?_
  rw [hf]
  rintro e w2 ⟨rfl, q2⟩
  have K1 := hide (K1.out.calm2 q2)
  have A1 : Hid (w2.heap[w.heap.size]? = some (.cells #[.int .i64 t, .slice p L.length cap] 40 (0, 0))) := by show _ = _; rw [q2.block _ (heap_lt A1.out) (fun e => e)]; exact A1.out
  have B1 : Hid (w2.heap[w.heap.size + 1]? = some (.cells #[.int .i64 0, .slice none 0 0] 40 (0, 0))) := by show _ = _; rw [q2.block _ (heap_lt B1.out) (fun e => e)]; exact B1.out
  clear q2 a0 a1
  obtain ⟨c0, c1, f0, f1⟩ := two_cells B1.out
  obtain ⟨d0, d1, -, -⟩ := two_cells (two_sets B1.out (.int .i64 0) (.slice none 0 0))
  go_wp2
  refine bodyPost_ret (v := .tuple #[.agg #[.int .i64 0, .slice none 0 0], .int .i64 5]) (by simp [results, Try.results23, go_sem, d0, d1]) rfl ?_
  exact ⟨rfl, two_kept K1.out (by omega) _ _⟩

set_option maxHeartbeats 2000000 in
set_option maxRecDepth 100000 in
theorem seen_neg (t id : Int) (far : Nat) (p : Option Addr) (cap : Nat) (L : List Mob) (w : World) (hl : (L.length : Int) ≤ 4611686018427387903) (h : Reads w p L) (hb : worldB t L = true) (hf : findB L id = true) (hfar : okV far) (hlt : (FloatKind.f32.format.order far 0 == some .lt) = true) :
    Calls Try.prog 23 #[.agg #[.int .i64 t, .slice p L.length cap], .int .i64 id, .float .f32 far] w fun e w' =>
      e = .returned (.tuple #[.agg #[.int .i64 0, .slice none 0 0], .int .i64 4]) ∧ Kept (fun _ => False) w w' := by
  have HR := hide h
  clear h
  have HS := hide (rises_of (worldB_fine hb).2.2.rises)
  have LT := hide (laid_two w t (.slice p L.length cap))
  go_enter Try.func23, Try.ntmps23
  go_wp2_with fail
  refine (isWorld_c t p cap L _ (by omega) (HR.out.calm LT.out.1)).mono ?_
  rw [hb]
  rintro e w1 ⟨rfl, q1⟩
  have K1 := hide (LT.out.1.calm2 q1)
  have A1 : Hid (w1.heap[w.heap.size]? = some (.cells #[.int .i64 t, .slice p L.length cap] 40 (0, 0))) := by show _ = _; rw [q1.block _ (heap_lt LT.out.2.1) (fun e => e)]; exact LT.out.2.1
  have B1 : Hid (w1.heap[w.heap.size + 1]? = some (.cells #[.int .i64 0, .slice none 0 0] 40 (0, 0))) := by show _ = _; rw [q1.block _ (heap_lt LT.out.2.2) (fun e => e)]; exact LT.out.2.2
  clear q1 LT
  obtain ⟨a0, a1, -, -⟩ := two_cells A1.out
  go_wp2_with fail
  refine (find_c p cap id L _ (by omega) HS.out (HR.out.calm K1.out)).mono ?_
  rw [hf]
  rintro e w2 ⟨rfl, q2⟩
  have K1 := hide (K1.out.calm2 q2)
  have A1 : Hid (w2.heap[w.heap.size]? = some (.cells #[.int .i64 t, .slice p L.length cap] 40 (0, 0))) := by show _ = _; rw [q2.block _ (heap_lt A1.out) (fun e => e)]; exact A1.out
  have B1 : Hid (w2.heap[w.heap.size + 1]? = some (.cells #[.int .i64 0, .slice none 0 0] 40 (0, 0))) := by show _ = _; rw [q2.block _ (heap_lt B1.out) (fun e => e)]; exact B1.out
  clear q2 a0 a1
  obtain ⟨a0, a1, -, -⟩ := two_cells A1.out
  obtain ⟨r64, hr64, hrr⟩ := conv_ok hfar
  have hcv : ∀ w, (convert 54 116 (.float .f32 far)).run Try.prog w = .ok (.float .f64 r64) w := fun w => run_convert_float_float w _ _ .f32 .f64 far r64 (by rw [Try.underlying54]; rfl) Try.underlying116 hr64
  clear hr64
  go_wp2_with fail
  refine (isNaN64_c r64 _ hrr).mono ?_
  rintro e w3 ⟨rfl, rfl⟩
  clear hcv hrr a0 a1
  obtain ⟨c0, c1, f0, f1⟩ := two_cells B1.out
  obtain ⟨d0, d1, -, -⟩ := two_cells (two_sets B1.out (.int .i64 0) (.slice none 0 0))
  go_wp2
  refine bodyPost_ret (v := .tuple #[.agg #[.int .i64 0, .slice none 0 0], .int .i64 4]) (by simp [results, Try.results23, go_sem, d0, d1]) rfl ?_
  exact ⟨rfl, two_kept K1.out (by omega) _ _⟩

theorem makeN (n : Nat) (hn : n ≤ 32) : ∃ cur0 : List Value, cur0.length = n * 7 ∧ ∀ w : World, (Instr.makeSlice 38 (.int .i64 0) (.int .i64 (n : Int))).run Try.prog w = .ok (.slice (some ⟨w.heap.size, 0, none⟩) 0 n) (w.alloc (.cells cur0.toArray 57)) := by
  obtain ⟨i0, hi, hz0, hz1, hz2⟩ := info_parts info_mob
  refine ⟨(madeCells (Value.agg #[.int .i64 0, .int .i64 0, .float .f32 0, .float .f32 0, .float .f32 0, .float .f32 0, .int .i64 0]).cells (n * 7)).toList, ?_, fun w => ?_⟩
  · rw [Array.length_toList, size_madeCells]
  · have := run_make (P := Try.prog) w 38 57 i0 _ Try.underlying38 hi hz0 .i64 .i64 0 (n : Int) (by decide) (by omega) (by rw [hz2]; omega) (by omega)
    rw [hz1, Int.toNat_natCast] at this
    exact this

theorem mob_pl {m : Mob} (h : mobB m = true) : Pl m := by
  simp only [mobB, Bool.and_eq_true, decide_eq_true_eq, placeB] at h
  exact ⟨place_num h.1.1.1.1.2.1, place_num h.1.1.1.1.2.2⟩

theorem take_filter (L : List Mob) (f : Mob → Bool) (i : Nat) (hi : i < L.length) : (L.take (i + 1)).filter f = (L.take i).filter f ++ (if f L[i] = true then [L[i]] else []) := by
  rw [List.take_succ_eq_append_getElem hi, List.filter_append]
  congr 1
  simp [List.filter_cons]

set_option maxHeartbeats 4000000 in
set_option maxRecDepth 100000 in
theorem seen_ok (t id : Int) (far : Nat) (p : Option Addr) (cap : Nat) (L : List Mob) (w : World) (h : Reads w p L) (hb : worldB t L = true) (q : Nat) (hq : findI L id = q) (hql : q < L.length) (hf : findB L id = true) (hfar : okV far) (hlt : (FloatKind.f32.format.order far 0 == some .lt) = false) :
    Calls Try.prog 23 #[.agg #[.int .i64 t, .slice p L.length cap], .int .i64 id, .float .f32 far] w fun e w' =>
      ∃ g cur, w.heap.size ≤ g ∧ e = .returned (.tuple #[.agg #[.int .i64 t, .slice (some ⟨g, 0, none⟩) (L.filter (fun e => seesB L[q] e far)).length L.length], .int .i64 0]) ∧ RowAt w' g (L.filter (fun e => seesB L[q] e far)) L.length cur ∧ Kept (fun _ => False) w w' := by
  obtain ⟨i0, hi, hz0, hz1, hz2⟩ := info_parts info_mob
  have HMB : Hid (∀ m ∈ L, mobB m = true) := by
    have := hb
    simp only [worldB, decide_eq_true_eq] at this
    intro m hm
    obtain ⟨j, hj, rfl⟩ := List.getElem_of_mem hm
    exact (this.2.2 j hj hj).1
  have hsh := (worldB_fine hb).2.2.short
  obtain ⟨cur0, hc0, hmk⟩ := makeN L.length hsh
  have hsf := store_float Try.prog
  have HR := hide h
  clear h
  have HS := hide (rises_of (worldB_fine hb).2.2.rises)
  have LT := hide (laid_two w t (.slice p L.length cap))
  go_enter Try.func23, Try.ntmps23
  go_wp2_with fail
  refine (isWorld_c t p cap L _ (by omega) (HR.out.calm LT.out.1)).mono ?_
  rw [hb]
  rintro e w1 ⟨rfl, q1⟩
  have K1 := hide (LT.out.1.calm2 q1)
  have A1 : Hid (w1.heap[w.heap.size]? = some (.cells #[.int .i64 t, .slice p L.length cap] 40 (0, 0))) := by show _ = _; rw [q1.block _ (heap_lt LT.out.2.1) (fun e => e)]; exact LT.out.2.1
  have B1 : Hid (w1.heap[w.heap.size + 1]? = some (.cells #[.int .i64 0, .slice none 0 0] 40 (0, 0))) := by show _ = _; rw [q1.block _ (heap_lt LT.out.2.2) (fun e => e)]; exact LT.out.2.2
  clear q1 LT
  obtain ⟨a0, a1, -, -⟩ := two_cells A1.out
  go_wp2_with fail
  refine (find_c p cap id L _ (by omega) HS.out (HR.out.calm K1.out)).mono ?_
  rw [hf]
  rintro e w2 ⟨rfl, q2⟩
  have K1 := hide (K1.out.calm2 q2)
  have A1 : Hid (w2.heap[w.heap.size]? = some (.cells #[.int .i64 t, .slice p L.length cap] 40 (0, 0))) := by show _ = _; rw [q2.block _ (heap_lt A1.out) (fun e => e)]; exact A1.out
  have B1 : Hid (w2.heap[w.heap.size + 1]? = some (.cells #[.int .i64 0, .slice none 0 0] 40 (0, 0))) := by show _ = _; rw [q2.block _ (heap_lt B1.out) (fun e => e)]; exact B1.out
  clear q2 a0 a1
  obtain ⟨a0, a1, -, -⟩ := two_cells A1.out
  obtain ⟨r64, hr64, hrr⟩ := conv_ok hfar
  have hcv : ∀ w, (convert 54 116 (.float .f32 far)).run Try.prog w = .ok (.float .f64 r64) w := fun w => run_convert_float_float w _ _ .f32 .f64 far r64 (by rw [Try.underlying54]; rfl) Try.underlying116 hr64
  clear hr64
  go_wp2_with fail
  refine (isNaN64_c r64 _ hrr).mono ?_
  rintro e w3 ⟨rfl, rfl⟩
  clear hcv hrr a0 a1
  have HQ := hide hq
  clear hq hf hb
  have KA := hide (Kept.alloc w3 (.cells cur0.toArray 57))
  have hw3 := K1.out.size
  have A2 := hide (show (w3.alloc (.cells cur0.toArray 57)).heap[w.heap.size]? = some (.cells #[.int .i64 t, .slice p L.length cap] 40 (0, 0)) by rw [KA.out.block _ (heap_lt A1.out) (fun e => e)]; exact A1.out)
  have B2 := hide (show (w3.alloc (.cells cur0.toArray 57)).heap[w.heap.size + 1]? = some (.cells #[.int .i64 0, .slice none 0 0] 40 (0, 0)) by rw [KA.out.block _ (heap_lt B1.out) (fun e => e)]; exact B1.out)
  have R2 : Hid (RowAt (w3.alloc (.cells cur0.toArray 57)) w3.heap.size [] L.length cur0) := ⟨heap_alloc_new w3 _, hc0, by simp [rowM], Nat.zero_le _⟩
  have K2 := hide (K1.out.calm2 KA.out)
  have hwB := heap_lt B1.out
  obtain ⟨a0, a1, -, -⟩ := two_cells A1.out
  have ha2 : (w3.alloc (.cells cur0.toArray 57)).cell? ⟨w.heap.size, 1, none⟩ = some (.slice p L.length cap) := (two_cells A2.out).2.1
  go_wp2
  clear hmk a0 a1 A1 B1 K1 KA ha2
  generalize w3.alloc (.cells cur0.toArray 57) = W at *
  generalize w3.heap.size = g at *
  go_loopw [42, 10] (fun a s wr => ∃ i : Nat, ∃ cu : List Value, i ≤ L.length ∧ a = .int .i64 i ∧ s = .slice (some ⟨g, 0, none⟩) ((L.take i).filter (fun e => seesB L[q] e far)).length L.length ∧ Hid (RowAt wr g ((L.take i).filter (fun e => seesB L[q] e far)) L.length cu) ∧ Hid (Kept (fun k => k = g) W wr)) (fun a _ _ => L.length - (intOf a).toNat)
  case atStart => exact ⟨0, cur0, Nat.zero_le _, rfl, rfl, R2, Kept.refl _ _⟩
  case round =>
    obtain ⟨i, cu, hil, rfl, rfl, HE, HK⟩ := hrel
    clear R2
    have HKW : Hid (Kept (fun _ => False) w wr) := K2.out.join HK.out (fun _ _ e => e) (fun j hj e => by omega)
    have AR : Hid (wr.heap[w.heap.size]? = some (.cells #[.int .i64 t, .slice p L.length cap] 40 (0, 0))) := by show _ = _; rw [HK.out.block _ (heap_lt A2.out) (by omega)]; exact A2.out
    have BR : Hid (wr.heap[w.heap.size + 1]? = some (.cells #[.int .i64 0, .slice none 0 0] 40 (0, 0))) := by show _ = _; rw [HK.out.block _ (heap_lt B2.out) (by omega)]; exact B2.out
    by_cases hlt2 : i < L.length
    · obtain ⟨b, off, hp, hbs, c0, c1, c2, c3, c4, c5, c6⟩ := (HR.out.calm HKW.out).at i hlt2
      obtain ⟨b', off', hp', _, m0, m1, m2, m3, m4, m5, m6⟩ := (HR.out.calm HKW.out).at q hql
      obtain ⟨rfl, rfl⟩ : b = b' ∧ off = off' := by rw [hp] at hp'; simpa using hp'
      subst hp
      have hPm := mob_pl (HMB.out L[q] (List.getElem_mem hql))
      have hPi := mob_pl (HMB.out L[i] (List.getElem_mem hlt2))
      have HF := hide (take_filter L (fun e => seesB L[q] e far) i hlt2)
      have hfl : ((L.take i).filter (fun e => seesB L[q] e far)).length ≤ i := by
        have := List.length_filter_le (fun e => seesB L[q] e far) (L.take i)
        rw [List.length_take] at this; omega
      have CE : Hid (∀ w', Kept (fun _ => False) wr w' → (w'.cell? ⟨w.heap.size, 1, none⟩ = some (.slice (some ⟨b, off, none⟩) L.length cap)) ∧ w'.cell? ⟨b, off + q * 7, none⟩ = some (.int .i64 L[q].id) ∧ w'.cell? ⟨b, off + q * 7 + 1, none⟩ = some (.int .i64 L[q].team) ∧ w'.cell? ⟨b, off + q * 7 + 2, none⟩ = some (.float .f32 L[q].x) ∧ w'.cell? ⟨b, off + q * 7 + 3, none⟩ = some (.float .f32 L[q].y) ∧ w'.cell? ⟨b, off + q * 7 + 4, none⟩ = some (.float .f32 L[q].vx) ∧ w'.cell? ⟨b, off + q * 7 + 5, none⟩ = some (.float .f32 L[q].vy) ∧ w'.cell? ⟨b, off + q * 7 + 6, none⟩ = some (.int .i64 L[q].health)) := fun w' hk => by
        refine ⟨?_, ?_, ?_, ?_, ?_, ?_, ?_, ?_⟩
        · rw [cell_keep hk (heap_lt AR.out) (fun e => e)]; exact (two_cells AR.out).2.1
        all_goals rw [cell_keep hk hbs (fun e => e)]; assumption
      have hqb1 : (0 : Int) ≤ (q : Int) := by omega
      have hqb2 : (q : Int) < (L.length : Int) := by omega
      have hib1 : (0 : Int) ≤ (i : Int) := by omega
      have hib2 : (i : Int) < (L.length : Int) := by omega
      have KN := hide (Kept.alloc wr (.cells #[.int .i64 L[i].id, .int .i64 L[i].team, .float .f32 L[i].x, .float .f32 L[i].y, .float .f32 L[i].vx, .float .f32 L[i].vy, .int .i64 L[i].health] 57))
      have HN := hide (heap_alloc_new wr (.cells #[.int .i64 L[i].id, .int .i64 L[i].team, .float .f32 L[i].x, .float .f32 L[i].y, .float .f32 L[i].vx, .float .f32 L[i].vy, .int .i64 L[i].health] 57))
      clear m0 m1 m2 m3 m4 m5 m6 hp'
      go_wp2
      obtain ⟨n0, n1, n2, n3, n4, n5, n6⟩ := seven_cells HN.out
      obtain ⟨s0, s1, s2, s3, s4, s5, s6, s7⟩ := CE.out _ KN.out
      clear c0 c1 c2 c3 c4 c5 c6
      generalize wr.alloc (.cells #[.int .i64 L[i].id, .int .i64 L[i].team, .float .f32 L[i].x, .float .f32 L[i].y, .float .f32 L[i].vx, .float .f32 L[i].vy, .int .i64 L[i].health] 57) = wa at *
      generalize L[i] = m at *
      go_region_held3 (fun w' => w'.cell? ⟨w.heap.size, 1, none⟩ = some (.slice (some ⟨b, off, none⟩) L.length cap) ∧ w'.cell? ⟨b, off + q * 7, none⟩ = some (.int .i64 L[q].id) ∧ w'.cell? ⟨b, off + q * 7 + 1, none⟩ = some (.int .i64 L[q].team) ∧ w'.cell? ⟨b, off + q * 7 + 2, none⟩ = some (.float .f32 L[q].x) ∧ w'.cell? ⟨b, off + q * 7 + 3, none⟩ = some (.float .f32 L[q].y) ∧ w'.cell? ⟨b, off + q * 7 + 4, none⟩ = some (.float .f32 L[q].vx) ∧ w'.cell? ⟨b, off + q * 7 + 5, none⟩ = some (.float .f32 L[q].vy) ∧ w'.cell? ⟨b, off + q * 7 + 6, none⟩ = some (.int .i64 L[q].health) ∧ w'.cell? ⟨wr.heap.size, 0, none⟩ = some (.int .i64 m.id) ∧ w'.cell? ⟨wr.heap.size, 1, none⟩ = some (.int .i64 m.team) ∧ w'.cell? ⟨wr.heap.size, 2, none⟩ = some (.float .f32 m.x) ∧ w'.cell? ⟨wr.heap.size, 3, none⟩ = some (.float .f32 m.y) ∧ w'.cell? ⟨wr.heap.size, 4, none⟩ = some (.float .f32 m.vx) ∧ w'.cell? ⟨wr.heap.size, 5, none⟩ = some (.float .f32 m.vy) ∧ w'.cell? ⟨wr.heap.size, 6, none⟩ = some (.int .i64 m.health)) (go_keep)
        ((go_at_call 60; refine (sees_c L[q] m far _ hPm hPi hfar).mono ?_; rintro e w4 ⟨rfl, q4⟩; have K4 := hide (KN.out.calm2 ((Kept.drew wa).calm2 q4)); have HN4 := hide (show w4.heap[wr.heap.size]? = some (.cells #[.int .i64 m.id, .int .i64 m.team, .float .f32 m.x, .float .f32 m.y, .float .f32 m.vx, .float .f32 m.vy, .int .i64 m.health] 57 (0, 0)) by rw [((Kept.drew wa).calm2 q4).block _ (heap_lt HN.out) (fun e => e)]; exact HN.out); obtain ⟨u0, u1, u2, u3, u4, u5, u6⟩ := seven_cells HN4.out; obtain ⟨v0, v1, v2, v3, v4, v5, v6, v7⟩ := CE.out w4 K4.out; clear q4))
      clear s0 s1 s2 s3 s4 s5 s6 s7 n0 n1 n2 n3 n4 n5 n6 CE v0 v1 v2 v3 v4 v5 v6 v7
      cases hs : seesB L[q] m far
      · rw [hs] at HF
        have HE4 : Hid (RowAt w4 g ((L.take (i + 1)).filter (fun e => seesB L[q] e far)) L.length cu) := by show RowAt _ _ _ _ _; rw [HF.out]; simpa using HE.out.calm K4.out
        have HK4 : Hid (Kept (fun k => k = g) W w4) := HK.out.join K4.out (fun _ _ e => e) (fun _ _ e => e.elim)
        have HLE : Hid (((L.take (i + 1)).filter (fun e => seesB L[q] e far)).length = ((L.take i).filter (fun e => seesB L[q] e far)).length) := by show _ = _; rw [HF.out]; simp
        go_wp2
        go_roundw
        case rel => exact ⟨i + 1, cu, by omega, by go_num, by rw [HLE.out], HE4, HK4⟩
        case measure => simp [intOf]; omega
      · rw [hs] at HF
        generalize hX : (L.take i).filter (fun e => seesB L[q] e far) = X at *
        have HE4 := hide (HE.out.calm K4.out)
        have HX := hide hX
        clear hX
        go_wp2_with (at_builtin; refine wpList_append_here _ rfl (.tmp 54) (.tmp 56) 38 rfl 57 i0 7 Try.underlying38 hi hz1 g X.length L.length cu (HE4.out.calm (Kept.alloc _ _)).blk rfl ⟨w4.heap.size, 0, none⟩ 1 1 rfl (rowM [m]) rfl ?c1 (rowM_one [m]) ?c2 ?c3 ?_)
        case c1 => intro j u hu; first | exact hu | exact new_cells w4 (rowM [m]) 57 _ rfl j u hu
        case c2 => omega
        case c3 => rw [HE4.out.len]; have : (rowM [m]).length = 7 := rfl; omega
        intro w5 HG5 HK5
        have HE5 : Hid (RowAt w5 g ((L.take (i + 1)).filter (fun e => seesB L[q] e far)) L.length (splice cu (X.length * 7) (rowM [m]))) := by rw [HF.out]; exact HE4.out.more (by omega) HG5.out
        have HK6 : Hid (Kept (fun k => k = g) W w5) := (HK.out.join (K4.out.calm2 (Kept.alloc _ _)) (R := fun k => k = g) (fun _ _ e => e) (fun _ _ e => e.elim)).join HK5.out (fun _ _ e => e) (fun _ _ e => e)
        have HLE : Hid (((L.take (i + 1)).filter (fun e => seesB L[q] e far)).length = X.length + 1) := by show _ = _; rw [HF.out]; simp
        go_wp2
        go_roundw
        case rel => exact ⟨i + 1, _, by omega, by go_num, by rw [HLE.out], HE5, HK6⟩
        case measure => simp [intOf]; omega
    · obtain rfl : i = L.length := by omega
      rw [List.take_length] at HE ⊢
      generalize hX : L.filter (fun e => seesB L[q] e far) = X at *
      have HX := hide hX
      clear hX
      obtain ⟨a0, a1, -, -⟩ := two_cells AR.out
      obtain ⟨c0, c1, f0, f1⟩ := two_cells BR.out
      obtain ⟨d0, d1, -, -⟩ := two_cells (two_sets BR.out (.int .i64 t) (.slice (some ⟨g, 0, none⟩) X.length L.length))
      clear HK
      go_wp2
      refine bodyPost_ret (v := .tuple #[.agg #[.int .i64 t, .slice (some ⟨g, 0, none⟩) X.length L.length], .int .i64 0]) (by simp [results, Try.results23, go_sem, d0, d1]) rfl ?_
      refine ⟨g, cu, by omega, by rw [HX.out], ?_, two_kept HKW.out (by omega) _ _⟩
      rw [HX.out]
      have kk : Kept (fun k => k = w.heap.size + 1) wr ((wr.setCell ⟨w.heap.size + 1, 0, none⟩ (.int .i64 t)).setCell ⟨w.heap.size + 1, 1, none⟩ (.slice (some ⟨g, 0, none⟩) X.length L.length)) := (Kept.setCell wr _ _).join (Kept.setCell _ _ _) (fun _ _ e => e) (fun _ _ e => e)
      exact HE.out.keep kk (by omega)
end Go.Proofs.Ytlfmfhmbkpnjbaa
