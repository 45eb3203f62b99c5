import Derived.Test.YtlfmfhmbkpnjbaaRseen
namespace Go.Proofs.Ytlfmfhmbkpnjbaa
open Go.RowKit

theorem nan64 (t : Nat) : (Ieee.double.read ((t % 2) * 2 ^ 63 + 0x7ff0000000000000 + 1 + (t / 2) % (2 ^ 52 - 1))).isNaN = true := by
  have h1 : t % 2 < 2 := Nat.mod_lt _ (by decide)
  have h2 : (t / 2) % (2 ^ 52 - 1) < 2 ^ 52 - 1 := Nat.mod_lt _ (by decide)
  generalize t % 2 = a at *
  generalize (t / 2) % (2 ^ 52 - 1) = b at *
  have e63 : (2 : Nat) ^ 63 = 9223372036854775808 := by decide
  have e52 : (2 : Nat) ^ 52 = 4503599627370496 := by decide
  rw [e63]
  rw [e52] at h2
  have hm : (a * 9223372036854775808 + 0x7ff0000000000000 + 1 + b) % 9223372036854775808 = 9218868437227405313 + b := by omega
  unfold Ieee.Format.read
  rw [bin_double, inf_double, sign_double, hm]
  simp only
  rw [if_neg (by omega), if_neg (by omega), if_neg (by omega)]
  rfl

theorem conv_nan {v : Nat} (h : ¬ okV v) (w : World) : ∃ r, (FloatKind.f64.format.order r r != some .eq) = true ∧ (convert 54 116 (.float .f32 v)).run Try.prog w = .ok (.float .f64 r) w.drew := by
  have hd : ∃ s t, FloatKind.f32.decode v = .nan s t := by
    unfold okV at h
    show ∃ s t, Ieee.single.read v = .nan s t
    cases hr : Ieee.single.read v with
    | number s m e => rw [hr] at h; exact absurd rfl h
    | infinity s => rw [hr] at h; exact absurd rfl h
    | nan s t => exact ⟨s, t, rfl⟩
  obtain ⟨s, t, hd⟩ := hd
  refine ⟨(w.tape w.drawn (.nanConv .f64 v) % 2) * 2 ^ 63 + 0x7ff0000000000000 + 1 + (w.tape w.drawn (.nanConv .f64 v) / 2) % (2 ^ 52 - 1), ?_, ?_⟩
  rotate_left
  · have hne : ¬ (FloatKind.f32 = FloatKind.f64) := by decide
    have hu : Try.prog.underlying 54 = some (.float .f32) := Try.underlying54
    simp [convert, run_underlying hu, run_underlying Try.underlying116, Conv.floatToFloat, hne, hd, Question.forced, Question.cut]
  · have hn := nan64 (w.tape w.drawn (.nanConv .f64 v))
    generalize (w.tape w.drawn (.nanConv .f64 v) % 2) * 2 ^ 63 + 0x7ff0000000000000 + 1 + (w.tape w.drawn (.nanConv .f64 v) / 2) % (2 ^ 52 - 1) = d at *
    have : FloatKind.f64.format.order d d = none := by
      show (Ieee.double.read d).order (Ieee.double.read d) = none
      cases hr : Ieee.double.read d with
      | number s m e => rw [hr] at hn; cases hn
      | infinity s => rw [hr] at hn; cases hn
      | nan s t => rfl
    rw [this]; rfl
theorem isNaN64_n (r : Nat) (w : World) (h : (FloatKind.f64.format.order r r != some .eq) = true) : Calls Try.prog 59 #[.float .f64 r] w fun e w' => e = .returned (.bool true) ∧ w' = w := by
  go_enter Try.func59, Try.ntmps59
  go_wp2
  go_ret
  exact ⟨rfl, rfl⟩

set_option maxHeartbeats 2000000 in
set_option maxRecDepth 100000 in
theorem seen_nan (t id : Int) (far : Nat) (p : Option Addr) (cap : Nat) (L : List Mob) (w : World) (hl : (L.length : Int) ≤ 4611686018427387903) (h : Reads w p L) (hb : worldB t L = true) (hf : findB L id = true) (hfar : ¬ okV far) :
    Calls Try.prog 23 #[.agg #[.int .i64 t, .slice p L.length cap], .int .i64 id, .float .f32 far] w fun e w' =>
      e = .returned (.tuple #[.agg #[.int .i64 0, .slice none 0 0], .int .i64 4]) ∧ Kept (fun _ => False) w w' := by
  have HR := hide h
  clear h
  have HS := hide (rises_of (worldB_fine hb).2.2.rises)
  have LT := hide (laid_two w t (.slice p L.length cap))
  go_enter Try.func23, Try.ntmps23
  go_wp2_with fail
  refine (isWorld_c t p cap L _ (by omega) (HR.out.calm LT.out.1)).mono ?_
  rw [hb]
  rintro e w1 ⟨rfl, q1⟩
  have K1 := hide (LT.out.1.calm2 q1)
  have A1 : Hid (w1.heap[w.heap.size]? = some (.cells #[.int .i64 t, .slice p L.length cap] 40 (0, 0))) := by show _ = _; rw [q1.block _ (heap_lt LT.out.2.1) (fun e => e)]; exact LT.out.2.1
  have B1 : Hid (w1.heap[w.heap.size + 1]? = some (.cells #[.int .i64 0, .slice none 0 0] 40 (0, 0))) := by show _ = _; rw [q1.block _ (heap_lt LT.out.2.2) (fun e => e)]; exact LT.out.2.2
  clear q1 LT
  obtain ⟨a0, a1, -, -⟩ := two_cells A1.out
  go_wp2_with fail
  refine (find_c p cap id L _ (by omega) HS.out (HR.out.calm K1.out)).mono ?_
  rw [hf]
  rintro e w2 ⟨rfl, q2⟩
  have K1 := hide (K1.out.calm2 q2)
  have A1 : Hid (w2.heap[w.heap.size]? = some (.cells #[.int .i64 t, .slice p L.length cap] 40 (0, 0))) := by show _ = _; rw [q2.block _ (heap_lt A1.out) (fun e => e)]; exact A1.out
  have B1 : Hid (w2.heap[w.heap.size + 1]? = some (.cells #[.int .i64 0, .slice none 0 0] 40 (0, 0))) := by show _ = _; rw [q2.block _ (heap_lt B1.out) (fun e => e)]; exact B1.out
  clear q2 a0 a1
  obtain ⟨a0, a1, -, -⟩ := two_cells A1.out
  obtain ⟨r64, hrr, hcv⟩ := conv_nan hfar w2
  go_wp2_with fail
  refine (isNaN64_n r64 _ hrr).mono ?_
  rintro e w3 ⟨rfl, rfl⟩
  clear hcv hrr a0 a1
  have K1 := hide (K1.out.calm2 (Kept.drew w2))
  have B1 : Hid (w2.drew.heap[w.heap.size + 1]? = some (.cells #[.int .i64 0, .slice none 0 0] 40 (0, 0))) := B1.out
  generalize w2.drew = w5 at *
  obtain ⟨c0, c1, f0, f1⟩ := two_cells B1.out
  obtain ⟨d0, d1, -, -⟩ := two_cells (two_sets B1.out (.int .i64 0) (.slice none 0 0))
  go_wp2
  refine bodyPost_ret (v := .tuple #[.agg #[.int .i64 0, .slice none 0 0], .int .i64 4]) (by simp [results, Try.results23, go_sem, d0, d1]) rfl ?_
  exact ⟨rfl, two_kept K1.out (by omega) _ _⟩

end Go.Proofs.Ytlfmfhmbkpnjbaa
