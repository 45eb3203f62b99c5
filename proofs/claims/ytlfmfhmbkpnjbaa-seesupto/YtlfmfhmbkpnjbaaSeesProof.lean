import Derived.Test.YtlfmfhmbkpnjbaaOpene
import Derived.Test.YtlfmfhmbkpnjbaaSeesw
namespace Go.Proofs.Ytlfmfhmbkpnjbaa.seesP
open Go.ChangeShapes Go.WideShapes Go.ChangeAt Go.RowKit Go.Deep
open Go.Proofs.Ytlfmfhmbkpnjbaa.opens
set_option linter.unusedVariables false
set_option maxRecDepth 100000

theorem contract (H : Type) (enc : TypeId × Value → H) (W : World) (base : Nat) (args : Array Value) (ds gs : List (DataW H)) (before : List MemPlace)
    (hval : ∀ (j : Nat) t v, Try.f5.params[j]? = some t → args[j]? = some v → Value.okWide Try.prog W .any base t v)
    (hW : DataW.Whole enc Try.prog Try.f5.params.toList Rows.seesSpec.vars false W args.toList ds gs before) (hk : Rows.uptoSmall H (ds ++ gs) = true) :
    Calls Try.prog 5 args W fun e W' => ∃ v, e = .returned v ∧ Rows.seesSpec.post enc Try.prog Try.f5 false true false false W args v W' := by
  have hW' := hW
  obtain ⟨p, q, hA0, hV, rfl, hfz, hnd⟩ := hW
  have hA : DataW.TrodAll enc Try.prog W 0 (fun _ => true) true Try.f5.params.toList args.toList ds p := hA0
  rw [Try.params5] at hA hval
  obtain ⟨v0, vs0, d0, ds0, p0, q0, hargs, rfl, rfl, h0, r0⟩ := trodAll_cons hA
  obtain ⟨v1, vs1, d1, ds1, p1, q1, rfl, rfl, rfl, h1, r1⟩ := trodAll_cons r0
  obtain ⟨v2, vs2, d2, ds2, p2, q2, rfl, rfl, rfl, h2, r2⟩ := trodAll_cons r1
  obtain ⟨rfl, rfl, rfl⟩ := trodAll_nil r2
  obtain rfl : args = #[v0, v1, v2] := by cases args; simp_all
  obtain ⟨rfl, rfl⟩ := trodVars_none hV
  have k0 := h0
  have k1 := h1
  have k2 := h2
  have lt0 : ∀ x ∈ p0, x.block < W.heap.size := by obtain ⟨m, hm⟩ := k0; exact DataW.trod_lt m _ _ _ hm
  have lt1 : ∀ x ∈ p1, x.block < W.heap.size := by obtain ⟨m, hm⟩ := k1; exact DataW.trod_lt m _ _ _ hm
  have lt2 : ∀ x ∈ p2, x.block < W.heap.size := by obtain ⟨m, hm⟩ := k2; exact DataW.trod_lt m _ _ _ hm
  clear hA0
  simp only [List.append_nil] at hk
  have hbulk : Rows.uptoBulkAll [d0, d1, d2] ≤ 1048576 := of_decide_eq_true hk
  simp only [Rows.uptoBulkAll] at hbulk
  have walk : Calls Try.prog 5 #[v0, v1, v2] W fun e w' => e = .returned (.bool true) ∧ Below W.heap.size W w' := by
    obtain ⟨cs0, rfl, hsz⟩ := okWide_struct Try.underlying40 (hval 0 40 v0 rfl rfl)
    obtain ⟨a1, len1, cap1, rfl⟩ := okWide_slice Try.underlying53 (hval 1 53 v1 rfl rfl)
    obtain ⟨far, rfl⟩ := okWide_float Try.underlying54 (hval 2 54 v2 rfl rfl)
    obtain ⟨fuel, hf⟩ := h0
    obtain ⟨xs, m, _, hx, hl, hlen, hfd⟩ := DataW.trod_struct Try.underlying40 hf
    obtain ⟨cs⟩ := cs0
    simp only [Value.cells] at hl hfd
    rw [cellsW] at hl
    match cs, hl, xs, hlen, hx, hfd with
    | [c0, c1], _, [y0, y1], _, hx, hfd =>
      have f0 : DataW.trod enc Try.prog W 0 (fun _ => true) true m 3 [c0] = some y0 := by have := hfd 0 _ rfl; simpa [cellsI] using this
      have f1 : DataW.trod enc Try.prog W 0 (fun _ => true) true m 38 [c1] = some y1 := by have := hfd 1 _ rfl; simpa [cellsS] using this
      obtain ⟨t, e0, _⟩ := DataW.trod_int Try.underlying3 f0
      obtain ⟨pe, cape, L, e1, hR, hLb⟩ := ents_of f1
      simp only [List.cons.injEq, and_true] at e0 e1
      subst e0 e1
      obtain ⟨fuel1, hf1⟩ := h1
      obtain ⟨p', l', c', e2, hRI, hlb⟩ := ints_of hf1
      simp [Value.cells] at e2
      obtain ⟨rfl, rfl, rfl⟩ := e2
      simp only [Prod.mk.injEq] at hx
      have hd0 : Rows.uptoBulk d0 = Rows.uptoBulk y0.1 + (Rows.uptoBulk y1.1 + 0) + 1 := by rw [hx.1]; simp [Rows.uptoBulk, Rows.uptoBulkAll]
      have hb1 : len1 ≤ Rows.uptoBulk d1 := hlb
      exact sees_walk t pe cape L a1 len1 cap1 far W (by omega) (by omega) hR hRI
  refine walk.mono fun e W' ⟨he, bel⟩ => ?_
  subst he
  exact ⟨_, rfl, _, _, _, [], _, [], hW', trodAll_mk1 (shut_bool Try.underlying4 _), (trodAll_cons_mk (Below.trod ticks.laidOut (by kernel_rfl) (of_decide_eq_true (by kernel_rfl)) k0 bel lt0) (trodAll_cons_mk (Below.trod ticks.laidOut (by kernel_rfl) (of_decide_eq_true (by kernel_rfl)) k1 bel lt1) (trodAll_cons_mk (Below.trod ticks.laidOut (by kernel_rfl) (of_decide_eq_true (by kernel_rfl)) k2 bel lt2) trodAll_mk0))), rfl, bel.frame _, fun h => by cases h⟩

set_option maxRecDepth 100000 in
theorem lifted (os : Os) (started : os.Started) (H : Type) (enc : TypeId × Value → H) (F : Stop.Interp) :
    ReturnsInHanded {} Try.checked os 5 .any ((Rows.OpenSpec.upto Rows.seesSpec).pre6 enc Try.prog Try.f5 Rows.seesUptoRow.domain false) (((Rows.OpenSpec.upto Rows.seesSpec).at F).post enc Try.prog Try.f5 false true false false) := by
  refine returnsInHanded_of_cond (C := Try.checked) (s := Rows.OpenSpec.upto Rows.seesSpec) (k := Rows.uptoSmall) rfl ticks.own started (by kernel_rfl) Try.func5
    (OpenSpec.witness (enc := enc) (C := Try.checked) (s := Rows.OpenSpec.upto Rows.seesSpec) (k := Rows.uptoSmall) rfl false ⟨#[], #[.agg #[.int .i64 0, .slice none 0 0], .slice none 0 0, .float .f32 0], []⟩ 8 (by kernel_rfl) (by kernel_rfl) (by kernel_rfl)
      (x := ([.agg [.lit (.int .i64 0), .nil], .nil, .lit (.float .f32 0)], [], [])) (by kernel_rfl) rfl (by kernel_rfl)) ?_
  intro W base args ds gs before hval hW _ hk _
  exact contract H enc W base args ds gs before hval hW hk

theorem over : Rows.seesUptoRow.holds Try.pinned (Rows.OpenSpec.upto Rows.seesSpec) :=
  OpenClaim.holds_of_cond 5 Try.f5 rfl rfl rfl rfl rfl rfl rfl ⟨rfl, rfl, rfl, rfl, rfl⟩ rfl rfl rfl rfl rfl (by kernel_rfl) Try.func5 (by kernel_rfl)
    (of_decide_eq_true (by kernel_rfl)) (by unfold Func.isWrapper; first | (rw [if_pos (by decide +kernel)]; kernel_rfl) | (rw [if_neg (by decide +kernel)]; exact ⟨rfl, rfl⟩))
    (fun os started H enc _ F => lifted os started H enc F)
end Go.Proofs.Ytlfmfhmbkpnjbaa.seesP

namespace Go.Proofs.Ytlfmfhmbkpnjbaa
theorem sees_holds : Rows.SeesUptoSaid := seesP.over
#print axioms sees_holds
end Go.Proofs.Ytlfmfhmbkpnjbaa
