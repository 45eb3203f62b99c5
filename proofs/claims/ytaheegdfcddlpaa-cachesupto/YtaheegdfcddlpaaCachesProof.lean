import Derived.Test.YtaheegdfcddlpaaCaches
import Derived.Deep.Slices
import Derived.ChangeOld
import Derived.Below
namespace Go.Proofs.Ytaheegdfcddlpaa.caches
open Go.ChangeShapes Go.WideShapes Go.ChangeAt Go.RowKit Go.Deep
set_option linter.unusedVariables false

theorem own : ownKnob Try.prog.godebug = none := by kernel_rfl
theorem laidOut : laidOutB Try.prog = true := by kernel_rfl
theorem cellsU : Try.prog.cellsOf 33 = 5 := by kernel_rfl
theorem cellsI : Try.prog.cellsOf 3 = 1 := by kernel_rfl
theorem cellsS : Try.prog.cellsOf 9 = 1 := by kernel_rfl

theorem one_le {H : Type} (d : DataW H) : 1 ≤ Rows.uptoBulk d := by
  cases d with
  | lit l => cases l <;> simp [Rows.uptoBulk]
  | _ => simp [Rows.uptoBulk]

theorem many_le {H : Type} (l : List (DataW H)) : l.length ≤ Rows.uptoBulkAll l := by
  induction l with
  | nil => exact Nat.zero_le _
  | cons x r ih =>
    have := one_le x
    simp only [Rows.uptoBulkAll, List.length_cons]
    omega

theorem short {H : Type} {es sp : List (DataW H)} (hk : Rows.uptoSmall H [.slice es sp] = true) : es.length ≤ 1048576 := by
  have h : Rows.uptoBulkAll [DataW.slice es sp] ≤ 1048576 := of_decide_eq_true hk
  have := many_le es
  simp only [Rows.uptoBulkAll, Rows.uptoBulk] at h
  omega

theorem use_of {H : Type} {enc : TypeId × Value → H} {W : World} {spare : Nat → Bool} {held : Bool} {n : Nat} {cs : List Value} {x : DataW H × List MemPlace} (h : DataW.trod enc Try.prog W 0 spare held n 33 cs = some x) :
    ∃ kd ca k N t, cs = [.int .i64 kd, .int .i64 ca, .int .i64 k, .int .i64 N, .string t] ∧ In64 kd ∧ In64 ca ∧ In64 k ∧ In64 N := by
  obtain ⟨xs, m, _, rfl, hl, hlen, hf⟩ := DataW.trod_struct Try.underlying33 h
  rw [cellsU] at hl
  match cs, hl, xs, hlen with
  | [c0, c1, c2, c3, c4], _, [y0, y1, y2, y3, y4], _ =>
    have f0 : DataW.trod enc Try.prog W 0 spare held m 3 [c0] = some y0 := by have := hf 0 _ rfl; simpa [cellsI] using this
    have f1 : DataW.trod enc Try.prog W 0 spare held m 3 [c1] = some y1 := by have := hf 1 _ rfl; simpa [cellsI] using this
    have f2 : DataW.trod enc Try.prog W 0 spare held m 3 [c2] = some y2 := by have := hf 2 _ rfl; simpa [cellsI] using this
    have f3 : DataW.trod enc Try.prog W 0 spare held m 3 [c3] = some y3 := by have := hf 3 _ rfl; simpa [cellsI] using this
    have f4 : DataW.trod enc Try.prog W 0 spare held m 9 [c4] = some y4 := by have := hf 4 _ rfl; simpa [cellsS] using this
    obtain ⟨kd, e0, _, w0⟩ := DataW.trod_int Try.underlying3 f0
    obtain ⟨ca, e1, _, w1⟩ := DataW.trod_int Try.underlying3 f1
    obtain ⟨k, e2, _, w2⟩ := DataW.trod_int Try.underlying3 f2
    obtain ⟨N, e3, _, w3⟩ := DataW.trod_int Try.underlying3 f3
    obtain ⟨t, e4, _, w4⟩ := DataW.trod_string Try.underlying9 f4
    simp only [List.cons.injEq, and_true] at e0 e1 e2 e3 e4
    subst e0 e1 e2 e3 e4
    exact ⟨kd, ca, k, N, t, rfl, bounds_i64 w0, bounds_i64 w1, bounds_i64 w2, bounds_i64 w3⟩

/-- The steps that came in. -/
theorem uses_at {H : Type} {enc : TypeId × Value → H} {W : World} {spare : Nat → Bool} {held : Bool} {a : Addr} {len m n : Nat} {D : Nat → DataW H} {Pl : Nat → List MemPlace} (hlm : len ≤ m) (hpos : 0 < len)
    (hel : ∀ i, i < m → ∃ cs', W.cells? 0 (a.add (i * Try.prog.cellsOf 33)) (Try.prog.cellsOf 33) = some cs' ∧ DataW.trod enc Try.prog W 0 spare held n 33 cs' = some (D i, Pl i)) :
    ∃ b off, a = ⟨b, off, none⟩ ∧ b < W.heap.size ∧ ∀ j, j < len → ∃ kd ca k N t, UseAt W b (off + j * 5) kd ca k N t := by
  rw [cellsU] at hel
  obtain ⟨b, off, spot⟩ := a
  have hfirst : spot = none ∧ b < W.heap.size := by
    obtain ⟨cs', h1, h2⟩ := hel 0 (by omega)
    obtain ⟨kd, ca, k, N, t, rfl, _⟩ := use_of h2
    have h3 := (World.cells?_some h1).2.2 0 (by omega)
    have h4 : W.cell? (((⟨b, off, spot⟩ : Addr).add (0 * 5)).add 0) = some (.int .i64 kd) := h3
    simp only [Nat.zero_mul] at h4
    have e : ((⟨b, off, spot⟩ : Addr).add 0).add 0 = ⟨b, off, spot⟩ := by simp [Addr.add]
    rw [e] at h4
    exact ⟨World.cell?_spot h4, World.block_lt_of_cell? (w := W) (a := ⟨b, off, spot⟩) h4⟩
  obtain ⟨rfl, hb⟩ := hfirst
  refine ⟨b, off, rfl, hb, ?_⟩
  intro j hj
  obtain ⟨cs', h1, h2⟩ := hel j (by omega)
  obtain ⟨kd, ca, k, N, t, rfl, r0, r1, r2, r3⟩ := use_of h2
  have hc := (World.cells?_some h1).2.2
  have g : ∀ i, i < 5 → W.cell? ⟨b, off + j * 5 + i, none⟩ = [Value.int .i64 kd, .int .i64 ca, .int .i64 k, .int .i64 N, .string t][i]? := by
    intro i hi
    have := hc i hi
    rwa [add_plain, add_plain] at this
  exact ⟨kd, ca, k, N, t, g 0 (by omega), g 1 (by omega), g 2 (by omega), g 3 (by omega), g 4 (by omega), r0, r1, r2, r3⟩

theorem contract (H : Type) (enc : TypeId × Value → H) (W : World) (base : Nat) (args : Array Value) (ds gs : List (DataW H)) (before : List MemPlace)
    (hval : ∀ (j : Nat) t v, Try.f3.params[j]? = some t → args[j]? = some v → Value.okWide Try.prog W .any base t v)
    (hW : DataW.Whole enc Try.prog Try.f3.params.toList Rows.cachesSpec.vars false W args.toList ds gs before) (hk : Rows.uptoSmall H (ds ++ gs) = true) :
    Calls Try.prog 3 args W fun e W' => ∃ v, e = .returned v ∧ Rows.cachesSpec.post enc Try.prog Try.f3 false true false false W args v W' := by
  have hW' := hW
  obtain ⟨p, q, hA0, hV, rfl, hfz, hnd⟩ := hW
  have hA : DataW.TrodAll enc Try.prog W 0 (fun _ => true) true Try.f3.params.toList args.toList ds p := hA0
  rw [Try.params3] at hA hval
  obtain ⟨v0, vs0, d0, ds0, p0, q0, hargs, rfl, rfl, h0, r0⟩ := trodAll_cons hA
  obtain ⟨rfl, rfl, rfl⟩ := trodAll_nil r0
  obtain rfl : args = #[v0] := by cases args; simp_all
  obtain ⟨rfl, rfl⟩ := trodVars_none hV
  obtain ⟨a0, len0, cap0, rfl⟩ := okWide_slice Try.underlying22 (hval 0 22 v0 rfl rfl)
  have k0 := h0
  have lt0 : ∀ x ∈ p0, x.block < W.heap.size := by obtain ⟨m, hm⟩ := k0; exact DataW.trod_lt m _ _ _ hm
  clear hA0
  simp only [List.append_nil] at hk
  have walk : Calls Try.prog 3 #[.slice a0 len0 cap0] W fun e w' => e = .returned (.bool true) ∧ Below W.heap.size W w' := by
    obtain ⟨fuel, hf⟩ := h0
    rcases open_slice Try.underlying22 hf with ⟨hcs, _⟩ | ⟨a, len, cap, m, n, D, Pl, hcs, _, hl, _, hmm, hx, hel⟩
    · simp [Value.cells] at hcs
      obtain ⟨rfl, rfl, rfl⟩ := hcs
      exact caches_any none 0 0 0 0 W (by omega) (fun h => absurd h (by omega)) (fun j hj => absurd hj (by omega))
    · simp [Value.cells] at hcs
      obtain ⟨rfl, rfl, rfl⟩ := hcs
      simp only [Prod.mk.injEq] at hx
      obtain ⟨rfl, _⟩ := hx
      have hlen := short hk
      simp only [List.length_map, List.length_range] at hlen
      have hlm : len0 ≤ m := by rw [hmm]; split <;> omega
      by_cases hpos : 0 < len0
      · obtain ⟨b, off, rfl, hb, hu⟩ := uses_at hlm hpos hel
        exact caches_any _ b off len0 cap0 W hlen (fun _ => ⟨rfl, hb⟩) hu
      · exact caches_any _ 0 0 len0 cap0 W hlen (fun h => absurd h hpos) (fun j hj => absurd hj (by omega))
  refine walk.mono fun e W' ⟨he, bel⟩ => ?_
  subst he
  exact ⟨_, rfl, _, _, _, [], _, [], hW', trodAll_mk1 (shut_bool Try.underlying4 _), (trodAll_cons_mk (Below.trod laidOut (by kernel_rfl) (of_decide_eq_true (by kernel_rfl)) k0 bel lt0) trodAll_mk0), rfl, bel.frame _, fun h => by cases h⟩

set_option maxRecDepth 100000 in
theorem lifted (os : Os) (started : os.Started) (H : Type) (enc : TypeId × Value → H) (F : Stop.Interp) :
    ReturnsInHanded {} Try.checked os 3 .any ((Rows.OpenSpec.upto Rows.cachesSpec).pre6 enc Try.prog Try.f3 Rows.cachesUptoRow.domain false) (((Rows.OpenSpec.upto Rows.cachesSpec).at F).post enc Try.prog Try.f3 false true false false) := by
  refine returnsInHanded_of_cond (C := Try.checked) (s := Rows.OpenSpec.upto Rows.cachesSpec) (k := Rows.uptoSmall) rfl own started (by kernel_rfl) Try.func3
    (OpenSpec.witness (enc := enc) (C := Try.checked) (s := Rows.OpenSpec.upto Rows.cachesSpec) (k := Rows.uptoSmall) rfl false ⟨#[], #[.slice none 0 0], []⟩ 8 (by kernel_rfl) (by kernel_rfl) (by kernel_rfl)
      (x := ([.nil], [], [])) (by kernel_rfl) rfl (by kernel_rfl)) ?_
  intro W base args ds gs before hval hW _ hk _
  exact contract H enc W base args ds gs before hval hW hk

theorem over : Rows.cachesUptoRow.holds Try.pinned (Rows.OpenSpec.upto Rows.cachesSpec) :=
  OpenClaim.holds_of_cond 3 Try.f3 rfl rfl rfl rfl rfl rfl rfl ⟨rfl, rfl, rfl, rfl, rfl⟩ rfl rfl rfl rfl rfl (by kernel_rfl) Try.func3 (by kernel_rfl)
    (of_decide_eq_true (by kernel_rfl)) (by unfold Func.isWrapper; first | (rw [if_pos (by decide +kernel)]; kernel_rfl) | (rw [if_neg (by decide +kernel)]; exact ⟨rfl, rfl⟩))
    (fun os started H enc _ F => lifted os started H enc F)
end Go.Proofs.Ytaheegdfcddlpaa.caches

namespace Go.Proofs.Ytaheegdfcddlpaa
theorem caches_holds : Rows.CachesUptoSaid := caches.over
#print axioms caches_holds
end Go.Proofs.Ytaheegdfcddlpaa
