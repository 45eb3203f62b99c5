import Derived.Test.YtlfmfhmbkpnjbaaSt19
import Derived.Test.YtlfmfhmbkpnjbaaSt23
import Derived.Test.YtlfmfhmbkpnjbaaSt18
namespace Go.Proofs.Ytlfmfhmbkpnjbaa.opens
open Go.ChangeShapes Go.WideShapes Go.ChangeAt Go.RowKit Go.Deep
set_option linter.unusedVariables false
set_option maxRecDepth 100000

theorem cellsE : Try.prog.cellsOf 57 = 7 := by kernel_rfl
theorem cellsW : Try.prog.cellsOf 40 = 2 := by kernel_rfl
theorem cellsI : Try.prog.cellsOf 3 = 1 := by kernel_rfl
theorem cellsF : Try.prog.cellsOf 54 = 1 := by kernel_rfl
theorem cellsS : Try.prog.cellsOf 38 = 1 := by kernel_rfl

theorem trod_float {P : Program} {H : Type} {enc : TypeId × Value → H} {w : World} {base : Nat} {spare : Nat → Bool} {held : Bool} {fuel : Nat} {t : TypeId} {cs : List Value} {x : DataW H × List MemPlace} {k : FloatKind} (ht : P.underlying t = some (.float k)) (h : DataW.trod enc P w base spare held fuel t cs = some x) : ∃ n, cs = [.float k n] := by
  cases fuel with
  | zero => simp [DataW.trod] at h
  | succ n =>
    unfold DataW.trod at h
    rw [ht] at h
    split at h <;> simp_all

theorem one_le {H : Type} (d : DataW H) : 1 ≤ Rows.uptoBulk d := by
  cases d with
  | lit l => cases l <;> simp [Rows.uptoBulk]
  | _ => simp [Rows.uptoBulk]

theorem many_le {H : Type} (l : List (DataW H)) : l.length ≤ Rows.uptoBulkAll l := by
  induction l with
  | nil => exact Nat.zero_le _
  | cons x r ih =>
    have := one_le x
    simp only [Rows.uptoBulkAll, List.length_cons]
    omega

theorem mob_of {H : Type} {enc : TypeId × Value → H} {W : World} {spare : Nat → Bool} {held : Bool} {n : Nat} {cs : List Value} {x : DataW H × List MemPlace} (h : DataW.trod enc Try.prog W 0 spare held n 57 cs = some x) :
    ∃ m : Mob, cs = rowM [m] := by
  obtain ⟨xs, m, _, rfl, hl, hlen, hf⟩ := DataW.trod_struct Try.underlying57 h
  rw [cellsE] at hl
  match cs, hl, xs, hlen with
  | [c0, c1, c2, c3, c4, c5, c6], _, [y0, y1, y2, y3, y4, y5, y6], _ =>
    have f0 : DataW.trod enc Try.prog W 0 spare held m 3 [c0] = some y0 := by have := hf 0 _ rfl; simpa [cellsI] using this
    have f1 : DataW.trod enc Try.prog W 0 spare held m 3 [c1] = some y1 := by have := hf 1 _ rfl; simpa [cellsI] using this
    have f2 : DataW.trod enc Try.prog W 0 spare held m 54 [c2] = some y2 := by have := hf 2 _ rfl; simpa [cellsF] using this
    have f3 : DataW.trod enc Try.prog W 0 spare held m 54 [c3] = some y3 := by have := hf 3 _ rfl; simpa [cellsF] using this
    have f4 : DataW.trod enc Try.prog W 0 spare held m 54 [c4] = some y4 := by have := hf 4 _ rfl; simpa [cellsF] using this
    have f5 : DataW.trod enc Try.prog W 0 spare held m 54 [c5] = some y5 := by have := hf 5 _ rfl; simpa [cellsF] using this
    have f6 : DataW.trod enc Try.prog W 0 spare held m 3 [c6] = some y6 := by have := hf 6 _ rfl; simpa [cellsI] using this
    obtain ⟨k0, e0, _⟩ := DataW.trod_int Try.underlying3 f0
    obtain ⟨k1, e1, _⟩ := DataW.trod_int Try.underlying3 f1
    obtain ⟨k2, e2⟩ := trod_float Try.underlying54 f2
    obtain ⟨k3, e3⟩ := trod_float Try.underlying54 f3
    obtain ⟨k4, e4⟩ := trod_float Try.underlying54 f4
    obtain ⟨k5, e5⟩ := trod_float Try.underlying54 f5
    obtain ⟨k6, e6, _⟩ := DataW.trod_int Try.underlying3 f6
    simp only [List.cons.injEq, and_true] at e0 e1 e2 e3 e4 e5 e6
    subst e0 e1 e2 e3 e4 e5 e6
    exact ⟨⟨k0, k1, k2, k3, k4, k5, k6⟩, rfl⟩

/-- The entities that came in. -/
theorem mobs_at {W : World} {b off : Nat} (len : Nat) (hel : ∀ i, i < len → ∃ m : Mob, ∀ k, k < 7 → W.cell? ⟨b, off + i * 7 + k, none⟩ = (rowM [m])[k]?) :
    ∃ L : List Mob, L.length = len ∧ ∀ j u, (rowM L)[j]? = some u → W.cell? ⟨b, off + j, none⟩ = some u := by
  induction len with
  | zero => exact ⟨[], rfl, fun j u hu => by simp [rowM] at hu⟩
  | succ n ih =>
    obtain ⟨L, hl, hr⟩ := ih (fun i hi => hel i (by omega))
    obtain ⟨m, hm⟩ := hel n (by omega)
    refine ⟨L ++ [m], by simp [hl], fun j u hu => ?_⟩
    rw [rowM_append] at hu
    have hll : (rowM L).length = n * 7 := by rw [rowM_length, hl]
    by_cases hj : j < n * 7
    · rw [List.getElem?_append_left (by omega)] at hu
      exact hr j u hu
    · rw [List.getElem?_append_right (by omega), hll] at hu
      have h7 : j - n * 7 < 7 := (List.getElem?_eq_some_iff.1 hu).1
      have := hm (j - n * 7) h7
      rw [hu, show off + n * 7 + (j - n * 7) = off + j from by omega] at this
      exact this

theorem ents_of {H : Type} {enc : TypeId × Value → H} {W : World} {spare : Nat → Bool} {held : Bool} {fuel : Nat} {cs : List Value} {x : DataW H × List MemPlace} (h : DataW.trod enc Try.prog W 0 spare held fuel 38 cs = some x) :
    ∃ p cap, ∃ L : List Mob, cs = [.slice p L.length cap] ∧ Reads W p L ∧ L.length ≤ Rows.uptoBulk x.1 := by
  rcases open_slice Try.underlying38 h with ⟨hcs, _⟩ | ⟨a, len, cap, m, n, D, Pl, hcs, _, hl, _, hmm, hx, hel⟩
  · exact ⟨none, 0, [], hcs, fun h => absurd rfl h, Nat.zero_le _⟩
  · rw [cellsE] at hel
    have hlm : len ≤ m := by rw [hmm]; split <;> omega
    have hbulk : len ≤ Rows.uptoBulk x.1 := by
      have := many_le ((List.range len).map D)
      rw [hx]
      simp only [Rows.uptoBulk]
      simp only [List.length_map, List.length_range] at this
      omega
    by_cases hpos : 0 < len
    · obtain ⟨b, off, spot⟩ := a
      have hfirst : spot = none ∧ b < W.heap.size := by
        obtain ⟨cs', h1, h2⟩ := hel 0 (by omega)
        obtain ⟨m0, rfl⟩ := mob_of h2
        have h3 := (World.cells?_some h1).2.2 0 (by omega)
        have h4 : W.cell? (((⟨b, off, spot⟩ : Addr).add (0 * 7)).add 0) = some (.int .i64 m0.id) := h3
        simp only [Nat.zero_mul] at h4
        have e : ((⟨b, off, spot⟩ : Addr).add 0).add 0 = ⟨b, off, spot⟩ := by simp [Addr.add]
        rw [e] at h4
        exact ⟨World.cell?_spot h4, World.block_lt_of_cell? (w := W) (a := ⟨b, off, spot⟩) h4⟩
      obtain ⟨rfl, hb⟩ := hfirst
      obtain ⟨L, hLl, hr⟩ := mobs_at (W := W) (b := b) (off := off) len (fun i hi => by
        obtain ⟨cs', h1, h2⟩ := hel i (by omega)
        obtain ⟨m0, rfl⟩ := mob_of h2
        have hc := (World.cells?_some h1).2.2
        exact ⟨m0, fun k hk => by have := hc k hk; rwa [addr_add2, addr_add2] at this⟩)
      exact ⟨some ⟨b, off, none⟩, cap, L, by rw [hLl]; exact hcs, fun _ => ⟨b, off, rfl, hb, hr⟩, by rw [hLl]; exact hbulk⟩
    · obtain rfl : len = 0 := by omega
      exact ⟨some a, cap, [], hcs, fun h => absurd rfl h, Nat.zero_le _⟩

theorem ints_of {H : Type} {enc : TypeId × Value → H} {W : World} {spare : Nat → Bool} {held : Bool} {fuel : Nat} {cs : List Value} {x : DataW H × List MemPlace} (h : DataW.trod enc Try.prog W 0 spare held fuel 53 cs = some x) :
    ∃ p l c, cs = [.slice p l c] ∧ RI W p l ∧ l ≤ Rows.uptoBulk x.1 := by
  obtain ⟨p, l, c, rfl, _, hr⟩ := ticks.inner h
  refine ⟨p, l, c, rfl, hr, ?_⟩
  rcases open_slice Try.underlying53 h with ⟨hcs, _⟩ | ⟨a, len, cap, m, n, D, Pl, hcs, _, hl, _, hmm, hx, hel⟩
  · simp only [List.cons.injEq, Value.slice.injEq, and_true] at hcs
    rw [hcs.2.1]; exact Nat.zero_le _
  · simp only [List.cons.injEq, Value.slice.injEq, and_true] at hcs
    rw [hcs.2.1, hx]
    have := many_le ((List.range len).map D)
    simp only [Rows.uptoBulk]
    simp only [List.length_map, List.length_range] at this
    omega

end Go.Proofs.Ytlfmfhmbkpnjbaa.opens

namespace Go.Proofs.Ytlfmfhmbkpnjbaa.stepsP
open Go.ChangeShapes Go.WideShapes Go.ChangeAt Go.RowKit Go.Deep
open Go.Proofs.Ytlfmfhmbkpnjbaa.opens
set_option linter.unusedVariables false
set_option maxRecDepth 100000

theorem cellsC : Try.prog.cellsOf 99 = 6 := by kernel_rfl
theorem cellsL : Try.prog.cellsOf 43 = 1 := by kernel_rfl

theorem cmd_of {H : Type} {enc : TypeId × Value → H} {W : World} {spare : Nat → Bool} {held : Bool} {n : Nat} {cs : List Value} {x : DataW H × List MemPlace} (h : DataW.trod enc Try.prog W 0 spare held n 99 cs = some x) :
    ∃ m : Cmd, cs = rowC [m] := by
  obtain ⟨xs, m, _, rfl, hl, hlen, hf⟩ := DataW.trod_struct Try.underlying99 h
  rw [cellsC] at hl
  match cs, hl, xs, hlen with
  | [c0, c1, c2, c3, c4, c5], _, [y0, y1, y2, y3, y4, y5], _ =>
    have f0 : DataW.trod enc Try.prog W 0 spare held m 3 [c0] = some y0 := by have := hf 0 _ rfl; simpa [cellsI] using this
    have f1 : DataW.trod enc Try.prog W 0 spare held m 3 [c1] = some y1 := by have := hf 1 _ rfl; simpa [cellsI] using this
    have f2 : DataW.trod enc Try.prog W 0 spare held m 3 [c2] = some y2 := by have := hf 2 _ rfl; simpa [cellsI] using this
    have f3 : DataW.trod enc Try.prog W 0 spare held m 54 [c3] = some y3 := by have := hf 3 _ rfl; simpa [cellsF] using this
    have f4 : DataW.trod enc Try.prog W 0 spare held m 54 [c4] = some y4 := by have := hf 4 _ rfl; simpa [cellsF] using this
    have f5 : DataW.trod enc Try.prog W 0 spare held m 3 [c5] = some y5 := by have := hf 5 _ rfl; simpa [cellsI] using this
    obtain ⟨k0, e0, _⟩ := DataW.trod_int Try.underlying3 f0
    obtain ⟨k1, e1, _⟩ := DataW.trod_int Try.underlying3 f1
    obtain ⟨k2, e2, _⟩ := DataW.trod_int Try.underlying3 f2
    obtain ⟨k3, e3⟩ := trod_float Try.underlying54 f3
    obtain ⟨k4, e4⟩ := trod_float Try.underlying54 f4
    obtain ⟨k5, e5, _⟩ := DataW.trod_int Try.underlying3 f5
    simp only [List.cons.injEq, and_true] at e0 e1 e2 e3 e4 e5
    subst e0 e1 e2 e3 e4 e5
    exact ⟨⟨k0, k1, k2, k3, k4, k5⟩, rfl⟩

theorem cmds_at {W : World} {b off : Nat} (len : Nat) (hel : ∀ i, i < len → ∃ m : Cmd, ∀ k, k < 6 → W.cell? ⟨b, off + i * 6 + k, none⟩ = (rowC [m])[k]?) :
    ∃ L : List Cmd, L.length = len ∧ ∀ j u, (rowC L)[j]? = some u → W.cell? ⟨b, off + j, none⟩ = some u := by
  induction len with
  | zero => exact ⟨[], rfl, fun j u hu => by simp [rowC] at hu⟩
  | succ n ih =>
    obtain ⟨L, hl, hr⟩ := ih (fun i hi => hel i (by omega))
    obtain ⟨m, hm⟩ := hel n (by omega)
    refine ⟨L ++ [m], by simp [hl], fun j u hu => ?_⟩
    rw [rowC_append] at hu
    have hll : (rowC L).length = n * 6 := by rw [rowC_length, hl]
    by_cases hj : j < n * 6
    · rw [List.getElem?_append_left (by omega)] at hu
      exact hr j u hu
    · rw [List.getElem?_append_right (by omega), hll] at hu
      have h7 : j - n * 6 < 6 := (List.getElem?_eq_some_iff.1 hu).1
      have := hm (j - n * 6) h7
      rw [hu, show off + n * 6 + (j - n * 6) = off + j from by omega] at this
      exact this

theorem cmds_of {H : Type} {enc : TypeId × Value → H} {W : World} {spare : Nat → Bool} {held : Bool} {fuel : Nat} {cs : List Value} {x : DataW H × List MemPlace} (h : DataW.trod enc Try.prog W 0 spare held fuel 43 cs = some x) :
    ∃ p cap, ∃ L : List Cmd, cs = [.slice p L.length cap] ∧ ReadsC W p L ∧ L.length ≤ Rows.uptoBulk x.1 := by
  rcases open_slice Try.underlying43 h with ⟨hcs, _⟩ | ⟨a, len, cap, m, n, D, Pl, hcs, _, hl, _, hmm, hx, hel⟩
  · exact ⟨none, 0, [], hcs, fun h => absurd rfl h, Nat.zero_le _⟩
  · rw [cellsC] at hel
    have hlm : len ≤ m := by rw [hmm]; split <;> omega
    have hbulk : len ≤ Rows.uptoBulk x.1 := by
      have := many_le ((List.range len).map D)
      rw [hx]
      simp only [Rows.uptoBulk]
      simp only [List.length_map, List.length_range] at this
      omega
    by_cases hpos : 0 < len
    · obtain ⟨b, off, spot⟩ := a
      have hfirst : spot = none ∧ b < W.heap.size := by
        obtain ⟨cs', h1, h2⟩ := hel 0 (by omega)
        obtain ⟨m0, rfl⟩ := cmd_of h2
        have h3 := (World.cells?_some h1).2.2 0 (by omega)
        have h4 : W.cell? (((⟨b, off, spot⟩ : Addr).add (0 * 6)).add 0) = some (.int .i64 m0.kind) := h3
        simp only [Nat.zero_mul] at h4
        have e : ((⟨b, off, spot⟩ : Addr).add 0).add 0 = ⟨b, off, spot⟩ := by simp [Addr.add]
        rw [e] at h4
        exact ⟨World.cell?_spot h4, World.block_lt_of_cell? (w := W) (a := ⟨b, off, spot⟩) h4⟩
      obtain ⟨rfl, hb⟩ := hfirst
      obtain ⟨L, hLl, hr⟩ := cmds_at (W := W) (b := b) (off := off) len (fun i hi => by
        obtain ⟨cs', h1, h2⟩ := hel i (by omega)
        obtain ⟨m0, rfl⟩ := cmd_of h2
        have hc := (World.cells?_some h1).2.2
        exact ⟨m0, fun k hk => by have := hc k hk; rwa [addr_add2, addr_add2] at this⟩)
      exact ⟨some ⟨b, off, none⟩, cap, L, by rw [hLl]; exact hcs, fun _ => ⟨b, off, rfl, hb, hr⟩, by rw [hLl]; exact hbulk⟩
    · obtain rfl : len = 0 := by omega
      exact ⟨some a, cap, [], hcs, fun h => absurd rfl h, Nat.zero_le _⟩

theorem part_le {H : Type} (D : Nat → DataW H) (n j : Nat) (hj : j < n) : Rows.uptoBulk (D j) ≤ Rows.uptoBulkAll ((List.range n).map D) := by
  have : ∀ l : List (DataW H), ∀ x ∈ l, Rows.uptoBulk x ≤ Rows.uptoBulkAll l := by
    intro l
    induction l with
    | nil => intro x hx; cases hx
    | cons y r ih =>
      intro x hx
      simp only [Rows.uptoBulkAll]
      rcases List.mem_cons.1 hx with rfl | hx
      · omega
      · have := ih x hx; omega
  exact this _ _ (List.mem_map.2 ⟨j, List.mem_range.2 hj, rfl⟩)

theorem nil_cap {H : Type} {enc : TypeId × Value → H} {W : World} {spare : Nat → Bool} {held : Bool} {fuel : Nat} {p : Option Addr} {l cap : Nat} {x : DataW H × List MemPlace} (h : DataW.trod enc Try.prog W 0 spare held fuel 38 [.slice p l cap] = some x) : p = none → cap = 0 := by
  rcases open_slice Try.underlying38 h with ⟨hcs, _⟩ | ⟨a, len, c, m, n, D, Pl, hcs, _⟩
  · simp only [List.cons.injEq, Value.slice.injEq, and_true] at hcs
    exact fun _ => hcs.2.2
  · simp only [List.cons.injEq, Value.slice.injEq, and_true] at hcs
    intro e
    rw [e] at hcs
    cases hcs.1

theorem open_cmds {H : Type} {enc : TypeId × Value → H} {W : World} {a0 : Option Addr} {len0 cap0 : Nat} {d0 : DataW H} {p0 : List MemPlace} (h0 : DataW.Trod enc Try.prog W 0 (fun _ => true) true 41 (.slice a0 len0 cap0) d0 p0) (hb : Rows.uptoBulk d0 ≤ 1048576) :
    len0 ≤ 1048576 ∧ RTC W a0 len0 := by
  obtain ⟨fuel, hf⟩ := h0
  rcases open_slice Try.underlying41 hf with ⟨hcs, _⟩ | ⟨a, len, cap, m, n, D, Pl, hcs, _, hl, hcm, hmm, hx, hel⟩
  · simp [Value.cells] at hcs
    obtain ⟨rfl, rfl, rfl⟩ := hcs
    exact ⟨by decide, fun e => absurd e (by decide)⟩
  · simp [Value.cells] at hcs
    obtain ⟨rfl, rfl, rfl⟩ := hcs
    rw [cellsL] at hel
    have hlm : len0 ≤ m := by rw [hmm]; split <;> omega
    simp only [Prod.mk.injEq] at hx
    have hbd : Rows.uptoBulkAll ((List.range len0).map D) ≤ 1048576 := by
      rw [hx.1] at hb
      simp only [Rows.uptoBulk] at hb
      omega
    have hlen : len0 ≤ 1048576 := by
      have := many_le ((List.range len0).map D)
      simp only [List.length_map, List.length_range] at this
      omega
    refine ⟨hlen, fun hpos => ?_⟩
    have cell : ∀ j, j < len0 → ∃ p c, ∃ cs : List Cmd, W.cell? (a.add j) = some (.slice p cs.length c) ∧ cs.length ≤ 1048576 ∧ ReadsC W p cs := by
      intro j hj
      obtain ⟨cs', h1, h2⟩ := hel j (by omega)
      obtain ⟨p, c, cs, rfl, q1, q2⟩ := cmds_of h2
      have h3 := (World.cells?_some h1).2.2 0 (by omega)
      rw [Nat.mul_one] at h3
      have e : (a.add j).add 0 = a.add j := by simp [Addr.add]
      rw [e] at h3
      have hp := part_le D len0 j hj
      exact ⟨p, c, cs, h3, Nat.le_trans q2 (Nat.le_trans hp hbd), q1⟩
    obtain ⟨b, off, spot⟩ := a
    obtain ⟨p, c, cs, h3, _⟩ := cell 0 hpos
    have e : (⟨b, off, spot⟩ : Addr).add 0 = ⟨b, off, spot⟩ := by simp [Addr.add]
    rw [e] at h3
    obtain rfl := World.cell?_spot h3
    refine ⟨b, off, rfl, World.block_lt_of_cell? (w := W) (a := ⟨b, off, none⟩) h3, fun j hj => ?_⟩
    obtain ⟨p, c, cs, h4, h5, h6⟩ := cell j hj
    rw [addr_add2] at h4
    exact ⟨p, c, cs, h4, h5, h6⟩

theorem contract (H : Type) (enc : TypeId × Value → H) (W : World) (base : Nat) (args : Array Value) (ds gs : List (DataW H)) (before : List MemPlace)
    (hval : ∀ (j : Nat) t v, Try.f4.params[j]? = some t → args[j]? = some v → Value.okWide Try.prog W .any base t v)
    (hW : DataW.Whole enc Try.prog Try.f4.params.toList Rows.stepsSpec.vars false W args.toList ds gs before) (hk : Rows.uptoSmall H (ds ++ gs) = true) :
    Calls Try.prog 4 args W fun e W' => ∃ v, e = .returned v ∧ Rows.stepsSpec.post enc Try.prog Try.f4 false true false false W args v W' := by
  have hW' := hW
  obtain ⟨p, q, hA0, hV, rfl, hfz, hnd⟩ := hW
  have hA : DataW.TrodAll enc Try.prog W 0 (fun _ => true) true Try.f4.params.toList args.toList ds p := hA0
  rw [Try.params4] at hA hval
  obtain ⟨v0, vs0, d0, ds0, p0, q0, hargs, rfl, rfl, h0, r0⟩ := trodAll_cons hA
  obtain ⟨v1, vs1, d1, ds1, p1, q1, rfl, rfl, rfl, h1, r1⟩ := trodAll_cons r0
  obtain ⟨rfl, rfl, rfl⟩ := trodAll_nil r1
  obtain rfl : args = #[v0, v1] := by cases args; simp_all
  obtain ⟨rfl, rfl⟩ := trodVars_none hV
  have k0 := h0
  have k1 := h1
  have lt0 : ∀ x ∈ p0, x.block < W.heap.size := by obtain ⟨m, hm⟩ := k0; exact DataW.trod_lt m _ _ _ hm
  have lt1 : ∀ x ∈ p1, x.block < W.heap.size := by obtain ⟨m, hm⟩ := k1; exact DataW.trod_lt m _ _ _ hm
  clear hA0
  simp only [List.append_nil] at hk
  have hbulk : Rows.uptoBulkAll [d0, d1] ≤ 1048576 := of_decide_eq_true hk
  simp only [Rows.uptoBulkAll] at hbulk
  have walk : Calls Try.prog 4 #[v0, v1] W fun e w' => e = .returned (.bool true) ∧ Below W.heap.size W w' := by
    obtain ⟨cs0, rfl, hsz⟩ := okWide_struct Try.underlying40 (hval 0 40 v0 rfl rfl)
    obtain ⟨a1, len1, cap1, rfl⟩ := okWide_slice Try.underlying41 (hval 1 41 v1 rfl rfl)
    obtain ⟨fuel, hf⟩ := h0
    obtain ⟨xs, m, _, hx, hl, hlen, hfd⟩ := DataW.trod_struct Try.underlying40 hf
    obtain ⟨cs⟩ := cs0
    simp only [Value.cells] at hl hfd
    rw [cellsW] at hl
    match cs, hl, xs, hlen, hx, hfd with
    | [c0, c1], _, [y0, y1], _, hx, hfd =>
      have f0 : DataW.trod enc Try.prog W 0 (fun _ => true) true m 3 [c0] = some y0 := by have := hfd 0 _ rfl; simpa [cellsI] using this
      have f1 : DataW.trod enc Try.prog W 0 (fun _ => true) true m 38 [c1] = some y1 := by have := hfd 1 _ rfl; simpa [cellsS] using this
      obtain ⟨t, e0, _⟩ := DataW.trod_int Try.underlying3 f0
      obtain ⟨pe, cape, L, e1, hR, hLb⟩ := ents_of f1
      simp only [List.cons.injEq, and_true] at e0 e1
      subst e0 e1
      have hnc := nil_cap f1
      obtain ⟨hn1, hRT⟩ := open_cmds h1 (by omega)
      simp only [Prod.mk.injEq] at hx
      have hd0 : Rows.uptoBulk d0 = Rows.uptoBulk y0.1 + (Rows.uptoBulk y1.1 + 0) + 1 := by rw [hx.1]; simp [Rows.uptoBulk, Rows.uptoBulkAll]
      exact steps_walk t pe cape L a1 len1 cap1 W (by omega) hn1 hR hnc hRT
  refine walk.mono fun e W' ⟨he, bel⟩ => ?_
  subst he
  exact ⟨_, rfl, _, _, _, [], _, [], hW', trodAll_mk1 (shut_bool Try.underlying4 _), (trodAll_cons_mk (Below.trod ticks.laidOut (by kernel_rfl) (of_decide_eq_true (by kernel_rfl)) k0 bel lt0) (trodAll_cons_mk (Below.trod ticks.laidOut (by kernel_rfl) (of_decide_eq_true (by kernel_rfl)) k1 bel lt1) trodAll_mk0)), rfl, bel.frame _, fun h => by cases h⟩

set_option maxRecDepth 100000 in
theorem lifted (os : Os) (started : os.Started) (H : Type) (enc : TypeId × Value → H) (F : Stop.Interp) :
    ReturnsInHanded {} Try.checked os 4 .any ((Rows.OpenSpec.upto Rows.stepsSpec).pre6 enc Try.prog Try.f4 Rows.stepsUptoRow.domain false) (((Rows.OpenSpec.upto Rows.stepsSpec).at F).post enc Try.prog Try.f4 false true false false) := by
  refine returnsInHanded_of_cond (C := Try.checked) (s := Rows.OpenSpec.upto Rows.stepsSpec) (k := Rows.uptoSmall) rfl ticks.own started (by kernel_rfl) Try.func4
    (OpenSpec.witness (enc := enc) (C := Try.checked) (s := Rows.OpenSpec.upto Rows.stepsSpec) (k := Rows.uptoSmall) rfl false ⟨#[], #[.agg #[.int .i64 0, .slice none 0 0], .slice none 0 0], []⟩ 8 (by kernel_rfl) (by kernel_rfl) (by kernel_rfl)
      (x := ([.agg [.lit (.int .i64 0), .nil], .nil], [], [])) (by kernel_rfl) rfl (by kernel_rfl)) ?_
  intro W base args ds gs before hval hW _ hk _
  exact contract H enc W base args ds gs before hval hW hk

theorem over : Rows.stepsUptoRow.holds Try.pinned (Rows.OpenSpec.upto Rows.stepsSpec) :=
  OpenClaim.holds_of_cond 4 Try.f4 rfl rfl rfl rfl rfl rfl rfl ⟨rfl, rfl, rfl, rfl, rfl⟩ rfl rfl rfl rfl rfl (by kernel_rfl) Try.func4 (by kernel_rfl)
    (of_decide_eq_true (by kernel_rfl)) (by unfold Func.isWrapper; first | (rw [if_pos (by decide +kernel)]; kernel_rfl) | (rw [if_neg (by decide +kernel)]; exact ⟨rfl, rfl⟩))
    (fun os started H enc _ F => lifted os started H enc F)
end Go.Proofs.Ytlfmfhmbkpnjbaa.stepsP

namespace Go.Proofs.Ytlfmfhmbkpnjbaa
theorem steps_holds : Rows.StepsUptoSaid := stepsP.over
#print axioms steps_holds
end Go.Proofs.Ytlfmfhmbkpnjbaa
