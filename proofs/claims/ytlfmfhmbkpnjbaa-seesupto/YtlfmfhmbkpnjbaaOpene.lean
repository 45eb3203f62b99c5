import Derived.Test.YtlfmfhmbkpnjbaaTicks
import Derived.Test.YtlfmfhmbkpnjbaaSany
namespace Go.Proofs.Ytlfmfhmbkpnjbaa.opens
open Go.ChangeShapes Go.WideShapes Go.ChangeAt Go.RowKit Go.Deep
set_option linter.unusedVariables false
set_option maxRecDepth 100000

theorem cellsE : Try.prog.cellsOf 57 = 7 := by kernel_rfl
theorem cellsW : Try.prog.cellsOf 40 = 2 := by kernel_rfl
theorem cellsI : Try.prog.cellsOf 3 = 1 := by kernel_rfl
theorem cellsF : Try.prog.cellsOf 54 = 1 := by kernel_rfl
theorem cellsS : Try.prog.cellsOf 38 = 1 := by kernel_rfl

theorem trod_float {P : Program} {H : Type} {enc : TypeId × Value → H} {w : World} {base : Nat} {spare : Nat → Bool} {held : Bool} {fuel : Nat} {t : TypeId} {cs : List Value} {x : DataW H × List MemPlace} {k : FloatKind} (ht : P.underlying t = some (.float k)) (h : DataW.trod enc P w base spare held fuel t cs = some x) : ∃ n, cs = [.float k n] := by
  cases fuel with
  | zero => simp [DataW.trod] at h
  | succ n =>
    unfold DataW.trod at h
    rw [ht] at h
    split at h <;> simp_all

theorem one_le {H : Type} (d : DataW H) : 1 ≤ Rows.uptoBulk d := by
  cases d with
  | lit l => cases l <;> simp [Rows.uptoBulk]
  | _ => simp [Rows.uptoBulk]

theorem many_le {H : Type} (l : List (DataW H)) : l.length ≤ Rows.uptoBulkAll l := by
  induction l with
  | nil => exact Nat.zero_le _
  | cons x r ih =>
    have := one_le x
    simp only [Rows.uptoBulkAll, List.length_cons]
    omega

theorem mob_of {H : Type} {enc : TypeId × Value → H} {W : World} {spare : Nat → Bool} {held : Bool} {n : Nat} {cs : List Value} {x : DataW H × List MemPlace} (h : DataW.trod enc Try.prog W 0 spare held n 57 cs = some x) :
    ∃ m : Mob, cs = rowM [m] := by
  obtain ⟨xs, m, _, rfl, hl, hlen, hf⟩ := DataW.trod_struct Try.underlying57 h
  rw [cellsE] at hl
  match cs, hl, xs, hlen with
  | [c0, c1, c2, c3, c4, c5, c6], _, [y0, y1, y2, y3, y4, y5, y6], _ =>
    have f0 : DataW.trod enc Try.prog W 0 spare held m 3 [c0] = some y0 := by have := hf 0 _ rfl; simpa [cellsI] using this
    have f1 : DataW.trod enc Try.prog W 0 spare held m 3 [c1] = some y1 := by have := hf 1 _ rfl; simpa [cellsI] using this
    have f2 : DataW.trod enc Try.prog W 0 spare held m 54 [c2] = some y2 := by have := hf 2 _ rfl; simpa [cellsF] using this
    have f3 : DataW.trod enc Try.prog W 0 spare held m 54 [c3] = some y3 := by have := hf 3 _ rfl; simpa [cellsF] using this
    have f4 : DataW.trod enc Try.prog W 0 spare held m 54 [c4] = some y4 := by have := hf 4 _ rfl; simpa [cellsF] using this
    have f5 : DataW.trod enc Try.prog W 0 spare held m 54 [c5] = some y5 := by have := hf 5 _ rfl; simpa [cellsF] using this
    have f6 : DataW.trod enc Try.prog W 0 spare held m 3 [c6] = some y6 := by have := hf 6 _ rfl; simpa [cellsI] using this
    obtain ⟨k0, e0, _⟩ := DataW.trod_int Try.underlying3 f0
    obtain ⟨k1, e1, _⟩ := DataW.trod_int Try.underlying3 f1
    obtain ⟨k2, e2⟩ := trod_float Try.underlying54 f2
    obtain ⟨k3, e3⟩ := trod_float Try.underlying54 f3
    obtain ⟨k4, e4⟩ := trod_float Try.underlying54 f4
    obtain ⟨k5, e5⟩ := trod_float Try.underlying54 f5
    obtain ⟨k6, e6, _⟩ := DataW.trod_int Try.underlying3 f6
    simp only [List.cons.injEq, and_true] at e0 e1 e2 e3 e4 e5 e6
    subst e0 e1 e2 e3 e4 e5 e6
    exact ⟨⟨k0, k1, k2, k3, k4, k5, k6⟩, rfl⟩

/-- The entities that came in. -/
theorem mobs_at {W : World} {b off : Nat} (len : Nat) (hel : ∀ i, i < len → ∃ m : Mob, ∀ k, k < 7 → W.cell? ⟨b, off + i * 7 + k, none⟩ = (rowM [m])[k]?) :
    ∃ L : List Mob, L.length = len ∧ ∀ j u, (rowM L)[j]? = some u → W.cell? ⟨b, off + j, none⟩ = some u := by
  induction len with
  | zero => exact ⟨[], rfl, fun j u hu => by simp [rowM] at hu⟩
  | succ n ih =>
    obtain ⟨L, hl, hr⟩ := ih (fun i hi => hel i (by omega))
    obtain ⟨m, hm⟩ := hel n (by omega)
    refine ⟨L ++ [m], by simp [hl], fun j u hu => ?_⟩
    rw [rowM_append] at hu
    have hll : (rowM L).length = n * 7 := by rw [rowM_length, hl]
    by_cases hj : j < n * 7
    · rw [List.getElem?_append_left (by omega)] at hu
      exact hr j u hu
    · rw [List.getElem?_append_right (by omega), hll] at hu
      have h7 : j - n * 7 < 7 := (List.getElem?_eq_some_iff.1 hu).1
      have := hm (j - n * 7) h7
      rw [hu, show off + n * 7 + (j - n * 7) = off + j from by omega] at this
      exact this

theorem ents_of {H : Type} {enc : TypeId × Value → H} {W : World} {spare : Nat → Bool} {held : Bool} {fuel : Nat} {cs : List Value} {x : DataW H × List MemPlace} (h : DataW.trod enc Try.prog W 0 spare held fuel 38 cs = some x) :
    ∃ p cap, ∃ L : List Mob, cs = [.slice p L.length cap] ∧ Reads W p L ∧ L.length ≤ Rows.uptoBulk x.1 := by
  rcases open_slice Try.underlying38 h with ⟨hcs, _⟩ | ⟨a, len, cap, m, n, D, Pl, hcs, _, hl, _, hmm, hx, hel⟩
  · exact ⟨none, 0, [], hcs, fun h => absurd rfl h, Nat.zero_le _⟩
  · rw [cellsE] at hel
    have hlm : len ≤ m := by rw [hmm]; split <;> omega
    have hbulk : len ≤ Rows.uptoBulk x.1 := by
      have := many_le ((List.range len).map D)
      rw [hx]
      simp only [Rows.uptoBulk]
      simp only [List.length_map, List.length_range] at this
      omega
    by_cases hpos : 0 < len
    · obtain ⟨b, off, spot⟩ := a
      have hfirst : spot = none ∧ b < W.heap.size := by
        obtain ⟨cs', h1, h2⟩ := hel 0 (by omega)
        obtain ⟨m0, rfl⟩ := mob_of h2
        have h3 := (World.cells?_some h1).2.2 0 (by omega)
        have h4 : W.cell? (((⟨b, off, spot⟩ : Addr).add (0 * 7)).add 0) = some (.int .i64 m0.id) := h3
        simp only [Nat.zero_mul] at h4
        have e : ((⟨b, off, spot⟩ : Addr).add 0).add 0 = ⟨b, off, spot⟩ := by simp [Addr.add]
        rw [e] at h4
        exact ⟨World.cell?_spot h4, World.block_lt_of_cell? (w := W) (a := ⟨b, off, spot⟩) h4⟩
      obtain ⟨rfl, hb⟩ := hfirst
      obtain ⟨L, hLl, hr⟩ := mobs_at (W := W) (b := b) (off := off) len (fun i hi => by
        obtain ⟨cs', h1, h2⟩ := hel i (by omega)
        obtain ⟨m0, rfl⟩ := mob_of h2
        have hc := (World.cells?_some h1).2.2
        exact ⟨m0, fun k hk => by have := hc k hk; rwa [addr_add2, addr_add2] at this⟩)
      exact ⟨some ⟨b, off, none⟩, cap, L, by rw [hLl]; exact hcs, fun _ => ⟨b, off, rfl, hb, hr⟩, by rw [hLl]; exact hbulk⟩
    · obtain rfl : len = 0 := by omega
      exact ⟨some a, cap, [], hcs, fun h => absurd rfl h, Nat.zero_le _⟩

theorem ints_of {H : Type} {enc : TypeId × Value → H} {W : World} {spare : Nat → Bool} {held : Bool} {fuel : Nat} {cs : List Value} {x : DataW H × List MemPlace} (h : DataW.trod enc Try.prog W 0 spare held fuel 53 cs = some x) :
    ∃ p l c, cs = [.slice p l c] ∧ RI W p l ∧ l ≤ Rows.uptoBulk x.1 := by
  obtain ⟨p, l, c, rfl, _, hr⟩ := ticks.inner h
  refine ⟨p, l, c, rfl, hr, ?_⟩
  rcases open_slice Try.underlying53 h with ⟨hcs, _⟩ | ⟨a, len, cap, m, n, D, Pl, hcs, _, hl, _, hmm, hx, hel⟩
  · simp only [List.cons.injEq, Value.slice.injEq, and_true] at hcs
    rw [hcs.2.1]; exact Nat.zero_le _
  · simp only [List.cons.injEq, Value.slice.injEq, and_true] at hcs
    rw [hcs.2.1, hx]
    have := many_le ((List.range len).map D)
    simp only [Rows.uptoBulk]
    simp only [List.length_map, List.length_range] at this
    omega

end Go.Proofs.Ytlfmfhmbkpnjbaa.opens
