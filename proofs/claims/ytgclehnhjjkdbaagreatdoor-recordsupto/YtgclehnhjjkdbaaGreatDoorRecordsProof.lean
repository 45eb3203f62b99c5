import Derived.Test.YtgclehnhjjkdbaaGreatDoorUpto
import Derived.Test.YtgclehnhjjkdbaaGreatDoorRows
import Derived.Test.YtgclehnhjjkdbaaGreatDoorCards
import Derived.Test.YtgclehnhjjkdbaaGreatDoorTie
import Derived.SevenTiedAt
import Derived.Deep.Slices
import Derived.ProofKit
import Derived.LaidMore
import Derived.OpenShut
import Derived.ShutString
import Derived.ChangeOld
import Derived.Below
import Derived.Stop.Joined
import Derived.Stop.LaidErr
import Derived.Lib.TrailingZeros
import Derived.Deep.DeepHandedRow
import Derived.Lib.LaidTab
namespace Go.Proofs.YtgclehnhjjkdbaaGreatDoor.recordsP
open Go.ChangeShapes Go.WideShapes Go.ChangeAt Go.RowKit Go.Deep
set_option linter.unusedVariables false
set_option maxRecDepth 100000

theorem own : ownKnob Tryz.prog.godebug = none := by kernel_rfl
theorem laidOut : laidOutB Tryz.prog = true := by kernel_rfl
theorem cellsI : Tryz.prog.cellsOf 3 = 1 := by kernel_rfl
theorem cellsF : Tryz.prog.cellsOf 37 = 1 := by kernel_rfl
theorem cellsC : Tryz.prog.cellsOf 39 = 6 := by kernel_rfl
theorem cellsL : Tryz.prog.cellsOf 34 = 1 := by kernel_rfl
theorem cellsO : Tryz.prog.cellsOf 36 = 4 := by kernel_rfl

theorem trod_float {P : Program} {H : Type} {enc : TypeId × Value → H} {w : World} {base : Nat} {spare : Nat → Bool} {held : Bool} {fuel : Nat} {t : TypeId} {cs : List Value} {x : DataW H × List MemPlace} {k : FloatKind} (ht : P.underlying t = some (.float k)) (h : DataW.trod enc P w base spare held fuel t cs = some x) : ∃ n, cs = [.float k n] := by
  cases fuel with
  | zero => simp [DataW.trod] at h
  | succ n =>
    unfold DataW.trod at h
    rw [ht] at h
    split at h <;> simp_all

theorem one_le {H : Type} (d : DataW H) : 1 ≤ Rows.uptoBulk d := by
  cases d with
  | lit l => cases l <;> simp [Rows.uptoBulk]
  | _ => simp [Rows.uptoBulk]

theorem many_le {H : Type} (l : List (DataW H)) : l.length ≤ Rows.uptoBulkAll l := by
  induction l with
  | nil => exact Nat.zero_le _
  | cons x r ih =>
    have := one_le x
    simp only [Rows.uptoBulkAll, List.length_cons]
    omega

theorem cmd_of {H : Type} {enc : TypeId × Value → H} {W : World} {spare : Nat → Bool} {held : Bool} {n : Nat} {cs : List Value} {x : DataW H × List MemPlace} (h : DataW.trod enc Tryz.prog W 0 spare held n 39 cs = some x) :
    ∃ m : Cmd, cs = rowC [m] ∧ IntC m := by
  obtain ⟨xs, m, _, rfl, hl, hlen, hf⟩ := DataW.trod_struct Tryz.underlying39 h
  rw [cellsC] at hl
  match cs, hl, xs, hlen with
  | [c0, c1, c2, c3, c4, c5], _, [y0, y1, y2, y3, y4, y5], _ =>
    have f0 : DataW.trod enc Tryz.prog W 0 spare held m 3 [c0] = some y0 := by have := hf 0 _ rfl; simpa [cellsI] using this
    have f1 : DataW.trod enc Tryz.prog W 0 spare held m 3 [c1] = some y1 := by have := hf 1 _ rfl; simpa [cellsI] using this
    have f2 : DataW.trod enc Tryz.prog W 0 spare held m 3 [c2] = some y2 := by have := hf 2 _ rfl; simpa [cellsI] using this
    have f3 : DataW.trod enc Tryz.prog W 0 spare held m 37 [c3] = some y3 := by have := hf 3 _ rfl; simpa [cellsF] using this
    have f4 : DataW.trod enc Tryz.prog W 0 spare held m 37 [c4] = some y4 := by have := hf 4 _ rfl; simpa [cellsF] using this
    have f5 : DataW.trod enc Tryz.prog W 0 spare held m 3 [c5] = some y5 := by have := hf 5 _ rfl; simpa [cellsI] using this
    obtain ⟨k0, e0, _, w0⟩ := DataW.trod_int Tryz.underlying3 f0
    obtain ⟨k1, e1, _, w1⟩ := DataW.trod_int Tryz.underlying3 f1
    obtain ⟨k2, e2, _, w2⟩ := DataW.trod_int Tryz.underlying3 f2
    obtain ⟨k3, e3⟩ := trod_float Tryz.underlying37 f3
    obtain ⟨k4, e4⟩ := trod_float Tryz.underlying37 f4
    obtain ⟨k5, e5, _, w5⟩ := DataW.trod_int Tryz.underlying3 f5
    simp only [List.cons.injEq, and_true] at e0 e1 e2 e3 e4 e5
    subst e0 e1 e2 e3 e4 e5
    exact ⟨⟨k0, k1, k2, k3, k4, k5⟩, rfl, ⟨bounds_i64 w0, bounds_i64 w1, bounds_i64 w2, bounds_i64 w5⟩⟩

theorem cmds_at {W : World} {b off : Nat} (len : Nat) (hel : ∀ i, i < len → ∃ m : Cmd, IntC m ∧ ∀ k, k < 6 → W.cell? ⟨b, off + i * 6 + k, none⟩ = (rowC [m])[k]?) :
    ∃ L : List Cmd, L.length = len ∧ (∀ c ∈ L, IntC c) ∧ ∀ j u, (rowC L)[j]? = some u → W.cell? ⟨b, off + j, none⟩ = some u := by
  induction len with
  | zero => exact ⟨[], rfl, (fun c hc => by cases hc), fun j u hu => by simp [rowC] at hu⟩
  | succ n ih =>
    obtain ⟨L, hl, hi, hr⟩ := ih (fun i hi => hel i (by omega))
    obtain ⟨m, hI, hm⟩ := hel n (by omega)
    refine ⟨L ++ [m], by simp [hl], fun c hc => ?_, fun j u hu => ?_⟩
    · rcases List.mem_append.1 hc with h | h
      · exact hi c h
      · obtain rfl : c = m := by simpa using h
        exact hI
    · rw [rowC_append] at hu
      have hll : (rowC L).length = n * 6 := by rw [rowC_length, hl]
      by_cases hj : j < n * 6
      · rw [List.getElem?_append_left (by omega)] at hu
        exact hr j u hu
      · rw [List.getElem?_append_right (by omega), hll] at hu
        have h7 : j - n * 6 < 6 := (List.getElem?_eq_some_iff.1 hu).1
        have := hm (j - n * 6) h7
        rw [hu, show off + n * 6 + (j - n * 6) = off + j from by omega] at this
        exact this

theorem cmds_of {H : Type} {enc : TypeId × Value → H} {W : World} {spare : Nat → Bool} {held : Bool} {fuel : Nat} {cs : List Value} {x : DataW H × List MemPlace} (h : DataW.trod enc Tryz.prog W 0 spare held fuel 34 cs = some x) :
    ∃ p cap, ∃ L : List Cmd, cs = [.slice p L.length cap] ∧ ReadsC W p L ∧ (∀ c ∈ L, IntC c) ∧ L.length ≤ Rows.uptoBulk x.1 := by
  rcases open_slice Tryz.underlying34 h with ⟨hcs, _⟩ | ⟨a, len, cap, m, n, D, Pl, hcs, _, hl, _, hmm, hx, hel⟩
  · exact ⟨none, 0, [], hcs, fun h => absurd rfl h, (fun c hc => by cases hc), Nat.zero_le _⟩
  · rw [cellsC] at hel
    have hlm : len ≤ m := by rw [hmm]; split <;> omega
    have hbulk : len ≤ Rows.uptoBulk x.1 := by
      have := many_le ((List.range len).map D)
      rw [hx]
      simp only [Rows.uptoBulk]
      simp only [List.length_map, List.length_range] at this
      omega
    by_cases hpos : 0 < len
    · obtain ⟨b, off, spot⟩ := a
      have hfirst : spot = none ∧ b < W.heap.size := by
        obtain ⟨cs', h1, h2⟩ := hel 0 (by omega)
        obtain ⟨m0, rfl, _⟩ := cmd_of h2
        have h3 := (World.cells?_some h1).2.2 0 (by omega)
        have h4 : W.cell? (((⟨b, off, spot⟩ : Addr).add (0 * 6)).add 0) = some (.int .i64 m0.kind) := h3
        simp only [Nat.zero_mul] at h4
        have e : ((⟨b, off, spot⟩ : Addr).add 0).add 0 = ⟨b, off, spot⟩ := by simp [Addr.add]
        rw [e] at h4
        exact ⟨World.cell?_spot h4, World.block_lt_of_cell? (w := W) (a := ⟨b, off, spot⟩) h4⟩
      obtain ⟨rfl, hb⟩ := hfirst
      obtain ⟨L, hLl, hLi, hr⟩ := cmds_at (W := W) (b := b) (off := off) len (fun i hi => by
        obtain ⟨cs', h1, h2⟩ := hel i (by omega)
        obtain ⟨m0, rfl, hI⟩ := cmd_of h2
        have hc := (World.cells?_some h1).2.2
        exact ⟨m0, hI, fun k hk => by have := hc k hk; rwa [addr_add2, addr_add2] at this⟩)
      exact ⟨some ⟨b, off, none⟩, cap, L, by rw [hLl]; exact hcs, fun _ => ⟨b, off, rfl, hb, hr⟩, hLi, by rw [hLl]; exact hbulk⟩
    · obtain rfl : len = 0 := by omega
      exact ⟨some a, cap, [], hcs, fun h => absurd rfl h, (fun c hc => by cases hc), Nat.zero_le _⟩

theorem part_le {H : Type} (D : Nat → DataW H) (n j : Nat) (hj : j < n) : Rows.uptoBulk (D j) ≤ Rows.uptoBulkAll ((List.range n).map D) := by
  have : ∀ l : List (DataW H), ∀ x ∈ l, Rows.uptoBulk x ≤ Rows.uptoBulkAll l := by
    intro l
    induction l with
    | nil => intro x hx; cases hx
    | cons y r ih =>
      intro x hx
      simp only [Rows.uptoBulkAll]
      rcases List.mem_cons.1 hx with rfl | hx
      · omega
      · have := ih x hx; omega
  exact this _ _ (List.mem_map.2 ⟨j, List.mem_range.2 hj, rfl⟩)

/-- An operation that came in. -/
theorem op_of {H : Type} {enc : TypeId × Value → H} {W : World} {spare : Nat → Bool} {held : Bool} {n : Nat} {cs : List Value} {x : DataW H × List MemPlace} (h : DataW.trod enc Tryz.prog W 0 spare held n 36 cs = some x) (hb : Rows.uptoBulk x.1 ≤ 1048576) :
    ∃ o : OpD, cs = [.int .i64 o.k, .int .i64 o.a, .int .i64 o.n, .slice o.p o.cs.length o.cap] ∧ o.Ok W.heap.size W := by
  obtain ⟨xs, m, _, hx, hl, hlen, hf⟩ := DataW.trod_struct Tryz.underlying36 h
  rw [cellsO] at hl
  match cs, hl, xs, hlen, hx with
  | [c0, c1, c2, c3], _, [y0, y1, y2, y3], _, hx =>
    have f0 : DataW.trod enc Tryz.prog W 0 spare held m 3 [c0] = some y0 := by have := hf 0 _ rfl; simpa [cellsI] using this
    have f1 : DataW.trod enc Tryz.prog W 0 spare held m 3 [c1] = some y1 := by have := hf 1 _ rfl; simpa [cellsI] using this
    have f2 : DataW.trod enc Tryz.prog W 0 spare held m 3 [c2] = some y2 := by have := hf 2 _ rfl; simpa [cellsI] using this
    have f3 : DataW.trod enc Tryz.prog W 0 spare held m 34 [c3] = some y3 := by have := hf 3 _ rfl; simpa [cellsL] using this
    obtain ⟨k0, e0, _, w0⟩ := DataW.trod_int Tryz.underlying3 f0
    obtain ⟨k1, e1, _, w1⟩ := DataW.trod_int Tryz.underlying3 f1
    obtain ⟨k2, e2, _, w2⟩ := DataW.trod_int Tryz.underlying3 f2
    obtain ⟨p, cap, L, e3, hR, hI, hLb⟩ := cmds_of f3
    simp only [List.cons.injEq, and_true] at e0 e1 e2 e3
    subst e0 e1 e2 e3
    have hbx : Rows.uptoBulk y3.1 ≤ 1048576 := by
      rw [hx] at hb
      simp only [List.map_cons, List.map_nil, Rows.uptoBulk, Rows.uptoBulkAll] at hb
      omega
    refine ⟨⟨k0, k1, k2, p, cap, L⟩, rfl, ⟨hR, fun hne b off e => ?_, hI, Nat.le_trans hLb hbx, (bounds_i64 w1).1, (bounds_i64 w1).2⟩⟩
    obtain ⟨b', off', e', hb', _⟩ := hR hne
    have e2 : p = some ⟨b, off, none⟩ := e
    rw [e2] at e'
    simp only [Option.some.injEq, Addr.mk.injEq, and_true] at e'
    rw [e'.1]; exact Or.inl hb'

theorem open_ops {H : Type} {enc : TypeId × Value → H} {W : World} {a0 : Option Addr} {len0 cap0 : Nat} {d0 : DataW H} {p0 : List MemPlace} (h0 : DataW.Trod enc Tryz.prog W 0 (fun _ => true) true 22 (.slice a0 len0 cap0) d0 p0) (hb : Rows.uptoBulk d0 ≤ 1048576) :
    len0 ≤ 1048576 ∧ RO W.heap.size W a0 len0 (fun _ _ => True) := by
  obtain ⟨fuel, hf⟩ := h0
  rcases open_slice Tryz.underlying22 hf with ⟨hcs, _⟩ | ⟨a, len, cap, m, n, D, Pl, hcs, _, hl, hcm, hmm, hx, hel⟩
  · simp [Value.cells] at hcs
    obtain ⟨rfl, rfl, rfl⟩ := hcs
    exact ⟨by decide, fun e => absurd e (by decide)⟩
  · simp [Value.cells] at hcs
    obtain ⟨rfl, rfl, rfl⟩ := hcs
    rw [cellsO] at hel
    have hlm : len0 ≤ m := by rw [hmm]; split <;> omega
    simp only [Prod.mk.injEq] at hx
    have hbd : Rows.uptoBulkAll ((List.range len0).map D) ≤ 1048576 := by
      rw [hx.1] at hb
      simp only [Rows.uptoBulk] at hb
      omega
    have hlen : len0 ≤ 1048576 := by
      have := many_le ((List.range len0).map D)
      simp only [List.length_map, List.length_range] at this
      omega
    refine ⟨hlen, fun hpos => ?_⟩
    have cell : ∀ j, j < len0 → ∃ o : OpD, o.Ok W.heap.size W ∧ ∀ k, k < 4 → W.cell? ((a.add (j * 4)).add k) = [Value.int .i64 o.k, .int .i64 o.a, .int .i64 o.n, .slice o.p o.cs.length o.cap][k]? := by
      intro j hj
      obtain ⟨cs', h1, h2⟩ := hel j (by omega)
      obtain ⟨o, rfl, ho⟩ := op_of h2 (Nat.le_trans (part_le D len0 j hj) hbd)
      exact ⟨o, ho, fun k hk => (World.cells?_some h1).2.2 k hk⟩
    obtain ⟨b, off, spot⟩ := a
    obtain ⟨o, _, h3⟩ := cell 0 hpos
    have h4 : W.cell? (((⟨b, off, spot⟩ : Addr).add (0 * 4)).add 0) = some (.int .i64 o.k) := h3 0 (by decide)
    simp only [Nat.zero_mul] at h4
    have e : ((⟨b, off, spot⟩ : Addr).add 0).add 0 = ⟨b, off, spot⟩ := by simp [Addr.add]
    rw [e] at h4
    obtain rfl := World.cell?_spot h4
    have hbl := World.block_lt_of_cell? (w := W) (a := ⟨b, off, none⟩) h4
    refine ⟨b, off, rfl, hbl, Or.inl hbl, fun j hj => ?_⟩
    obtain ⟨o, ho, h5⟩ := cell j hj
    have c0 := h5 0 (by decide)
    have c1 := h5 1 (by decide)
    have c2 := h5 2 (by decide)
    have c3 := h5 3 (by decide)
    rw [addr_add2, addr_add2] at c0 c1 c2 c3
    exact ⟨o, trivial, ho, c0, c1, c2, c3⟩

/-- What is laid. -/
def laid3 : List (String × DataW Unit) := [("math/bits.deBruijn32tab", Rows.laid_math_bits_deBruijn32tab), ("math/bits.deBruijn64tab", Rows.laid_math_bits_deBruijn64tab), ("internal/strconv.uint64pow10", Rows.laid_internal_strconv_uint64pow10)]

theorem door_met (os : Os) (args : Array Value) : laidMet Tryz.prog laid3 ((World.doorLaid Tryz.prog 4000 os).forCall (fun _ _ => 0) ⟨#[], args, []⟩).memory :=
  laidMet_of_run' 8 (by kernel_rfl) (by kernel_rfl)

theorem of_laid {W : World} (h : laidMetH Tryz.prog laid3 W) : Tabs W := by
  rw [MakeChecks.laidMetH_plain _ _ _ (by kernel_rfl)] at h
  have h2 := h.tail
  have h3 := h2.tail
  refine ⟨?_, ?_⟩
  · have t := Lib.tabIs_of_head (k := .u8) (zs := Lib.deBruijn64tab.map (fun n : Nat => (n : Int))) (g := 4) (t := 160) (e := 5) (n := 64) (by kernel_rfl) (by kernel_rfl) Tryz.underlying160 Tryz.underlying5 (by kernel_rfl) (by kernel_rfl) (h2 : laidMet Tryz.prog (("math/bits.deBruijn64tab", Lib.tabData .u8 (Lib.deBruijn64tab.map (fun n : Nat => (n : Int)))) :: _) W)
    have := t.cell (g := 4) (by kernel_rfl) 15 (by decide)
    exact this
  · exact Lib.tabIs_of_head (k := .u64) (zs := Lib.pow10Tab) (g := 2) (t := 155) (e := 142) (n := 20) (by kernel_rfl) (by kernel_rfl) Tryz.underlying155 Tryz.underlying142 (by kernel_rfl) (by kernel_rfl) (h3 : laidMet Tryz.prog (("internal/strconv.uint64pow10", Lib.tabData .u64 Lib.pow10Tab) :: _) W)

theorem contract (H : Type) (enc : TypeId × Value → H) (W : World) (base : Nat) (args : Array Value) (ds gs : List (DataW H)) (before : List MemPlace)
    (hval : ∀ (j : Nat) t v, Tryz.f3.params[j]? = some t → args[j]? = some v → Value.okWide Tryz.prog W .any base t v)
    (hW : DataW.Whole enc Tryz.prog Tryz.f3.params.toList Rows.recordsSpec.vars false W args.toList ds gs before) (hk : Rows.uptoSmall H (ds ++ gs) = true) (hL : laidMetH Tryz.prog laid3 W) :
    Calls Tryz.prog 3 args W fun e W' => ∃ v, e = .returned v ∧ Rows.recordsSpec.post enc Tryz.prog Tryz.f3 false true false false W args v W' := by
  have hW' := hW
  obtain ⟨p, q, hA0, hV, rfl, hfz, hnd⟩ := hW
  have hA : DataW.TrodAll enc Tryz.prog W 0 (fun _ => true) true Tryz.f3.params.toList args.toList ds p := hA0
  rw [Tryz.params3] at hA hval
  obtain ⟨v0, vs0, d0, ds0, p0, q0, hargs, rfl, rfl, h0, r0⟩ := trodAll_cons hA
  obtain ⟨rfl, rfl, rfl⟩ := trodAll_nil r0
  obtain rfl : args = #[v0] := by cases args; simp_all
  obtain ⟨rfl, rfl⟩ := trodVars_none hV
  have k0 := h0
  have lt0 : ∀ x ∈ p0, x.block < W.heap.size := by obtain ⟨m, hm⟩ := k0; exact DataW.trod_lt m _ _ _ hm
  clear hA0
  simp only [List.append_nil] at hk
  have hbulk : Rows.uptoBulkAll [d0] ≤ 1048576 := of_decide_eq_true hk
  simp only [Rows.uptoBulkAll] at hbulk
  obtain ⟨a1, len1, cap1, rfl⟩ := okWide_slice Tryz.underlying22 (hval 0 22 v0 rfl rfl)
  obtain ⟨hn1, hRO⟩ := open_ops h0 (by omega)
  refine (records_walk a1 len1 cap1 W hn1 (of_laid hL) hRO).mono fun e W' ⟨he, bel⟩ => ?_
  subst he
  exact ⟨_, rfl, _, _, _, [], _, [], hW', trodAll_mk1 (shut_bool Tryz.underlying4 _), (trodAll_cons_mk (Below.trod laidOut (by kernel_rfl) (of_decide_eq_true (by kernel_rfl)) k0 bel lt0) trodAll_mk0), rfl, bel.frame _, fun h => by cases h⟩

theorem reads (os : Os) {H : Type} (enc : TypeId × Value → H) : ∃ places, DataW.whole enc Tryz.prog ((World.doorLaid Tryz.prog 4000 os).forCall (fun _ _ => 0) ⟨#[], #[.slice none 0 0], []⟩).memory Tryz.f3.params.toList Rows.recordsSpec.vars false #[Value.slice none 0 0].toList 8 = some ([.nil], [], places) :=
  ⟨[], by kernel_rfl⟩

theorem lifted (os : Os) (started : os.Started) (H : Type) (enc : TypeId × Value → H) (F : Stop.Interp) :
    ReturnsInHanded {} Tryz.checked os 3 .any ((Rows.OpenSpec.upto Rows.recordsSpec).preRow enc Tryz.prog Tryz.f3 Rows.recordsUptoRow.domain false Rows.recordsUptoRow.laid) (((Rows.OpenSpec.upto Rows.recordsSpec).at F).post enc Tryz.prog Tryz.f3 false true false false) := by
  obtain ⟨places, hx⟩ := reads os enc
  refine returnsInHanded_of_row (C := Tryz.checked) (s := Rows.OpenSpec.upto Rows.recordsSpec) own started (by kernel_rfl) Tryz.func3
    (witness_row_at (enc := enc) (C := Tryz.checked) false (World.doorLaid Tryz.prog 4000 os) #[.slice none 0 0] rfl (by kernel_rfl) (by kernel_rfl) (by kernel_rfl)
      (OpenSpec.preRow_of_cond 8 hx (by kernel_rfl) (fun k hk => by cases hk; kernel_rfl) (by kernel_rfl) (door_met os _))) ?_
  intro W base args ds gs before hval hW _ hcond _ hL _ _
  exact contract H enc W base args ds gs before hval hW (hcond _ rfl) hL

theorem over : Rows.RecordsUptoSaid :=
  OpenClaim.holds_of_cond 3 Tryz.f3 rfl rfl rfl rfl rfl rfl rfl ⟨rfl, rfl, rfl, rfl, rfl⟩ rfl rfl rfl rfl rfl (by kernel_rfl) Tryz.func3 (by kernel_rfl)
    (of_decide_eq_true (by kernel_rfl)) (by unfold Func.isWrapper; first | (rw [if_pos (by decide +kernel)]; kernel_rfl) | (rw [if_neg (by decide +kernel)]; exact ⟨rfl, rfl⟩))
    (fun os started H enc _ F => by rw [OpenClaim.pre_eq_preRow]; exact lifted os started H enc F)
end Go.Proofs.YtgclehnhjjkdbaaGreatDoor.recordsP

namespace Go.Proofs.YtgclehnhjjkdbaaGreatDoor
theorem records_holds : Rows.RecordsUptoCardSaid :=
  Claim7.holds_tied_plain_at .later [] [.data, .data, .data] true (true, "fd3b6316841be51cb58aa9a0be3bdc5fbf7878d8f78a32d799053e6c5091bf61") true
    recordsP.over (fun _ h => by cases h) (by kernel_rfl) (fun _ h => by cases h) recordsUpto_row_tie rfl ⟨rfl, rfl⟩ (by kernel_rfl) rfl
    (fun f fn hf hfn => by
      obtain rfl : f = 3 := Option.some.inj ((show Tryz.prog.funcNamed "encore/encorelaw.Records" = some 3 by kernel_rfl).symm.trans hf) |>.symm
      obtain rfl : fn = Tryz.f3 := (Option.some.inj (Tryz.func3.symm.trans hfn)).symm
      exact ⟨by kernel_rfl, fun j t ht => by
        rw [Tryz.params3] at ht
        have hm : t ∈ [22] := by simpa using Array.mem_of_getElem? ht
        have hall : ([22].all fun u => !Tryz.prog.wantsStandIn u) = true := by kernel_rfl
        exact (show Tryz.prog.wantsStandIn t = false by simpa using List.all_eq_true.1 hall t hm)⟩)
    (by kernel_rfl)
#print axioms records_holds
end Go.Proofs.YtgclehnhjjkdbaaGreatDoor
