import Derived.Test.YtlfmfhmbkpnjbabGreatDoorPy18
import Derived.Test.YtlfmfhmbkpnjbabGreatDoorPy12
import Derived.Test.YtlfmfhmbkpnjbabGreatDoorRows
import Derived.Deep.Slices
import Derived.ProofKit
import Derived.LaidMore
import Derived.OpenShut
import Derived.ShutString
import Derived.ChangeOld
import Derived.Below
import Derived.Stop.Joined
import Derived.Stop.LaidErr
import Derived.Lib.TrailingZeros
import Derived.Deep.DeepHandedRow
import Derived.SizedLaws
import Derived.Lib.LaidTab
import Derived.Test.YtlfmfhmbkpnjbabGreatDoorPy25
import Derived.Test.YtlfmfhmbkpnjbabGreatDoorCards
import Derived.Test.YtlfmfhmbkpnjbabGreatDoorTie
import Derived.SevenTiedAt
import Derived.ChangeMaps5
namespace Go.Proofs.YtlfmfhmbkpnjbabGreatDoor.laidP
open Go.ChangeShapes Go.WideShapes Go.ChangeAt Go.RowKit Go.Deep
set_option linter.unusedVariables false
set_option maxRecDepth 100000

theorem own : ownKnob Tryz.prog.godebug = none := by kernel_rfl
theorem laidOut : laidOutB Tryz.prog = true := by kernel_rfl
theorem cellsL : Tryz.prog.cellsOf 28 = 1 := by kernel_rfl

theorem inner {H : Type} {enc : TypeId × Value → H} {W : World} {spare : Nat → Bool} {held : Bool} {n : Nat} {cs : List Value} {x : DataW H × List MemPlace} (h : DataW.trod enc Tryz.prog W 0 spare held n 28 cs = some x) :
    ∃ p c, ∃ zs : List Int, cs = [.slice p zs.length c] ∧ ((zs.length : Nat) : Int) ≤ 9223372036854775807 ∧ RZ W p zs := by
  rcases open_ints Tryz.underlying28 Tryz.underlying3 (by kernel_rfl) h with ⟨hcs, _⟩ | ⟨x, l, c, zs, hcs, _, hl, hm, hz, _, hcell, hwz⟩
  · exact ⟨none, 0, [], hcs, by decide, fun e => absurd rfl e⟩
  · have hz' : l ≤ zs.length := by rw [hz]; split <;> omega
    have hlen : (zs.take l).length = l := by rw [List.length_take]; omega
    refine ⟨some x, c, zs.take l, by rw [hlen]; exact hcs, by rw [hlen]; unfold maxLen at hm; omega, fun hne => ?_⟩
    have hpos : 0 < l := by
      by_cases e : 0 < l
      · exact e
      · exact absurd (List.eq_nil_of_length_eq_zero (by rw [hlen]; omega)) hne
    obtain ⟨b, off, spot⟩ := x
    have h0 := hcell 0 (by omega)
    have e : (⟨b, off, spot⟩ : Addr).add 0 = ⟨b, off, spot⟩ := by simp [Addr.add]
    rw [e] at h0
    obtain rfl := World.cell?_spot h0
    refine ⟨b, off, rfl, World.block_lt_of_cell? (w := W) (a := ⟨b, off, none⟩) h0, fun j z hj => ?_⟩
    have hjl : j < l := by
      have := (List.getElem?_eq_some_iff.1 hj).1
      omega
    have hj' := hcell j (by omega)
    rw [addr_add2] at hj'
    have hzj : zs.getD j 0 = z := by
      rw [List.getElem?_take, if_pos hjl] at hj
      simp [List.getD, hj]
    rw [hzj] at hj'
    refine ⟨?_, hj'⟩
    have h6 := range_i64 hwz j
    have h7 : zs[j]?.getD 0 = z := hzj
    rw [h7] at h6
    exact h6

theorem lists_at {W : World} {b off : Nat} (n : Nat) (h : ∀ j, j < n → ∃ p c, ∃ zs : List Int, W.cell? ⟨b, off + j, none⟩ = some (.slice p zs.length c) ∧ ((zs.length : Nat) : Int) ≤ 9223372036854775807 ∧ RZ W p zs) :
    ∃ zss : List (List Int), zss.length = n ∧ ∀ j zs, zss[j]? = some zs → ∃ p c, W.cell? ⟨b, off + j, none⟩ = some (.slice p zs.length c) ∧ ((zs.length : Nat) : Int) ≤ 9223372036854775807 ∧ RZ W p zs := by
  induction n with
  | zero => exact ⟨[], rfl, fun j zs hj => by simp at hj⟩
  | succ m ih =>
    obtain ⟨zss, hl, hr⟩ := ih (fun j hj => h j (by omega))
    obtain ⟨p, c, zs, h1, h2, h3⟩ := h m (by omega)
    refine ⟨zss ++ [zs], by simp [hl], fun j ys hj => ?_⟩
    by_cases hlt : j < zss.length
    · rw [List.getElem?_append_left hlt] at hj
      exact hr j ys hj
    · have hjl := (List.getElem?_eq_some_iff.1 hj).1
      have hjm : j = m := by simp at hjl; omega
      subst hjm
      rw [List.getElem?_append_right (by omega), show j - zss.length = 0 from by omega] at hj
      obtain rfl : zs = ys := by simpa using hj
      exact ⟨p, c, h1, h2, h3⟩

theorem open_lists {H : Type} {enc : TypeId × Value → H} {W : World} {a0 : Option Addr} {len0 cap0 : Nat} {d0 : DataW H} {p0 : List MemPlace} (h0 : DataW.Trod enc Tryz.prog W 0 (fun _ => true) true 22 (.slice a0 len0 cap0) d0 p0) :
    ∃ zss : List (List Int), zss.length = len0 ∧ ((len0 : Nat) : Int) ≤ 9223372036854775807 ∧ RTZ W a0 zss := by
  obtain ⟨fuel, hf⟩ := h0
  rcases open_slice Tryz.underlying22 hf with ⟨hcs, _⟩ | ⟨a, len, cap, m, n, D, Pl, hcs, _, hl, hcm, hmm, hx, hel⟩
  · simp [Value.cells] at hcs
    obtain ⟨rfl, rfl, rfl⟩ := hcs
    exact ⟨[], rfl, by decide, fun e => absurd rfl e⟩
  · simp [Value.cells] at hcs
    obtain ⟨rfl, rfl, rfl⟩ := hcs
    rw [cellsL] at hel
    have hlm : len0 ≤ m := by rw [hmm]; split <;> omega
    have cell : ∀ j, j < len0 → ∃ p c, ∃ zs : List Int, W.cell? (a.add j) = some (.slice p zs.length c) ∧ ((zs.length : Nat) : Int) ≤ 9223372036854775807 ∧ RZ W p zs := by
      intro j hj
      obtain ⟨cs', h1, h2⟩ := hel j (by omega)
      obtain ⟨p, c, zs, rfl, q1, q2⟩ := inner h2
      have h3 := (World.cells?_some h1).2.2 0 (by omega)
      rw [Nat.mul_one] at h3
      have e : (a.add j).add 0 = a.add j := by simp [Addr.add]
      rw [e] at h3
      exact ⟨p, c, zs, h3, q1, q2⟩
    by_cases hpos : 0 < len0
    · obtain ⟨b, off, spot⟩ := a
      obtain ⟨p, c, zs, h3, _⟩ := cell 0 hpos
      have e : (⟨b, off, spot⟩ : Addr).add 0 = ⟨b, off, spot⟩ := by simp [Addr.add]
      rw [e] at h3
      obtain rfl := World.cell?_spot h3
      obtain ⟨zss, hz1, hz2⟩ := lists_at (W := W) (b := b) (off := off) len0 (fun j hj => by
        obtain ⟨p, c, zs, h4, h5, h6⟩ := cell j hj
        rw [addr_add2] at h4
        exact ⟨p, c, zs, h4, h5, h6⟩)
      exact ⟨zss, hz1, by unfold maxLen at hcm; omega, fun _ => ⟨b, off, rfl, World.block_lt_of_cell? (w := W) (a := ⟨b, off, none⟩) h3, hz2⟩⟩
    · exact ⟨[], by simp; omega, by omega, fun e => absurd rfl e⟩

theorem open_list {H : Type} {enc : TypeId × Value → H} {W : World} {a0 : Option Addr} {len0 cap0 : Nat} {d0 : DataW H} {p0 : List MemPlace} (h0 : DataW.Trod enc Tryz.prog W 0 (fun _ => true) true 28 (.slice a0 len0 cap0) d0 p0) :
    ∃ zs : List Int, zs.length = len0 ∧ ((len0 : Nat) : Int) ≤ 9223372036854775807 ∧ RZ W a0 zs := by
  obtain ⟨fuel, hf⟩ := h0
  obtain ⟨p, c, zs, hcs, h1, h2⟩ := inner hf
  simp [Value.cells] at hcs
  obtain ⟨rfl, rfl, rfl⟩ := hcs
  exact ⟨zs, rfl, h1, h2⟩

theorem bytesI : Tryz.prog.bytesOf 3 = 8 := by kernel_rfl
theorem open_sized {H : Type} {enc : TypeId × Value → H} {W : World} {a0 : Option Addr} {len0 cap0 : Nat} {d0 : DataW H} {p0 : List MemPlace} (h0 : DataW.Trod enc Tryz.prog W 0 (fun _ => true) true 28 (.slice a0 len0 cap0) d0 p0) :
    len0 = 0 ∨ ∃ el sp, d0 = .slice el sp ∧ len0 ≤ el.length := by
  obtain ⟨fuel, hf⟩ := h0
  rcases open_ints Tryz.underlying28 Tryz.underlying3 (by kernel_rfl) hf with ⟨hcs, _⟩ | ⟨x, l, c, zs, hcs, _, hl, hm, hz, hx, _, _⟩
  · simp [Value.cells] at hcs
    exact Or.inl hcs.2.1
  · simp [Value.cells] at hcs
    obtain ⟨rfl, rfl, rfl⟩ := hcs
    refine Or.inr ⟨_, _, (Prod.mk.inj hx).1, ?_⟩
    have : len0 ≤ zs.length := by rw [hz]; split <;> omega
    simp [lits]
    omega

/-- What is laid. -/
def laid5 : List (String × DataW Unit) := [("math/bits.deBruijn32tab", Rows.laid_math_bits_deBruijn32tab), ("math/bits.deBruijn64tab", Rows.laid_math_bits_deBruijn64tab), ("internal/strconv.uint64pow10", Rows.laid_internal_strconv_uint64pow10), ("strconv.ErrRange", Rows.laid_strconv_ErrRange), ("strconv.ErrSyntax", Rows.laid_strconv_ErrSyntax)]

theorem door_met0 (os : Os) (args : Array Value) : laidMet Tryz.prog laid5 ((World.doorLaid Tryz.prog 4000 os).forCall (fun _ _ => 0) ⟨#[], args, []⟩).memory :=
  laidMet_of_run' 8 (by kernel_rfl) (by kernel_rfl)
theorem door_met (os : Os) (args : Array Value) : laidMetH Tryz.prog laid5 ((World.doorLaid Tryz.prog 4000 os).forCall (fun _ _ => 0) ⟨#[], args, []⟩).memory := by
  rw [MakeChecks.laidMetH_plain _ _ _ (by kernel_rfl)]
  exact door_met0 os args

theorem star : "*" ++ "errors.errorString" = "*errors.errorString" := by decide
theorem rowE (u : TypeId) (h : Tryz.prog.typeName? 3 u = some "*errors.errorString") : u = 190 :=
  typeName_ptr_named (nm := "errors.errorString") (by rw [star]; kernel_rfl) (by kernel_rfl) (by decide) u (by rw [star]; exact h)
theorem gR : Tryz.prog.globalNamed "strconv.ErrRange" = some 3 := by kernel_rfl
theorem gS : Tryz.prog.globalNamed "strconv.ErrSyntax" = some 2 := by kernel_rfl
theorem gRT : (Tryz.prog.globals[3]?).map (·.type) = some 85 := by kernel_rfl
theorem gST : (Tryz.prog.globals[2]?).map (·.type) = some 85 := by kernel_rfl
theorem cellsE : Tryz.prog.cellsOf 192 = 1 := by kernel_rfl
theorem cellsS : Tryz.prog.cellsOf 9 = 1 := by kernel_rfl

theorem of_laid {W : World} (h : laidMetH Tryz.prog laid5 W) : Errs W := by
  rw [MakeChecks.laidMetH_plain _ _ _ (by kernel_rfl)] at h
  have h2 := h.tail
  have h3 := h2.tail
  have h4 := h3.tail
  have h5 := h4.tail
  refine ⟨⟨?_, ?_⟩, ?_, ?_⟩
  · have t := Lib.tabIs_of_head (k := .u8) (zs := Lib.deBruijn64tab.map (fun n : Nat => (n : Int))) (g := 6) (t := 199) (e := 5) (n := 64) (by kernel_rfl) (by kernel_rfl) Tryz.underlying199 Tryz.underlying5 (by kernel_rfl) (by kernel_rfl) (h2 : laidMet Tryz.prog (("math/bits.deBruijn64tab", Lib.tabData .u8 (Lib.deBruijn64tab.map (fun n : Nat => (n : Int)))) :: _) W)
    have := t.cell (g := 6) (by kernel_rfl) 15 (by decide)
    exact this
  · exact Lib.tabIs_of_head (k := .u64) (zs := Lib.pow10Tab) (g := 4) (t := 194) (e := 162) (n := 20) (by kernel_rfl) (by kernel_rfl) Tryz.underlying194 Tryz.underlying162 (by kernel_rfl) (by kernel_rfl) (h3 : laidMet Tryz.prog (("internal/strconv.uint64pow10", Lib.tabData .u64 Lib.pow10Tab) :: _) W)
  · obtain ⟨a, s, hv, _, _, _⟩ := laid_sentinel h5 gS gST Tryz.underlying85 rowE Tryz.underlying190 Tryz.underlying192 rfl rfl Tryz.underlying9 cellsE cellsS
    exact ⟨_, _, by simpa using World.var?_cell gS hv 0⟩
  · obtain ⟨a, s, hv, _, _, _⟩ := laid_sentinel h4 gR gRT Tryz.underlying85 rowE Tryz.underlying190 Tryz.underlying192 rfl rfl Tryz.underlying9 cellsE cellsS
    exact ⟨_, _, by simpa using World.var?_cell gR hv 0⟩
end Go.Proofs.YtlfmfhmbkpnjbabGreatDoor.laidP

namespace Go.Proofs.YtlfmfhmbkpnjbabGreatDoor.aheadP
open Go.ChangeShapes Go.WideShapes Go.ChangeAt Go.RowKit Go.Deep
open laidP
set_option linter.unusedVariables false
set_option maxRecDepth 100000

theorem lifted (os : Os) (started : os.Started) (H : Type) (enc : TypeId × Value → H) :
    ReturnsInHanded {} Tryz.checked os 3 .any (fun w args => (Rows.aheadSpec.pre enc Tryz.prog Tryz.f3 [] false w args ∧ laidMetH Tryz.prog laid5 w) ∧ sizedMet enc Tryz.prog Tryz.f3 (OpenSpec.ofChange Rows.aheadSpec) false w args)
      (Rows.aheadSpec.post enc Tryz.prog Tryz.f3 false true false false) := by
  refine returnsInHanded_of_change_and (C := Tryz.checked) (X := fun w _ => laidMetH Tryz.prog laid5 w) (fun _ _ _ hh h => h.of_heap hh) own started (by kernel_rfl) Tryz.func3
    (ChangeSpec.witness_shaped (enc := enc) (C := Tryz.checked) (os := os) (X := fun w _ => laidMetH Tryz.prog laid5 w) false (World.doorLaid Tryz.prog 4000 os) #[.string ⟨#[]⟩, .int .i64 0, .slice none 0 0] 8 rfl (World.shaped_of_RefB (by kernel_rfl) (by kernel_rfl)) (by kernel_rfl) (by kernel_rfl) (by kernel_rfl) (door_met os _)) ?_
  intro W base args ds gs before hval0 hW _ hsz0 hL _
  have hval : ∀ (j : Nat) t v, Tryz.f3.params[j]? = some t → args[j]? = some v → Value.okWide Tryz.prog W .any base t v := hval0
  have hW' := hW
  obtain ⟨p, q, hA0, hV, rfl, hfz, hnd⟩ := hW
  have hA : DataW.TrodAll enc Tryz.prog W 0 (fun _ => true) true Tryz.f3.params.toList args.toList ds p := hA0
  have hsz : (DataW.weightsEach Tryz.prog (Tryz.f3.params.toList ++ Rows.aheadSpec.plain.varTypes Tryz.prog) (ds ++ gs)).all (· ≤ reachBytes) = true := hsz0
  rw [Tryz.params3] at hA hval hsz
  obtain ⟨v0, vs0, d0, ds0, p0, q0, hargs, rfl, rfl, h0, r0⟩ := trodAll_cons hA
  obtain ⟨v1, vs1, d1, ds1, p1, q1, rfl, rfl, rfl, h1, r1⟩ := trodAll_cons r0
  obtain ⟨v2, vs2, d2, ds2, p2, q2, rfl, rfl, rfl, h2, r2⟩ := trodAll_cons r1
  obtain ⟨rfl, rfl, rfl⟩ := trodAll_nil r2
  obtain rfl : args = #[v0, v1, v2] := by cases args; simp_all
  obtain ⟨rfl, rfl⟩ := trodVars_none hV
  obtain ⟨a2, len2, cap2, rfl⟩ := okWide_slice Tryz.underlying22 (hval 2 22 v2 rfl rfl)
  have k2 := h2
  have lt2 : ∀ x ∈ p2, x.block < W.heap.size := by obtain ⟨m, hm⟩ := k2; exact DataW.trod_lt m _ _ _ hm
  obtain ⟨s, rfl, rfl, rfl, hs⟩ := Go.ChangeMaps.open_string Tryz.underlying9 (hval 0 9 v0 rfl rfl) h0
  obtain ⟨a1, rfl, rfl, rfl, w1⟩ := open_int Tryz.underlying3 (hval 1 3 v1 rfl rfl) h1
  clear hA0 hval0 hsz0
  obtain ⟨zss2, rfl, hn2, hR2⟩ := open_lists h2
  have hl : s.data.toList.length ≤ 140737488355328 := by
    have := sized_string hsz (j := 0) (t := 9) rfl rfl
    have := reachBytes_lt
    omega
  have es : baL s.data.toList = s := by cases s; rfl
  have hwk := ahead_walk s.data.toList a1 a2 zss2 cap2 W hl (bounds_i64 w1) hn2 hR2 (of_laid hL)
  rw [es] at hwk
  refine hwk.mono fun e W' ⟨he, bel⟩ => ?_
  subst he
  exact ⟨_, rfl, _, _, _, [], _, [], hW', trodAll_mk1 (shut_bool Tryz.underlying4 _), (trodAll_cons_mk (Go.ChangeMaps.shut_string Tryz.underlying9 hs) (trodAll_cons_mk (shut_int Tryz.underlying3 w1) (trodAll_cons_mk (Below.trod laidOut (by kernel_rfl) (of_decide_eq_true (by kernel_rfl)) k2 bel lt2) trodAll_mk0))), rfl, bel.frame _, fun h => by cases h⟩

theorem over : Rows.AheadSaid :=
  OpenClaim.holds_of_wide 3 Tryz.f3 rfl rfl rfl rfl rfl rfl rfl ⟨rfl, rfl, rfl, rfl, rfl⟩ rfl rfl rfl rfl rfl (by kernel_rfl) Tryz.func3 (by kernel_rfl)
    (of_decide_eq_true (by kernel_rfl)) (by unfold Func.isWrapper; first | (rw [if_pos (by decide +kernel)]; kernel_rfl) | (rw [if_neg (by decide +kernel)]; exact ⟨rfl, rfl⟩))
    (fun os started H enc _ => lifted os started H enc)
end Go.Proofs.YtlfmfhmbkpnjbabGreatDoor.aheadP

namespace Go.Proofs.YtlfmfhmbkpnjbabGreatDoor
theorem ahead_holds : Rows.AheadCardSaid :=
  Claim7.holds_tied_plain_at .later [] [.data, .data, .data, .sentinel, .sentinel] true (true, "8184480036f8a5ffcc5cc0f940a63da6e39c8e4f76cb3c672e6d6dfd4273e638") true
    aheadP.over (fun _ h => by cases h) (by kernel_rfl) (fun _ h => by cases h) ahead_row_tie rfl ⟨rfl, rfl⟩ (by kernel_rfl) rfl
    (fun f fn hf hfn => by
      obtain rfl : f = 3 := Option.some.inj ((show Tryz.prog.funcNamed "encore/encorekeep.Ahead" = some 3 by kernel_rfl).symm.trans hf) |>.symm
      obtain rfl : fn = Tryz.f3 := (Option.some.inj (Tryz.func3.symm.trans hfn)).symm
      exact ⟨by kernel_rfl, fun j t ht => by
        rw [Tryz.params3] at ht
        have hm : t ∈ [9, 3, 22] := by simpa using Array.mem_of_getElem? ht
        have hall : ([9, 3, 22].all fun u => !Tryz.prog.wantsStandIn u) = true := by kernel_rfl
        exact (show Tryz.prog.wantsStandIn t = false by simpa using List.all_eq_true.1 hall t hm)⟩)
    (by kernel_rfl)
#print axioms ahead_holds
end Go.Proofs.YtlfmfhmbkpnjbabGreatDoor
