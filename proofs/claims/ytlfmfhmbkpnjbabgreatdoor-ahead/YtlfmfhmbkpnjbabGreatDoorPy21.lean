import Derived.Test.YtlfmfhmbkpnjbabGreatDoorPy20
namespace Go.Proofs.YtlfmfhmbkpnjbabGreatDoor
open Go.RowKit Go.Shelf
attribute [local go_sem] Oper.semAt_some

theorem linesL_tail (t b acc : List UInt8) (hb : (10 : UInt8) ∉ b) : linesL acc (t ++ 10 :: b) = linesL acc (t ++ [10]) := by
  induction t generalizing acc with
  | nil => simp [linesL, linesL_none b [] hb]
  | cons x r ih =>
    simp only [List.cons_append, linesL]
    split
    · rw [ih]
    · rw [ih]
theorem last_cut (s : List UInt8) : ∃ k : Nat, Lib.lastIndexByte (baL s) 10 = (k : Int) - 1 ∧ k ≤ s.length ∧ EndsN (s.take k) ∧ linesL [] s = linesL [] (s.take k) := by
  have hsz := baL_size s
  have hget : ∀ j, j < s.length → ((baL s).data[j]!).toNat = (s.getD j 0).toNat := by
    intro j hj
    simp [List.getD, hj]
  rcases Lib.lastIndexByte_spec (baL s) 10 with ⟨h1, h2⟩ | ⟨i, hi, h1, h2, h3⟩
  · have hn : (10 : UInt8) ∉ s := by
      intro hm
      obtain ⟨j, hj, he⟩ := List.getElem_of_mem hm
      have := h2 j (by omega)
      rw [hget j hj] at this
      apply this
      simp [List.getD, hj, he]
    refine ⟨0, by rw [h1]; rfl, Nat.zero_le _, Or.inl rfl, ?_⟩
    rw [linesL_none s [] hn]
    rfl
  · rw [hsz] at hi
    have h10 : s[i] = 10 := by
      rw [hget i hi] at h2
      have h2' : s[i].toNat = 10 := by
        have h2 : (s[i].toNat : Int) = 10 := by simpa [List.getD, hi] using h2
        omega
      exact UInt8.toNat_inj.1 h2'
    have hn : (10 : UInt8) ∉ s.drop (i + 1) := by
      intro hm
      obtain ⟨j, hj, he⟩ := List.getElem_of_mem hm
      rw [List.length_drop] at hj
      have := h3 (i + 1 + j) (by omega) (by omega)
      rw [hget _ (by omega)] at this
      apply this
      rw [List.getElem_drop] at he
      simp [List.getD, show i + 1 + j < s.length by omega, he]
    have ht : s.take (i + 1) = s.take i ++ [10] := by rw [List.take_succ_eq_append_getElem hi, h10]
    have hs : s = s.take i ++ 10 :: s.drop (i + 1) := by
      conv => lhs; rw [← List.take_append_drop (i + 1) s, ht]
      simp
    refine ⟨i + 1, by rw [h1]; omega, by omega, Or.inr ⟨_, ht⟩, ?_⟩
    conv => lhs; rw [hs]
    rw [ht]
    exact linesL_tail _ _ _ hn

theorem every_bounds {l : List UInt8} {ev : Nat} (h : everyL l = some ev) : 1 ≤ ev ∧ ev ≤ 64 := by
  unfold everyL at h
  split at h
  · rename_i hc
    injection h with h
    have hd := hc.2
    unfold Rd.int at h hd
    split at h
    · rename_i n hn
      rw [hn] at hd
      simp only at hd
      split at h
      · rename_i hb
        simp only at h
        omega
      · rename_i hb
        rw [if_neg hb] at hd
        simp [Rd.done, Rd.bad] at hd
    · rename_i hn
      rw [hn] at hd
      simp [Rd.done, Rd.bad] at hd
  · cases h
theorem match_cut (T f r : List UInt8) (b : Bool) (hE : EndsN T) (hc : cutL 10 T = (f, r, b)) (s : List UInt8) (hs : linesL [] s = linesL [] T) :
    (everyL f = none → matchL s = none) ∧ (∀ ev, everyL f = some ev → matchL s = (Mt.mk ev [] [[]]).adds (linesL [] r) ∧ EndsN r) := by
  by_cases h0 : T = []
  · subst h0
    simp only [cutL, Prod.mk.injEq] at hc
    obtain ⟨rfl, rfl, rfl⟩ := hc
    have hm : matchL s = none := by unfold matchL; rw [hs]; rfl
    have he : everyL [] = none := by
      unfold everyL
      exact if_neg (fun h => absurd h.1 (by decide))
    exact ⟨fun _ => hm, fun ev h => by rw [he] at h; cases h⟩
  · obtain ⟨x, t, rfl, hx, ht, hl, _⟩ := ends_cut T hE h0
    rw [cutL_hit 10 x t hx] at hc
    simp only [Prod.mk.injEq] at hc
    obtain ⟨rfl, rfl, -⟩ := hc
    refine ⟨fun h => ?_, fun ev h => ⟨?_, ht⟩⟩
    · unfold matchL; rw [hs, hl]; simp only [h]
    · unfold matchL; rw [hs, hl]; simp only [h]
theorem start_ok (ev : Nat) (h : 1 ≤ ev ∧ ev ≤ 64) : (Mt.mk ev [] [[]]).Ok := by
  refine ⟨h, Nat.zero_le _, fun cs hc => (by cases hc), (by simp), ?_⟩
  intro k hk
  simp only [List.length_cons, List.length_nil, Nat.zero_add, Nat.lt_one_iff] at hk
  subst hk
  simp only [List.getElem_cons_zero, Nat.zero_mul]
  exact worldB_true 0 [] ⟨by decide, by decide⟩ (fun j hj _ => absurd hj (Nat.not_lt_zero _))

theorem MRow.mono {w : World} {F G : Nat → Prop} {ev : Nat} {cv wv : Value} {CS : List Cv} {WS : List Wd} (h : MRow w F ev cv wv CS WS) (hF : ∀ j, F j → G j) : MRow w G ev cv wv CS WS :=
  ⟨h.rowc, fun c hc => ⟨(h.eachc c hc).1, hF _ (h.eachc c hc).2⟩, h.ticks, h.roww, fun d hd => ⟨(h.eachw d hd).1, (h.eachw d hd).2.1, fun b off e => ⟨hF _ ((h.eachw d hd).2.2 b off e).1, ((h.eachw d hd).2.2 b off e).2⟩⟩, fun g hg => hF _ (h.footc g hg), fun g hg => hF _ (h.footw g hg)⟩
theorem adds_ok {m m' : Mt} (ls : List (List UInt8)) (h : m.Ok) (ha : m.adds ls = some m') : m'.Ok ∧ m'.ev = m.ev := by
  induction ls generalizing m with
  | nil =>
    simp only [Mt.adds, Option.some.injEq] at ha
    subst ha
    exact ⟨h, rfl⟩
  | cons l r ih =>
    simp only [Mt.adds] at ha
    split at ha
    · rename_i m1 h1
      obtain ⟨q1, q2, _⟩ := Mt.add_ok h h1
      obtain ⟨p1, p2⟩ := ih q1 ha
      exact ⟨p1, p2.trans q2⟩
    · cases ha
/-- The first match: nothing is recorded. -/
theorem MRow.start (w3 : World) (B ev : Nat) (hB : B ≤ w3.heap.size) : MRow (w3.alloc (.cells #[.int .i64 0, .slice none 0 0] 34)) (fun j => B ≤ j) ev (.slice none 0 0) (.slice (some ⟨w3.heap.size, 0, none⟩) 1 1) [] [⟨0, none, 0, []⟩] := by
  refine ⟨World.ownsRow_nil _ _ _ _, fun c hc => (by cases hc), ?_, ?_, ?_, fun g hg => (by cases hg), ?_⟩
  · intro k hk
    simp only [List.length_cons, List.length_nil, Nat.zero_add, Nat.lt_one_iff] at hk
    subst hk
    simp
  · exact owns_base (owns_new w3 0 34 2 1 (rowW [⟨0, none, 0, []⟩]) w3.heap.size rfl (Nat.zero_le _) (by unfold maxLen; omega) rfl)
  · intro d hd
    simp only [List.mem_cons, List.not_mem_nil, or_false] at hd
    subst hd
    exact ⟨fun h => absurd rfl h, ⟨fun _ => rfl, fun a e => (by cases e)⟩, fun b off e => by cases e⟩
  · intro g hg
    simp only [Value.ownBlock, Option.some.injEq] at hg
    omega

set_option maxHeartbeats 400000 in
theorem lines_c (x : ByteArray) (w : World) : Calls Tryz.prog 25 #[.string x] w fun e w' => e = .returned (.func (.func 49) #[] #[.pointer (some ⟨w.heap.size, 0, none⟩)]) ∧ w' = w.alloc (.cells #[.string x] 9) := by
  go_enter Tryz.func25, Tryz.ntmps25
  go_wp2
  go_ret
  exact ⟨rfl, rfl⟩
theorem trim_c (x : List UInt8) (w : World) (hl : (x ++ [10]).length ≤ 140737488355328) : Calls Tryz.prog 27 #[.string (baL (x ++ [10])), .string ⟨#[10]⟩] w fun e w' => e = .returned (.string (baL x)) ∧ w' = w := by
  refine (Tryz.strings_TrimSuffix (baL (x ++ [10])) ⟨#[10]⟩ w (by rw [baL_size]; omega)).mono ?_
  rintro e w' ⟨rfl, rfl⟩
  refine ⟨?_, rfl⟩
  have : Lib.trimSuffix (baL (x ++ [10])).data.toList (⟨#[10]⟩ : ByteArray).data.toList = x := by
    rw [baL_list]
    unfold Lib.trimSuffix
    have h1 : Lib.hasSuffix (x ++ [10]) [10] = true := by simp [Lib.hasSuffix]
    simp [h1]
  rw [this]

theorem res_set {w5 : World} {b2 b3 : Nat} {x y z bb : Value} (h2 : w5.heap[b2]? = some (.cells #[x, y, z] 41 (0, 0))) (h3 : w5.heap[b3]? = some (.cells #[bb] 4 (0, 0))) (hne : b2 ≠ b3) (x' y' z' bb' : Value) :
    ((((w5.setCell ⟨b2, 0, none⟩ x').setCell ⟨b2, 1, none⟩ y').setCell ⟨b2, 2, none⟩ z').setCell ⟨b3, 0, none⟩ bb').heap[b2]? = some (.cells #[x', y', z'] 41 (0, 0)) ∧
    ((((w5.setCell ⟨b2, 0, none⟩ x').setCell ⟨b2, 1, none⟩ y').setCell ⟨b2, 2, none⟩ z').setCell ⟨b3, 0, none⟩ bb').heap[b3]? = some (.cells #[bb'] 4 (0, 0)) ∧
    Kept (fun k => k = b2 ∨ k = b3) w5 ((((w5.setCell ⟨b2, 0, none⟩ x').setCell ⟨b2, 1, none⟩ y').setCell ⟨b2, 2, none⟩ z').setCell ⟨b3, 0, none⟩ bb') := by
  have e1 := (setCells_row b2 41 [x', y', z'] 0 [x, y, z] w5 h2 (by simp)).1
  have e1' : (((w5.setCell ⟨b2, 0, none⟩ x').setCell ⟨b2, 1, none⟩ y').setCell ⟨b2, 2, none⟩ z').heap[b2]? = some (.cells #[x', y', z'] 41 (0, 0)) := e1
  have e3 : (((w5.setCell ⟨b2, 0, none⟩ x').setCell ⟨b2, 1, none⟩ y').setCell ⟨b2, 2, none⟩ z').heap[b3]? = some (.cells #[bb] 4 (0, 0)) := by
    rw [Below.heap_setCell _ _ _ _ (fun e => hne e.symm), Below.heap_setCell _ _ _ _ (fun e => hne e.symm), Below.heap_setCell _ _ _ _ (fun e => hne e.symm)]
    exact h3
  refine ⟨by rw [Below.heap_setCell _ _ _ _ hne]; exact e1', ?_, ?_⟩
  · rw [setCell_eq_setRow _ b3 0 _ _ (0, 0) _ e3]
    exact setRow_heap _ b3 _ _ _ _ e3
  · exact Kept.set' (Kept.set' (Kept.set' (Kept.set' (Kept.refl _ _) (Or.inl rfl)) (Or.inl rfl)) (Or.inl rfl)) (Or.inr rfl)

/-- Behind 'matchOf'. -/
def MatchPost (s : List UInt8) (w : World) (e : Ending) (w' : World) : Prop :=
  Kept (fun _ => False) w w' ∧ ((matchL s = none ∧ e = .returned (.tuple #[.agg #[.int .i64 0, .slice none 0 0, .slice none 0 0], .bool false])) ∨
    ∃ m cv wv CS WS, matchL s = some m ∧ m.Ok ∧ e = .returned (.tuple #[.agg #[.int .i64 (m.ev : Int), cv, wv], .bool true]) ∧ MRow w' (fun j => w.heap.size ≤ j) m.ev cv wv CS WS ∧ CS.map Cv.cs = m.cmds ∧ WS.map Wd.L = m.whole)

set_option maxHeartbeats 1000000 in
set_option maxRecDepth 100000 in
theorem matchOf_c (s : List UInt8) (w : World) (hl : s.length ≤ 140737488355328) (hM : Mine w.heap.size) (hE : Errs w) :
    Calls Tryz.prog 10 #[.string (baL s)] w (MatchPost s w) := by
  obtain ⟨k, hk1, hk2, hk3, hk4⟩ := last_cut s
  have hsz := baL_size s
  have A1 := hide ((Kept.alloc w (.cells #[.int .i64 0, .slice none 0 0, .slice none 0 0] 41)).calm2 (Kept.alloc _ (.cells #[.bool false] 4)))
  have A2 : Hid (((w.alloc (.cells #[.int .i64 0, .slice none 0 0, .slice none 0 0] 41)).alloc (.cells #[.bool false] 4)).heap[w.heap.size]? = some (.cells #[.int .i64 0, .slice none 0 0, .slice none 0 0] 41 (0, 0))) := (Below.heap_alloc _ _ _ (by simp)).trans (heap_alloc_new w _)
  have A3 : Hid (((w.alloc (.cells #[.int .i64 0, .slice none 0 0, .slice none 0 0] 41)).alloc (.cells #[.bool false] 4)).heap[w.heap.size + 1]? = some (.cells #[.bool false] 4 (0, 0))) := by
    have := heap_alloc_new (w.alloc (.cells #[.int .i64 0, .slice none 0 0, .slice none 0 0] 41)) (.cells #[.bool false] 4)
    rwa [World.size_alloc] at this
  have HE := hide hE
  have HM := hide hM
  have HK := hide (And.intro hk1 (And.intro hk3 hk4))
  have hT : Hid (baL (s.take k) = (baL s).extract 0 k) := by show _ = _; rw [Lib.extract_eq]; simp
  have hk0 : (0 : Int) ≤ (k : Int) := by omega
  have hkl : (k : Int) ≤ ((baL s).size : Int) := by rw [hsz]; omega
  have hslen : (s.length : Int) ≤ 140737488355328 := by omega
  have HSL := hide hl
  clear hE hM hk1 hk3 hk4 hl hk2
  obtain ⟨S, hS⟩ : ∃ S, baL s = S := ⟨_, rfl⟩
  rw [hS] at hkl hsz ⊢
  have HS := hide hS
  clear hS
  refine (callsIn_wide (n := 3)).1 ?_
  refine callsIn_of_wp_marks Tryz.func10 rfl trivial ?_
  simp only [Tryz.ntmps10, List.size_toArray, List.length_cons, List.length_nil, Nat.reduceAdd, Nat.reduceSub, Array.replicate_succ, Array.replicate_zero, List.push_toArray, List.append_toArray, List.nil_append, List.cons_append]
  gi_wp2_with fail
  refine ⟨trivial, ?_⟩
  refine (callsIn_wide.2 (Tryz.strings_LastIndexByte S 10 (by omega) _)).mono ?_
  rintro e w1 ⟨rfl, rfl⟩
  rw [show Lib.lastIndexByte S 10 = (k : Int) - 1 from by rw [← HS.out]; exact HK.out.1]
  gi_wp2_with fail
  refine ⟨trivial, ?_⟩
  obtain ⟨T, hTT⟩ : ∃ T, s.take k = T := ⟨_, rfl⟩
  rw [show S.extract 0 k = baL T from by rw [← HS.out, ← hTT]; exact hT.out.symm]
  have hTl : Hid (T.length ≤ 140737488355328) := by show _ ≤ _; rw [← hTT, List.length_take]; have := HSL.out; omega
  refine (callsIn_wide.2 (cut1_c T 10 _ (by have := hTl.out; omega))).mono ?_
  rintro e w2 ⟨rfl, k2⟩
  obtain ⟨f, r, b, hcut⟩ : ∃ f r b, cutL 10 T = (f, r, b) := ⟨_, _, _, rfl⟩
  have hshort := cutL_short 10 T
  rw [hcut] at hshort ⊢
  simp only at hshort
  have HSH : Hid (f.length ≤ 140737488355328 ∧ r.length ≤ 140737488355328) := ⟨by have := hTl.out; omega, by have := hTl.out; omega⟩
  have HMC := hide (match_cut T f r b (by rw [← hTT]; exact HK.out.2.1) hcut s (by rw [← hTT]; exact HK.out.2.2))
  have K2 := hide (A1.out.calm2 k2)
  have B2 : Hid (w2.heap[w.heap.size]? = some (.cells #[.int .i64 0, .slice none 0 0, .slice none 0 0] 41 (0, 0))) := by show _ = _; rw [k2.block _ (by simp; omega) (fun e => e)]; exact A2.out
  have B3 : Hid (w2.heap[w.heap.size + 1]? = some (.cells #[.bool false] 4 (0, 0))) := by show _ = _; rw [k2.block _ (by simp) (fun e => e)]; exact A3.out
  clear k2 hcut hshort hTT
  gi_wp2_with fail
  refine ⟨trivial, ?_⟩
  refine (callsIn_wide.2 (everyOf_c f w2 HSH.out.1 (HM.out.up K2.out.size) (HE.out.calm K2.out))).mono ?_
  rintro e w3 ⟨v, rfl, hv, k3⟩
  have K3 := hide (K2.out.calm2 k3)
  have C2 : Hid (w3.heap[w.heap.size]? = some (.cells #[.int .i64 0, .slice none 0 0, .slice none 0 0] 41 (0, 0))) := by show _ = _; rw [k3.block _ (heap_lt B2.out) (fun e => e)]; exact B2.out
  have C3 : Hid (w3.heap[w.heap.size + 1]? = some (.cells #[.bool false] 4 (0, 0))) := by show _ = _; rw [k3.block _ (heap_lt B3.out) (fun e => e)]; exact B3.out
  have HV := hide hv
  clear hv k3
  cases hev : everyL f with
  | none =>
    have HN := hide (HMC.out.1 hev)
    obtain ⟨c0, c1, c2, f0, f1, f2⟩ := three_cells C2.out
    have d0 : w3.cell? ⟨w.heap.size + 1, 0, none⟩ = some (.bool false) := by rw [cell_block C3.out]; rfl
    have g0 : w3.frozen? ⟨w.heap.size + 1, 0, none⟩ = false := by simp [World.frozen?, C3.out]
    clear hev
    gi_wp2_with fail
    refine ⟨.tuple #[.agg #[.int .i64 0, .slice none 0 0, .slice none 0 0], .bool false], by simp [results, Tryz.results10, go_sem, c0, c1, c2, d0], ?_⟩
    refine ⟨K3.out.join (R := fun _ => False) (S' := fun j => j = w.heap.size ∨ j = w.heap.size + 1) ?_ (fun _ _ e => e) (fun j hj e => by omega), Or.inl ⟨HN.out, rfl⟩⟩
    repeat (refine Kept.set' ?_ (by first | exact Or.inl rfl | exact Or.inr rfl))
    exact Kept.refl _ _
  | some ev =>
    have hbe := every_bounds hev
    obtain rfl : v = (ev : Int) := HV.out ev hev
    obtain ⟨hml, hre⟩ := HMC.out.2 ev hev
    have HML := hide hml
    have hw3 : w.heap.size + 2 ≤ w3.heap.size := heap_lt C3.out
    have KA1 := hide (Kept.alloc w3 (.cells #[.int .i64 0, .slice none 0 0] 34))
    have KA2 := hide (Kept.alloc (w3.alloc (.cells #[.int .i64 0, .slice none 0 0] 34)) (.cells #[.int .i64 (ev : Int), .slice none 0 0, .slice (some ⟨w3.heap.size, 0, none⟩) 1 1] 41))
    have M0 : Hid (MRow ((w3.alloc (.cells #[.int .i64 0, .slice none 0 0] 34)).alloc (.cells #[.int .i64 (ev : Int), .slice none 0 0, .slice (some ⟨w3.heap.size, 0, none⟩) 1 1] 41)) (fun j => w.heap.size + 2 ≤ j) ev (.slice none 0 0) (.slice (some ⟨w3.heap.size, 0, none⟩) 1 1) [] [⟨0, none, 0, []⟩]) := (MRow.start w3 (w.heap.size + 2) ev hw3).calm KA2.out
    have X0 : Hid (MBox ((w3.alloc (.cells #[.int .i64 0, .slice none 0 0] 34)).alloc (.cells #[.int .i64 (ev : Int), .slice none 0 0, .slice (some ⟨w3.heap.size, 0, none⟩) 1 1] 41)) (w3.heap.size + 1) ev (.slice none 0 0) (.slice (some ⟨w3.heap.size, 0, none⟩) 1 1)) := by
      have := heap_alloc_new (w3.alloc (.cells #[.int .i64 0, .slice none 0 0] 34)) (.cells #[.int .i64 (ev : Int), .slice none 0 0, .slice (some ⟨w3.heap.size, 0, none⟩) 1 1] 41)
      rwa [World.size_alloc] at this
    clear hev hml
    gi_wp2_with fail
    refine ⟨trivial, ?_⟩
    refine (callsIn_wide.2 (lines_c (baL r) _)).mono ?_
    rintro e w4 ⟨rfl, hw4⟩
    obtain ⟨wM, hwM⟩ : ∃ wM, (w3.alloc (.cells #[.int .i64 0, .slice none 0 0] 34)).alloc (.cells #[.int .i64 (ev : Int), .slice none 0 0, .slice (some ⟨w3.heap.size, 0, none⟩) 1 1] 41) = wM := ⟨_, rfl⟩
    have hsM : wM.heap.size = w3.heap.size + 2 := by rw [← hwM]; simp
    rw [hwM] at M0 X0 KA2 hw4 ⊢
    have KM := hide (KA1.out.calm2 KA2.out)
    have hs4 : w4.heap.size = w3.heap.size + 3 := by rw [hw4]; simp; omega
    have K4 : Hid (Kept (fun _ => False) wM w4) := by rw [hw4]; exact Kept.alloc _ _
    have B4 : Hid (w4.heap[wM.heap.size]? = some (.cells #[.string (baL r)] 9 (0, 0))) := by rw [hw4]; exact heap_alloc_new wM _
    clear hwM hw4 KA1 KA2
    gi_wp2_with fail
    have hmb : w.heap.size + 2 ≤ w3.heap.size + 1 := by omega
    have hM2 : Hid (Mine (w.heap.size + 2)) := HM.out.up (by omega)
    rw [hsM] at B4
    refine wpIn_lines (by decide) (w3.heap.size + 2) r rfl hre HSH.out.2 B4.out
      (fun pre W => ∃ m cv wv CS WS, (Mt.mk ev [] [[]]).adds pre = some m ∧ m.Ok ∧ m.ev = ev ∧ MBox W (w3.heap.size + 1) ev cv wv ∧ MRow W (fun j => w.heap.size + 2 ≤ j) ev cv wv CS WS ∧ CS.map Cv.cs = m.cmds ∧ WS.map Wd.L = m.whole ∧ Kept (fun j => w.heap.size + 2 ≤ j) w3 W)
      (fun pre W => (Mt.mk ev [] [[]]).adds pre = none ∧ W.heap[w.heap.size]? = some (.cells #[.int .i64 0, .slice none 0 0, .slice none 0 0] 41 (0, 0)) ∧ W.heap[w.heap.size + 1]? = some (.cells #[.bool false] 4 (0, 0)) ∧ Kept (fun j => w.heap.size ≤ j) w3 W)
      ?hI ?hIx ?h0 11 ?assign ?body ?done ?stop
    case hI =>
      rintro pre W W' ⟨m, cv, wv, CS, WS, q1, q2, q3, q4, q5, q6, q7, q8⟩ k t1 t2 t3
      refine ⟨m, cv, wv, CS, WS, q1, q2, q3, q4.keep k (fun e => by omega), q5.keep k (fun j _ hj e => ?_), q6, q7, q8.join k (fun _ _ e => e) (fun j hj e => by omega)⟩
      rcases e with rfl | rfl | rfl
      · rcases hj with h | h | h | h <;> exact t1 _ h
      · rcases hj with h | h | h | h <;> exact t2 _ h
      · rcases hj with h | h | h | h <;> exact absurd (t3 _ h) (by decide)
    case hIx =>
      rintro pre W W' ⟨q1, q2, q3, q4⟩ k
      exact ⟨q1, by rw [k.block _ (heap_lt q2) (by omega)]; exact q2, by rw [k.block _ (heap_lt q3) (by omega)]; exact q3, q4.join k (fun _ _ e => e) (fun j hj e => by omega)⟩
    case h0 =>
      exact ⟨⟨ev, [], [[]]⟩, _, _, [], _, rfl, start_ok ev hbe, rfl, X0.out.keep K4.out (fun e => e), M0.out.calm K4.out, rfl, rfl, (KM.out.calm2 K4.out).mono (fun _ _ e => e.elim)⟩
    case assign =>
      intro l x W K hK
      gi_wp2
      exact hK
    case body =>
      rintro l pre x W ⟨m, cv, wv, CS, WS, q1, q2, q3, q4, q5, q6, q7, q8⟩ hsz t1 t2 t3 hxl
      have hxx : x.length ≤ 140737488355328 := by simp at hxl; omega
      have HEW : Hid (Errs W) := (HE.out.calm K3.out).far hM2.out q8
      have hWs : w.heap.size + 2 ≤ W.heap.size := by omega
      have r2 : Hid (W.heap[w.heap.size]? = some (.cells #[.int .i64 0, .slice none 0 0, .slice none 0 0] 41 (0, 0))) := by show _ = _; rw [q8.block _ (heap_lt C2.out) (by omega)]; exact C2.out
      have r3 : Hid (W.heap[w.heap.size + 1]? = some (.cells #[.bool false] 4 (0, 0))) := by show _ = _; rw [q8.block _ (heap_lt C3.out) (by omega)]; exact C3.out
      have Q4 : Hid (MBox W (w3.heap.size + 1) m.ev cv wv) := by rw [q3]; exact q4
      have Q5 : Hid (MRow W (fun j => w.heap.size + 2 ≤ j) m.ev cv wv CS WS) := by rw [q3]; exact q5
      have QQ := hide (And.intro q1 (And.intro q2 (And.intro q3 (And.intro q6 (And.intro q7 q8)))))
      have TT := hide (And.intro t1 (And.intro t2 t3))
      clear q1 q2 q3 q4 q5 q6 q7 q8 t1 t2 t3
      gi_wp2_with fail
      refine ⟨trivial, ?_⟩
      refine (CallsIn.inRound l (callsIn_wide.2 (trim_c x W hxl))).mono ?_
      rintro e W ⟨rfl, rfl⟩
      gi_wp2_with fail
      refine ⟨trivial, ?_⟩
      refine (CallsIn.inRound l (callsIn_wide.2 (add_c (w.heap.size + 2) (w3.heap.size + 1) m cv wv CS WS x W QQ.out.2.1 QQ.out.2.2.2.1 QQ.out.2.2.2.2.1 hxx hM2.out hWs hmb HEW.out Q4.out Q5.out))).mono ?_
      rintro e w5 ⟨kk, hres⟩
      have KK := hide kk
      have NM : Hid (∀ j, j ≠ w3.heap.size + 1 → ¬ MTyp W j → j < W.heap.size → w5.heap[j]? = W.heap[j]?) := fun j h1 h2 h3 => kk.block j h3 (fun e => by rcases e with e | e; exact h1 e; exact h2 e.2)
      have ND : Hid (w5.heap[w4.heap.size]? = W.heap[w4.heap.size]? ∧ w5.heap[w4.heap.size + 1]? = W.heap[w4.heap.size + 1]? ∧ w5.heap[w3.heap.size + 2]? = W.heap[w3.heap.size + 2]?) := by
        refine ⟨NM.out _ (by omega) (fun h => ?_) (by omega), NM.out _ (by omega) (fun h => ?_) (by omega), NM.out _ (by omega) (fun h => ?_) (by omega)⟩
        · rcases h with h | h | h | h <;> exact TT.out.1 _ h
        · rcases h with h | h | h | h <;> exact TT.out.2.1 _ h
        · rcases h with h | h | h | h <;> exact absurd (TT.out.2.2 _ h) (by decide)
      have s2 : Hid (w5.heap[w.heap.size]? = some (.cells #[.int .i64 0, .slice none 0 0, .slice none 0 0] 41 (0, 0))) := by
        show _ = _
        rw [kk.block _ (heap_lt r2.out) (fun e => by rcases e with e | e; omega; have := e.1; omega)]; exact r2.out
      have s3 : Hid (w5.heap[w.heap.size + 1]? = some (.cells #[.bool false] 4 (0, 0))) := by
        show _ = _
        rw [kk.block _ (heap_lt r3.out) (fun e => by rcases e with e | e; omega; have := e.1; omega)]; exact r3.out
      have K5 : Hid (Kept (fun j => w.heap.size + 2 ≤ j) w3 w5) := QQ.out.2.2.2.2.2.join kk (fun _ _ e => e) (fun j hj e => by rcases e with e | e; omega; exact e.1)
      clear kk
      rcases hres with ⟨hn, rfl⟩ | ⟨m', cv', wv', CS', WS', hs', rfl, x1, x2, x3, x4⟩
      · have HN : Hid ((Mt.mk ev [] [[]]).adds (pre ++ [x]) = none) := by
          show _ = _
          rw [adds_app, QQ.out.1]
          simp only [Mt.adds, hn]
        obtain ⟨c0, c1, c2, f0, f1, f2⟩ := three_cells s2.out
        have d0 : w5.cell? ⟨w.heap.size + 1, 0, none⟩ = some (.bool false) := by rw [cell_block s3.out]; rfl
        have g0 : w5.frozen? ⟨w.heap.size + 1, 0, none⟩ = false := by simp [World.frozen?, s3.out]
        clear hn
        gi_wp2_with fail
        obtain ⟨p2, p3, pk⟩ := res_set s2.out s3.out (by omega) (.int .i64 0) (.slice none 0 0) (.slice none 0 0) (.bool false)
        refine ⟨?_, ?_, HN.out, p2, p3, (K5.out.mono (S' := fun j => w.heap.size ≤ j) (fun j _ e => by omega)).join pk (fun _ _ e => e) (fun j _ e => by omega)⟩
        · rw [pk.block _ (by have := QQ.out.2.2.2.2.2.size; have := KK.out.size; omega) (by omega)]; exact ND.out.1
        · rw [pk.block _ (by have := QQ.out.2.2.2.2.2.size; have := KK.out.size; omega) (by omega)]; exact ND.out.2.1
      · have HN : Hid ((Mt.mk ev [] [[]]).adds (pre ++ [x]) = some m' ∧ m'.Ok ∧ m'.ev = ev) := by
          have h1 : (Mt.mk ev [] [[]]).adds (pre ++ [x]) = some m' := by
            rw [adds_app, QQ.out.1]
            simp only [Mt.adds, hs']
          obtain ⟨h2, h3⟩ := adds_ok _ (start_ok ev hbe) h1
          exact ⟨h1, h2, h3⟩
        have XX := hide (And.intro x1 (And.intro x2 (And.intro x3 x4)))
        clear x1 x2 x3 x4 hs'
        gi_wp2_with fail
        obtain ⟨x1, x2, x3, x4⟩ := XX.out
        rw [HN.out.2.2] at x1 x2
        exact ⟨ND.out.1, ND.out.2.1, ND.out.2.2, m', cv', wv', CS', WS', HN.out.1, HN.out.2.1, HN.out.2.2, x1, x2, x3, x4, K5.out⟩
    case done =>
      rintro W ⟨m, cv, wv, CS, WS, q1, q2, q3, q4, q5, q6, q7, q8⟩ hD
      have r2 : W.heap[w.heap.size]? = some (.cells #[.int .i64 0, .slice none 0 0, .slice none 0 0] 41 (0, 0)) := by rw [q8.block _ (heap_lt C2.out) (by omega)]; exact C2.out
      have r3 : W.heap[w.heap.size + 1]? = some (.cells #[.bool false] 4 (0, 0)) := by rw [q8.block _ (heap_lt C3.out) (by omega)]; exact C3.out
      obtain ⟨c0, c1, c2, f0, f1, f2⟩ := three_cells r2
      have d0 : W.cell? ⟨w.heap.size + 1, 0, none⟩ = some (.bool false) := by rw [cell_block r3]; rfl
      have g0 : W.frozen? ⟨w.heap.size + 1, 0, none⟩ = false := by simp [World.frozen?, r3]
      obtain ⟨m0, m1, m2, -, -, -⟩ := three_cells q4
      obtain ⟨ao, cp, rfl⟩ : ∃ ao cp, cv = .slice ao CS.length cp := by
        rcases q5.rowc.2 with ⟨rfl, h0⟩ | ⟨g, cp, _, rfl, _⟩
        · exact ⟨none, 0, by rw [h0]⟩
        · exact ⟨_, _, rfl⟩
      obtain ⟨bo, bp, rfl⟩ : ∃ bo bp, wv = .slice bo WS.length bp := by
        rcases q5.roww.2 with ⟨rfl, h0⟩ | ⟨g, cp, _, rfl, _⟩
        · exact ⟨none, 0, by rw [h0]⟩
        · exact ⟨_, _, rfl⟩
      have QQ := hide (And.intro q1 (And.intro q2 (And.intro q3 (And.intro q4 (And.intro q5 (And.intro q6 (And.intro q7 q8)))))))
      have R2 := hide r2
      have R3 := hide r3
      have HD := hide hD
      clear q1 q2 q3 q4 q5 q6 q7 q8 r2 r3 hD
      gi_wp2_with fail
      obtain ⟨p2, p3, pk⟩ := res_set R2.out R3.out (by omega) (.int .i64 (ev : Int)) (.slice ao CS.length cp) (.slice bo WS.length bp) (.bool true)
      have hdl := heap_lt HD.out
      have hD2 := (pk.block _ hdl (by omega)).trans HD.out
      refine ⟨by simp, .inl ⟨_, _, rfl, run_takeDeferred hD2, ?_⟩⟩
      have pp := Kept.putObj ((((W.setCell ⟨w.heap.size, 0, none⟩ (.int .i64 (ev : Int))).setCell ⟨w.heap.size, 1, none⟩ (.slice ao CS.length cp)).setCell ⟨w.heap.size, 2, none⟩ (.slice bo WS.length bp)).setCell ⟨w.heap.size + 1, 0, none⟩ (.bool true)) w4.heap.size (.deferred none)
      have e2 := (pp.block _ (heap_lt p2) (by omega)).trans p2
      have e3 := (pp.block _ (heap_lt p3) (by omega)).trans p3
      obtain ⟨v0, v1, v2, -, -, -⟩ := three_cells e2
      have v3 := (cell_block e3 0)
      refine ⟨.tuple #[.agg #[.int .i64 (ev : Int), .slice ao CS.length cp, .slice bo WS.length bp], .bool true], by simp [results, Tryz.results10, go_sem, v0, v1, v2, v3], ?_⟩
      obtain ⟨q1, q2, q3, q4, q5, q6, q7, q8⟩ := QQ.out
      have kall := K3.out.join (q8.join (pk.join pp (R := fun j => w.heap.size ≤ j) (fun j _ e => by omega) (fun j _ e => by omega)) (R := fun j => w.heap.size ≤ j) (fun j _ e => by omega) (fun _ _ e => e)) (R := fun _ => False) (fun _ _ e => e) (fun j hj e => by omega)
      refine ⟨kall, Or.inr ⟨m, _, _, CS, WS, HML.out.trans q1, q2, by rw [q3], ?_, q6, q7⟩⟩
      rw [q3]
      have h1 := q5.keep pk (fun j hj ht e => by rcases e with e | e <;> omega)
      refine (h1.keep pp (fun j hj ht e => ?_)).mono (fun j e => by omega)
      subst e
      have nt : ∀ T, ¬ typ ((((W.setCell ⟨w.heap.size, 0, none⟩ (.int .i64 (ev : Int))).setCell ⟨w.heap.size, 1, none⟩ (.slice ao CS.length cp)).setCell ⟨w.heap.size, 2, none⟩ (.slice bo WS.length bp)).setCell ⟨w.heap.size + 1, 0, none⟩ (.bool true)) w4.heap.size T := fun T ht => by obtain ⟨c, f, e⟩ := ht; rw [hD2] at e; cases e
      rcases ht with ht | ht | ht | ht <;> exact nt _ ht
    case stop =>
      rintro pre rest W hsp ⟨q1, q2, q3, q4⟩ hD
      have HN : Hid (matchL s = none) := by
        show _ = _
        rw [HML.out, hsp, adds_app, q1]
      obtain ⟨c0, c1, c2, f0, f1, f2⟩ := three_cells q2
      have d0 : W.cell? ⟨w.heap.size + 1, 0, none⟩ = some (.bool false) := by rw [cell_block q3]; rfl
      have QQ := hide (And.intro q2 (And.intro q3 q4))
      have HD := hide hD
      clear q1 q2 q3 q4 hD
      gi_wp2_with fail
      have hdl := heap_lt HD.out
      refine ⟨by simp, .inl ⟨_, _, rfl, run_takeDeferred HD.out, ?_⟩⟩
      have pp := Kept.putObj W w4.heap.size (.deferred none)
      obtain ⟨q2, q3, q4⟩ := QQ.out
      have e2 := (pp.block _ (heap_lt q2) (by omega)).trans q2
      have e3 := (pp.block _ (heap_lt q3) (by omega)).trans q3
      obtain ⟨v0, v1, v2, -, -, -⟩ := three_cells e2
      have v3 := (cell_block e3 0)
      refine ⟨.tuple #[.agg #[.int .i64 0, .slice none 0 0, .slice none 0 0], .bool false], by simp [results, Tryz.results10, go_sem, v0, v1, v2, v3], ?_⟩
      exact ⟨K3.out.join (q4.join pp (R := fun j => w.heap.size ≤ j) (fun _ _ e => e) (fun j _ e => by omega)) (R := fun _ => False) (fun _ _ e => e) (fun j hj e => by omega), Or.inl ⟨HN.out, rfl⟩⟩
end Go.Proofs.YtlfmfhmbkpnjbabGreatDoor
