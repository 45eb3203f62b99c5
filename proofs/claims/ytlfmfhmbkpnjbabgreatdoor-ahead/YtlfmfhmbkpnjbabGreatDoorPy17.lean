import Derived.Test.YtlfmfhmbkpnjbabGreatDoorPy10
import Derived.Test.YtlfmfhmbkpnjbabGreatDoorPy11
import Derived.Lib.BufferMore
import Derived.Test.YtlfmfhmbkpnjbabGreatDoorPy1
import Derived.Test.YtlfmfhmbkpnjbabGreatDoorRows
import Derived.Test.YtlfmfhmbkpnjbabGreatDoorPy8
namespace Go.Proofs.YtlfmfhmbkpnjbabGreatDoor
open Go.RowKit

/-- A list of entities in a block of its own. -/
structure Fresh (w : World) (B : Nat) (q : Option Addr) (n cq : Nat) (X : List Mob) : Prop where
  reads : Reads w q X
  raw : (q = none ∧ n = 0 ∧ cq = 0) ∨ ∃ g cur, q = some ⟨g, 0, none⟩ ∧ w.heap[g]? = some (.cells (cur : List Value).toArray 63 (0, 0)) ∧ cur.length = cq * 7 ∧ n ≤ cq
  new : ∀ j off, q = some ⟨j, off, none⟩ → B ≤ j ∧ j < w.heap.size
theorem Fresh.keep {w w' : World} {S : Nat → Prop} {B : Nat} {q : Option Addr} {n cq : Nat} {X : List Mob} (h : Fresh w B q n cq X) (k : Kept S w w') (hS : ∀ j off, q = some ⟨j, off, none⟩ → ¬ S j) : Fresh w' B q n cq X := by
  refine ⟨h.reads.keep k hS, ?_, fun j off e => ⟨(h.new j off e).1, Nat.lt_of_lt_of_le (h.new j off e).2 k.size⟩⟩
  rcases h.raw with r | ⟨g, cur, e, hb, r⟩
  · exact Or.inl r
  · exact Or.inr ⟨g, cur, e, by rw [k.block g (heap_lt hb) (hS g 0 e)]; exact hb, r⟩
theorem Fresh.calm {w w' : World} {B : Nat} {q : Option Addr} {n cq : Nat} {X : List Mob} (h : Fresh w B q n cq X) (k : Kept (fun _ => False) w w') : Fresh w' B q n cq X := h.keep k (fun _ _ _ e => e)
theorem Fresh.low {w : World} {B B' : Nat} {q : Option Addr} {n cq : Nat} {X : List Mob} (h : Fresh w B q n cq X) (hB : B' ≤ B) : Fresh w B' q n cq X := ⟨h.reads, h.raw, fun j off e => ⟨Nat.le_trans hB (h.new j off e).1, (h.new j off e).2⟩⟩
theorem Fresh.of_own {w : World} {B : Nat} {v : Value} {X : List Mob} (h : w.ownsRow B 63 7 v X.length (rowM X)) : ∃ q cq, v = .slice q X.length cq ∧ Fresh w B q X.length cq X := by
  rcases h.2 with ⟨rfl, h0⟩ | ⟨g, cap, cur, rfl, hb, hh, h1, h2, h3, h4⟩
  · refine ⟨none, 0, by rw [h0], ⟨fun e => absurd (List.eq_nil_of_length_eq_zero h0) e, Or.inl ⟨rfl, h0, rfl⟩, fun j off e => by cases e⟩⟩
  · refine ⟨_, cap, rfl, ⟨fun _ => ⟨g, 0, rfl, heap_lt hh, fun j u hu => ?_⟩, Or.inr ⟨g, cur.toList, rfl, by simpa using hh, by simpa using h3, h1⟩, fun j off e => by cases e; exact ⟨hb, heap_lt hh⟩⟩⟩
    rw [Nat.zero_add, cell_block hh]
    rw [← h4, List.getElem?_take] at hu
    split at hu
    · simpa using hu
    · cases hu

set_option maxHeartbeats 1000000 in
set_option maxRecDepth 100000 in
theorem clone_c (g cap : Nat) (X : List Mob) (w : World) (hl : X.length ≤ 100) (h : Reads w (some ⟨g, 0, none⟩) X) :
    Calls Tryz.prog 43 #[.slice (some ⟨g, 0, none⟩) X.length cap] w fun e w' => ∃ q cq, e = .returned (.slice q X.length cq) ∧ Fresh w' w.heap.size q X.length cq X ∧ Kept (fun _ => False) w w' := by
  obtain ⟨i0, hi, hz0, hz1, hz2⟩ := info_parts info_mob
  have HR := hide h
  clear h
  go_enter Tryz.func43, Tryz.ntmps43
  have hnil : ∀ w : World, (binOp .eql 32 (.slice (some ⟨g, 0, none⟩) X.length cap) (.slice none 0 0)).run Tryz.prog w = .ok (.bool false) w := fun w => Lib.run_eql_slice_some_nil w _ _ _ Tryz.underlying32
  have HN : Hid (∀ j u, (rowM X)[j]? = some u → (w.alloc (.cells #[] 63)).cell? ((⟨g, 0, none⟩ : Addr).add j) = some u) := fun j u hu => by
    have hne : X ≠ [] := by intro e; subst e; simp [rowM] at hu
    obtain ⟨b, off, e, _, h3⟩ := (HR.out.calm (Kept.alloc w (.cells #[] 63))) hne
    cases e
    rw [addr_add2]; exact h3 j u hu
  have HO : Hid ((w.alloc (.cells #[] 63)).ownsRow w.heap.size 63 7 (.slice (some ⟨w.heap.size, 0, none⟩) 0 0) 0 []) := World.ownsRow_made w #[] 0 (Nat.le_refl _) (by decide) rfl
  go_wp2_with (at_builtin; refine wpList_append_own _ rfl (.tmp 5) (.tmp 6) 32 rfl w.heap.size 63 i0 _ 7 40 Tryz.underlying32 hi hz0 hz1 hz2 rfl (by decide) _ 0 [] rfl HO.out ⟨g, 0, none⟩ X.length cap (rowM X) rfl (rowM_length X) HN.out (rowM_one X) (by unfold maxLen; omega) (by omega) (by simp) ?_)
  intro v' w' ho' hg' _
  obtain ⟨q, cq, rfl, hf⟩ := Fresh.of_own ho'
  have F := hide hf
  have K : Hid (Kept (fun _ => False) w w') := (Kept.alloc w (.cells #[] 63)).join (Kept.of_grown hg') (fun _ _ e => e) (fun j hj e => by have e' : some j = some w.heap.size := e; simp only [Option.some.injEq] at e'; omega)
  clear ho' hg' hf
  go_wp2
  go_ret
  exact ⟨q, cq, rfl, F.out, K.out⟩

theorem first_small (ev : Int) (he : 1 ≤ ev ∧ ev ≤ 64) : ([] : List UInt8).length + (⟨(lineL (firstW ev)).toArray⟩ : ByteArray).size ≤ 140737488355328 := by
  have h1 := join_short (firstW ev) (by
    intro x hx
    simp only [firstW, List.mem_cons, List.not_mem_nil, or_false] at hx
    rcases hx with rfl | rfl
    · show (6 : Nat) ≤ 24; decide
    · exact itoaW_short ev (by omega))
  have h2 : (⟨(lineL (firstW ev)).toArray⟩ : ByteArray).size = (lineL (firstW ev)).length := by show (lineL (firstW ev)).toArray.size = _; simp
  rw [h2]
  unfold lineL
  have h3 : (firstW ev).length = 2 := rfl
  rw [h3] at h1
  simp only [List.length_append, List.length_nil, List.length_cons]
  omega

set_option maxHeartbeats 1000000 in
set_option maxRecDepth 100000 in
theorem newRec_c (ev : Int) (w : World) (he : 1 ≤ ev ∧ ev ≤ 64) (h : Tabs w) :
    Calls Tryz.prog 12 #[.int .i64 ev] w fun e w' => ∃ rb buf, e = .returned (.tuple #[.pointer (some ⟨rb, 0, none⟩), .int .i64 0]) ∧ w.heap.size ≤ rb ∧ Rec w' rb (.int .i64 ev) (.int .i64 0) (.slice none 0 0) (.pointer (some ⟨rb, 3, none⟩)) buf (lineL (firstW ev)) ∧ (∀ j, buf.ownBlock = some j → w.heap.size ≤ j) ∧ Kept (fun _ => False) w w' := by
  have HT := hide h
  clear h
  have h1 : ¬ ev < 1 := by omega
  have h2 : ¬ (64 : Int) < ev := by omega
  have K0 := hide (Kept.alloc w (.cells #[.int .i64 ev, .int .i64 0, .slice none 0 0, .pointer none, .slice none 0 0] 83))
  have R0 : Hid (Rec (w.alloc (.cells #[.int .i64 ev, .int .i64 0, .slice none 0 0, .pointer none, .slice none 0 0] 83)) w.heap.size (.int .i64 ev) (.int .i64 0) (.slice none 0 0) (.pointer none) (.slice none 0 0) []) := ⟨heap_alloc_new w _, ⟨rfl, Or.inl ⟨rfl, rfl⟩⟩, Or.inl rfl⟩
  go_enter Tryz.func12, Tryz.ntmps12
  go_wp2
  generalize w.alloc (.cells #[.int .i64 ev, .int .i64 0, .slice none 0 0, .pointer none, .slice none 0 0] 83) = wa at *
  have hb := heap_lt R0.out.blk
  obtain ⟨s0, s1, s2, s3, s4, -⟩ := five_cells R0.out.blk
  go_region_held3 (fun w' => True) (go_keep)
    (first
      | (go_at_call 29; refine (firstLine_c ev _ he (HT.out.calm (K0.out.calm2 (Kept.drew wa)))).mono ?_; rintro e w1 ⟨rfl, k1⟩; have K1 := hide ((Kept.drew wa).calm2 k1); clear k1)
      | (go_at_call 28; refine (write_c w.heap.size (.int .i64 ev) (.int .i64 0) (.slice none 0 0) (.pointer none) (.slice none 0 0) [] ⟨(lineL (firstW ev)).toArray⟩ w1 (R0.out.calm K1.out) (first_small ev he)).mono ?_; rintro e w2 ⟨rfl, buf', r2, k2, m2⟩; have R2 := hide r2; have K2 := hide k2; have M2 := hide m2; clear r2 k2 m2))
  have hs1 := K1.out.size
  have hsa := K0.out.size
  clear s0 s1 s2 s3 s4
  go_wp2
  go_ret2
  refine ⟨w.heap.size, buf', rfl, Nat.le_refl _, ?_, fun j hj => ?_, ?_⟩
  · have := R2.out
    simpa using this
  · rcases M2.out j hj with e | e
    · cases e
    · omega
  · exact (K0.out.calm2 K1.out).join K2.out (fun _ _ e => e) (fun j hj e => by
      rcases e with e | e
      · omega
      · cases e)

theorem file_c (rb : Nat) (c0 c1 c2 ad buf : Value) (s : List UInt8) (w : World) (h : Rec w rb c0 c1 c2 ad buf s) (h0 : s ≠ []) :
    Calls Tryz.prog 14 #[.pointer (some ⟨rb, 0, none⟩)] w fun e w' => e = .returned (.string ⟨s.toArray⟩) ∧ Rec w' rb c0 c1 c2 ad buf s ∧ Kept (fun j => buf.ownBlock = some j) w w' := by
  have HS := hide (string_c rb c0 c1 c2 ad buf s w h h0)
  go_enter Tryz.func14, Tryz.ntmps14
  go_wp2_with fail
  refine HS.out.mono ?_
  rintro e w1 ⟨rfl, r1, k1⟩
  have R1 := hide r1
  have K1 := hide k1
  clear r1 k1 HS
  go_wp2
  go_ret
  exact ⟨rfl, R1.out, K1.out⟩

theorem two_sets_kept (w4 : World) (b8 : Nat) (u v : Value) : Kept (fun k => k = b8) w4 ((w4.setCell ⟨b8, 0, none⟩ u).setCell ⟨b8, 1, none⟩ v) := (Kept.setCell w4 _ u).join (Kept.setCell _ _ v) (fun _ _ e => e) (fun _ _ e => e)

set_option maxHeartbeats 1000000 in
set_option maxRecDepth 100000 in
theorem copyOf_c (t : Int) (g cap : Nat) (X : List Mob) (w : World) (hl : X.length ≤ 100) (h : Reads w (some ⟨g, 0, none⟩) X) :
    Calls Tryz.prog 20 #[.agg #[.int .i64 t, .slice (some ⟨g, 0, none⟩) X.length cap]] w fun e w' => ∃ q cq, e = .returned (.agg #[.int .i64 t, .slice q X.length cq]) ∧ Fresh w' w.heap.size q X.length cq X ∧ Kept (fun _ => False) w w' := by
  have HR := hide h
  clear h
  have LT := hide (laid_two w t (.slice (some ⟨g, 0, none⟩) X.length cap))
  go_enter Tryz.func20, Tryz.ntmps20
  go_wp2
  generalize (w.alloc (.cells #[.int .i64 t, .slice (some ⟨g, 0, none⟩) X.length cap] 34)).alloc (.cells #[.int .i64 0, .slice none 0 0] 34) = wa at *
  have ha0 := heap_lt LT.out.2.1
  have ha1 := heap_lt LT.out.2.2
  obtain ⟨a0, a1, -, -⟩ := two_cells LT.out.2.1
  obtain ⟨b0, b1, -, -⟩ := two_cells LT.out.2.2
  go_region_held3 (fun w' => w'.cell? ⟨w.heap.size, 0, none⟩ = some (.int .i64 t) ∧ w'.cell? ⟨w.heap.size, 1, none⟩ = some (.slice (some ⟨g, 0, none⟩) X.length cap)) (go_keep)
    ((go_at_call 43; refine (clone_c g cap X wa.drew hl (HR.out.calm (LT.out.1.calm2 (Kept.drew wa)))).mono ?_; rintro e w1 ⟨q, cq, rfl, f1, k1⟩; have F1 := hide f1; have K1 := hide ((Kept.drew wa).calm2 k1); clear f1 k1; have A1 : Hid (w1.heap[w.heap.size]? = some (.cells #[.int .i64 t, .slice (some ⟨g, 0, none⟩) X.length cap] 34 (0, 0))) := (by show _ = _; rw [K1.out.block _ ha0 (fun e => e)]; exact LT.out.2.1); have B1 : Hid (w1.heap[w.heap.size + 1]? = some (.cells #[.int .i64 0, .slice none 0 0] 34 (0, 0))) := (by show _ = _; rw [K1.out.block _ ha1 (fun e => e)]; exact LT.out.2.2); obtain ⟨x0, x1, -, -⟩ := two_cells A1.out; obtain ⟨c0, c1, fz0, fz1⟩ := two_cells B1.out))
  all_goals
    clear a0 a1 b0 b1 x0 x1 c0 c1 fz0 fz1
    obtain ⟨d0, d1, -, -⟩ := two_cells (two_sets B1.out (.int .i64 t) (.slice q X.length cq))
    have hsl := LT.out.1.size
    go_wp2
    refine bodyPost_ret (v := .agg #[.int .i64 t, .slice q X.length cq]) (by simp [results, Tryz.results20, go_sem, d0, d1]) rfl ?_
    refine ⟨q, cq, rfl, ?_, two_kept (LT.out.1.calm2 K1.out) (by omega) _ _⟩
    exact (F1.out.keep (two_sets_kept w1 (w.heap.size + 1) _ _) (fun j off e ej => by have h1 : wa.heap.size ≤ j := (F1.out.new j off e).1; omega)).low (by show w.heap.size ≤ wa.heap.size; omega)

theorem Rec.now {w : World} {rb : Nat} {c0 c1 c2 ad buf : Value} {s : List UInt8} (h : Rec w rb c0 c1 c2 ad buf s) (u v : Value) : Rec ((w.setCell ⟨rb, 1, none⟩ u).setCell ⟨rb, 2, none⟩ v) rb c0 u v ad buf s ∧ Kept (fun k => k = rb) w ((w.setCell ⟨rb, 1, none⟩ u).setCell ⟨rb, 2, none⟩ v) := by
  have k : Kept (fun k => k = rb) w ((w.setCell ⟨rb, 1, none⟩ u).setCell ⟨rb, 2, none⟩ v) := (Kept.setCell w ⟨rb, 1, none⟩ u).join (Kept.setCell _ ⟨rb, 2, none⟩ v) (fun _ _ e => e) (fun _ _ e => e)
  exact ⟨⟨row_set (row_set h.blk 1 u) 2 v, ownsF_block h.own (fun g hg => k.block g (h.own.lt g hg).2 (fun e => h.ne (by rw [hg, e]))), h.self⟩, k⟩

theorem tick_short (cs : List Cmd) (t : Int) (L : List Mob) (ev : Int) (hn : cs.length ≤ 64) (hl : L.length ≤ 32) (hIC : ∀ c ∈ cs, IntC c) (hIM : ∀ m ∈ L, IntM m) : (lineL (tickW cs t L ev)).length ≤ 15001 := by
  have h1 := headW_short cs hn hIC cs.length
  rw [List.take_length] at h1
  have h2 : (∀ x ∈ tickW cs t L ev, Short x) ∧ (tickW cs t L ev).length ≤ 600 := by
    unfold tickW headW
    constructor
    · intro x hx
      rcases List.mem_append.1 hx with hx | hx
      · exact h1.1 x hx
      · split at hx
        · rcases List.mem_cons.1 hx with rfl | hx
          · exact itoaW_short _ (by omega)
          · obtain ⟨m, hm, hx⟩ := List.mem_flatMap.1 hx
            exact entW_short m (hIM m hm) x hx
        · cases hx
    · have h7 := words_len L entW 7 (fun m _ => by simp [entW])
      have h8 : L.length * 7 ≤ 32 * 7 := Nat.mul_le_mul_right 7 hl
      rw [List.length_append]
      split
      · have := h1.2
        simp only [List.length_cons] at this ⊢
        omega
      · have := h1.2
        simp only [List.length_cons, List.length_nil] at this ⊢
        omega
  have h3 := join_short _ h2.1
  unfold lineL
  have := Nat.mul_le_mul_right 25 h2.2
  simp only [List.length_append, List.length_cons, List.length_nil]
  omega

set_option maxHeartbeats 4000000 in
set_option maxRecDepth 100000 in
theorem record_ok (B rb : Nat) (ev t : Int) (p : Option Addr) (cap : Nat) (L : List Mob) (ad buf : Value) (s : List UInt8) (pc : Option Addr) (capc : Nat) (cs : List Cmd) (w : World)
    (hB4 : 6 < B) (_hB2 : 4 < B) (hBr : B ≤ rb) (_hBb : ∀ j, buf.ownBlock = some j → B ≤ j)
    (hrec : Rec w rb (.int .i64 ev) (.int .i64 t) (.slice p L.length cap) ad buf s) (hR : Reads w p L) (hp : p = none → cap = 0) (hC : ReadsC w pc cs) (hT : Tabs w)
    (hb : worldB t L = true) (ht : t ≠ 500) (hn : cs.length ≤ 64) (he : 1 ≤ ev ∧ ev ≤ 64) (hIC : ∀ c ∈ cs, IntC c) (hIM : ∀ m ∈ stepL cs L, IntM m) (hs : s.length ≤ 100000000000000)
    (hCne : ∀ b off, pc = some ⟨b, off, none⟩ → b ≠ rb ∧ buf.ownBlock ≠ some b) :
    Calls Tryz.prog 16 #[.pointer (some ⟨rb, 0, none⟩), .slice pc cs.length capc] w fun e w' => ∃ q cq gN buf', e = .returned (.tuple #[.agg #[.int .i64 (t + 1), .slice q (stepL cs L).length cq], .int .i64 0]) ∧
      Fresh w' w.heap.size q (stepL cs L).length cq (stepL cs L) ∧ Rec w' rb (.int .i64 ev) (.int .i64 (t + 1)) (.slice (some ⟨gN, 0, none⟩) (stepL cs L).length 32) (.pointer (some ⟨rb, 3, none⟩)) buf' (s ++ lineL (tickW cs (t + 1) (stepL cs L) ev)) ∧
      Reads w' (some ⟨gN, 0, none⟩) (stepL cs L) ∧ typ w' gN 63 ∧ w.heap.size ≤ gN ∧ (∀ j off, q = some ⟨j, off, none⟩ → gN < j) ∧ (∀ j, buf'.ownBlock = some j → buf.ownBlock = some j ∨ w.heap.size ≤ j) ∧ Kept (fun j => j = rb ∨ buf.ownBlock = some j) w w' := by
  obtain ⟨ht0, ht1, hF⟩ := worldB_fine hb
  have hsh := hF.short
  have hNx := worldB_next cs hb ht
  have hshX := (worldB_fine hNx).2.2.short
  have HREC := hide hrec
  have HR := hide hR
  have HC := hide hC
  have HT := hide hT
  have HIC := hide hIC
  have HIM := hide hIM
  have hrbl := heap_lt hrec.blk
  clear hrec hR hC hT hIC hIM hF hNx
  have K0 := hide (Kept.alloc w (.cells #[.int .i64 0, .slice none 0 0] 34))
  have HA := hide (heap_alloc_new w (.cells #[.int .i64 0, .slice none 0 0] 34))
  obtain ⟨d0, d1, d2, d3, d4, df⟩ := five_cells (HREC.out.calm K0.out).blk
  go_enter Tryz.func16, Tryz.ntmps16
  go_wp2_with fail
  generalize w.alloc (.cells #[.int .i64 0, .slice none 0 0] 34) = wa at *
  refine (step_ok t p pc cap capc L cs wa (by omega) (HR.out.calm K0.out) hp (HC.out.calm1 K0.out) hb ht hn).mono ?_
  rintro e w1 ⟨gN, cur, hgN, rfl, q1, k1⟩
  have Q1 := hide q1
  have K1 := hide k1
  clear q1 k1 d0 d1 d2 d3 d4 df
  generalize hXe : stepL cs L = X at *
  have HXE := hide hXe
  clear hXe
  have hsa := K0.out.size
  have K01 := hide (K0.out.calm2 K1.out)
  have R1 := hide (HREC.out.calm K01.out)
  obtain ⟨d0, d1, d2, d3, d4, df⟩ := five_cells R1.out.blk
  have RN := hide (R1.out.now (.int .i64 (t + 1)) (.slice (some ⟨gN, 0, none⟩) X.length 32))
  have hw1 := K01.out.size
  have hNb := heap_lt Q1.out.blk
  have hgr : gN ≠ rb := typ_ne (typ_blk Q1.out.blk) (typ_blk R1.out.blk) (by decide)
  have A1 : Hid (w1.heap[w.heap.size]? = some (.cells #[.int .i64 0, .slice none 0 0] 34 (0, 0))) := by show _ = _; rw [K1.out.block _ (heap_lt HA.out) (fun e => e)]; exact HA.out
  have hza := heap_lt A1.out
  have hrb1 : rb < w1.heap.size := by omega
  have hrb2 : rb ≠ w1.heap.size := by omega
  have hrb3 : w1.heap.size ≠ rb := by omega
  go_wp2
  have KT := hide (Kept.alloc ((w1.setCell ⟨rb, 1, none⟩ (.int .i64 (t + 1))).setCell ⟨rb, 2, none⟩ (.slice (some ⟨gN, 0, none⟩) X.length 32)) (.cells #[.int .i64 (t + 1), .slice (some ⟨gN, 0, none⟩) X.length 32] 34))
  have HT6 := hide (heap_alloc_new ((w1.setCell ⟨rb, 1, none⟩ (.int .i64 (t + 1))).setCell ⟨rb, 2, none⟩ (.slice (some ⟨gN, 0, none⟩) X.length 32)) (.cells #[.int .i64 (t + 1), .slice (some ⟨gN, 0, none⟩) X.length 32] 34))
  have hsz6 : ((w1.setCell ⟨rb, 1, none⟩ (.int .i64 (t + 1))).setCell ⟨rb, 2, none⟩ (.slice (some ⟨gN, 0, none⟩) X.length 32)).heap.size = w1.heap.size := by simp
  clear d0 d1 d2 d3 d4 df
  rw [hsz6] at HT6
  generalize ((w1.setCell ⟨rb, 1, none⟩ (.int .i64 (t + 1))).setCell ⟨rb, 2, none⟩ (.slice (some ⟨gN, 0, none⟩) X.length 32)).alloc (.cells #[.int .i64 (t + 1), .slice (some ⟨gN, 0, none⟩) X.length 32] 34) = w2 at *
  have K12 : Hid (Kept (fun j => j = rb) w1 w2) := RN.out.2.join KT.out (fun _ _ e => e) (fun _ _ e => e.elim)
  have R2 := hide (RN.out.1.calm KT.out)
  have Q2 : Hid (EntAt w2 gN X cur) := Q1.out.keep K12.out hgr
  have KW2 : Hid (Kept (fun j => j = rb) w w2) := K01.out.join K12.out (fun _ _ e => e.elim) (fun _ _ e => e)
  have TW2 : Hid (Tabs w2) := HT.out.keep KW2.out (by omega) (by omega)
  have C2 : Hid (ReadsC w2 pc cs) := HC.out.keep KW2.out (fun b off e _ => (hCne b off e).1)
  have A2 : Hid (w2.heap[w.heap.size]? = some (.cells #[.int .i64 0, .slice none 0 0] 34 (0, 0))) := by show _ = _; rw [K12.out.block _ hza (by omega)]; exact A1.out
  have hs12 := K12.out.size
  have hT6 := heap_lt HT6.out
  clear RN KT K12 A1 Q1 R1 K1 K0
  have CE : Hid (∀ w', Kept (fun _ => False) w2 w' → w'.cell? ⟨w1.heap.size, 0, none⟩ = some (.int .i64 (t + 1)) ∧ w'.cell? ⟨w1.heap.size, 1, none⟩ = some (.slice (some ⟨gN, 0, none⟩) X.length 32) ∧ w'.cell? ⟨rb, 0, none⟩ = some (.int .i64 ev)) := fun w' hk => by
    obtain ⟨e0, e1, -, -⟩ := two_cells (show w'.heap[w1.heap.size]? = some _ by rw [hk.block _ hT6 (fun e => e)]; exact HT6.out)
    exact ⟨e0, e1, (five_cells (R2.out.calm hk).blk).1⟩
  obtain ⟨s0, s1, s2⟩ := CE.out w2 (Kept.refl _ _)
  have hle := tick_short cs (t + 1) X ev hn (by omega) HIC.out HIM.out
  have hsz7 : s.length + (⟨(lineL (tickW cs (t + 1) X ev)).toArray⟩ : ByteArray).size ≤ 140737488355328 := by
    have h2 : (⟨(lineL (tickW cs (t + 1) X ev)).toArray⟩ : ByteArray).size = (lineL (tickW cs (t + 1) X ev)).length := by show (lineL (tickW cs (t + 1) X ev)).toArray.size = _; simp
    rw [h2]; omega
  go_region_held3 (fun w' => w'.cell? ⟨w1.heap.size, 0, none⟩ = some (.int .i64 (t + 1)) ∧ w'.cell? ⟨w1.heap.size, 1, none⟩ = some (.slice (some ⟨gN, 0, none⟩) X.length 32) ∧ w'.cell? ⟨rb, 0, none⟩ = some (.int .i64 ev)) (go_keep)
    (first
      | (go_at_call 32; refine (tickLine_c pc capc cs (t + 1) (some ⟨gN, 0, none⟩) 32 X ev w2.drew hn (by omega) (C2.out.calm1 (Kept.drew w2)) (Q2.out.reads.calm (Kept.drew w2)) HIC.out HIM.out he (by omega) (TW2.out.calm (Kept.drew w2))).mono ?_; rintro e w3 ⟨rfl, k3⟩; have K3 := hide ((Kept.drew w2).calm2 k3); clear k3; obtain ⟨u0, u1, u2⟩ := CE.out w3 K3.out)
      | (go_at_call 28; refine (write_c rb _ _ _ ad buf s ⟨(lineL (tickW cs (t + 1) X ev)).toArray⟩ w3 (R2.out.calm K3.out) hsz7).mono ?_; rintro e w4 ⟨rfl, buf', r4, k4, m4⟩; have R4 := hide r4; have K4 := hide k4; have M4 := hide m4; clear r4 k4 m4; obtain ⟨v2, -, -, -, -, -⟩ := five_cells R4.out.blk; obtain ⟨v0, v1, -, -⟩ := two_cells (show w4.heap[w1.heap.size]? = some (.cells #[.int .i64 (t + 1), .slice (some ⟨gN, 0, none⟩) X.length 32] 34 (0, 0)) by rw [K4.out.block _ (Nat.lt_of_lt_of_le hT6 K3.out.size) (fun e => by rcases e with e | e; (· exact hrb3 e); (· exact typ_ne (typ_ownF (R2.out.calm K3.out).own _ e) (typ_keep (typ_blk HT6.out) K3.out (fun e => e)) (by decide) rfl)), K3.out.block _ hT6 (fun e => e)]; exact HT6.out)))
  have hs3 := K3.out.size
  have hs4 := K4.out.size
  have nS : Hid (∀ j T, T ≠ 83 → T ≠ 5 → typ w2 j T → ¬ (j = rb ∨ buf.ownBlock = some j)) := fun j T h1 h2 ht e => by
    rcases e with e | e
    · rw [e] at ht
      exact typ_ne ht (typ_blk R2.out.blk) h1 rfl
    · exact typ_ne (typ_ownF R2.out.own _ e) ht (fun e => h2 e.symm) rfl
  have K24 : Hid (Kept (fun j => j = rb ∨ buf.ownBlock = some j) w2 w4) := K3.out.join K4.out (fun _ _ e => e.elim) (fun _ _ e => e)
  have Q4 : Hid (Reads w4 (some ⟨gN, 0, none⟩) X) := Q2.out.reads.keep K24.out (fun b off e => by cases e; exact nS.out gN _ (by decide) (by decide) (typ_blk Q2.out.blk))
  have TG4 : Hid (typ w4 gN 63) := typ_keep (typ_blk Q2.out.blk) K24.out (nS.out gN _ (by decide) (by decide) (typ_blk Q2.out.blk))
  have A4 : Hid (w4.heap[w.heap.size]? = some (.cells #[.int .i64 0, .slice none 0 0] 34 (0, 0))) := by show _ = _; rw [K24.out.block _ (heap_lt A2.out) (nS.out _ _ (by decide) (by decide) (typ_blk A2.out))]; exact A2.out
  have KW4 : Hid (Kept (fun j => j = rb ∨ buf.ownBlock = some j) w w4) := KW2.out.join K24.out (fun _ _ e => Or.inl e) (fun _ _ e => e)
  clear s0 s1 s2 u0 u1 u2 CE
  go_wp2_with fail
  refine (copyOf_c (t + 1) gN 32 X w4 (by omega) Q4.out).mono ?_
  rintro e w5 ⟨q, cq, rfl, f5, k5⟩
  have F5 := hide f5
  have K5 := hide k5
  have A5 : Hid (w5.heap[w.heap.size]? = some (.cells #[.int .i64 0, .slice none 0 0] 34 (0, 0))) := by show _ = _; rw [k5.block _ (heap_lt A4.out) (fun e => e)]; exact A4.out
  clear f5 k5 v0 v1 v2
  obtain ⟨c0, c1, fz0, fz1⟩ := two_cells A5.out
  obtain ⟨d0, d1, -, -⟩ := two_cells (two_sets A5.out (.int .i64 (t + 1)) (.slice q X.length cq))
  go_wp2
  refine bodyPost_ret (v := .tuple #[.agg #[.int .i64 (t + 1), .slice q X.length cq], .int .i64 0]) (by simp [results, Tryz.results16, go_sem, d0, d1]) rfl ?_
  have KS := two_sets_kept w5 w.heap.size (.int .i64 (t + 1)) (.slice q X.length cq)
  have hgN4 := typ_lt TG4.out
  rw [HXE.out]
  refine ⟨q, cq, gN, buf', rfl, ?_, ?_, ?_, ?_, by omega, fun j off e => ?_, fun j hj => ?_, ?_⟩
  · exact (F5.out.keep KS (fun j off e ej => by have := (F5.out.new j off e).1; omega)).low (by omega)
  · have := (R4.out.calm K5.out).keep KS (by omega) (fun j hj e => typ_ne (typ_keep (typ_ownF R4.out.own j hj) K5.out (fun e => e)) (typ_blk A5.out) (by decide) e)
    simpa using this
  · exact (Q4.out.calm K5.out).keep KS (fun b off e ej => by cases e; exact typ_ne (typ_keep TG4.out K5.out (fun e => e)) (typ_blk A5.out) (by decide) ej)
  · exact typ_keep (typ_keep TG4.out K5.out (fun e => e)) KS (fun ej => typ_ne (typ_keep TG4.out K5.out (fun e => e)) (typ_blk A5.out) (by decide) ej)
  · have := (F5.out.new j off e).1; omega
  · rcases M4.out j hj with e | e
    · exact Or.inl e
    · exact Or.inr (by omega)
  · exact (KW4.out.join K5.out (fun _ _ e => e) (fun _ _ e => e.elim)).join KS (fun _ _ e => e) (fun j hj e => by omega)
end Go.Proofs.YtlfmfhmbkpnjbabGreatDoor

namespace Go.Proofs.YtlfmfhmbkpnjbabGreatDoor
open Go.RowKit
/-- Which of m things a raw number speaks of. -/
def pickN_keep (c : Int) (m : Nat) : Nat := ((if c < 0 then -(c + 1) else c).tmod m).toNat

theorem pickN_lt_keep (c : Int) (m : Nat) (hm : 0 < m) : pickN_keep c m < m := by
  have h0 : 0 ≤ (if c < 0 then -(c + 1) else c) := by split <;> omega
  have h1 := Int.tmod_lt_of_pos (if c < 0 then -(c + 1) else c) (show (0 : Int) < m by omega)
  have h2 := Int.tmod_nonneg (m : Int) h0
  unfold pickN_keep
  omega

theorem pickN_cast_keep (c : Int) (m : Nat) : ((pickN_keep c m : Nat) : Int) = (if c < 0 then -(c + 1) else c).tmod m := by
  have h0 : 0 ≤ (if c < 0 then -(c + 1) else c) := by split <;> omega
  have h2 := Int.tmod_nonneg (m : Int) h0
  unfold pickN_keep
  omega

set_option maxHeartbeats 400000 in
theorem pick_keep (c M : Int) (m : Nat) (w : World) (h1 : -9223372036854775808 ≤ c) (h2 : c ≤ 9223372036854775807) (hM : M = m) (hm : 0 < m) (hm2 : m ≤ 1000000000) :
    Calls Tryz.prog 13 #[.int .i64 c, .int .i64 M] w fun e w' => e = .returned (.int .i64 (pickN_keep c m)) ∧ w' = w := by
  subst hM
  have hp := hide (pickN_cast_keep c m)
  have hm0 : ((m : Int) == 0) = false := by simp; omega
  by_cases hc : c < 0
  · go_enter Tryz.func13, Tryz.ntmps13
    go_wp2
    go_ret
    refine ⟨ret1 ?_, rfl⟩
    show Value.int .i64 (-((c + 1).tmod m)) = _
    rw [hp.out, if_pos hc, Int.neg_tmod]
  · go_enter Tryz.func13, Tryz.ntmps13
    go_wp2
    go_ret
    refine ⟨ret1 ?_, rfl⟩
    show Value.int .i64 (c % m) = _
    rw [hp.out, if_neg (by omega), Int.tmod_eq_emod_of_nonneg hc]
end Go.Proofs.YtlfmfhmbkpnjbabGreatDoor

namespace Go.Proofs.YtlfmfhmbkpnjbabGreatDoor
open Go.RowKit

set_option maxHeartbeats 400000 in
theorem raw_c (p : Option Addr) (n cap i : Nat) (w : World) (h : RI w p n) :
    Calls Tryz.prog 58 #[.slice p n cap, .int .i64 i] w fun e w' => ∃ r, I64 r ∧ e = .returned (.int .i64 r) ∧ w' = w := by
  by_cases hi : i < n
  · obtain ⟨b, off, rfl, _, h3⟩ := h (by omega)
    obtain ⟨z, q1, q2⟩ := h3 i hi
    have Q1 := hide q1
    clear h3 h q1
    have hb1 : (0 : Int) ≤ (i : Int) := by omega
    have hb2 : (i : Int) < (n : Int) := by omega
    go_enter Tryz.func58, Tryz.ntmps58
    go_wp2
    go_ret
    exact ⟨z, Q1.out, rfl, rfl⟩
  · clear h
    go_enter Tryz.func58, Tryz.ntmps58
    go_wp2
    go_ret
    exact ⟨0, by unfold I64; omega, rfl, rfl⟩

theorem pickn_c (c M : Int) (m : Nat) (w : World) (h : -9223372036854775808 ≤ c ∧ c ≤ 9223372036854775807) (hM : M = m) (hm : 0 < m) (hm2 : m ≤ 1000000000) :
    Calls Tryz.prog 13 #[.int .i64 c, .int .i64 M] w fun e w' => ∃ k : Nat, k < m ∧ e = .returned (.int .i64 k) ∧ w' = w :=
  (pick_keep c M m w h.1 h.2 hM hm hm2).mono fun _ _ ⟨h1, h2⟩ => ⟨_, pickN_lt_keep c m hm, h1, h2⟩

set_option maxHeartbeats 2000000 in
set_option maxRecDepth 100000 in
theorem command_c (p : Option Addr) (n cap i : Nat) (w : World) (hi : i ≤ 1000) (h : RI w p n) :
    Calls Tryz.prog 31 #[.slice p n cap, .int .i64 i] w fun e w' => ∃ c : Cmd, e = .returned (.agg #[.int .i64 c.kind, .int .i64 c.id, .int .i64 c.team, .float .f32 c.x, .float .f32 c.y, .int .i64 c.n]) ∧ Kept (fun _ => False) w w' := by
  have H := hide h
  have hsf := store_float Tryz.prog
  have K0 := hide (Kept.alloc w (.cells #[.int .i64 0, .int .i64 0, .int .i64 0, .float .f32 0, .float .f32 0, .int .i64 0] 90))
  clear h
  go_enter Tryz.func31, Tryz.ntmps31
  go_wp2_with fail
  refine (raw_c p n cap i _ (H.out.calm K0.out)).mono ?_
  rintro e w1 ⟨a, ha, rfl, rfl⟩
  have d0 : -9223372036854775808 ≤ a ∧ a ≤ 9223372036854775807 := ha
  have d4 : -9223372036854775808 ≤ a.tdiv 4 ∧ a.tdiv 4 ≤ 9223372036854775807 := i64_tdiv ha 4 (by decide)
  have d24 : -9223372036854775808 ≤ a.tdiv 24 ∧ a.tdiv 24 ≤ 9223372036854775807 := i64_tdiv ha 24 (by decide)
  have d48 : -9223372036854775808 ≤ a.tdiv 48 ∧ a.tdiv 48 ≤ 9223372036854775807 := i64_tdiv ha 48 (by decide)
  have d7 : -9223372036854775808 ≤ a.tdiv 7 ∧ a.tdiv 7 ≤ 9223372036854775807 := i64_tdiv ha 7 (by decide)
  go_wp2_with fail
  refine (pickn_c a 4 4 _ d0 rfl (by decide) (by decide)).mono ?_
  rintro e w1 ⟨k1, lk1, rfl, rfl⟩
  go_wp2_with fail
  refine (pickn_c (a.tdiv 4) 6 6 _ d4 rfl (by decide) (by decide)).mono ?_
  rintro e w1 ⟨k2, lk2, rfl, rfl⟩
  go_wp2_with fail
  refine (pickn_c (a.tdiv 24) 2 2 _ d24 rfl (by decide) (by decide)).mono ?_
  rintro e w1 ⟨k3, lk3, rfl, rfl⟩
  go_wp2_with fail
  refine (pickn_c (a.tdiv 48) 40 40 _ d48 rfl (by decide) (by decide)).mono ?_
  rintro e w1 ⟨k4, lk4, rfl, rfl⟩
  have K1 := hide (K0.out.calm2 (Kept.alloc _ (.cells #[.int .i64 (1 + (k1 : Int)), .int .i64 (k2 : Int), .int .i64 (k3 : Int), .float .f32 0, .float .f32 0, .int .i64 (1 + (k4 : Int))] 90)))
  clear d4 d24 d48
  go_wp2_with fail
  rw [show ((i : Int) + 1) = ((i + 1 : Nat) : Int) from rfl]
  refine (raw_c p n cap (i + 1) _ (H.out.calm K1.out)).mono ?_
  rintro e w1 ⟨a1, ha1, rfl, rfl⟩
  have d1 : -9223372036854775808 ≤ a1 ∧ a1 ≤ 9223372036854775807 := ha1
  go_wp2_with fail
  refine (pickn_c a1 201 201 _ d1 rfl (by decide) (by decide)).mono ?_
  rintro e w1 ⟨k5, l5, rfl, rfl⟩
  have hx := ok_int ((k5 : Int) - 100)
  go_wp2_with fail
  generalize floatOfInt .f32 ((k5 : Int) - 100) = x5 at *
  rw [show ((i : Int) + 2) = ((i + 2 : Nat) : Int) from rfl]
  refine (raw_c p n cap (i + 2) _ (H.out.calm (K0.out.calm2 (Kept.alloc _ _)))).mono ?_
  rintro e w1 ⟨a2, ha2, rfl, rfl⟩
  have d2 : -9223372036854775808 ≤ a2 ∧ a2 ≤ 9223372036854775807 := ha2
  go_wp2_with fail
  refine (pickn_c a2 201 201 _ d2 rfl (by decide) (by decide)).mono ?_
  rintro e w1 ⟨k6, l6, rfl, rfl⟩
  have hy := ok_int ((k6 : Int) - 100)
  go_wp2_with fail
  generalize floatOfInt .f32 ((k6 : Int) - 100) = y5 at *
  refine (pickn_c (a.tdiv 7) 5 5 _ d7 rfl (by decide) (by decide)).mono ?_
  rintro e w1 ⟨k7, l7, rfl, rfl⟩
  have r1 : ∀ w, (binOp .mul 61 (.float .f32 x5) (.float .f32 1092616192)).run Tryz.prog w = .ok (.float .f32 (fmul x5 1092616192)) w := fun w => run_float_arith w .mul _ .f32 _ _ _ (fmul_ok hx ten_pos).1
  have r2 : ∀ w, (binOp .mul 61 (.float .f32 y5) (.float .f32 1092616192)).run Tryz.prog w = .ok (.float .f32 (fmul y5 1092616192)) w := fun w => run_float_arith w .mul _ .f32 _ _ _ (fmul_ok hy ten_pos).1
  clear hx hy d1 d2 d7 K1
  by_cases h7 : k7 = 0
  · subst h7
    go_wp2
    refine bodyPost_ret (v := .agg #[.int .i64 (1 + (k1 : Int)), .int .i64 (k2 : Int), .int .i64 (k3 : Int), .float .f32 (fmul x5 1092616192), .float .f32 (fmul y5 1092616192), .int .i64 (1 + (k4 : Int))]) (by simp [results, Tryz.results31, go_sem]) rfl ?_
    exact ⟨⟨1 + (k1 : Int), k2, k3, (fmul x5 1092616192), (fmul y5 1092616192), 1 + (k4 : Int)⟩, rfl, (Kept.alloc w _).calm2 (Kept.alloc _ _)⟩
  · have h7' : ((k7 : Int) == 0) = false := by simp; omega
    go_wp2
    refine bodyPost_ret (v := .agg #[.int .i64 (1 + (k1 : Int)), .int .i64 (k2 : Int), .int .i64 (k3 : Int), .float .f32 x5, .float .f32 y5, .int .i64 (1 + (k4 : Int))]) (by simp [results, Tryz.results31, go_sem]) rfl ?_
    exact ⟨⟨1 + (k1 : Int), k2, k3, x5, y5, 1 + (k4 : Int)⟩, rfl, (Kept.alloc w _).calm2 (Kept.alloc _ _)⟩

set_option maxHeartbeats 2000000 in
set_option maxRecDepth 100000 in
theorem commands_c (q : Option Addr) (n capq : Nat) (w : World) (hn : (n : Int) ≤ 9223372036854775807) (h : RI w q n) :
    Calls Tryz.prog 15 #[.slice q n capq] w fun e w' => ∃ p cap, ∃ cs : List Cmd, cs.length ≤ 64 ∧ e = .returned (.slice p cs.length cap) ∧ w'.ownsRow w.heap.size 90 6 (.slice p cs.length cap) cs.length (rowC cs) ∧ Kept (fun _ => False) w w' := by
  obtain ⟨i0, hi, hz0, hz1, hz2⟩ := info_parts info_cmd
  have H := hide h
  have hsf := store_float Tryz.prog
  clear h
  go_enter Tryz.func15, Tryz.ntmps15
  go_wp2
  go_loopw [3, 4] (fun s t wr => ∃ p cap, ∃ cs : List Cmd, cs.length ≤ 64 ∧ s = .slice p cs.length cap ∧ t = .int .i64 ((3 * cs.length : Nat) : Int) ∧ Hid (wr.ownsRow w.heap.size 90 6 (.slice p cs.length cap) cs.length (rowC cs)) ∧ Hid (Kept (fun _ => False) w wr)) (fun _ t _ => 1000 - (intOf t).toNat)
  case atStart => exact ⟨none, 0, [], by decide, rfl, rfl, ⟨rfl, Or.inl ⟨rfl, rfl⟩⟩, Kept.refl _ _⟩
  case round =>
    obtain ⟨p, cap, cs, hcs, rfl, rfl, HO, HK⟩ := hrel
    generalize hk : 3 * cs.length = k at *
    by_cases hlt : k < n
    · have hb2 : ((k : Nat) : Int) < (n : Int) := by omega
      by_cases h64 : cs.length < 64
      · have hb3 : ((cs.length : Nat) : Int) < 64 := by omega
        go_wp2_with fail
        refine (command_c q n capq k _ (by omega) (H.out.calm HK.out)).mono ?_
        rintro e w1 ⟨c, rfl, q1⟩
        have K1 := hide (HK.out.calm2 q1)
        have O1 := hide (owns_block HO.out (fun g hg => by exact q1.block g (owns_lt HO.out g hg) (fun e => e)))
        have hbase := (HK.out.calm2 q1).size
        clear q1
        go_wp2_with (at_builtin; refine wpList_append_at _ rfl (.tmp 20) (.tmp 22) 54 rfl w.heap.size 90 i0 (.agg #[.int .i64 0, .int .i64 0, .int .i64 0, .float .f32 0, .float .f32 0, .int .i64 0]) 6 40 Tryz.underlying54 hi hz0 hz1 hz2 rfl (by decide) _ _ _ rfl ((O1.out.alloc _).alloc _) ⟨w1.heap.size + 1, 0, none⟩ 1 1 (rowC [c]) rfl rfl ?c1 (rowC_one [c]) (by decide) ?c3 ?c4 ?c5 ?_)
        case c1 => exact new_cells (w1.alloc (.cells #[.int .i64 c.kind, .int .i64 c.id, .int .i64 c.team, .float .f32 c.x, .float .f32 c.y, .int .i64 c.n] 90)) (rowC [c]) 90 (w1.heap.size + 1) (by simp)
        case c3 => unfold maxLen; omega
        case c4 => omega
        case c5 => simp; omega
        intro g cap' w2 hown hgr
        have O2 : Hid (w2.ownsRow w.heap.size 90 6 (.slice (some ⟨g, 0, none⟩) (cs ++ [c]).length cap') (cs ++ [c]).length (rowC (cs ++ [c]))) := by
          rw [rowC_append, List.length_append]; exact hown
        have K2 : Hid (Kept (fun _ => False) w w2) := by
          refine ((K1.out.calm2 (Kept.alloc w1 _)).calm2 (Kept.alloc _ _)).join (Kept.of_grown hgr) (fun _ _ e => e) (fun j hj e => ?_)
          have := (O1.out.lt j e.symm).1
          omega
        clear hown hgr O1 HO HK K1
        go_wp2
        go_roundw
        case rel => exact ⟨some ⟨g, 0, none⟩, cap', cs ++ [c], by simp; omega, by simp, by simp; omega, O2, K2⟩
        case measure => simp [intOf]; omega
      · have hb3 : ¬ ((cs.length : Nat) : Int) < 64 := by omega
        go_wp2
        go_ret
        exact ⟨p, cap, cs, hcs, rfl, HO.out, HK.out⟩
    · have hb2 : ¬ ((k : Nat) : Int) < (n : Int) := by omega
      go_wp2
      go_ret
      exact ⟨p, cap, cs, hcs, rfl, HO.out, HK.out⟩
end Go.Proofs.YtlfmfhmbkpnjbabGreatDoor
