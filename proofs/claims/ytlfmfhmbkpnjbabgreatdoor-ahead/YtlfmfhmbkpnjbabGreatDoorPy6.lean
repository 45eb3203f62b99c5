import Derived.Test.YtlfmfhmbkpnjbabGreatDoorPy5
import Derived.Test.YtlfmfhmbkpnjbabGreatDoorPy2
namespace Go.Proofs.YtlfmfhmbkpnjbabGreatDoor
open Go.RowKit

theorem del_row (L : List Mob) (cur : List Value) (i : Nat) (hi : i < L.length) (hr : cur.take (L.length * 7) = rowM L) :
    splice cur (i * 7) (rowM (L.drop (i + 1))) = rowM (L.take i ++ L.drop (i + 1)) ++ cur.drop ((L.length - 1) * 7) := by
  have hd : (rowM (L.drop (i + 1))).length = (L.length - (i + 1)) * 7 := by rw [rowM_length, List.length_drop]
  have e2 : cur.take (i * 7) = rowM (L.take i) := by
    rw [← rowM_take, ← hr, List.take_take]; congr 1; omega
  unfold splice
  rw [hd, e2, show i * 7 + (L.length - (i + 1)) * 7 = (L.length - 1) * 7 from by omega, rowM_append, List.append_assoc]

theorem delete_mem {w2 : World} {g : Nat} {L : List Mob} {cur cur2 : List Value} {i : Nat} (hi : i < L.length) (hs : L.length ≤ 32) (hc : cur.length = 224) (hr : cur.take (L.length * 7) = rowM L)
    (h2 : w2.heap[g]? = some (.cells cur2.toArray 63 (0, 0))) (hl : cur2.length = (splice cur (i * 7) (rowM (L.drop (i + 1)))).length) (ht : cur2.take ((L.length - 1) * 7) = (splice cur (i * 7) (rowM (L.drop (i + 1)))).take ((L.length - 1) * 7)) : ∃ cur', EntAt w2 g (L.take i ++ L.drop (i + 1)) cur' := by
  have hn : (L.take i ++ L.drop (i + 1)).length = L.length - 1 := by simp; omega
  rw [del_row L cur i hi hr] at hl ht
  refine ⟨cur2, h2, ?_, ?_, by rw [hn]; omega⟩
  · rw [hl, List.length_append, rowM_length, hn, List.length_drop, hc]; omega
  · rw [hn, ht, show (L.length - 1) * 7 = (rowM (L.take i ++ L.drop (i + 1))).length from by rw [rowM_length, hn], List.take_left]

set_option maxHeartbeats 2000000 in
set_option maxRecDepth 100000 in
theorem delete_at (g i : Nat) (L : List Mob) (cur : List Value) (w : World) (hil : i < L.length) (h : EntAt w g L cur) (a20 : ¬ i = 31) :
    Calls Tryz.prog 65 #[.slice (some ⟨g, 0, none⟩) L.length 32, .int .i64 i, .int .i64 (i + 1)] w fun e w' =>
      e = .returned (.slice (some ⟨g, 0, none⟩) (L.length - 1) 32) ∧ (∃ cur', EntAt w' g (L.take i ++ L.drop (i + 1)) cur') ∧ Kept (fun k => k = g) w w' := by
  obtain ⟨i0, hi, hz0, hz1, hz2⟩ := info_parts info_mob
  have S1 : Hid (w.drew.heap[g]? = some (.cells cur.toArray 63 (0, 0))) := h.blk
  have S2 : Hid (∀ j u, (rowM (L.drop (i + 1)))[j]? = some u → w.drew.cell? ((⟨g, (i + 1) * 7, none⟩ : Addr).add j) = some u) := fun j u hu => by
    rw [addr_add2]
    exact h.cellAt ((i + 1) * 7 + j) u (by rw [← List.getElem?_drop, rowM_drop]; exact hu)
  have S3 : Hid ((rowM (L.drop (i + 1))).length = (L.length - (i + 1)) * 7) := by show _ = _; rw [rowM_length, List.length_drop]
  have hsh := h.short
  have S4 : Hid (i * 7 + (rowM (L.drop (i + 1))).length ≤ cur.length) := by show _ ≤ _; rw [S3.out, h.len]; omega
  have S5 : Hid (∀ u ∈ rowM (L.drop (i + 1)), u.oneCell' = true) := rowM_one _
  have S7 : Hid ((splice cur (i * 7) (rowM (L.drop (i + 1)))).length = 224) := by show _ = _; rw [length_splice _ _ _ S4.out, h.len]
  have H := hide h
  clear h
  have hbe : ((i : Int) == (i : Int) + 1) = false := by simp; omega
  have a1 : IntKind.i64.wrap ((i : Int) + 1) = (i : Int) + 1 := wrap_id _ (by omega)
  have a2 : (0 : Int) ≤ (i : Int) + 1 := by omega
  have a3 : (i : Int) + 1 ≤ (L.length : Int) := by omega
  have a4 : ((i : Int) + 1).toNat = i + 1 := by omega
  have a5 : (i : Int) ≤ (L.length : Int) := by omega
  have a6 : i + (L.length - (i + 1)) = L.length - 1 := by omega
  have a9 : ¬ (32 : Nat) = i := by omega
  have a10 : (i : Int) ≤ (i : Int) + 1 := by omega
  have a11 : (i : Int) ≤ 32 := by omega
  have a12 : (L.length : Int) ≤ 32 := by omega
  have a13 : L.length - (L.length - 1) = 1 := by omega
  have a14 : ¬ (32 : Nat) = L.length - 1 := by omega
  have a15 : ((L.length - 1 : Nat) : Int) ≤ (L.length : Int) := by omega
  have a16 : (0 : Int) ≤ ((L.length - 1 : Nat) : Int) := by omega
  have a17 : ((L.length - 1 : Nat) : Int) ≤ 32 := by omega
  go_enter Tryz.func65, Tryz.ntmps65
  go_wp2
  go_region_law (refine step_append_here rfl (.tmp 22) (.tmp 25) 32 rfl 63 i0 7 Tryz.underlying32 hi hz1 g i 32 cur S1.out (by simp [Act.eval, Act.put]) ⟨g, (i + 1) * 7, none⟩ (L.length - (i + 1)) (32 - (i + 1)) (by simp [Act.eval, Act.put]) (rowM (L.drop (i + 1))) S3.out S2.out S5.out (by omega) S4.out ?_; intro w1 HG1 HK1)
  have S8 : Hid ((L.length - 1) * 7 + 1 * 7 ≤ (splice cur (i * 7) (rowM (L.drop (i + 1)))).length) := by show _ ≤ _; rw [S7.out]; omega
  go_wp2_with (refine wpList_clear_here _ rfl (.tmp 31) 32 rfl 63 i0 (.agg #[.int .i64 0, .int .i64 0, .float .f32 0, .float .f32 0, .float .f32 0, .float .f32 0, .int .i64 0]) Tryz.underlying32 hi hz0 (by decide) (by decide) g ((L.length - 1) * 7) 1 (32 - (L.length - 1)) (by simp [Act.eval]) (splice cur (i * 7) (rowM (L.drop (i + 1)))) 63 HG1.out S8.out ?_)
  intro w2 cur2 HG2 HL2 HK2
  go_wp2
  go_ret
  exact ⟨rfl, delete_mem hil hsh H.out.len H.out.row HG2.out HL2.out.1 HL2.out.2, ((Kept.drew w).join HK1.out (R := fun k => k = g) (fun _ _ e => e.elim) (fun _ _ e => e)).join HK2.out (fun _ _ e => e) (fun _ _ e => e)⟩

set_option maxHeartbeats 2000000 in
set_option maxRecDepth 100000 in
theorem delete_last (g : Nat) (L : List Mob) (cur : List Value) (w : World) (hl : L.length = 32) (h : EntAt w g L cur) :
    Calls Tryz.prog 65 #[.slice (some ⟨g, 0, none⟩) 32 32, .int .i64 31, .int .i64 32] w fun e w' =>
      e = .returned (.slice (some ⟨g, 0, none⟩) 31 32) ∧ (∃ cur', EntAt w' g (L.take 31 ++ L.drop (31 + 1)) cur') ∧ Kept (fun k => k = g) w w' := by
  obtain ⟨i0, hi, hz0, hz1, hz2⟩ := info_parts info_mob
  have S1 : Hid (w.drew.heap[g]? = some (.cells cur.toArray 63 (0, 0))) := h.blk
  have E : L.drop (31 + 1) = [] := List.drop_eq_nil_of_le (by omega)
  have S2 : Hid (∀ j u, ([] : List Value)[j]? = some u → w.drew.cell? ((⟨g, 0, none⟩ : Addr).add j) = some u) := fun j u hu => by simp at hu
  have S4 : Hid (31 * 7 + ([] : List Value).length ≤ cur.length) := by show _ ≤ _; rw [h.len]; decide
  have S7 : Hid ((splice cur (31 * 7) []).length = 224) := by show _ = _; rw [length_splice _ _ _ S4.out, h.len]
  have H := hide h
  have HL := hide hl
  have HE := hide E
  clear h hl E
  go_enter Tryz.func65, Tryz.ntmps65
  go_wp2
  go_region_law (refine step_append_here rfl (.tmp 22) (.tmp 25) 32 rfl 63 i0 7 Tryz.underlying32 hi hz1 g 31 32 cur S1.out (by simp [Act.eval, Act.put]) ⟨g, 0, none⟩ 0 0 (by simp [Act.eval, Act.put]) [] rfl S2.out (by simp) (by omega) S4.out ?_; intro w1 HG1 HK1)
  have S8 : Hid (31 * 7 + 1 * 7 ≤ (splice cur (31 * 7) []).length) := by show _ ≤ _; rw [S7.out]; decide
  go_wp2_with (refine wpList_clear_here _ rfl (.tmp 31) 32 rfl 63 i0 (.agg #[.int .i64 0, .int .i64 0, .float .f32 0, .float .f32 0, .float .f32 0, .float .f32 0, .int .i64 0]) Tryz.underlying32 hi hz0 (by decide) (by decide) g (31 * 7) 1 1 (by simp [Act.eval]) (splice cur (31 * 7) []) 63 HG1.out S8.out ?_)
  intro w2 cur2 HG2 HL2 HK2
  go_wp2
  go_ret
  have hE : rowM (L.drop (31 + 1)) = [] := by rw [HE.out]; rfl
  refine ⟨rfl, delete_mem (cur := cur) (cur2 := cur2) (by rw [HL.out]; decide) (by rw [HL.out]; decide) H.out.len H.out.row HG2.out ?_ ?_, ((Kept.drew w).join HK1.out (R := fun k => k = g) (fun _ _ e => e.elim) (fun _ _ e => e)).join HK2.out (fun _ _ e => e) (fun _ _ e => e)⟩
  · rw [hE]; exact HL2.out.1
  · rw [hE, HL.out]; exact HL2.out.2

theorem delete_c (g i : Nat) (L : List Mob) (cur : List Value) (w : World) (hil : i < L.length) (h : EntAt w g L cur) :
    Calls Tryz.prog 65 #[.slice (some ⟨g, 0, none⟩) L.length 32, .int .i64 i, .int .i64 (i + 1)] w fun e w' =>
      e = .returned (.slice (some ⟨g, 0, none⟩) (L.length - 1) 32) ∧ (∃ cur', EntAt w' g (L.take i ++ L.drop (i + 1)) cur') ∧ Kept (fun k => k = g) w w' := by
  by_cases e : i = 31
  · subst e
    have hl : L.length = 32 := by have := h.short; omega
    rw [hl]
    exact delete_last g L cur w hl h
  · exact delete_at g i L cur w hil h e

set_option maxHeartbeats 400000 in
theorem isDown_c (m : Mob) (w : World) : Calls Tryz.prog 37 #[.agg #[.int .i64 m.id, .int .i64 m.team, .float .f32 m.x, .float .f32 m.y, .float .f32 m.vx, .float .f32 m.vy, .int .i64 m.health]] w fun e w' => e = .returned (.bool (decide (m.health ≤ 0))) ∧ Kept (fun _ => False) w w' := by
  go_enter Tryz.func37, Tryz.ntmps37
  go_wp2
  go_ret
  exact ⟨rfl, Kept.alloc w _⟩

/-- The first that has no health left, or the list's length. -/
def idxD : List Mob → Nat
  | [] => 0
  | m :: r => if m.health ≤ 0 then 0 else idxD r + 1
theorem idxD_le (L : List Mob) : idxD L ≤ L.length := by
  induction L with
  | nil => simp [idxD]
  | cons m r ih => simp only [idxD, List.length_cons]; split <;> omega
theorem idxD_hit (L : List Mob) (i : Nat) (h : i < L.length) (hi : i ≤ idxD L) (e : L[i].health ≤ 0) : idxD L = i := by
  induction L generalizing i with
  | nil => simp at h
  | cons p r ih =>
    cases i with
    | zero => simp at e; simp [idxD, e]
    | succ m =>
      simp only [idxD] at hi ⊢
      split
      · rename_i q; simp [q] at hi
      · rename_i q; simp only [q, if_false] at hi; simp only [List.getElem_cons_succ] at e; rw [ih m (by simpa using h) (by omega) e]
theorem idxD_miss (L : List Mob) (i : Nat) (h : i < L.length) (hi : i ≤ idxD L) (e : ¬ L[i].health ≤ 0) : i + 1 ≤ idxD L := by
  induction L generalizing i with
  | nil => simp at h
  | cons p r ih =>
    cases i with
    | zero => simp only [List.getElem_cons_zero] at e; simp only [idxD, e, if_false]; omega
    | succ m =>
      simp only [idxD] at hi ⊢
      split
      · rename_i q; simp [q] at hi
      · rename_i q; simp only [q, if_false] at hi; simp only [List.getElem_cons_succ] at e; have := ih m (by simpa using h) (by omega) e; omega

def idxR (L : List Mob) : Int := if idxD L < L.length then (idxD L : Int) else -1

set_option maxHeartbeats 1000000 in
set_option maxRecDepth 100000 in
theorem indexFunc_c (g : Nat) (L : List Mob) (cur : List Value) (w : World) (h : EntAt w g L cur) :
    Calls Tryz.prog 66 #[.slice (some ⟨g, 0, none⟩) L.length 32, .func (.func 37) #[] #[]] w fun e w' => e = .returned (.int .i64 (idxR L)) ∧ Kept (fun _ => False) w w' := by
  have hsh := h.short
  have HR := hide h
  clear h
  go_enter Tryz.func66, Tryz.ntmps66
  go_wp2
  go_loopw [8] (fun t wr => ∃ i : Nat, i ≤ L.length ∧ i ≤ idxD L ∧ t = .int .i64 i ∧ Hid (Kept (fun _ => False) w wr)) (fun t _ => L.length - (intOf t).toNat)
  case atStart => exact ⟨0, Nat.zero_le _, Nat.zero_le _, rfl, Kept.refl _ _⟩
  case round =>
    obtain ⟨i, hil, hix, rfl, HK⟩ := hrel
    by_cases hlt : i < L.length
    · obtain ⟨c0, c1, c2, c3, c4, c5, c6⟩ := (HR.out.calm HK.out).at i hlt
      have hb1 : (0 : Int) ≤ (i : Int) := by omega
      have hb2 : (i : Int) < (L.length : Int) := by omega
      by_cases hd : L[i].health ≤ 0
      · have H : Hid ((idxR L) = (i : Int)) := by
          show _ = _
          unfold idxR
          rw [idxD_hit L i hlt hix hd, if_pos hlt]
        go_wp2_with fail
        refine (isDown_c L[i] _).mono ?_
        rintro e w1 ⟨rfl, q1⟩
        have HK1 := hide (HK.out.calm2 q1)
        clear q1 c0 c1 c2 c3 c4 c5 c6
        go_wp2
        go_ret
        exact ⟨ret1 (by rw [H.out]; rfl), HK1.out⟩
      · have HI : Hid (i + 1 ≤ idxD L) := idxD_miss L i hlt hix hd
        go_wp2_with fail
        refine (isDown_c L[i] _).mono ?_
        rintro e w1 ⟨rfl, q1⟩
        have HK1 := hide (HK.out.calm2 q1)
        clear q1 c0 c1 c2 c3 c4 c5 c6
        go_wp2
        go_roundw
        case rel => exact ⟨i + 1, by omega, HI.out, by go_num, HK1⟩
        case measure => simp [intOf]; omega
    · have H : Hid ((idxR L) = -1) := by
        show _ = _
        unfold idxR
        rw [if_neg (by omega)]
      go_wp2
      go_ret
      exact ⟨ret1 (by rw [H.out]; rfl), HK.out⟩
end Go.Proofs.YtlfmfhmbkpnjbabGreatDoor

namespace Go.Proofs.YtlfmfhmbkpnjbabGreatDoor
open Go.RowKit

def liveB (m : Mob) : Bool := !decide (m.health ≤ 0)
def keepL (L : List Mob) : List Mob := L.filter liveB

theorem splice_cons (cur : List Value) (o : Nat) (v : Value) (r : List Value) (h : o < cur.length) : splice cur o (v :: r) = splice (cur.set o v) (o + 1) r := by
  unfold splice
  have e1 : (cur.set o v).take (o + 1) = cur.take o ++ [v] := by
    rw [List.take_set, List.take_succ_eq_append_getElem h, List.set_append_right _ _ (by simp; omega)]
    congr 1
    simp [show o - min o cur.length = 0 by omega]
  rw [e1, List.drop_set_of_lt (by omega), List.length_cons, List.append_assoc, show o + (r.length + 1) = o + 1 + r.length from by omega]
  rfl

theorem setCells_row (g : Nat) (t : TypeId) : ∀ (vs : List Value) (o : Nat) (cur : List Value) (w : World), w.heap[g]? = some (.cells cur.toArray t (0, 0)) → o + vs.length ≤ cur.length →
    (w.setCells g o vs).heap[g]? = some (.cells (splice cur o vs).toArray t (0, 0)) ∧ Kept (fun k => k = g) w (w.setCells g o vs)
  | [], o, cur, w, h, hl => by
    simp only [World.setCells]
    exact ⟨by rw [h]; simp [splice], Kept.refl _ _⟩
  | v :: r, o, cur, w, h, hl => by
    simp only [World.setCells]
    have h1 : (w.setCell ⟨g, o, none⟩ v).heap[g]? = some (.cells (cur.set o v).toArray t (0, 0)) := by
      rw [setCell_eq_setRow w g o _ t (0, 0) v h]
      have := setRow_heap w g cur.toArray (cur.toArray.setIfInBounds o v) t (0, 0) h
      simpa using this
    simp only [List.length_cons] at hl
    obtain ⟨q1, q2⟩ := setCells_row g t r (o + 1) (cur.set o v) _ h1 (by rw [List.length_set]; omega)
    exact ⟨by rw [splice_cons _ _ _ _ (by omega)]; exact q1, (Kept.setCell w _ v).join q2 (fun _ _ e => e) (fun _ _ e => e)⟩

/-- The row while who has no health left is sifted out. -/
structure SiftAt (w : World) (g : Nat) (L : List Mob) (a b : Nat) (cur : List Value) : Prop where
  blk : w.heap[g]? = some (.cells cur.toArray 63 (0, 0))
  len : cur.length = 224
  short : L.length ≤ 32
  ha : a = (keepL (L.take b)).length
  head : cur.take (a * 7) = rowM (keepL (L.take b))
  tail : ∀ j u, (rowM L)[j]? = some u → b * 7 ≤ j → cur[j]? = some u

theorem SiftAt.calm {w w' : World} {g : Nat} {L : List Mob} {a b : Nat} {cur : List Value} (h : SiftAt w g L a b cur) (hk : Kept (fun _ => False) w w') : SiftAt w' g L a b cur :=
  ⟨by rw [hk.block g (heap_lt h.blk) (fun e => e)]; exact h.blk, h.len, h.short, h.ha, h.head, h.tail⟩

theorem SiftAt.at {w : World} {g : Nat} {L : List Mob} {a b : Nat} {cur : List Value} (h : SiftAt w g L a b cur) (hb : b < L.length) :
    w.cell? ⟨g, b * 7, none⟩ = some (.int .i64 L[b].id) ∧ w.cell? ⟨g, b * 7 + 1, none⟩ = some (.int .i64 L[b].team) ∧ w.cell? ⟨g, b * 7 + 2, none⟩ = some (.float .f32 L[b].x) ∧ w.cell? ⟨g, b * 7 + 3, none⟩ = some (.float .f32 L[b].y) ∧
    w.cell? ⟨g, b * 7 + 4, none⟩ = some (.float .f32 L[b].vx) ∧ w.cell? ⟨g, b * 7 + 5, none⟩ = some (.float .f32 L[b].vy) ∧ w.cell? ⟨g, b * 7 + 6, none⟩ = some (.int .i64 L[b].health) := by
  obtain ⟨r0, r1, r2, r3, r4, r5, r6⟩ := rowM_get L b hb
  have c : ∀ j u, (rowM L)[j]? = some u → b * 7 ≤ j → w.cell? ⟨g, j, none⟩ = some u := fun j u h1 h2 => by rw [cell_block h.blk]; simpa using h.tail j u h1 h2
  exact ⟨c _ _ r0 (by omega), c _ _ r1 (by omega), c _ _ r2 (by omega), c _ _ r3 (by omega), c _ _ r4 (by omega), c _ _ r5 (by omega), c _ _ r6 (by omega)⟩

theorem seven_old {w : World} {g : Nat} {cur : List Value} {T : TypeId} (h : w.heap[g]? = some (.cells cur.toArray T (0, 0))) (o : Nat) (ho : o + 7 ≤ cur.length) : ∃ u0 u1 u2 u3 u4 u5 u6,
    w.cell? ⟨g, o, none⟩ = some u0 ∧ w.cell? ⟨g, o + 1, none⟩ = some u1 ∧ w.cell? ⟨g, o + 2, none⟩ = some u2 ∧ w.cell? ⟨g, o + 3, none⟩ = some u3 ∧ w.cell? ⟨g, o + 4, none⟩ = some u4 ∧ w.cell? ⟨g, o + 5, none⟩ = some u5 ∧ w.cell? ⟨g, o + 6, none⟩ = some u6 := by
  have c : ∀ j, (hj : j < cur.length) → w.cell? ⟨g, j, none⟩ = some cur[j] := fun j hj => by rw [cell_block h]; simp [hj]
  exact ⟨_, _, _, _, _, _, _, c _ (by omega), c _ (by omega), c _ (by omega), c _ (by omega), c _ (by omega), c _ (by omega), c _ (by omega)⟩

theorem take_keep (L : List Mob) (b : Nat) (hb : b < L.length) : keepL (L.take (b + 1)) = keepL (L.take b) ++ (if liveB L[b] = true then [L[b]] else []) := by
  unfold keepL
  rw [List.take_succ_eq_append_getElem hb, List.filter_append]
  congr 1
  simp [List.filter_cons]

theorem keep_le (L : List Mob) (b : Nat) : (keepL (L.take b)).length ≤ b := by
  have := List.length_filter_le liveB (L.take b)
  unfold keepL
  rw [List.length_take] at this
  omega

theorem SiftAt.drop {w : World} {g : Nat} {L : List Mob} {a b : Nat} {cur : List Value} (h : SiftAt w g L a b cur) (hb : b < L.length) (hl : liveB L[b] = false) : SiftAt w g L a (b + 1) cur := by
  have e : keepL (L.take (b + 1)) = keepL (L.take b) := by rw [take_keep L b hb, hl]; simp
  exact ⟨h.blk, h.len, h.short, by rw [e]; exact h.ha, by rw [e]; exact h.head, fun j u h1 h2 => h.tail j u h1 (by omega)⟩

theorem SiftAt.put {w w' : World} {g : Nat} {L : List Mob} {a b : Nat} {cur : List Value} (h : SiftAt w g L a b cur) (hb : b < L.length) (hl : liveB L[b] = true)
    (hw : w'.heap[g]? = some (.cells (splice cur (a * 7) (rowM [L[b]])).toArray 63 (0, 0))) : SiftAt w' g L (a + 1) (b + 1) (splice cur (a * 7) (rowM [L[b]])) := by
  have hab : a ≤ b := by rw [h.ha]; exact keep_le L b
  have hs := h.short
  have h7 : (rowM [L[b]]).length = 7 := rfl
  have e : keepL (L.take (b + 1)) = keepL (L.take b) ++ [L[b]] := by rw [take_keep L b hb, hl]; simp
  have hlen : (splice cur (a * 7) (rowM [L[b]])).length = 224 := by rw [length_splice _ _ _ (by rw [h.len, h7]; omega), h.len]
  refine ⟨hw, hlen, h.short, by rw [e, List.length_append, ← h.ha]; rfl, ?_, ?_⟩
  · rw [e, rowM_append]
    unfold splice
    rw [← List.append_assoc, h.head, ← rowM_append, show (a + 1) * 7 = (rowM (keepL (L.take b) ++ [L[b]])).length from by rw [rowM_length, List.length_append, ← h.ha]; rfl, List.take_left, rowM_append]
  · intro j u h1 h2
    have := h.tail j u h1 (by omega)
    unfold splice
    rw [List.getElem?_append_right (by rw [List.length_take, h.len]; omega), List.getElem?_append_right (by rw [List.length_take, h.len, h7]; omega), List.getElem?_drop, List.length_take, h.len, h7]
    rw [show a * 7 + 7 + (j - min (a * 7) 224 - 7) = j from by omega]
    exact this

theorem SiftAt.start {w : World} {g : Nat} {L : List Mob} {cur : List Value} (h : EntAt w g L cur) (hi : idxD L < L.length) : SiftAt w g L (idxD L) (idxD L + 1) cur := by
  have key : ∀ (M : List Mob), idxD M < M.length → keepL (M.take (idxD M + 1)) = M.take (idxD M) ∧ keepL (M.take (idxD M)) = M.take (idxD M) := by
    intro M
    induction M with
    | nil => intro h; simp at h
    | cons m r ih =>
      intro h
      simp only [idxD] at h ⊢
      by_cases q : m.health ≤ 0
      · simp [q, keepL, liveB]
      · simp only [q, if_false] at h ⊢
        have := ih (by simpa using h)
        simp only [keepL] at this
        simp [keepL, liveB, q, this.1, this.2]
  obtain ⟨k1, _⟩ := key L hi
  have hs := h.short
  refine ⟨h.blk, h.len, h.short, by rw [k1, List.length_take]; omega, ?_, ?_⟩
  · rw [k1, ← rowM_take, ← h.row, List.take_take]
    congr 1; omega
  · intro j u h1 _
    have hj := (List.getElem?_eq_some_iff.1 h1).1
    rw [h.split]
    simp [List.getElem?_append_left hj, h1]

theorem SiftAt.fin {w w' : World} {g : Nat} {L : List Mob} {a b : Nat} {cur cur' : List Value} (h : SiftAt w g L a b cur) (hb : L.length ≤ b) (hw : w'.heap[g]? = some (.cells cur'.toArray 63 (0, 0))) (hl : cur'.length = cur.length) (ht : cur'.take (a * 7) = cur.take (a * 7)) :
    EntAt w' g (keepL L) cur' := by
  have e : L.take b = L := List.take_of_length_le hb
  have ha := h.ha
  have hh := h.head
  rw [e] at ha hh
  refine ⟨hw, by rw [hl]; exact h.len, by rw [← ha, ht]; exact hh, ?_⟩
  have := List.length_filter_le liveB L
  have := h.short
  unfold keepL
  omega

theorem idxD_all (L : List Mob) (h : ¬ idxD L < L.length) : keepL L = L := by
  unfold keepL
  rw [List.filter_eq_self]
  induction L with
  | nil => simp
  | cons m r ih =>
    simp only [idxD, List.length_cons] at h
    by_cases q : m.health ≤ 0
    · simp [q] at h
    · simp only [q, if_false] at h
      intro x hx
      rcases List.mem_cons.1 hx with rfl | hx
      · simp [liveB, q]
      · exact ih (by omega) x hx

theorem store7 {w : World} {g : Nat} {cur : List Value} {T : TypeId} (h : w.heap[g]? = some (.cells cur.toArray T (0, 0))) (o : Nat) (m : Mob) (ho : o + 7 ≤ cur.length) :
    (((((((w.setCell ⟨g, o, none⟩ (.int .i64 m.id)).setCell ⟨g, o + 1, none⟩ (.int .i64 m.team)).setCell ⟨g, o + 2, none⟩ (.float .f32 m.x)).setCell ⟨g, o + 3, none⟩ (.float .f32 m.y)).setCell ⟨g, o + 4, none⟩ (.float .f32 m.vx)).setCell ⟨g, o + 5, none⟩ (.float .f32 m.vy)).setCell ⟨g, o + 6, none⟩ (.int .i64 m.health)).heap[g]? = some (.cells (splice cur o (rowM [m])).toArray T (0, 0)) ∧
    Kept (fun k => k = g) w (((((((w.setCell ⟨g, o, none⟩ (.int .i64 m.id)).setCell ⟨g, o + 1, none⟩ (.int .i64 m.team)).setCell ⟨g, o + 2, none⟩ (.float .f32 m.x)).setCell ⟨g, o + 3, none⟩ (.float .f32 m.y)).setCell ⟨g, o + 4, none⟩ (.float .f32 m.vx)).setCell ⟨g, o + 5, none⟩ (.float .f32 m.vy)).setCell ⟨g, o + 6, none⟩ (.int .i64 m.health)) :=
  setCells_row g T (rowM [m]) o cur w h ho

set_option maxHeartbeats 2000000 in
set_option maxRecDepth 100000 in
theorem deleteFunc_c (g : Nat) (L : List Mob) (cur : List Value) (w : World) (h : EntAt w g L cur) :
    Calls Tryz.prog 36 #[.slice (some ⟨g, 0, none⟩) L.length 32, .func (.func 37) #[] #[]] w fun e w' =>
      e = .returned (.slice (some ⟨g, 0, none⟩) (keepL L).length 32) ∧ (∃ cur', EntAt w' g (keepL L) cur') ∧ Kept (fun k => k = g) w w' := by
  by_cases hd : idxD L < L.length
  · obtain ⟨i0, hi, hz0, hz1, hz2⟩ := info_parts info_mob
    have hR : idxR L = (idxD L : Int) := by unfold idxR; rw [if_pos hd]
    have hsh := h.short
    have H := hide h
    have HS := hide (SiftAt.start h hd)
    clear h
    have hsf := store_float Tryz.prog
    go_enter Tryz.func36, Tryz.ntmps36
    go_wp2_with fail
    refine (indexFunc_c g L cur _ H.out).mono ?_
    rw [hR]
    rintro e w1 ⟨rfl, q1⟩
    have HK1 := hide q1
    have HS1 := hide (HS.out.calm q1)
    clear q1 hR HS
    generalize idxD L = d at *
    have hb0 : ((d : Int) == -1) = false := by simp
    go_wp2
    go_loopw [5, 6] (fun s t wr => ∃ a b : Nat, ∃ cu : List Value, a < b ∧ b ≤ L.length ∧ s = .int .i64 a ∧ t = .int .i64 b ∧ Hid (SiftAt wr g L a b cu) ∧ Hid (Kept (fun k => k = g) w wr)) (fun _ t _ => L.length - (intOf t).toNat)
    case atStart => exact ⟨d, d + 1, cur, by omega, by omega, rfl, by go_num, HS1, HK1.out.mono (fun _ _ e => e.elim)⟩
    case round =>
      obtain ⟨a, b, cu, hab, hbl, rfl, rfl, HA, HK⟩ := hrel
      clear HS1
      by_cases hlt : b < L.length
      · obtain ⟨c0, c1, c2, c3, c4, c5, c6⟩ := HA.out.at hlt
        have hg := heap_lt HA.out.blk
        have hb1 : (0 : Int) ≤ (b : Int) := by omega
        have hb2 : (b : Int) < (L.length : Int) := by omega
        have ha1 : (0 : Int) ≤ (a : Int) := by omega
        have ha2 : (a : Int) < (L.length : Int) := by omega
        have HN : Hid ((wr.alloc (.cells #[.int .i64 L[b].id, .int .i64 L[b].team, .float .f32 L[b].x, .float .f32 L[b].y, .float .f32 L[b].vx, .float .f32 L[b].vy, .int .i64 L[b].health] 63)).heap[wr.heap.size]? = some (.cells #[.int .i64 L[b].id, .int .i64 L[b].team, .float .f32 L[b].x, .float .f32 L[b].y, .float .f32 L[b].vx, .float .f32 L[b].vy, .int .i64 L[b].health] 63 (0, 0))) := heap_alloc_new wr _
        have KA : Hid (Kept (fun _ => False) wr (wr.alloc (.cells #[.int .i64 L[b].id, .int .i64 L[b].team, .float .f32 L[b].x, .float .f32 L[b].y, .float .f32 L[b].vx, .float .f32 L[b].vy, .int .i64 L[b].health] 63))) := Kept.alloc wr _
        by_cases hv : L[b].health ≤ 0
        · have HA' : Hid (SiftAt wr g L a (b + 1) cu) := HA.out.drop hlt (by simp [liveB, hv])
          have hdc : decide (L[b].health ≤ 0) = true := by simp [hv]
          go_wp2_with fail
          refine (isDown_c L[b] _).mono ?_
          rw [hdc]
          rintro e w2 ⟨rfl, q2⟩
          have K2 := hide (KA.out.calm2 q2)
          clear q2 c0 c1 c2 c3 c4 c5 c6 HN KA
          go_wp2
          go_roundw
          case rel => exact ⟨a, b + 1, cu, by omega, by omega, rfl, by go_num, HA'.out.calm K2.out, HK.out.join K2.out (fun _ _ e => e) (fun _ _ e => e.elim)⟩
          case measure => simp [intOf]; omega
        · have hdc : decide (L[b].health ≤ 0) = false := by simp [hv]
          go_wp2_with fail
          refine (isDown_c L[b] _).mono ?_
          rw [hdc]
          rintro e w2 ⟨rfl, q2⟩
          have K2 := hide (KA.out.calm2 q2)
          have HA2 := hide (HA.out.calm K2.out)
          have LV : Hid (liveB L[b] = true) := by show liveB L[b] = true; simp [liveB, hv]
          obtain ⟨e0, e1, e2, e3, e4, e5, e6⟩ := seven_cells (show w2.heap[wr.heap.size]? = some (.cells #[.int .i64 L[b].id, .int .i64 L[b].team, .float .f32 L[b].x, .float .f32 L[b].y, .float .f32 L[b].vx, .float .f32 L[b].vy, .int .i64 L[b].health] 63 (0, 0)) by rw [q2.block _ (heap_lt HN.out) (fun e => e)]; exact HN.out)
          have hal : a * 7 + 7 ≤ cu.length := by rw [HA.out.len]; omega
          obtain ⟨u0, u1, u2, u3, u4, u5, u6, f0, f1, f2, f3, f4, f5, f6⟩ := seven_old HA2.out.blk (a * 7) hal
          have ffz : ∀ j, w2.frozen? ⟨g, j, none⟩ = false := fun j => by simp [World.frozen?, HA2.out.blk]
          have ST := hide (store7 HA2.out.blk (a * 7) L[b] hal)
          clear q2 c0 c1 c2 c3 c4 c5 c6 HN KA
          go_wp2
          go_roundw
          case rel => exact ⟨a + 1, b + 1, _, by omega, by omega, by go_num, by go_num, HA2.out.put hlt LV.out ST.out.1, (HK.out.join K2.out (R := fun k => k = g) (fun _ _ e => e) (fun _ _ e => e.elim)).join ST.out.2 (fun _ _ e => e) (fun _ _ e => e)⟩
          case measure => simp [intOf]; omega
      · have hle : a ≤ L.length := by omega
        have a1 : (0 : Int) ≤ (a : Int) := by omega
        have a2 : (a : Int) ≤ (L.length : Int) := by omega
        have a3 : ¬ (32 : Nat) = a := by omega
        have a4 : (a : Int) ≤ 32 := by omega
        have S8 : Hid (a * 7 + (L.length - a) * 7 ≤ cu.length) := by show _ ≤ _; rw [HA.out.len]; omega
        have HL : Hid ((keepL L).length = a) := by
          show _ = _
          have := HA.out.ha
          rw [List.take_of_length_le (by omega)] at this
          exact this.symm
        go_wp2_with (refine wpList_clear_here _ rfl (.tmp 38) 32 rfl 63 i0 (.agg #[.int .i64 0, .int .i64 0, .float .f32 0, .float .f32 0, .float .f32 0, .float .f32 0, .int .i64 0]) Tryz.underlying32 hi hz0 (by decide) (by decide) g (a * 7) (L.length - a) (32 - a) (by simp [Act.eval]) cu 63 HA.out.blk S8.out ?_)
        intro w2 cur2 HG2 HL2 HK2
        go_wp2
        go_ret
        refine ⟨ret1 (by rw [HL.out]; rfl), ⟨cur2, HA.out.fin (by omega) HG2.out HL2.out.1 HL2.out.2⟩, HK.out.join HK2.out (fun _ _ e => e) (fun _ _ e => e)⟩
  · have hR : idxR L = -1 := by unfold idxR; rw [if_neg hd]
    have HE := hide (idxD_all L hd)
    have H := hide h
    clear h hd
    go_enter Tryz.func36, Tryz.ntmps36
    go_wp2_with fail
    refine (indexFunc_c g L cur _ H.out).mono ?_
    rw [hR]
    rintro e w1 ⟨rfl, q1⟩
    have HK1 := hide q1
    clear q1 hR
    go_wp2
    go_ret
    rw [HE.out]
    exact ⟨rfl, ⟨cur, H.out.calm HK1.out⟩, HK1.out.mono (fun _ _ e => e.elim)⟩
end Go.Proofs.YtlfmfhmbkpnjbabGreatDoor

namespace Go.Proofs.YtlfmfhmbkpnjbabGreatDoor
open Go.RowKit Ieee

/-- No NaN; a number. -/
def okV (v : Nat) : Prop := (Ieee.single.read v).isNaN = false
def isNum (v : Nat) : Prop := ∃ s m e, Ieee.single.read v = .number s m e

def fadd (x y : Nat) : Nat := (Ieee.single.add x y).getD 0
def fsub (x y : Nat) : Nat := (Ieee.single.sub x y).getD 0
def fmul (x y : Nat) : Nat := (Ieee.single.mul x y).getD 0

theorem isNum.ok {v : Nat} (h : isNum v) : okV v := by obtain ⟨s, m, e, h⟩ := h; simp [okV, h, Datum.isNaN]

theorem inf_single : Ieee.single.infRung = 2139095040 := by decide
theorem sign_single : Ieee.single.signWeight = 2147483648 := by decide
theorem bin_single : Ieee.single.binade = 8388608 := by decide

theorem read_word (neg : Bool) (rung : Nat) (h : rung ≤ Ieee.single.infRung) : okV (Ieee.single.word neg rung) := by
  have hm : Ieee.single.word neg rung % Ieee.single.signWeight = rung := by
    unfold Format.word
    rw [inf_single] at h
    rw [sign_single]
    split <;> omega
  unfold okV Format.read
  simp only [hm]
  split
  · rfl
  · split
    · rfl
    · split
      · rfl
      · rename_i h1 h2 h3; omega

theorem ok_nearest (neg : Bool) (mag : Nat) (place : Int) : okV (Ieee.single.nearest neg mag place) := by
  unfold Format.nearest
  dsimp only
  split
  · exact read_word _ _ (Nat.zero_le _)
  · exact read_word _ _ (Nat.min_le_right ..)

theorem ok_write {d : Datum} (h : d.isNaN = false) : okV (Ieee.single.write d) := by
  cases d with
  | number s m e => exact ok_nearest s m e
  | infinity s => exact read_word s _ (Nat.le_refl _)
  | nan s t => simp [Datum.isNaN] at h

theorem add_some {x v : Nat} (hx : isNum x) (hv : okV v) : ∃ d, (Ieee.single.read x).sum (Ieee.single.read v) = some d ∧ d.isNaN = false := by
  obtain ⟨s, m, e, hx⟩ := hx
  rw [hx]
  unfold okV at hv
  cases hr : Ieee.single.read v with
  | number t n j => exact ⟨_, rfl, rfl⟩
  | infinity t => exact ⟨_, rfl, rfl⟩
  | nan t f => simp [hr, Datum.isNaN] at hv

theorem add_some' {x v : Nat} (hx : isNum x) (hv : okV v) : ∃ d, (Ieee.single.read v).sum (Ieee.single.read x) = some d ∧ d.isNaN = false := by
  obtain ⟨s, m, e, hx⟩ := hx
  rw [hx]
  unfold okV at hv
  cases hr : Ieee.single.read v with
  | number t n j => exact ⟨_, rfl, rfl⟩
  | infinity t => exact ⟨_, rfl, rfl⟩
  | nan t f => simp [hr, Datum.isNaN] at hv

theorem fadd_ok {x v : Nat} (hx : isNum x) (hv : okV v) : floatBits .add .f32 x v = some (fadd x v) ∧ okV (fadd x v) := by
  obtain ⟨d, h1, h2⟩ := add_some hx hv
  have : Ieee.single.add x v = some (Ieee.single.write d) := by unfold Format.add; rw [h1]; rfl
  have e : fadd x v = Ieee.single.write d := by unfold fadd; rw [this]; rfl
  exact ⟨by rw [e]; exact this, by rw [e]; exact ok_write h2⟩

theorem fadd_ok' {x v : Nat} (hx : isNum x) (hv : okV v) : floatBits .add .f32 v x = some (fadd v x) ∧ okV (fadd v x) := by
  obtain ⟨d, h1, h2⟩ := add_some' hx hv
  have : Ieee.single.add v x = some (Ieee.single.write d) := by unfold Format.add; rw [h1]; rfl
  have e : fadd v x = Ieee.single.write d := by unfold fadd; rw [this]; rfl
  exact ⟨by rw [e]; exact this, by rw [e]; exact ok_write h2⟩

/-- A number that is no zero. -/
def isPos (v : Nat) : Prop := ∃ s m e, Ieee.single.read v = .number s m e ∧ m ≠ 0

theorem fmul_ok {v c : Nat} (hv : okV v) (hc : isPos c) : floatBits .mul .f32 v c = some (fmul v c) ∧ okV (fmul v c) := by
  obtain ⟨s, m, e, hc, hm⟩ := hc
  have key : ∃ d, (Ieee.single.read v).product (Ieee.single.read c) = some d ∧ d.isNaN = false := by
    rw [hc]
    unfold okV at hv
    cases hr : Ieee.single.read v with
    | number t n j => exact ⟨_, rfl, rfl⟩
    | infinity t => exact ⟨.infinity (t ^^ s), by simp [Datum.product, hm], rfl⟩
    | nan t f => simp [hr, Datum.isNaN] at hv
  obtain ⟨d, h1, h2⟩ := key
  have : Ieee.single.mul v c = some (Ieee.single.write d) := by unfold Format.mul; rw [h1]; rfl
  have e : fmul v c = Ieee.single.write d := by unfold fmul; rw [this]; rfl
  exact ⟨by rw [e]; exact this, by rw [e]; exact ok_write h2⟩

theorem half_pos : isPos 3204448256 := ⟨true, 8388608, -24, by decide, by decide⟩
theorem slow_pos : isPos 1061158912 := ⟨false, 12582912, -24, by decide, by decide⟩

/-- What fits a bound is a number. -/
theorem fits_num {x b : Nat} (h : fitsB x b = true) (hb : isNum b) (hn : isNum (Op.negFloat .f32 b)) : isNum x := by
  obtain ⟨s, m, e, hb⟩ := hb
  obtain ⟨s', m', e', hn⟩ := hn
  unfold fitsB fge fle ford at h
  simp only [Bool.and_eq_true] at h
  obtain ⟨h1, h2⟩ := h
  cases hr : Ieee.single.read x with
  | number t n j => exact ⟨t, n, j, hr⟩
  | nan t f =>
    have : FloatKind.f32.format.order x b = none := by
      show (Ieee.single.read x).order (Ieee.single.read b) = none
      rw [hr]; rfl
    rw [this] at h2
    exact absurd h2 (by decide)
  | infinity t =>
    have q2 : FloatKind.f32.format.order x b = some (if t then .lt else .gt) := by
      show (Ieee.single.read x).order (Ieee.single.read b) = _
      rw [hr, hb]; rfl
    have q1 : FloatKind.f32.format.order x (Op.negFloat .f32 b) = some (if t then .lt else .gt) := by
      show (Ieee.single.read x).order (Ieee.single.read _) = _
      rw [hr, hn]; rfl
    rw [q2] at h2
    rw [q1] at h1
    cases t
    · exact absurd h2 (by decide)
    · exact absurd h1 (by decide)

theorem place_num {x : Nat} (h : fitsB x 1148846080 = true) : isNum x := fits_num h ⟨false, 16384000, -14, by decide⟩ ⟨true, 16384000, -14, by decide⟩
theorem push_num {x : Nat} (h : fitsB x 1120403456 = true) : isNum x := fits_num h ⟨false, 13107200, -17, by decide⟩ ⟨true, 13107200, -17, by decide⟩
theorem fin_num {x : Nat} (h : finB x = true) : isNum x := fits_num h ⟨false, 16777215, 104, by decide⟩ ⟨true, 16777215, 104, by decide⟩

/-- The place and the way behind a move. -/
def movedF (x v : Nat) : Nat × Nat :=
  if ford (fadd x v) 3296329728 = some .lt then (3296329728, fmul (fmul v 3204448256) 1061158912)
  else if ford (fadd x v) 1148846080 = some .gt then (1148846080, fmul (fmul v 3204448256) 1061158912)
  else (fadd x v, fmul v 1061158912)

theorem ford_beq {x y : Nat} {o : Ordering} (h : ford x y = some o) : (FloatKind.f32.format.order x y == some o) = true := by
  show (ford x y == some o) = true
  rw [h]; cases o <;> rfl
theorem ford_bne {x y : Nat} {o : Ordering} (h : ¬ ford x y = some o) : (FloatKind.f32.format.order x y == some o) = false := by
  show (ford x y == some o) = false
  rw [beq_eq_false_iff_ne]; exact h

set_option maxHeartbeats 400000 in
theorem moved_c (x v : Nat) (w : World) (hx : isNum x) (hv : okV v) : Calls Tryz.prog 67 #[.float .f32 x, .float .f32 v] w fun e w' => e = .returned (.tuple #[.float .f32 (movedF x v).1, .float .f32 (movedF x v).2]) ∧ w' = w := by
  obtain ⟨f1, -⟩ := fadd_ok hx hv
  obtain ⟨f2, o2⟩ := fmul_ok hv half_pos
  obtain ⟨f3, -⟩ := fmul_ok o2 slow_pos
  obtain ⟨f4, -⟩ := fmul_ok hv slow_pos
  have r1 : (binOp .add 61 (.float .f32 x) (.float .f32 v)).run Tryz.prog w = .ok (.float .f32 (fadd x v)) w := run_float_arith w .add _ .f32 x v _ f1
  have r2 : (binOp .mul 61 (.float .f32 v) (.float .f32 3204448256)).run Tryz.prog w = .ok (.float .f32 (fmul v 3204448256)) w := run_float_arith w .mul _ .f32 v _ _ f2
  have r3 : (binOp .mul 61 (.float .f32 (fmul v 3204448256)) (.float .f32 1061158912)).run Tryz.prog w = .ok (.float .f32 (fmul (fmul v 3204448256) 1061158912)) w := run_float_arith w .mul _ .f32 _ _ _ f3
  have r4 : (binOp .mul 61 (.float .f32 v) (.float .f32 1061158912)).run Tryz.prog w = .ok (.float .f32 (fmul v 1061158912)) w := run_float_arith w .mul _ .f32 v _ _ f4
  clear f1 f2 f3 f4 o2
  by_cases h1 : ford (fadd x v) 3296329728 = some .lt
  · have H : Hid (movedF x v = (3296329728, fmul (fmul v 3204448256) 1061158912)) := by show _ = _; unfold movedF; rw [if_pos h1]
    have b1 := ford_beq h1
    clear h1
    go_enter Tryz.func67, Tryz.ntmps67
    go_wp2
    go_ret2
    exact ⟨ret2 (by rw [H.out]; rfl) (by rw [H.out]; rfl), rfl⟩
  · have b1 := ford_bne h1
    by_cases h2 : ford (fadd x v) 1148846080 = some .gt
    · have H : Hid (movedF x v = (1148846080, fmul (fmul v 3204448256) 1061158912)) := by show _ = _; unfold movedF; rw [if_neg h1, if_pos h2]
      have b2 := ford_beq h2
      clear h1 h2
      go_enter Tryz.func67, Tryz.ntmps67
      go_wp2
      go_ret2
      exact ⟨ret2 (by rw [H.out]; rfl) (by rw [H.out]; rfl), rfl⟩
    · have H : Hid (movedF x v = (fadd x v, fmul v 1061158912)) := by show _ = _; unfold movedF; rw [if_neg h1, if_neg h2]
      have b2 := ford_bne h2
      clear h1 h2
      go_enter Tryz.func67, Tryz.ntmps67
      go_wp2
      go_ret2
      exact ⟨ret2 (by rw [H.out]; rfl) (by rw [H.out]; rfl), rfl⟩
end Go.Proofs.YtlfmfhmbkpnjbabGreatDoor
