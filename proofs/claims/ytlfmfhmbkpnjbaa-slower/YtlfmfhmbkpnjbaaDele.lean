import Derived.Test.YtlfmfhmbkpnjbaaInsert
namespace Go.Proofs.Ytlfmfhmbkpnjbaa
open Go.RowKit

theorem del_row (L : List Mob) (cur : List Value) (i : Nat) (hi : i < L.length) (hr : cur.take (L.length * 7) = rowM L) :
    splice cur (i * 7) (rowM (L.drop (i + 1))) = rowM (L.take i ++ L.drop (i + 1)) ++ cur.drop ((L.length - 1) * 7) := by
  have hd : (rowM (L.drop (i + 1))).length = (L.length - (i + 1)) * 7 := by rw [rowM_length, List.length_drop]
  have e2 : cur.take (i * 7) = rowM (L.take i) := by
    rw [← rowM_take, ← hr, List.take_take]; congr 1; omega
  unfold splice
  rw [hd, e2, show i * 7 + (L.length - (i + 1)) * 7 = (L.length - 1) * 7 from by omega, rowM_append, List.append_assoc]

theorem delete_mem {w2 : World} {g : Nat} {L : List Mob} {cur cur2 : List Value} {i : Nat} (hi : i < L.length) (hs : L.length ≤ 32) (hc : cur.length = 224) (hr : cur.take (L.length * 7) = rowM L)
    (h2 : w2.heap[g]? = some (.cells cur2.toArray 57 (0, 0))) (hl : cur2.length = (splice cur (i * 7) (rowM (L.drop (i + 1)))).length) (ht : cur2.take ((L.length - 1) * 7) = (splice cur (i * 7) (rowM (L.drop (i + 1)))).take ((L.length - 1) * 7)) : ∃ cur', EntAt w2 g (L.take i ++ L.drop (i + 1)) cur' := by
  have hn : (L.take i ++ L.drop (i + 1)).length = L.length - 1 := by simp; omega
  rw [del_row L cur i hi hr] at hl ht
  refine ⟨cur2, h2, ?_, ?_, by rw [hn]; omega⟩
  · rw [hl, List.length_append, rowM_length, hn, List.length_drop, hc]; omega
  · rw [hn, ht, show (L.length - 1) * 7 = (rowM (L.take i ++ L.drop (i + 1))).length from by rw [rowM_length, hn], List.take_left]

set_option maxHeartbeats 2000000 in
set_option maxRecDepth 100000 in
theorem delete_at (g i : Nat) (L : List Mob) (cur : List Value) (w : World) (hil : i < L.length) (h : EntAt w g L cur) (a20 : ¬ i = 31) :
    Calls Try.prog 76 #[.slice (some ⟨g, 0, none⟩) L.length 32, .int .i64 i, .int .i64 (i + 1)] w fun e w' =>
      e = .returned (.slice (some ⟨g, 0, none⟩) (L.length - 1) 32) ∧ (∃ cur', EntAt w' g (L.take i ++ L.drop (i + 1)) cur') ∧ Kept (fun k => k = g) w w' := by
  obtain ⟨i0, hi, hz0, hz1, hz2⟩ := info_parts info_mob
  have S1 : Hid (w.drew.heap[g]? = some (.cells cur.toArray 57 (0, 0))) := h.blk
  have S2 : Hid (∀ j u, (rowM (L.drop (i + 1)))[j]? = some u → w.drew.cell? ((⟨g, (i + 1) * 7, none⟩ : Addr).add j) = some u) := fun j u hu => by
    rw [addr_add2]
    exact h.cellAt ((i + 1) * 7 + j) u (by rw [← List.getElem?_drop, rowM_drop]; exact hu)
  have S3 : Hid ((rowM (L.drop (i + 1))).length = (L.length - (i + 1)) * 7) := by show _ = _; rw [rowM_length, List.length_drop]
  have hsh := h.short
  have S4 : Hid (i * 7 + (rowM (L.drop (i + 1))).length ≤ cur.length) := by show _ ≤ _; rw [S3.out, h.len]; omega
  have S5 : Hid (∀ u ∈ rowM (L.drop (i + 1)), u.oneCell' = true) := rowM_one _
  have S7 : Hid ((splice cur (i * 7) (rowM (L.drop (i + 1)))).length = 224) := by show _ = _; rw [length_splice _ _ _ S4.out, h.len]
  have H := hide h
  clear h
  have hbe : ((i : Int) == (i : Int) + 1) = false := by simp; omega
  have a1 : IntKind.i64.wrap ((i : Int) + 1) = (i : Int) + 1 := wrap_id _ (by omega)
  have a2 : (0 : Int) ≤ (i : Int) + 1 := by omega
  have a3 : (i : Int) + 1 ≤ (L.length : Int) := by omega
  have a4 : ((i : Int) + 1).toNat = i + 1 := by omega
  have a5 : (i : Int) ≤ (L.length : Int) := by omega
  have a6 : i + (L.length - (i + 1)) = L.length - 1 := by omega
  have a9 : ¬ (32 : Nat) = i := by omega
  have a10 : (i : Int) ≤ (i : Int) + 1 := by omega
  have a11 : (i : Int) ≤ 32 := by omega
  have a12 : (L.length : Int) ≤ 32 := by omega
  have a13 : L.length - (L.length - 1) = 1 := by omega
  have a14 : ¬ (32 : Nat) = L.length - 1 := by omega
  have a15 : ((L.length - 1 : Nat) : Int) ≤ (L.length : Int) := by omega
  have a16 : (0 : Int) ≤ ((L.length - 1 : Nat) : Int) := by omega
  have a17 : ((L.length - 1 : Nat) : Int) ≤ 32 := by omega
  go_enter Try.func76, Try.ntmps76
  go_wp2
  go_region_law (refine step_append_here rfl (.tmp 22) (.tmp 25) 38 rfl 57 i0 7 Try.underlying38 hi hz1 g i 32 cur S1.out (by simp [Act.eval, Act.put]) ⟨g, (i + 1) * 7, none⟩ (L.length - (i + 1)) (32 - (i + 1)) (by simp [Act.eval, Act.put]) (rowM (L.drop (i + 1))) S3.out S2.out S5.out (by omega) S4.out ?_; intro w1 HG1 HK1)
  have S8 : Hid ((L.length - 1) * 7 + 1 * 7 ≤ (splice cur (i * 7) (rowM (L.drop (i + 1)))).length) := by show _ ≤ _; rw [S7.out]; omega
  go_wp2_with (refine wpList_clear_here _ rfl (.tmp 31) 38 rfl 57 i0 (.agg #[.int .i64 0, .int .i64 0, .float .f32 0, .float .f32 0, .float .f32 0, .float .f32 0, .int .i64 0]) Try.underlying38 hi hz0 (by decide) (by decide) g ((L.length - 1) * 7) 1 (32 - (L.length - 1)) (by simp [Act.eval]) (splice cur (i * 7) (rowM (L.drop (i + 1)))) 57 HG1.out S8.out ?_)
  intro w2 cur2 HG2 HL2 HK2
  go_wp2
  go_ret
  exact ⟨rfl, delete_mem hil hsh H.out.len H.out.row HG2.out HL2.out.1 HL2.out.2, ((Kept.drew w).join HK1.out (R := fun k => k = g) (fun _ _ e => e.elim) (fun _ _ e => e)).join HK2.out (fun _ _ e => e) (fun _ _ e => e)⟩

set_option maxHeartbeats 2000000 in
set_option maxRecDepth 100000 in
theorem delete_last (g : Nat) (L : List Mob) (cur : List Value) (w : World) (hl : L.length = 32) (h : EntAt w g L cur) :
    Calls Try.prog 76 #[.slice (some ⟨g, 0, none⟩) 32 32, .int .i64 31, .int .i64 32] w fun e w' =>
      e = .returned (.slice (some ⟨g, 0, none⟩) 31 32) ∧ (∃ cur', EntAt w' g (L.take 31 ++ L.drop (31 + 1)) cur') ∧ Kept (fun k => k = g) w w' := by
  obtain ⟨i0, hi, hz0, hz1, hz2⟩ := info_parts info_mob
  have S1 : Hid (w.drew.heap[g]? = some (.cells cur.toArray 57 (0, 0))) := h.blk
  have E : L.drop (31 + 1) = [] := List.drop_eq_nil_of_le (by omega)
  have S2 : Hid (∀ j u, ([] : List Value)[j]? = some u → w.drew.cell? ((⟨g, 0, none⟩ : Addr).add j) = some u) := fun j u hu => by simp at hu
  have S4 : Hid (31 * 7 + ([] : List Value).length ≤ cur.length) := by show _ ≤ _; rw [h.len]; decide
  have S7 : Hid ((splice cur (31 * 7) []).length = 224) := by show _ = _; rw [length_splice _ _ _ S4.out, h.len]
  have H := hide h
  have HL := hide hl
  have HE := hide E
  clear h hl E
  go_enter Try.func76, Try.ntmps76
  go_wp2
  go_region_law (refine step_append_here rfl (.tmp 22) (.tmp 25) 38 rfl 57 i0 7 Try.underlying38 hi hz1 g 31 32 cur S1.out (by simp [Act.eval, Act.put]) ⟨g, 0, none⟩ 0 0 (by simp [Act.eval, Act.put]) [] rfl S2.out (by simp) (by omega) S4.out ?_; intro w1 HG1 HK1)
  have S8 : Hid (31 * 7 + 1 * 7 ≤ (splice cur (31 * 7) []).length) := by show _ ≤ _; rw [S7.out]; decide
  go_wp2_with (refine wpList_clear_here _ rfl (.tmp 31) 38 rfl 57 i0 (.agg #[.int .i64 0, .int .i64 0, .float .f32 0, .float .f32 0, .float .f32 0, .float .f32 0, .int .i64 0]) Try.underlying38 hi hz0 (by decide) (by decide) g (31 * 7) 1 1 (by simp [Act.eval]) (splice cur (31 * 7) []) 57 HG1.out S8.out ?_)
  intro w2 cur2 HG2 HL2 HK2
  go_wp2
  go_ret
  have hE : rowM (L.drop (31 + 1)) = [] := by rw [HE.out]; rfl
  refine ⟨rfl, delete_mem (cur := cur) (cur2 := cur2) (by rw [HL.out]; decide) (by rw [HL.out]; decide) H.out.len H.out.row HG2.out ?_ ?_, ((Kept.drew w).join HK1.out (R := fun k => k = g) (fun _ _ e => e.elim) (fun _ _ e => e)).join HK2.out (fun _ _ e => e) (fun _ _ e => e)⟩
  · rw [hE]; exact HL2.out.1
  · rw [hE, HL.out]; exact HL2.out.2

theorem delete_c (g i : Nat) (L : List Mob) (cur : List Value) (w : World) (hil : i < L.length) (h : EntAt w g L cur) :
    Calls Try.prog 76 #[.slice (some ⟨g, 0, none⟩) L.length 32, .int .i64 i, .int .i64 (i + 1)] w fun e w' =>
      e = .returned (.slice (some ⟨g, 0, none⟩) (L.length - 1) 32) ∧ (∃ cur', EntAt w' g (L.take i ++ L.drop (i + 1)) cur') ∧ Kept (fun k => k = g) w w' := by
  by_cases e : i = 31
  · subst e
    have hl : L.length = 32 := by have := h.short; omega
    rw [hl]
    exact delete_last g L cur w hl h
  · exact delete_at g i L cur w hil h e

set_option maxHeartbeats 400000 in
theorem isDown_c (m : Mob) (w : World) : Calls Try.prog 51 #[.agg #[.int .i64 m.id, .int .i64 m.team, .float .f32 m.x, .float .f32 m.y, .float .f32 m.vx, .float .f32 m.vy, .int .i64 m.health]] w fun e w' => e = .returned (.bool (decide (m.health ≤ 0))) ∧ Kept (fun _ => False) w w' := by
  go_enter Try.func51, Try.ntmps51
  go_wp2
  go_ret
  exact ⟨rfl, Kept.alloc w _⟩

/-- The first that has no health left, or the list's length. -/
def idxD : List Mob → Nat
  | [] => 0
  | m :: r => if m.health ≤ 0 then 0 else idxD r + 1
theorem idxD_le (L : List Mob) : idxD L ≤ L.length := by
  induction L with
  | nil => simp [idxD]
  | cons m r ih => simp only [idxD, List.length_cons]; split <;> omega
theorem idxD_hit (L : List Mob) (i : Nat) (h : i < L.length) (hi : i ≤ idxD L) (e : L[i].health ≤ 0) : idxD L = i := by
  induction L generalizing i with
  | nil => simp at h
  | cons p r ih =>
    cases i with
    | zero => simp at e; simp [idxD, e]
    | succ m =>
      simp only [idxD] at hi ⊢
      split
      · rename_i q; simp [q] at hi
      · rename_i q; simp only [q, if_false] at hi; simp only [List.getElem_cons_succ] at e; rw [ih m (by simpa using h) (by omega) e]
theorem idxD_miss (L : List Mob) (i : Nat) (h : i < L.length) (hi : i ≤ idxD L) (e : ¬ L[i].health ≤ 0) : i + 1 ≤ idxD L := by
  induction L generalizing i with
  | nil => simp at h
  | cons p r ih =>
    cases i with
    | zero => simp only [List.getElem_cons_zero] at e; simp only [idxD, e, if_false]; omega
    | succ m =>
      simp only [idxD] at hi ⊢
      split
      · rename_i q; simp [q] at hi
      · rename_i q; simp only [q, if_false] at hi; simp only [List.getElem_cons_succ] at e; have := ih m (by simpa using h) (by omega) e; omega

def idxR (L : List Mob) : Int := if idxD L < L.length then (idxD L : Int) else -1

set_option maxHeartbeats 1000000 in
set_option maxRecDepth 100000 in
theorem indexFunc_c (g : Nat) (L : List Mob) (cur : List Value) (w : World) (h : EntAt w g L cur) :
    Calls Try.prog 77 #[.slice (some ⟨g, 0, none⟩) L.length 32, .func (.func 51) #[] #[]] w fun e w' => e = .returned (.int .i64 (idxR L)) ∧ Kept (fun _ => False) w w' := by
  have hsh := h.short
  have HR := hide h
  clear h
  go_enter Try.func77, Try.ntmps77
  go_wp2
  go_loopw [8] (fun t wr => ∃ i : Nat, i ≤ L.length ∧ i ≤ idxD L ∧ t = .int .i64 i ∧ Hid (Kept (fun _ => False) w wr)) (fun t _ => L.length - (intOf t).toNat)
  case atStart => exact ⟨0, Nat.zero_le _, Nat.zero_le _, rfl, Kept.refl _ _⟩
  case round =>
    obtain ⟨i, hil, hix, rfl, HK⟩ := hrel
    by_cases hlt : i < L.length
    · obtain ⟨c0, c1, c2, c3, c4, c5, c6⟩ := (HR.out.calm HK.out).at i hlt
      have hb1 : (0 : Int) ≤ (i : Int) := by omega
      have hb2 : (i : Int) < (L.length : Int) := by omega
      by_cases hd : L[i].health ≤ 0
      · have H : Hid ((idxR L) = (i : Int)) := by
          show _ = _
          unfold idxR
          rw [idxD_hit L i hlt hix hd, if_pos hlt]
        go_wp2_with fail
        refine (isDown_c L[i] _).mono ?_
        rintro e w1 ⟨rfl, q1⟩
        have HK1 := hide (HK.out.calm2 q1)
        clear q1 c0 c1 c2 c3 c4 c5 c6
        go_wp2
        go_ret
        exact ⟨ret1 (by rw [H.out]; rfl), HK1.out⟩
      · have HI : Hid (i + 1 ≤ idxD L) := idxD_miss L i hlt hix hd
        go_wp2_with fail
        refine (isDown_c L[i] _).mono ?_
        rintro e w1 ⟨rfl, q1⟩
        have HK1 := hide (HK.out.calm2 q1)
        clear q1 c0 c1 c2 c3 c4 c5 c6
        go_wp2
        go_roundw
        case rel => exact ⟨i + 1, by omega, HI.out, by go_num, HK1⟩
        case measure => simp [intOf]; omega
    · have H : Hid ((idxR L) = -1) := by
        show _ = _
        unfold idxR
        rw [if_neg (by omega)]
      go_wp2
      go_ret
      exact ⟨ret1 (by rw [H.out]; rfl), HK.out⟩
end Go.Proofs.Ytlfmfhmbkpnjbaa
