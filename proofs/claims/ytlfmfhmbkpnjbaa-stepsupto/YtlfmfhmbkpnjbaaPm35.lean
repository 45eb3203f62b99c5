import Derived.Test.YtlfmfhmbkpnjbaaPm32
import Derived.Test.YtlfmfhmbkpnjbaaPm26
import Derived.Test.YtlfmfhmbkpnjbaaPm31
import Derived.Test.YtlfmfhmbkpnjbaaPm17
namespace Go.Proofs.Ytlfmfhmbkpnjbaa
open Go.RowKit

/-- A list of entities that the reference owns. -/
def OwnE (w : World) (base : Nat) (p : Option Addr) (cap : Nat) (L : List Mob) : Prop :=
  (p = none ∧ cap = 0 ∧ L = []) ∨ ∃ g cur, p = some ⟨g, 0, none⟩ ∧ base ≤ g ∧ cap ≤ maxLen ∧ RowAt w g L cap cur

theorem OwnE.row {w : World} {base : Nat} {p : Option Addr} {cap : Nat} {L : List Mob} (h : OwnE w base p cap L) : w.ownsRow base 57 7 (.slice p L.length cap) L.length (rowM L) := by
  refine ⟨rowM_length L, ?_⟩
  rcases h with ⟨rfl, rfl, rfl⟩ | ⟨g, cur, rfl, hb, hc, hr⟩
  · exact Or.inl ⟨rfl, rfl⟩
  · exact Or.inr ⟨g, cap, cur.toArray, rfl, hb, hr.blk, hr.short, hc, by simpa using hr.len, by simpa using hr.row⟩

theorem OwnE.of {w : World} {base : Nat} {v : Value} {L : List Mob} (h : w.ownsRow base 57 7 v L.length (rowM L)) : ∃ p cap, v = .slice p L.length cap ∧ OwnE w base p cap L := by
  rcases h.2 with ⟨rfl, h0⟩ | ⟨g, cap, cur, rfl, hb, hh, h1, h2, h3, h4⟩
  · have e := List.eq_nil_of_length_eq_zero h0
    exact ⟨none, 0, by rw [h0], Or.inl ⟨rfl, rfl, e⟩⟩
  · exact ⟨_, cap, rfl, Or.inr ⟨g, cur.toList, rfl, hb, h2, by simpa using hh, by simpa using h3, h4, h1⟩⟩

theorem OwnE.nil (w : World) (base : Nat) : OwnE w base none 0 [] := Or.inl ⟨rfl, rfl, rfl⟩
theorem OwnE.reads {w : World} {base : Nat} {p : Option Addr} {cap : Nat} {L : List Mob} (h : OwnE w base p cap L) : Reads w p L := owns_reads h.row
theorem OwnE.cap0 {w : World} {base : Nat} {p : Option Addr} {cap : Nat} {L : List Mob} (h : OwnE w base p cap L) : p = none → cap = 0 := by
  rcases h with ⟨_, h, _⟩ | ⟨g, cur, rfl, _⟩
  · exact fun _ => h
  · intro e; cases e
theorem OwnE.lt {w : World} {base : Nat} {p : Option Addr} {cap : Nat} {L : List Mob} (h : OwnE w base p cap L) (j : Nat) (hj : HB p j) : base ≤ j ∧ j < w.heap.size := by
  obtain ⟨off, e⟩ := hj
  rcases h with ⟨rfl, _, _⟩ | ⟨g, cur, rfl, hb, _, hr⟩
  · cases e
  · cases e; exact ⟨hb, heap_lt hr.blk⟩
theorem OwnE.typs {w : World} {base : Nat} {p : Option Addr} {cap : Nat} {L : List Mob} (h : OwnE w base p cap L) (j : Nat) (hj : HB p j) : typ w j 57 := by
  obtain ⟨off, e⟩ := hj
  rcases h with ⟨rfl, _, _⟩ | ⟨g, cur, rfl, hb, _, hr⟩
  · cases e
  · cases e; exact typ_blk hr.blk
theorem OwnE.keep {w w' : World} {S : Nat → Prop} {base : Nat} {p : Option Addr} {cap : Nat} {L : List Mob} (h : OwnE w base p cap L) (hk : Kept S w w') (hS : ∀ j, HB p j → ¬ S j) : OwnE w' base p cap L := by
  rcases h with h | ⟨g, cur, h1, h2, h3, h4⟩
  · exact Or.inl h
  · exact Or.inr ⟨g, cur, h1, h2, h3, by rw [hk.block g (heap_lt h4.blk) (hS g ⟨0, h1⟩)]; exact h4.blk, h4.len, h4.row, h4.short⟩
theorem OwnE.calm {w w' : World} {base : Nat} {p : Option Addr} {cap : Nat} {L : List Mob} (h : OwnE w base p cap L) (hk : Kept (fun _ => False) w w') : OwnE w' base p cap L := h.keep hk (fun _ _ e => e)
theorem OwnE.low {w : World} {base base' : Nat} {p : Option Addr} {cap : Nat} {L : List Mob} (h : OwnE w base p cap L) (hb : base' ≤ base) : OwnE w base' p cap L := by
  rcases h with h | ⟨g, cur, h1, h2, h3⟩
  · exact Or.inl h
  · exact Or.inr ⟨g, cur, h1, Nat.le_trans hb h2, h3⟩
theorem OwnE.there {w : World} {base : Nat} {p : Option Addr} {cap : Nat} {L : List Mob} (h : OwnE w base p cap L) (q : Nat) (hq : q < L.length) : ∃ g cur, p = some ⟨g, 0, none⟩ ∧ base ≤ g ∧ cap ≤ maxLen ∧ RowAt w g L cap cur := by
  rcases h with ⟨_, _, rfl⟩ | h
  · simp at hq
  · exact h

theorem RowAt.store {w : World} {g cap : Nat} {L L' : List Mob} {cur : List Value} (h : RowAt w g L cap cur) (j : Nat) (u : Value) (hl : L'.length = L.length) (hr : (rowM L).set j u = rowM L') :
    RowAt (w.setCell ⟨g, j, none⟩ u) g L' cap (cur.set j u) := by
  refine ⟨?_, by simpa using h.len, ?_, by rw [hl]; exact h.short⟩
  · rw [setCell_eq_setRow w g j _ 57 (0, 0) u h.blk]
    have := setRow_heap w g cur.toArray (cur.toArray.setIfInBounds j u) 57 (0, 0) h.blk
    simpa using this
  · rw [hl, ← hr, ← h.row, List.take_set]
theorem RowAt.warm {w : World} {g cap : Nat} {L : List Mob} {cur : List Value} (h : RowAt w g L cap cur) (j : Nat) : w.frozen? ⟨g, j, none⟩ = false := by simp [World.frozen?, h.blk]
theorem RowAt.calm' {w w' : World} {g cap : Nat} {L : List Mob} {cur : List Value} (h : RowAt w g L cap cur) (hk : Kept (fun _ => False) w w') : RowAt w' g L cap cur :=
  ⟨by rw [hk.block g (heap_lt h.blk) (fun e => e)]; exact h.blk, h.len, h.row, h.short⟩

theorem RowAt.at7 {w : World} {g cap : Nat} {L : List Mob} {cur : List Value} (h : RowAt w g L cap cur) (i : Nat) (hi : i < L.length) :
    w.cell? ⟨g, i * 7, none⟩ = some (.int .i64 L[i].id) ∧ w.cell? ⟨g, i * 7 + 1, none⟩ = some (.int .i64 L[i].team) ∧ w.cell? ⟨g, i * 7 + 2, none⟩ = some (.float .f32 L[i].x) ∧ w.cell? ⟨g, i * 7 + 3, none⟩ = some (.float .f32 L[i].y) ∧
    w.cell? ⟨g, i * 7 + 4, none⟩ = some (.float .f32 L[i].vx) ∧ w.cell? ⟨g, i * 7 + 5, none⟩ = some (.float .f32 L[i].vy) ∧ w.cell? ⟨g, i * 7 + 6, none⟩ = some (.int .i64 L[i].health) := by
  have hne : L ≠ [] := by intro e; subst e; simp at hi
  obtain ⟨b, off, e, _, h3⟩ := h.reads hne
  obtain ⟨rfl, rfl⟩ : g = b ∧ 0 = off := by simpa using e
  have h4 : ∀ j u, (rowM L)[j]? = some u → w.cell? ⟨g, j, none⟩ = some u := fun j u hu => by have := h3 j u hu; rwa [Nat.zero_add] at this
  obtain ⟨r0, r1, r2, r3, r4, r5, r6⟩ := rowM_get L i hi
  exact ⟨h4 _ _ r0, h4 _ _ r1, h4 _ _ r2, h4 _ _ r3, h4 _ _ r4, h4 _ _ r5, h4 _ _ r6⟩

/-- append of any list to one's own. -/
theorem wpList_append_list (w : World) {ops : Array Oper} {rest : List Oper} {o : Oper} {a : Act} {Q : Exit → Act → World → Prop} (hgd : o.guard = none) (s x : Operand)
    (ho : o.op = .call { callee := .builtin .append, args := #[s, x], argTypes := #[38, 38] }) (base : Nat) (p : Option Addr) (cap : Nat) (M : List Mob) (hs : a.eval s = .slice p M.length cap) (hown : OwnE w base p cap M)
    (q : Option Addr) (c : Nat) (A : List Mob) (hx : a.eval x = .slice q A.length c) (hq : q = none → c = 0) (hr : Reads w q A) (hb : M.length + A.length ≤ 1000) (hbase : base ≤ w.heap.size)
    (h : ∀ p' cap' w' R, Hid (R = M ++ A) → Hid (OwnE w' base p' cap' R) → Hid (Kept (HB p) w w') → wpList Try.prog ops Q rest (a.put o.dst (.slice p' R.length cap')) w') :
    wpList Try.prog ops Q (o :: rest) a w := by
  obtain ⟨i0, hi, hz0, hz1, hz2⟩ := info_parts info_mob
  have fin : ∀ v' w', w'.ownsRow base 57 7 v' (M.length + A.length) (rowM M ++ rowM A) → w.grownBy w' (Value.slice p M.length cap).ownBlock → wpList Try.prog ops Q rest (a.put o.dst v') w' := by
    intro v' w' ho' hg'
    rw [← rowM_append, ← List.length_append] at ho'
    obtain ⟨p', cap', rfl, hw⟩ := OwnE.of ho'
    refine h p' cap' w' (M ++ A) rfl hw ((Kept.of_grown hg').mono ?_ : Kept _ _ _)
    intro k _ e
    rcases hown with ⟨rfl, _, _⟩ | ⟨g, cur, rfl, _⟩
    · cases e
    · cases e; exact ⟨0, rfl⟩
  cases q with
  | none =>
    obtain rfl := hq rfl
    have hA : A = [] := by
      by_cases e : A = []
      · exact e
      · obtain ⟨_, _, e2, _⟩ := hr e; cases e2
    subst hA
    refine wpList_append_own_none hgd s x 38 ho base 57 i0 7 Try.underlying38 hi _ M.length (rowM M) hs hown.row hx ?_
    refine fin _ w (by simpa [rowM] using hown.row) ?_
    exact ⟨rfl, rfl, rfl, Nat.le_refl _, fun _ _ _ => rfl⟩
  | some ad =>
    by_cases hA : A = []
    · subst hA
      refine wpList_append_own w hgd s x 38 ho base 57 i0 _ 7 40 Try.underlying38 hi hz0 hz1 hz2 rfl (by decide) _ M.length (rowM M) hs hown.row ad 0 c [] hx rfl (fun j u hu => by simp at hu) (fun u hu => by simp at hu) (by unfold maxLen; omega) (by omega) hbase ?_
      intro v' w' ho' hg' _
      exact fin v' w' ho' hg'
    · obtain ⟨b, off, e, hbs, hcell⟩ := hr hA
      obtain rfl : ad = ⟨b, off, none⟩ := by simpa using e
      refine wpList_append_own w hgd s x 38 ho base 57 i0 _ 7 40 Try.underlying38 hi hz0 hz1 hz2 rfl (by decide) _ M.length (rowM M) hs hown.row ⟨b, off, none⟩ A.length c (rowM A) hx (rowM_length A) (fun j u hu => by rw [addr_add2]; exact hcell j u hu) (rowM_one A) (by unfold maxLen; omega) (by omega) hbase ?_
      intro v' w' ho' hg' _
      exact fin v' w' ho' hg'

set_option maxHeartbeats 1000000 in
set_option maxRecDepth 100000 in
theorem rmove_c (x v : Nat) (w : World) (hx : isNum x) (hv : okV v) : Calls Try.prog 55 #[.float .f32 x, .float .f32 v] w fun e w' => e = .returned (.tuple #[.float .f32 (movedF x v).1, .float .f32 (movedF x v).2]) ∧ w' = w := by
  obtain ⟨f1, -⟩ := fadd_ok hx hv
  obtain ⟨f2, o2⟩ := fmul_ok hv half_pos
  obtain ⟨f3, -⟩ := fmul_ok o2 slow_pos
  obtain ⟨f4, -⟩ := fmul_ok hv slow_pos
  have r1 : (binOp .add 54 (.float .f32 x) (.float .f32 v)).run Try.prog w = .ok (.float .f32 (fadd x v)) w := run_float_arith w .add _ .f32 x v _ f1
  have r2 : (binOp .mul 54 (.float .f32 v) (.float .f32 3204448256)).run Try.prog w = .ok (.float .f32 (fmul v 3204448256)) w := run_float_arith w .mul _ .f32 v _ _ f2
  have r3 : (binOp .mul 54 (.float .f32 (fmul v 3204448256)) (.float .f32 1061158912)).run Try.prog w = .ok (.float .f32 (fmul (fmul v 3204448256) 1061158912)) w := run_float_arith w .mul _ .f32 _ _ _ f3
  have r4 : (binOp .mul 54 (.float .f32 v) (.float .f32 1061158912)).run Try.prog w = .ok (.float .f32 (fmul v 1061158912)) w := run_float_arith w .mul _ .f32 v _ _ f4
  clear f1 f2 f3 f4 o2
  by_cases h1 : ford (fadd x v) 3296329728 = some .lt
  · have H : Hid (movedF x v = (3296329728, fmul (fmul v 3204448256) 1061158912)) := by show _ = _; unfold movedF; rw [if_pos h1]
    have b1 := ford_beq h1
    clear h1
    go_enter Try.func55, Try.ntmps55
    go_wp2
    go_ret2
    exact ⟨ret2 (by rw [H.out]; rfl) (by rw [H.out]; rfl), rfl⟩
  · have b1 := ford_bne h1
    by_cases h2 : ford (fadd x v) 1148846080 = some .gt
    · have H : Hid (movedF x v = (1148846080, fmul (fmul v 3204448256) 1061158912)) := by show _ = _; unfold movedF; rw [if_neg h1, if_pos h2]
      have b2 := ford_beq h2
      clear h1 h2
      go_enter Try.func55, Try.ntmps55
      go_wp2
      go_ret2
      exact ⟨ret2 (by rw [H.out]; rfl) (by rw [H.out]; rfl), rfl⟩
    · have H : Hid (movedF x v = (fadd x v, fmul v 1061158912)) := by show _ = _; unfold movedF; rw [if_neg h1, if_neg h2]
      have b2 := ford_bne h2
      clear h1 h2
      go_enter Try.func55, Try.ntmps55
      go_wp2
      go_ret2
      exact ⟨ret2 (by rw [H.out]; rfl) (by rw [H.out]; rfl), rfl⟩
end Go.Proofs.Ytlfmfhmbkpnjbaa

namespace Go.Proofs.Ytlfmfhmbkpnjbaa
open Go.RowKit

def insM (L : List Mob) (m : Mob) : List Mob := L.take (findI L m.id) ++ m :: L.drop (findI L m.id)

theorem findI_before (L : List Mob) (id : Int) (i : Nat) (hi : i < findI L id) (hl : i < L.length) : L[i].id < id :=
  findI_lt L id L[i] (by rw [List.mem_take_iff_getElem]; exact ⟨i, by omega, rfl⟩)

theorem Reads.drop {w : World} {b off : Nat} {L : List Mob} (h : Reads w (some ⟨b, off, none⟩) L) (i : Nat) : Reads w (some ⟨b, off + i * 7, none⟩) (L.drop i) := fun hne => by
  have hi : i < L.length := by
    by_cases e : i < L.length
    · exact e
    · exact absurd (List.drop_eq_nil_of_le (by omega)) hne
  obtain ⟨b', off', e, h2, h3⟩ := h (by intro e; subst e; simp at hi)
  obtain ⟨rfl, rfl⟩ : b = b' ∧ off = off' := by simpa using e
  refine ⟨b, _, rfl, h2, fun j u hu => ?_⟩
  rw [← rowM_drop, List.getElem?_drop] at hu
  rw [show off + i * 7 + j = off + (i * 7 + j) from by omega]
  exact h3 _ u hu
theorem Reads.take {w : World} {p : Option Addr} {L : List Mob} (h : Reads w p L) (i : Nat) : Reads w p (L.take i) := by
  have e : L = L.take i ++ L.drop i := (List.take_append_drop i L).symm
  rw [e] at h
  exact Reads.pre h

set_option maxHeartbeats 4000000 in
set_option maxRecDepth 100000 in
theorem rput_c (base : Nat) (p : Option Addr) (cap : Nat) (L : List Mob) (m : Mob) (w : World) (hl : L.length ≤ 100) (h : OwnE w base p cap L) :
    Calls Try.prog 80 #[.slice p L.length cap, .agg #[.int .i64 m.id, .int .i64 m.team, .float .f32 m.x, .float .f32 m.y, .float .f32 m.vx, .float .f32 m.vy, .int .i64 m.health]] w fun e w' =>
      ∃ p' cap', e = .returned (.slice p' (insM L m).length cap') ∧ OwnE w' w.heap.size p' cap' (insM L m) ∧ Kept (fun _ => False) w w' := by
  have hsf := store_float Try.prog
  have HO := hide h
  clear h
  have K0 := hide (Kept.alloc w (.cells #[.int .i64 m.id, .int .i64 m.team, .float .f32 m.x, .float .f32 m.y, .float .f32 m.vx, .float .f32 m.vy, .int .i64 m.health] 57))
  have HN := hide (heap_alloc_new w (.cells #[.int .i64 m.id, .int .i64 m.team, .float .f32 m.x, .float .f32 m.y, .float .f32 m.vx, .float .f32 m.vy, .int .i64 m.health] 57))
  go_enter Try.func80, Try.ntmps80
  go_wp2
  generalize w.alloc (.cells #[.int .i64 m.id, .int .i64 m.team, .float .f32 m.x, .float .f32 m.y, .float .f32 m.vx, .float .f32 m.vy, .int .i64 m.health] 57) = W at *
  have hW := heap_lt HN.out
  go_loopw [5, 6] (fun s a wr => ∃ i : Nat, ∃ p' cap', ∃ M : List Mob, i ≤ findI L m.id ∧ Hid (M = L.take i) ∧ a = .int .i64 i ∧ s = .slice p' M.length cap' ∧ Hid (OwnE wr W.heap.size p' cap' M) ∧ Hid (Kept (fun _ => False) W wr)) (fun _ a _ => L.length - (intOf a).toNat)
  case atStart => exact ⟨0, none, 0, [], Nat.zero_le _, rfl, rfl, rfl, OwnE.nil _ _, Kept.refl _ _⟩
  case round =>
    obtain ⟨i, p', cap', M, hif, HM, rfl, rfl, HE, HK⟩ := hrel
    have hfl := findI_le L m.id
    have hMl : M.length ≤ 100 := by rw [HM.out, List.length_take]; omega
    have HKW := hide (K0.out.calm2 HK.out)
    have HNr : Hid (wr.heap[w.heap.size]? = some (.cells #[.int .i64 m.id, .int .i64 m.team, .float .f32 m.x, .float .f32 m.y, .float .f32 m.vx, .float .f32 m.vy, .int .i64 m.health] 57 (0, 0))) := by show _ = _; rw [HK.out.block _ hW (fun e => e)]; exact HN.out
    obtain ⟨n0, n1, n2, n3, n4, n5, n6⟩ := seven_cells HNr.out
    have HR := hide (HO.out.reads.calm HKW.out)
    have hsz := HK.out.size
    by_cases hlt : i < findI L m.id
    · have hil : i < L.length := by omega
      have hb1 : (0 : Int) ≤ (i : Int) := by omega
      have hb2 : (i : Int) < (L.length : Int) := by omega
      have hid := findI_before L m.id i hlt hil
      obtain ⟨b, off, rfl, hbs, c0, -, -, -, -, -, -⟩ := HR.out.at i hil
      go_wp2
      go_quiet (fail)
      generalize hwd : wr.drewN _ = wd at *
      have KD : Hid (Kept (fun _ => False) wr wd) := by rw [← hwd]; exact Kept.drewN _ _
      clear hwd c0 n0 n1 n2 n3 n4 n5 n6
      obtain ⟨b', off', hp', hbs', c0, c1, c2, c3, c4, c5, c6⟩ := (HR.out.calm KD.out).at i hil
      obtain ⟨rfl, rfl⟩ : b = b' ∧ off = off' := by simpa using hp'
      clear hp'
      have hsd := KD.out.size
      have HM' : Hid (M ++ [L[i]] = L.take (i + 1)) := by show _ = _; rw [HM.out, List.take_succ_eq_append_getElem hil]
      generalize L[i] = mi at *
      have RN : Hid (Reads (wd.alloc (.cells #[.int .i64 mi.id, .int .i64 mi.team, .float .f32 mi.x, .float .f32 mi.y, .float .f32 mi.vx, .float .f32 mi.vy, .int .i64 mi.health] 57)) (some ⟨wd.heap.size, 0, none⟩) [mi]) := block_reads (M := [mi]) (heap_alloc_new wd (.cells (rowM [mi]).toArray 57))
      go_wp2_with (at_builtin; refine wpList_append_list _ rfl (.tmp 21) (.tmp 26) rfl W.heap.size p' cap' M rfl (HE.out.calm (KD.out.calm2 (Kept.alloc _ _))) (some ⟨wd.heap.size, 0, none⟩) 1 [mi] rfl (fun e => by cases e) RN.out (by simp; omega) (by simp; omega) ?_)
      intro p2 cap2 w2 M2 HM2 O2 HK2
      have K2 : Hid (Kept (fun _ => False) W w2) := (HK.out.calm2 (KD.out.calm2 (Kept.alloc wd _))).join HK2.out (fun _ _ e => e) (fun j hj e => by have := (HE.out.lt j e).1; omega)
      clear HK2 c0 c1 c2 c3 c4 c5 c6 RN
      go_wp2
      go_roundw
      case rel => exact ⟨i + 1, p2, cap2, M2, by omega, (by show _ = _; rw [HM2.out]; exact HM'.out), by go_num, rfl, O2, K2⟩
      case measure => simp [intOf]; omega
    · obtain rfl : i = findI L m.id := by omega
      have HEN : Hid (insM L m = M ++ [m] ++ L.drop (findI L m.id)) := by show _ = _; rw [HM.out]; unfold insM; simp
      have HDL : Hid ((L.drop (findI L m.id)).length = L.length - findI L m.id) := by show _ = _; rw [List.length_drop]
      have hge := findI_ge L m.id
      clear HM
      generalize findI L m.id = i at *
      by_cases hil : i < L.length
      · have hid : ¬ L[i].id < m.id := by have := hge hil; omega
        have hb1 : (0 : Int) ≤ (i : Int) := by omega
        have hb2 : (i : Int) < (L.length : Int) := by omega
        obtain ⟨g, cur, rfl, hbg, hcm, hr⟩ := HO.out.there i hil
        have HRW := hide (hr.calm' HKW.out)
        obtain ⟨c0, -⟩ := HRW.out.at7 i hil
        have RD : Hid (Reads W (some ⟨g, i * 7, none⟩) (L.drop i)) := by have := (HO.out.reads.calm K0.out).drop i; rw [Nat.zero_add] at this; exact this
        generalize L.drop i = D at *
        go_wp2
        go_quiet (fail)
        generalize hwd : wr.drewN _ = wd at *
        have KD : Hid (Kept (fun _ => False) wr wd) := by rw [← hwd]; exact Kept.drewN _ _
        have HND : Hid (wd.heap[w.heap.size]? = some (.cells #[.int .i64 m.id, .int .i64 m.team, .float .f32 m.x, .float .f32 m.y, .float .f32 m.vx, .float .f32 m.vy, .int .i64 m.health] 57 (0, 0))) := by show _ = _; rw [KD.out.block _ (heap_lt HNr.out) (fun e => e)]; exact HNr.out
        clear hwd c0 n0 n1 n2 n3 n4 n5 n6
        obtain ⟨n0, n1, n2, n3, n4, n5, n6⟩ := seven_cells HND.out
        have hsd := KD.out.size
        have RN : Hid (Reads (wd.alloc (.cells #[.int .i64 m.id, .int .i64 m.team, .float .f32 m.x, .float .f32 m.y, .float .f32 m.vx, .float .f32 m.vy, .int .i64 m.health] 57)) (some ⟨wd.heap.size, 0, none⟩) [m]) := block_reads (M := [m]) (heap_alloc_new wd (.cells (rowM [m]).toArray 57))
        go_wp2_with (at_builtin; refine wpList_append_list _ rfl (.tmp 30) (.tmp 32) rfl W.heap.size p' cap' M rfl (HE.out.calm (KD.out.calm2 (Kept.alloc _ _))) (some ⟨wd.heap.size, 0, none⟩) 1 [m] rfl (fun e => by cases e) RN.out (by simp; omega) (by simp; omega) ?_)
        intro p2 cap2 w2 M2 HM2 O2 HK2
        have K2 : Hid (Kept (fun _ => False) W w2) := (HK.out.calm2 (KD.out.calm2 (Kept.alloc wd _))).join HK2.out (fun _ _ e => e) (fun j hj e => by have := (HE.out.lt j e).1; omega)
        have hM2l : M2.length ≤ 101 := by rw [HM2.out]; simp; omega
        clear HK2 RN n0 n1 n2 n3 n4 n5 n6
        have hcap := hr.short
        have hb3 : (i : Int) ≤ (L.length : Int) := by omega
        have hb4 : (L.length : Int) ≤ (cap : Int) := by omega
        have hs2 := K2.out.size
        have hD : D.length ≤ 100 := by rw [HDL.out]; omega
        go_wp2_with (at_builtin; refine wpList_append_list _ rfl (.tmp 34) (.tmp 37) rfl W.heap.size p2 cap2 M2 rfl O2.out (some ⟨g, i * 7, none⟩) (cap - i) D (by rw [HDL.out]; rfl) (fun e => by cases e) (RD.out.calm K2.out) (by omega) hs2 ?_)
        intro p3 cap3 w3 R HR3 O3 HK3
        have K3 : Hid (Kept (fun _ => False) W w3) := K2.out.join HK3.out (fun _ _ e => e) (fun j hj e => by have := (O2.out.lt j e).1; omega)
        have HRI : Hid (R = insM L m) := by show _ = _; rw [HR3.out, HM2.out, HEN.out]
        clear HK3
        go_wp2
        go_ret
        rw [← HRI.out]
        exact ⟨p3, cap3, rfl, O3.out.low (by omega), K0.out.calm2 K3.out⟩
      · obtain rfl : i = L.length := by omega
        have hdf : decide ((L.length : Int) < (L.length : Int)) = false := by simp
        have HEN2 : Hid (insM L m = M ++ [m]) := by show _ = _; rw [HEN.out, List.drop_length, List.append_nil]
        clear HEN HDL hge
        go_wp2
        go_quiet (fail)
        generalize hwd : wr.drewN _ = wd at *
        have KD : Hid (Kept (fun _ => False) wr wd) := by rw [← hwd]; exact Kept.drewN _ _
        have HND : Hid (wd.heap[w.heap.size]? = some (.cells #[.int .i64 m.id, .int .i64 m.team, .float .f32 m.x, .float .f32 m.y, .float .f32 m.vx, .float .f32 m.vy, .int .i64 m.health] 57 (0, 0))) := by show _ = _; rw [KD.out.block _ (heap_lt HNr.out) (fun e => e)]; exact HNr.out
        clear hwd n0 n1 n2 n3 n4 n5 n6
        obtain ⟨n0, n1, n2, n3, n4, n5, n6⟩ := seven_cells HND.out
        have hsd := KD.out.size
        have RN : Hid (Reads (wd.alloc (.cells #[.int .i64 m.id, .int .i64 m.team, .float .f32 m.x, .float .f32 m.y, .float .f32 m.vx, .float .f32 m.vy, .int .i64 m.health] 57)) (some ⟨wd.heap.size, 0, none⟩) [m]) := block_reads (M := [m]) (heap_alloc_new wd (.cells (rowM [m]).toArray 57))
        go_wp2_with (at_builtin; refine wpList_append_list _ rfl (.tmp 30) (.tmp 32) rfl W.heap.size p' cap' M rfl (HE.out.calm (KD.out.calm2 (Kept.alloc _ _))) (some ⟨wd.heap.size, 0, none⟩) 1 [m] rfl (fun e => by cases e) RN.out (by simp; omega) (by simp; omega) ?_)
        intro p2 cap2 w2 M2 HM2 O2 HK2
        have K2 : Hid (Kept (fun _ => False) W w2) := (HK.out.calm2 (KD.out.calm2 (Kept.alloc wd _))).join HK2.out (fun _ _ e => e) (fun j hj e => by have := (HE.out.lt j e).1; omega)
        have hM2l : M2.length ≤ 101 := by rw [HM2.out]; simp; omega
        clear HK2 RN n0 n1 n2 n3 n4 n5 n6
        have hs2 := K2.out.size
        have hb1 : (0 : Int) ≤ (L.length : Int) := by omega
        rcases HO.out with ⟨rfl, rfl, rfl⟩ | ⟨g, cur, rfl, hbg, hcm, hr⟩
        · go_wp2_with (at_builtin; refine wpList_append_list _ rfl (.tmp 34) (.tmp 37) rfl W.heap.size p2 cap2 M2 rfl O2.out none 0 [] rfl (fun _ => rfl) (fun e => absurd rfl e) (by simp; omega) hs2 ?_)
          intro p3 cap3 w3 R HR3 O3 HK3
          have K3 : Hid (Kept (fun _ => False) W w3) := K2.out.join HK3.out (fun _ _ e => e) (fun j hj e => by have := (O2.out.lt j e).1; omega)
          have HRI : Hid (R = insM [] m) := by show _ = _; rw [HR3.out, HM2.out, HEN2.out]
          clear HK3
          go_wp2
          go_ret
          rw [← HRI.out]
          exact ⟨p3, cap3, rfl, O3.out.low (by omega), K0.out.calm2 K3.out⟩
        · have hcap := hr.short
          have hb4 : (L.length : Int) ≤ (cap : Int) := by omega
          by_cases hlc : L.length = cap
          · subst hlc
            go_wp2_with (at_builtin; refine wpList_append_list _ rfl (.tmp 34) (.tmp 37) rfl W.heap.size p2 cap2 M2 rfl O2.out (some ⟨g, 0, none⟩) 0 [] rfl (fun _ => rfl) (fun e => absurd rfl e) (by simp; omega) hs2 ?_)
            intro p3 cap3 w3 R HR3 O3 HK3
            have K3 : Hid (Kept (fun _ => False) W w3) := K2.out.join HK3.out (fun _ _ e => e) (fun j hj e => by have := (O2.out.lt j e).1; omega)
            have HRI : Hid (R = insM L m) := by show _ = _; rw [HR3.out, HM2.out, HEN2.out]
            clear HK3
            go_wp2
            go_ret
            rw [← HRI.out]
            exact ⟨p3, cap3, rfl, O3.out.low (by omega), K0.out.calm2 K3.out⟩
          · have hb5 : (L.length : Int) < (cap : Int) := by omega
            go_wp2_with (at_builtin; refine wpList_append_list _ rfl (.tmp 34) (.tmp 37) rfl W.heap.size p2 cap2 M2 rfl O2.out (some ⟨g, L.length * 7, none⟩) (cap - L.length) [] rfl (fun e => by cases e) (fun e => absurd rfl e) (by simp; omega) hs2 ?_)
            intro p3 cap3 w3 R HR3 O3 HK3
            have K3 : Hid (Kept (fun _ => False) W w3) := K2.out.join HK3.out (fun _ _ e => e) (fun j hj e => by have := (O2.out.lt j e).1; omega)
            have HRI : Hid (R = insM L m) := by show _ = _; rw [HR3.out, HM2.out, HEN2.out]
            clear HK3
            go_wp2
            go_ret
            rw [← HRI.out]
            exact ⟨p3, cap3, rfl, O3.out.low (by omega), K0.out.calm2 K3.out⟩
end Go.Proofs.Ytlfmfhmbkpnjbaa

namespace Go.Proofs.Ytlfmfhmbkpnjbaa
open Go.RowKit

def markC (k : Int) : Cmd := { kind := -1000 - k, id := 0, team := 0, x := 0, y := 0, n := 7 }
theorem size_cmd : (Try.prog.info? 99).map (·.size) = some 6 := by kernel_rfl

set_option maxHeartbeats 400000 in
theorem badCommand_c (k : Int) (w : World) (hk : 0 ≤ k ∧ k ≤ 4611686018427387904) : Calls Try.prog 46 #[.int .i64 k] w fun e w' => e = .returned (.agg #[.int .i64 (-1000 - k), .int .i64 0, .int .i64 0, .float .f32 0, .float .f32 0, .int .i64 7]) ∧ Kept (fun _ => False) w w' := by
  have hsf := store_float Try.prog
  have hw : IntKind.i64.wrap (-1000 - k) = -1000 - k := wrap_id _ (by omega)
  go_enter Try.func46, Try.ntmps46
  go_wp2
  refine bodyPost_ret (v := .agg #[.int .i64 (-1000 - k), .int .i64 0, .int .i64 0, .float .f32 0, .float .f32 0, .int .i64 7]) (by simp [results, Try.results46, go_sem]) rfl ?_
  exact ⟨rfl, Kept.alloc w _⟩

theorem makeAllC (n : Nat) (hn : n ≤ 4000000) : ∃ cur0 : List Value, cur0.length = n * 6 ∧ ∀ w : World, (Instr.makeSlice 43 (.int .i64 (n : Int)) (.int .i64 (n : Int))).run Try.prog w = .ok (.slice (some ⟨w.heap.size, 0, none⟩) n n) (w.alloc (.cells cur0.toArray 99)) := by
  obtain ⟨i0, hi, hz0, hz1, hz2⟩ := info_parts info_cmd
  refine ⟨(madeCells (Value.agg #[.int .i64 0, .int .i64 0, .int .i64 0, .float .f32 0, .float .f32 0, .int .i64 0]).cells (n * 6)).toList, ?_, fun w => ?_⟩
  · rw [Array.length_toList, size_madeCells]
  · have := run_make (P := Try.prog) w 43 99 i0 _ Try.underlying43 hi hz0 .i64 .i64 (n : Int) (n : Int) (by omega) (by omega) (by rw [hz2]; omega) (by omega)
    rw [hz1, Int.toNat_natCast] at this
    exact this

/-- The commands that are lent: with eight marks behind them. -/
def lentC (L : List Cmd) : List Cmd := L ++ List.replicate 8 (markC 0)
theorem lentC_length (L : List Cmd) : (lentC L).length = L.length + 8 := by simp [lentC]
theorem lentC_in (L : List Cmd) (i : Nat) (h : i < L.length) (h' : i < (lentC L).length) : (lentC L)[i] = L[i] := by
  simp only [lentC]
  exact List.getElem_append_left h
theorem lentC_out (L : List Cmd) (i : Nat) (h : L.length ≤ i) (h' : i < (lentC L).length) : (lentC L)[i] = markC 0 := by
  simp only [lentC]
  rw [List.getElem_append_right h, List.getElem_replicate]

structure LentCAt (wr : World) (g : Nat) (L : List Cmd) (i : Nat) (cu : List Value) : Prop where
  blk : wr.heap[g]? = some (.cells cu.toArray 99 (0, 0))
  len : cu.length = (L.length + 8) * 6
  row : cu.take (i * 6) = rowC ((lentC L).take i)

theorem LentCAt.more {wr w' : World} {g : Nat} {L : List Cmd} {i : Nat} {cu : List Value} (h : LentCAt wr g L i cu) (hi : L.length ≤ i) (hi2 : i < L.length + 8) (hw : w'.heap[g]? = some (.cells (splice cu (i * 6) (rowC [markC 0])).toArray 99 (0, 0))) : LentCAt w' g L (i + 1) (splice cu (i * 6) (rowC [markC 0])) := by
  have h7 : (rowC [markC 0]).length = 6 := rfl
  have hl := lentC_length L
  have hg : (lentC L)[i]'(by omega) = markC 0 := lentC_out L i hi (by omega)
  refine ⟨hw, by rw [length_splice _ _ _ (by rw [h.len, h7]; omega), h.len], ?_⟩
  rw [List.take_succ_eq_append_getElem (by omega), hg, rowC_append]
  unfold splice
  rw [← List.append_assoc, h.row, show (i + 1) * 6 = (rowC ((lentC L).take i) ++ rowC [markC 0]).length from by rw [← rowC_append, rowC_length, List.length_append, List.length_take, hl, show min i (L.length + 8) = i from by omega]; rfl, List.take_left]

theorem six_old {w : World} {g : Nat} {cur : List Value} {T : TypeId} (h : w.heap[g]? = some (.cells cur.toArray T (0, 0))) (o : Nat) (ho : o + 6 ≤ cur.length) : ∃ u0 u1 u2 u3 u4 u5,
    w.cell? ⟨g, o, none⟩ = some u0 ∧ w.cell? ⟨g, o + 1, none⟩ = some u1 ∧ w.cell? ⟨g, o + 2, none⟩ = some u2 ∧ w.cell? ⟨g, o + 3, none⟩ = some u3 ∧ w.cell? ⟨g, o + 4, none⟩ = some u4 ∧ w.cell? ⟨g, o + 5, none⟩ = some u5 := by
  have c : ∀ j, (hj : j < cur.length) → w.cell? ⟨g, j, none⟩ = some cur[j] := fun j hj => by rw [cell_block h]; simp [hj]
  exact ⟨_, _, _, _, _, _, c _ (by omega), c _ (by omega), c _ (by omega), c _ (by omega), c _ (by omega), c _ (by omega)⟩
theorem store6 {w : World} {g : Nat} {cur : List Value} {T : TypeId} (h : w.heap[g]? = some (.cells cur.toArray T (0, 0))) (o : Nat) (m : Cmd) (ho : o + 6 ≤ cur.length) :
    ((((((w.setCell ⟨g, o, none⟩ (.int .i64 m.kind)).setCell ⟨g, o + 1, none⟩ (.int .i64 m.id)).setCell ⟨g, o + 2, none⟩ (.int .i64 m.team)).setCell ⟨g, o + 3, none⟩ (.float .f32 m.x)).setCell ⟨g, o + 4, none⟩ (.float .f32 m.y)).setCell ⟨g, o + 5, none⟩ (.int .i64 m.n)).heap[g]? = some (.cells (splice cur o (rowC [m])).toArray T (0, 0)) ∧
    Kept (fun k => k = g) w ((((((w.setCell ⟨g, o, none⟩ (.int .i64 m.kind)).setCell ⟨g, o + 1, none⟩ (.int .i64 m.id)).setCell ⟨g, o + 2, none⟩ (.int .i64 m.team)).setCell ⟨g, o + 3, none⟩ (.float .f32 m.x)).setCell ⟨g, o + 4, none⟩ (.float .f32 m.y)).setCell ⟨g, o + 5, none⟩ (.int .i64 m.n)) :=
  setCells_row g T (rowC [m]) o cur w h ho

theorem ReadsC.calm {w w' : World} {p : Option Addr} {L : List Cmd} (h : ReadsC w p L) (hk : Kept (fun _ => False) w w') : ReadsC w' p L := h.keep hk (fun _ _ _ _ e => e)

set_option maxHeartbeats 2000000 in
set_option maxRecDepth 100000 in
theorem lentC_c (p : Option Addr) (cap : Nat) (L : List Cmd) (w : World) (hl : L.length ≤ 2000000) (h : ReadsC w p L) :
    Calls Try.prog 16 #[.slice p L.length cap] w fun e w' => e = .returned (.slice (some ⟨w.heap.size, 0, none⟩) (L.length + 8) (L.length + 8)) ∧ w'.heap[w.heap.size]? = some (.cells (rowC (lentC L)).toArray 99 (0, 0)) ∧ Kept (fun _ => False) w w' := by
  obtain ⟨i0, hi, hz0, hz1, hz2⟩ := info_parts info_cmd
  obtain ⟨cur0, hc0, hmk⟩ := makeAllC (L.length + 8) (by omega)
  have hmk' : ∀ w : World, (Instr.makeSlice 43 (.int .i64 ((L.length : Int) + 8)) (.int .i64 ((L.length : Int) + 8))).run Try.prog w = .ok (.slice (some ⟨w.heap.size, 0, none⟩) (L.length + 8) (L.length + 8)) (w.alloc (.cells cur0.toArray 99)) := fun w => hmk w
  have hsf := store_float Try.prog
  have HR := hide h
  clear h hmk
  have S1 : Hid (0 < L.length → some (⟨w.heap.size, 0, none⟩ : Addr) = some ⟨w.heap.size, 0, none⟩ ∧ ∃ ad, p = some ad ∧ ∀ j v, (rowC L)[j]? = some v → (w.alloc (.cells cur0.toArray 99)).cell? (ad.add j) = some v) := fun hpos => by
    obtain ⟨b, off, h1, h2, h3⟩ := (HR.out.calm (Kept.alloc w (.cells cur0.toArray 99))) (by intro e; simp [e] at hpos)
    exact ⟨rfl, ⟨b, off, none⟩, h1, fun j v hv => by rw [addr_add2]; exact h3 j v hv⟩
  have S2 : Hid (Nat.min L.length (L.length + 8) = L.length) := by show min _ _ = _; omega
  go_enter Try.func16, Try.ntmps16
  go_wp2_with (refine wpList_copy_any _ rfl (.tmp 9) (.tmp 10) 43 43 rfl 99 6 Try.underlying43 size_cmd (some ⟨w.heap.size, 0, none⟩) p (L.length + 8) (L.length + 8) L.length cap (by simp [Act.eval]) (by simp [Act.eval]) w.heap.size 0 cur0 99 (heap_alloc_new w _) L.length S2.out (rowC L) (rowC_length L) S1.out (by rw [rowC_length, hc0]; omega) (rowC_one L) ?_)
  intro w1 HG1 HK1
  have K1 : Hid (Kept (fun _ => False) w w1) := (Kept.alloc w _).join HK1.out (fun _ _ e => e) (fun j hj e => by omega)
  have L1 : Hid (LentCAt w1 w.heap.size L L.length (splice cur0 0 (rowC L))) := by
    refine ⟨HG1.out, by rw [length_splice _ _ _ (by rw [rowC_length, hc0]; omega), hc0], ?_⟩
    unfold splice lentC
    rw [List.take_zero, List.nil_append, ← rowC_length, List.take_left, List.take_left' rfl]
  clear HG1 HK1 hmk' S1 S2
  have hw0 : w.heap.size < w1.heap.size := heap_lt L1.out.blk
  go_wp2
  go_loopw [4] (fun a wr => ∃ i : Nat, ∃ cu : List Value, L.length ≤ i ∧ i ≤ L.length + 8 ∧ a = .int .i64 i ∧ Hid (LentCAt wr w.heap.size L i cu) ∧ Hid (Kept (fun _ => False) w wr)) (fun a _ => L.length + 8 - (intOf a).toNat)
  case atStart => exact ⟨L.length, _, Nat.le_refl _, by omega, rfl, L1, K1⟩
  case round =>
    obtain ⟨i, cu, hil, hi8, rfl, HL, HK⟩ := hrel
    clear L1 K1
    by_cases hlt : i < L.length + 8
    · have hb1 : (0 : Int) ≤ (i : Int) := by omega
      have hb2 : (i : Int) < (L.length : Int) + 8 := by omega
      have hb3 : (i : Int) < ((L.length + 8 : Nat) : Int) := by omega
      go_wp2_with fail
      refine (badCommand_c 0 _ (by decide)).mono ?_
      rintro e w2 ⟨rfl, q2⟩
      have K2 := hide (HK.out.calm2 q2)
      have B2 := hide (show w2.heap[w.heap.size]? = some (.cells cu.toArray 99 (0, 0)) by rw [q2.block _ (heap_lt HL.out.blk) (fun e => e)]; exact HL.out.blk)
      have hal : i * 6 + 6 ≤ cu.length := by rw [HL.out.len]; omega
      obtain ⟨u0, u1, u2, u3, u4, u5, f0, f1, f2, f3, f4, f5⟩ := six_old B2.out (i * 6) hal
      have ffz : ∀ j, w2.frozen? ⟨w.heap.size, j, none⟩ = false := fun j => by simp [World.frozen?, B2.out]
      have ST := hide (store6 B2.out (i * 6) (markC 0) hal)
      clear q2
      go_wp2
      go_roundw
      case rel => exact ⟨i + 1, _, by omega, by omega, by go_num, HL.out.more hil hlt ST.out.1, K2.out.join ST.out.2 (fun _ _ e => e) (fun j hj e => by omega)⟩
      case measure => simp [intOf]; omega
    · obtain rfl : i = L.length + 8 := by omega
      have HF : Hid (cu = rowC (lentC L)) := by
        show _ = _
        have h1 := HL.out.row
        rw [List.take_of_length_le (by rw [HL.out.len]; omega), List.take_of_length_le (by rw [lentC_length]; omega)] at h1
        exact h1
      go_wp2
      go_ret
      refine ⟨rfl, ?_, HK.out⟩
      rw [← HF.out]; exact HL.out.blk

set_option maxHeartbeats 4000000 in
set_option maxRecDepth 100000 in
theorem keptC_c (p q : Option Addr) (cap capq : Nat) (L : List Cmd) (w : World) (hl : L.length ≤ 2000000) (h : ReadsC w q L) (ho : ReadsC w p (lentC L)) :
    Calls Try.prog 21 #[.slice p (L.length + 8) cap, .slice q L.length capq] w fun e w' => e = .returned (.bool true) ∧ Kept (fun _ => False) w w' := by
  have hsf := store_float Try.prog
  have HR := hide h
  have HO := hide ho
  clear h ho
  have hll := lentC_length L
  go_enter Try.func21, Try.ntmps21
  go_wp2
  go_loopw [5] (fun a wr => ∃ i : Nat, i ≤ L.length + 8 ∧ a = .int .i64 i ∧ Hid (Kept (fun _ => False) w wr)) (fun a _ => L.length + 8 - (intOf a).toNat)
  case atStart => exact ⟨0, Nat.zero_le _, rfl, Kept.refl _ _⟩
  case round =>
    obtain ⟨i, hil, rfl, HK⟩ := hrel
    by_cases hlt : i < L.length + 8
    · have hb1 : (0 : Int) ≤ (i : Int) := by omega
      have hb2 : (i : Int) < (L.length : Int) + 8 := by omega
      have hb3 : (i : Int) < ((L.length + 8 : Nat) : Int) := by omega
      have hlt' : i < (lentC L).length := by omega
      go_wp2_with fail
      refine (badCommand_c 0 _ (by decide)).mono ?_
      rintro e w2 ⟨rfl, q2⟩
      have K2 := hide (HK.out.calm2 q2)
      clear q2
      by_cases hin : i < L.length
      · have hb4 : (i : Int) < (L.length : Int) := by omega
        have hg : (lentC L)[i] = L[i] := lentC_in L i hin hlt'
        obtain ⟨b, off, hp, hbs, c0, c1, c2, c3, c4, c5⟩ := (HR.out.calm K2.out).at i hin
        obtain ⟨b', off', hp', hbs', d0, d1, d2, d3, d4, d5⟩ := (HO.out.calm K2.out).at i hlt'
        rw [hg] at d0 d1 d2 d3 d4 d5
        subst hp
        subst hp'
        clear hg
        generalize L[i] = m at *
        have KN := hide ((Kept.alloc w2 (.cells #[.int .i64 m.kind, .int .i64 m.id, .int .i64 m.team, .float .f32 m.x, .float .f32 m.y, .int .i64 m.n] 99)).calm2 (Kept.alloc _ (.cells #[.int .i64 m.kind, .int .i64 m.id, .int .i64 m.team, .float .f32 m.x, .float .f32 m.y, .int .i64 m.n] 99)))
        have n0 : (m.kind != m.kind) = false := by simp
        have n1 : (m.id != m.id) = false := by simp
        have n2 : (m.team != m.team) = false := by simp
        have n3 : (m.n != m.n) = false := by simp
        go_wp2_with fail
        refine (like_self m.x _).mono ?_
        rintro e w3 ⟨rfl, rfl⟩
        go_wp2_with fail
        refine (like_self m.y _).mono ?_
        rintro e w3 ⟨rfl, rfl⟩
        go_wp2
        go_roundw
        case rel => exact ⟨i + 1, by omega, by go_num, K2.out.calm2 KN.out⟩
        case measure => simp [intOf]; omega
      · have hb4 : ¬ (i : Int) < (L.length : Int) := by omega
        have hg : (lentC L)[i] = markC 0 := lentC_out L i (by omega) hlt'
        obtain ⟨b', off', hp', hbs', d0, d1, d2, d3, d4, d5⟩ := (HO.out.calm K2.out).at i hlt'
        rw [hg] at d0 d1 d2 d3 d4 d5
        simp only [markC, Int.sub_zero] at d0 d1 d2 d3 d4 d5
        subst hp'
        clear hg
        have KN := hide ((Kept.alloc w2 (.cells #[.int .i64 (-1000), .int .i64 0, .int .i64 0, .float .f32 0, .float .f32 0, .int .i64 7] 99)).calm2 (Kept.alloc _ (.cells #[.int .i64 (-1000), .int .i64 0, .int .i64 0, .float .f32 0, .float .f32 0, .int .i64 7] 99)))
        go_wp2_with fail
        refine (like_self 0 _).mono ?_
        rintro e w3 ⟨rfl, rfl⟩
        go_wp2_with fail
        refine (like_self 0 _).mono ?_
        rintro e w3 ⟨rfl, rfl⟩
        go_wp2
        go_roundw
        case rel => exact ⟨i + 1, by omega, by go_num, K2.out.calm2 KN.out⟩
        case measure => simp [intOf]; omega
    · go_wp2
      go_ret
      exact ⟨rfl, HK.out⟩
end Go.Proofs.Ytlfmfhmbkpnjbaa
