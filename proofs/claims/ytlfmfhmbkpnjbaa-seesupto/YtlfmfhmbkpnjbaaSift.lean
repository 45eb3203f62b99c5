import Derived.Test.YtlfmfhmbkpnjbaaDele
namespace Go.Proofs.Ytlfmfhmbkpnjbaa
open Go.RowKit

def liveB (m : Mob) : Bool := !decide (m.health ≤ 0)
def keepL (L : List Mob) : List Mob := L.filter liveB

theorem splice_cons (cur : List Value) (o : Nat) (v : Value) (r : List Value) (h : o < cur.length) : splice cur o (v :: r) = splice (cur.set o v) (o + 1) r := by
  unfold splice
  have e1 : (cur.set o v).take (o + 1) = cur.take o ++ [v] := by
    rw [List.take_set, List.take_succ_eq_append_getElem h, List.set_append_right _ _ (by simp; omega)]
    congr 1
    simp [show o - min o cur.length = 0 by omega]
  rw [e1, List.drop_set_of_lt (by omega), List.length_cons, List.append_assoc, show o + (r.length + 1) = o + 1 + r.length from by omega]
  rfl

theorem setCells_row (g : Nat) (t : TypeId) : ∀ (vs : List Value) (o : Nat) (cur : List Value) (w : World), w.heap[g]? = some (.cells cur.toArray t (0, 0)) → o + vs.length ≤ cur.length →
    (w.setCells g o vs).heap[g]? = some (.cells (splice cur o vs).toArray t (0, 0)) ∧ Kept (fun k => k = g) w (w.setCells g o vs)
  | [], o, cur, w, h, hl => by
    simp only [World.setCells]
    exact ⟨by rw [h]; simp [splice], Kept.refl _ _⟩
  | v :: r, o, cur, w, h, hl => by
    simp only [World.setCells]
    have h1 : (w.setCell ⟨g, o, none⟩ v).heap[g]? = some (.cells (cur.set o v).toArray t (0, 0)) := by
      rw [setCell_eq_setRow w g o _ t (0, 0) v h]
      have := setRow_heap w g cur.toArray (cur.toArray.setIfInBounds o v) t (0, 0) h
      simpa using this
    simp only [List.length_cons] at hl
    obtain ⟨q1, q2⟩ := setCells_row g t r (o + 1) (cur.set o v) _ h1 (by rw [List.length_set]; omega)
    exact ⟨by rw [splice_cons _ _ _ _ (by omega)]; exact q1, (Kept.setCell w _ v).join q2 (fun _ _ e => e) (fun _ _ e => e)⟩

/-- The row while who has no health left is sifted out. -/
structure SiftAt (w : World) (g : Nat) (L : List Mob) (a b : Nat) (cur : List Value) : Prop where
  blk : w.heap[g]? = some (.cells cur.toArray 57 (0, 0))
  len : cur.length = 224
  short : L.length ≤ 32
  ha : a = (keepL (L.take b)).length
  head : cur.take (a * 7) = rowM (keepL (L.take b))
  tail : ∀ j u, (rowM L)[j]? = some u → b * 7 ≤ j → cur[j]? = some u

theorem SiftAt.calm {w w' : World} {g : Nat} {L : List Mob} {a b : Nat} {cur : List Value} (h : SiftAt w g L a b cur) (hk : Kept (fun _ => False) w w') : SiftAt w' g L a b cur :=
  ⟨by rw [hk.block g (heap_lt h.blk) (fun e => e)]; exact h.blk, h.len, h.short, h.ha, h.head, h.tail⟩

theorem SiftAt.at {w : World} {g : Nat} {L : List Mob} {a b : Nat} {cur : List Value} (h : SiftAt w g L a b cur) (hb : b < L.length) :
    w.cell? ⟨g, b * 7, none⟩ = some (.int .i64 L[b].id) ∧ w.cell? ⟨g, b * 7 + 1, none⟩ = some (.int .i64 L[b].team) ∧ w.cell? ⟨g, b * 7 + 2, none⟩ = some (.float .f32 L[b].x) ∧ w.cell? ⟨g, b * 7 + 3, none⟩ = some (.float .f32 L[b].y) ∧
    w.cell? ⟨g, b * 7 + 4, none⟩ = some (.float .f32 L[b].vx) ∧ w.cell? ⟨g, b * 7 + 5, none⟩ = some (.float .f32 L[b].vy) ∧ w.cell? ⟨g, b * 7 + 6, none⟩ = some (.int .i64 L[b].health) := by
  obtain ⟨r0, r1, r2, r3, r4, r5, r6⟩ := rowM_get L b hb
  have c : ∀ j u, (rowM L)[j]? = some u → b * 7 ≤ j → w.cell? ⟨g, j, none⟩ = some u := fun j u h1 h2 => by rw [cell_block h.blk]; simpa using h.tail j u h1 h2
  exact ⟨c _ _ r0 (by omega), c _ _ r1 (by omega), c _ _ r2 (by omega), c _ _ r3 (by omega), c _ _ r4 (by omega), c _ _ r5 (by omega), c _ _ r6 (by omega)⟩

theorem seven_old {w : World} {g : Nat} {cur : List Value} {T : TypeId} (h : w.heap[g]? = some (.cells cur.toArray T (0, 0))) (o : Nat) (ho : o + 7 ≤ cur.length) : ∃ u0 u1 u2 u3 u4 u5 u6,
    w.cell? ⟨g, o, none⟩ = some u0 ∧ w.cell? ⟨g, o + 1, none⟩ = some u1 ∧ w.cell? ⟨g, o + 2, none⟩ = some u2 ∧ w.cell? ⟨g, o + 3, none⟩ = some u3 ∧ w.cell? ⟨g, o + 4, none⟩ = some u4 ∧ w.cell? ⟨g, o + 5, none⟩ = some u5 ∧ w.cell? ⟨g, o + 6, none⟩ = some u6 := by
  have c : ∀ j, (hj : j < cur.length) → w.cell? ⟨g, j, none⟩ = some cur[j] := fun j hj => by rw [cell_block h]; simp [hj]
  exact ⟨_, _, _, _, _, _, _, c _ (by omega), c _ (by omega), c _ (by omega), c _ (by omega), c _ (by omega), c _ (by omega), c _ (by omega)⟩

theorem take_keep (L : List Mob) (b : Nat) (hb : b < L.length) : keepL (L.take (b + 1)) = keepL (L.take b) ++ (if liveB L[b] = true then [L[b]] else []) := by
  unfold keepL
  rw [List.take_succ_eq_append_getElem hb, List.filter_append]
  congr 1
  simp [List.filter_cons]

theorem keep_le (L : List Mob) (b : Nat) : (keepL (L.take b)).length ≤ b := by
  have := List.length_filter_le liveB (L.take b)
  unfold keepL
  rw [List.length_take] at this
  omega

theorem SiftAt.drop {w : World} {g : Nat} {L : List Mob} {a b : Nat} {cur : List Value} (h : SiftAt w g L a b cur) (hb : b < L.length) (hl : liveB L[b] = false) : SiftAt w g L a (b + 1) cur := by
  have e : keepL (L.take (b + 1)) = keepL (L.take b) := by rw [take_keep L b hb, hl]; simp
  exact ⟨h.blk, h.len, h.short, by rw [e]; exact h.ha, by rw [e]; exact h.head, fun j u h1 h2 => h.tail j u h1 (by omega)⟩

theorem SiftAt.put {w w' : World} {g : Nat} {L : List Mob} {a b : Nat} {cur : List Value} (h : SiftAt w g L a b cur) (hb : b < L.length) (hl : liveB L[b] = true)
    (hw : w'.heap[g]? = some (.cells (splice cur (a * 7) (rowM [L[b]])).toArray 57 (0, 0))) : SiftAt w' g L (a + 1) (b + 1) (splice cur (a * 7) (rowM [L[b]])) := by
  have hab : a ≤ b := by rw [h.ha]; exact keep_le L b
  have hs := h.short
  have h7 : (rowM [L[b]]).length = 7 := rfl
  have e : keepL (L.take (b + 1)) = keepL (L.take b) ++ [L[b]] := by rw [take_keep L b hb, hl]; simp
  have hlen : (splice cur (a * 7) (rowM [L[b]])).length = 224 := by rw [length_splice _ _ _ (by rw [h.len, h7]; omega), h.len]
  refine ⟨hw, hlen, h.short, by rw [e, List.length_append, ← h.ha]; rfl, ?_, ?_⟩
  · rw [e, rowM_append]
    unfold splice
    rw [← List.append_assoc, h.head, ← rowM_append, show (a + 1) * 7 = (rowM (keepL (L.take b) ++ [L[b]])).length from by rw [rowM_length, List.length_append, ← h.ha]; rfl, List.take_left, rowM_append]
  · intro j u h1 h2
    have := h.tail j u h1 (by omega)
    unfold splice
    rw [List.getElem?_append_right (by rw [List.length_take, h.len]; omega), List.getElem?_append_right (by rw [List.length_take, h.len, h7]; omega), List.getElem?_drop, List.length_take, h.len, h7]
    rw [show a * 7 + 7 + (j - min (a * 7) 224 - 7) = j from by omega]
    exact this

theorem SiftAt.start {w : World} {g : Nat} {L : List Mob} {cur : List Value} (h : EntAt w g L cur) (hi : idxD L < L.length) : SiftAt w g L (idxD L) (idxD L + 1) cur := by
  have key : ∀ (M : List Mob), idxD M < M.length → keepL (M.take (idxD M + 1)) = M.take (idxD M) ∧ keepL (M.take (idxD M)) = M.take (idxD M) := by
    intro M
    induction M with
    | nil => intro h; simp at h
    | cons m r ih =>
      intro h
      simp only [idxD] at h ⊢
      by_cases q : m.health ≤ 0
      · simp [q, keepL, liveB]
      · simp only [q, if_false] at h ⊢
        have := ih (by simpa using h)
        simp only [keepL] at this
        simp [keepL, liveB, q, this.1, this.2]
  obtain ⟨k1, _⟩ := key L hi
  have hs := h.short
  refine ⟨h.blk, h.len, h.short, by rw [k1, List.length_take]; omega, ?_, ?_⟩
  · rw [k1, ← rowM_take, ← h.row, List.take_take]
    congr 1; omega
  · intro j u h1 _
    have hj := (List.getElem?_eq_some_iff.1 h1).1
    rw [h.split]
    simp [List.getElem?_append_left hj, h1]

theorem SiftAt.fin {w w' : World} {g : Nat} {L : List Mob} {a b : Nat} {cur cur' : List Value} (h : SiftAt w g L a b cur) (hb : L.length ≤ b) (hw : w'.heap[g]? = some (.cells cur'.toArray 57 (0, 0))) (hl : cur'.length = cur.length) (ht : cur'.take (a * 7) = cur.take (a * 7)) :
    EntAt w' g (keepL L) cur' := by
  have e : L.take b = L := List.take_of_length_le hb
  have ha := h.ha
  have hh := h.head
  rw [e] at ha hh
  refine ⟨hw, by rw [hl]; exact h.len, by rw [← ha, ht]; exact hh, ?_⟩
  have := List.length_filter_le liveB L
  have := h.short
  unfold keepL
  omega

theorem idxD_all (L : List Mob) (h : ¬ idxD L < L.length) : keepL L = L := by
  unfold keepL
  rw [List.filter_eq_self]
  induction L with
  | nil => simp
  | cons m r ih =>
    simp only [idxD, List.length_cons] at h
    by_cases q : m.health ≤ 0
    · simp [q] at h
    · simp only [q, if_false] at h
      intro x hx
      rcases List.mem_cons.1 hx with rfl | hx
      · simp [liveB, q]
      · exact ih (by omega) x hx

theorem store7 {w : World} {g : Nat} {cur : List Value} {T : TypeId} (h : w.heap[g]? = some (.cells cur.toArray T (0, 0))) (o : Nat) (m : Mob) (ho : o + 7 ≤ cur.length) :
    (((((((w.setCell ⟨g, o, none⟩ (.int .i64 m.id)).setCell ⟨g, o + 1, none⟩ (.int .i64 m.team)).setCell ⟨g, o + 2, none⟩ (.float .f32 m.x)).setCell ⟨g, o + 3, none⟩ (.float .f32 m.y)).setCell ⟨g, o + 4, none⟩ (.float .f32 m.vx)).setCell ⟨g, o + 5, none⟩ (.float .f32 m.vy)).setCell ⟨g, o + 6, none⟩ (.int .i64 m.health)).heap[g]? = some (.cells (splice cur o (rowM [m])).toArray T (0, 0)) ∧
    Kept (fun k => k = g) w (((((((w.setCell ⟨g, o, none⟩ (.int .i64 m.id)).setCell ⟨g, o + 1, none⟩ (.int .i64 m.team)).setCell ⟨g, o + 2, none⟩ (.float .f32 m.x)).setCell ⟨g, o + 3, none⟩ (.float .f32 m.y)).setCell ⟨g, o + 4, none⟩ (.float .f32 m.vx)).setCell ⟨g, o + 5, none⟩ (.float .f32 m.vy)).setCell ⟨g, o + 6, none⟩ (.int .i64 m.health)) :=
  setCells_row g T (rowM [m]) o cur w h ho

set_option maxHeartbeats 2000000 in
set_option maxRecDepth 100000 in
theorem deleteFunc_c (g : Nat) (L : List Mob) (cur : List Value) (w : World) (h : EntAt w g L cur) :
    Calls Try.prog 50 #[.slice (some ⟨g, 0, none⟩) L.length 32, .func (.func 51) #[] #[]] w fun e w' =>
      e = .returned (.slice (some ⟨g, 0, none⟩) (keepL L).length 32) ∧ (∃ cur', EntAt w' g (keepL L) cur') ∧ Kept (fun k => k = g) w w' := by
  by_cases hd : idxD L < L.length
  · obtain ⟨i0, hi, hz0, hz1, hz2⟩ := info_parts info_mob
    have hR : idxR L = (idxD L : Int) := by unfold idxR; rw [if_pos hd]
    have hsh := h.short
    have H := hide h
    have HS := hide (SiftAt.start h hd)
    clear h
    have hsf := store_float Try.prog
    go_enter Try.func50, Try.ntmps50
    go_wp2_with fail
    refine (indexFunc_c g L cur _ H.out).mono ?_
    rw [hR]
    rintro e w1 ⟨rfl, q1⟩
    have HK1 := hide q1
    have HS1 := hide (HS.out.calm q1)
    clear q1 hR HS
    generalize idxD L = d at *
    have hb0 : ((d : Int) == -1) = false := by simp
    go_wp2
    go_loopw [5, 6] (fun s t wr => ∃ a b : Nat, ∃ cu : List Value, a < b ∧ b ≤ L.length ∧ s = .int .i64 a ∧ t = .int .i64 b ∧ Hid (SiftAt wr g L a b cu) ∧ Hid (Kept (fun k => k = g) w wr)) (fun _ t _ => L.length - (intOf t).toNat)
    case atStart => exact ⟨d, d + 1, cur, by omega, by omega, rfl, by go_num, HS1, HK1.out.mono (fun _ _ e => e.elim)⟩
    case round =>
      obtain ⟨a, b, cu, hab, hbl, rfl, rfl, HA, HK⟩ := hrel
      clear HS1
      by_cases hlt : b < L.length
      · obtain ⟨c0, c1, c2, c3, c4, c5, c6⟩ := HA.out.at hlt
        have hg := heap_lt HA.out.blk
        have hb1 : (0 : Int) ≤ (b : Int) := by omega
        have hb2 : (b : Int) < (L.length : Int) := by omega
        have ha1 : (0 : Int) ≤ (a : Int) := by omega
        have ha2 : (a : Int) < (L.length : Int) := by omega
        have HN : Hid ((wr.alloc (.cells #[.int .i64 L[b].id, .int .i64 L[b].team, .float .f32 L[b].x, .float .f32 L[b].y, .float .f32 L[b].vx, .float .f32 L[b].vy, .int .i64 L[b].health] 57)).heap[wr.heap.size]? = some (.cells #[.int .i64 L[b].id, .int .i64 L[b].team, .float .f32 L[b].x, .float .f32 L[b].y, .float .f32 L[b].vx, .float .f32 L[b].vy, .int .i64 L[b].health] 57 (0, 0))) := heap_alloc_new wr _
        have KA : Hid (Kept (fun _ => False) wr (wr.alloc (.cells #[.int .i64 L[b].id, .int .i64 L[b].team, .float .f32 L[b].x, .float .f32 L[b].y, .float .f32 L[b].vx, .float .f32 L[b].vy, .int .i64 L[b].health] 57))) := Kept.alloc wr _
        by_cases hv : L[b].health ≤ 0
        · have HA' : Hid (SiftAt wr g L a (b + 1) cu) := HA.out.drop hlt (by simp [liveB, hv])
          have hdc : decide (L[b].health ≤ 0) = true := by simp [hv]
          go_wp2_with fail
          refine (isDown_c L[b] _).mono ?_
          rw [hdc]
          rintro e w2 ⟨rfl, q2⟩
          have K2 := hide (KA.out.calm2 q2)
          clear q2 c0 c1 c2 c3 c4 c5 c6 HN KA
          go_wp2
          go_roundw
          case rel => exact ⟨a, b + 1, cu, by omega, by omega, rfl, by go_num, HA'.out.calm K2.out, HK.out.join K2.out (fun _ _ e => e) (fun _ _ e => e.elim)⟩
          case measure => simp [intOf]; omega
        · have hdc : decide (L[b].health ≤ 0) = false := by simp [hv]
          go_wp2_with fail
          refine (isDown_c L[b] _).mono ?_
          rw [hdc]
          rintro e w2 ⟨rfl, q2⟩
          have K2 := hide (KA.out.calm2 q2)
          have HA2 := hide (HA.out.calm K2.out)
          have LV : Hid (liveB L[b] = true) := by show liveB L[b] = true; simp [liveB, hv]
          obtain ⟨e0, e1, e2, e3, e4, e5, e6⟩ := seven_cells (show w2.heap[wr.heap.size]? = some (.cells #[.int .i64 L[b].id, .int .i64 L[b].team, .float .f32 L[b].x, .float .f32 L[b].y, .float .f32 L[b].vx, .float .f32 L[b].vy, .int .i64 L[b].health] 57 (0, 0)) by rw [q2.block _ (heap_lt HN.out) (fun e => e)]; exact HN.out)
          have hal : a * 7 + 7 ≤ cu.length := by rw [HA.out.len]; omega
          obtain ⟨u0, u1, u2, u3, u4, u5, u6, f0, f1, f2, f3, f4, f5, f6⟩ := seven_old HA2.out.blk (a * 7) hal
          have ffz : ∀ j, w2.frozen? ⟨g, j, none⟩ = false := fun j => by simp [World.frozen?, HA2.out.blk]
          have ST := hide (store7 HA2.out.blk (a * 7) L[b] hal)
          clear q2 c0 c1 c2 c3 c4 c5 c6 HN KA
          go_wp2
          go_roundw
          case rel => exact ⟨a + 1, b + 1, _, by omega, by omega, by go_num, by go_num, HA2.out.put hlt LV.out ST.out.1, (HK.out.join K2.out (R := fun k => k = g) (fun _ _ e => e) (fun _ _ e => e.elim)).join ST.out.2 (fun _ _ e => e) (fun _ _ e => e)⟩
          case measure => simp [intOf]; omega
      · have hle : a ≤ L.length := by omega
        have a1 : (0 : Int) ≤ (a : Int) := by omega
        have a2 : (a : Int) ≤ (L.length : Int) := by omega
        have a3 : ¬ (32 : Nat) = a := by omega
        have a4 : (a : Int) ≤ 32 := by omega
        have S8 : Hid (a * 7 + (L.length - a) * 7 ≤ cu.length) := by show _ ≤ _; rw [HA.out.len]; omega
        have HL : Hid ((keepL L).length = a) := by
          show _ = _
          have := HA.out.ha
          rw [List.take_of_length_le (by omega)] at this
          exact this.symm
        go_wp2_with (refine wpList_clear_here _ rfl (.tmp 38) 38 rfl 57 i0 (.agg #[.int .i64 0, .int .i64 0, .float .f32 0, .float .f32 0, .float .f32 0, .float .f32 0, .int .i64 0]) Try.underlying38 hi hz0 (by decide) (by decide) g (a * 7) (L.length - a) (32 - a) (by simp [Act.eval]) cu 57 HA.out.blk S8.out ?_)
        intro w2 cur2 HG2 HL2 HK2
        go_wp2
        go_ret
        refine ⟨ret1 (by rw [HL.out]; rfl), ⟨cur2, HA.out.fin (by omega) HG2.out HL2.out.1 HL2.out.2⟩, HK.out.join HK2.out (fun _ _ e => e) (fun _ _ e => e)⟩
  · have hR : idxR L = -1 := by unfold idxR; rw [if_neg hd]
    have HE := hide (idxD_all L hd)
    have H := hide h
    clear h hd
    go_enter Try.func50, Try.ntmps50
    go_wp2_with fail
    refine (indexFunc_c g L cur _ H.out).mono ?_
    rw [hR]
    rintro e w1 ⟨rfl, q1⟩
    have HK1 := hide q1
    clear q1 hR
    go_wp2
    go_ret
    rw [HE.out]
    exact ⟨rfl, ⟨cur, H.out.calm HK1.out⟩, HK1.out.mono (fun _ _ e => e.elim)⟩
end Go.Proofs.Ytlfmfhmbkpnjbaa
