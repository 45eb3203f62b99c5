import Derived.Test.YtlfmfhmbkpnjbaaSeek
import Derived.Lib.Overlaps
namespace Go.Proofs.Ytlfmfhmbkpnjbaa
open Go.RowKit

/-- The program's own row of entities: room for 32, at a block of its own. -/
structure EntAt (w : World) (g : Nat) (L : List Mob) (cur : List Value) : Prop where
  blk : w.heap[g]? = some (.cells cur.toArray 57 (0, 0))
  len : cur.length = 224
  row : cur.take (L.length * 7) = rowM L
  short : L.length ≤ 32

theorem EntAt.split {w : World} {g : Nat} {L : List Mob} {cur : List Value} (h : EntAt w g L cur) : cur = rowM L ++ cur.drop (L.length * 7) := by
  rw [← h.row, List.take_append_drop]

theorem EntAt.cellAt {w : World} {g : Nat} {L : List Mob} {cur : List Value} (h : EntAt w g L cur) (j : Nat) (u : Value) (hu : (rowM L)[j]? = some u) : w.cell? ⟨g, j, none⟩ = some u := by
  rw [cell_block h.blk]
  have hj := (List.getElem?_eq_some_iff.1 hu).1
  rw [h.split]
  simp [List.getElem?_append_left hj, hu]

theorem EntAt.reads {w : World} {g : Nat} {L : List Mob} {cur : List Value} (h : EntAt w g L cur) : Reads w (some ⟨g, 0, none⟩) L :=
  fun _ => ⟨g, 0, rfl, heap_lt h.blk, fun j u hu => by rw [Nat.zero_add]; exact h.cellAt j u hu⟩

theorem EntAt.at {w : World} {g : Nat} {L : List Mob} {cur : List Value} (h : EntAt w g L cur) (i : Nat) (hi : i < L.length) :
    w.cell? ⟨g, i * 7, none⟩ = some (.int .i64 L[i].id) ∧ w.cell? ⟨g, i * 7 + 1, none⟩ = some (.int .i64 L[i].team) ∧ w.cell? ⟨g, i * 7 + 2, none⟩ = some (.float .f32 L[i].x) ∧ w.cell? ⟨g, i * 7 + 3, none⟩ = some (.float .f32 L[i].y) ∧
    w.cell? ⟨g, i * 7 + 4, none⟩ = some (.float .f32 L[i].vx) ∧ w.cell? ⟨g, i * 7 + 5, none⟩ = some (.float .f32 L[i].vy) ∧ w.cell? ⟨g, i * 7 + 6, none⟩ = some (.int .i64 L[i].health) := by
  obtain ⟨r0, r1, r2, r3, r4, r5, r6⟩ := rowM_get L i hi
  exact ⟨h.cellAt _ _ r0, h.cellAt _ _ r1, h.cellAt _ _ r2, h.cellAt _ _ r3, h.cellAt _ _ r4, h.cellAt _ _ r5, h.cellAt _ _ r6⟩

theorem EntAt.warm {w : World} {g : Nat} {L : List Mob} {cur : List Value} (h : EntAt w g L cur) (j : Nat) : w.frozen? ⟨g, j, none⟩ = false := by simp [World.frozen?, h.blk]

theorem EntAt.keep {w w' : World} {S : Nat → Prop} {g : Nat} {L : List Mob} {cur : List Value} (h : EntAt w g L cur) (hk : Kept S w w') (hS : ¬ S g) : EntAt w' g L cur :=
  ⟨by rw [hk.block g (heap_lt h.blk) hS]; exact h.blk, h.len, h.row, h.short⟩
theorem EntAt.calm {w w' : World} {g : Nat} {L : List Mob} {cur : List Value} (h : EntAt w g L cur) (hk : Kept (fun _ => False) w w') : EntAt w' g L cur := h.keep hk (fun e => e)

/-- The cells' order in a row. -/
theorem rowM_set (L : List Mob) (i : Nat) (m : Mob) (h : i < L.length) : rowM (L.set i m) = (rowM L).take (i * 7) ++ (rowM [m] ++ (rowM L).drop (i * 7 + 7)) := by
  rw [rowM_take, show i * 7 + 7 = (i + 1) * 7 from by omega, rowM_drop, ← rowM_append, ← rowM_append]
  congr 1
  rw [List.set_eq_take_append_cons_drop]
  simp [h]

theorem set_split {α : Type} (X : List α) (a k : Nat) (u : α) (h : a + k < X.length) : X.set (a + k) u = X.take a ++ ((X.drop a).set k u) := by
  conv => lhs; rw [← List.take_append_drop a X]
  rw [List.set_append_right _ _ (by simp; omega)]
  congr 1
  congr 1
  simp; omega

theorem rowM_drop7 (L : List Mob) (i : Nat) (h : i < L.length) : (rowM L).drop (i * 7) = rowM [L[i]] ++ (rowM L).drop (i * 7 + 7) := by
  rw [rowM_drop, show i * 7 + 7 = (i + 1) * 7 from by omega, rowM_drop, ← rowM_append]
  congr 1
  rw [List.drop_eq_getElem_cons h]
  rfl

theorem setx (L : List Mob) (i : Nat) (h : i < L.length) (v : Nat) : (rowM L).set (i * 7 + 2) (.float .f32 v) = rowM (L.set i { L[i] with x := v }) := by
  rw [set_split _ _ _ _ (by rw [rowM_length]; omega), rowM_drop7 L i h, rowM_set L i _ h]; rfl
theorem sety (L : List Mob) (i : Nat) (h : i < L.length) (v : Nat) : (rowM L).set (i * 7 + 3) (.float .f32 v) = rowM (L.set i { L[i] with y := v }) := by
  rw [set_split _ _ _ _ (by rw [rowM_length]; omega), rowM_drop7 L i h, rowM_set L i _ h]; rfl
theorem setvx (L : List Mob) (i : Nat) (h : i < L.length) (v : Nat) : (rowM L).set (i * 7 + 4) (.float .f32 v) = rowM (L.set i { L[i] with vx := v }) := by
  rw [set_split _ _ _ _ (by rw [rowM_length]; omega), rowM_drop7 L i h, rowM_set L i _ h]; rfl
theorem setvy (L : List Mob) (i : Nat) (h : i < L.length) (v : Nat) : (rowM L).set (i * 7 + 5) (.float .f32 v) = rowM (L.set i { L[i] with vy := v }) := by
  rw [set_split _ _ _ _ (by rw [rowM_length]; omega), rowM_drop7 L i h, rowM_set L i _ h]; rfl
theorem sethealth (L : List Mob) (i : Nat) (h : i < L.length) (v : Int) : (rowM L).set (i * 7 + 6) (.int .i64 v) = rowM (L.set i { L[i] with health := v }) := by
  rw [set_split _ _ _ _ (by rw [rowM_length]; omega), rowM_drop7 L i h, rowM_set L i _ h]; rfl

/-- One cell is written. -/
theorem EntAt.store {w : World} {g : Nat} {L L' : List Mob} {cur : List Value} (h : EntAt w g L cur) (j : Nat) (u : Value) (hl : L'.length = L.length) (hr : (rowM L).set j u = rowM L') :
    EntAt (w.setCell ⟨g, j, none⟩ u) g L' (cur.set j u) := by
  refine ⟨?_, by simpa using h.len, ?_, by rw [hl]; exact h.short⟩
  · rw [setCell_eq_setRow w g j _ 57 (0, 0) u h.blk]
    have := setRow_heap w g cur.toArray (cur.toArray.setIfInBounds j u) 57 (0, 0) h.blk
    simpa using this
  · rw [hl, ← hr, ← h.row, List.take_set]

/-- append within the room, as one step of a region that draws its order, and else. -/
theorem run_append_here {P : Program} (w : World) (t ty e : TypeId) (i : TypeInfo) (size : Nat) (ht : P.underlying t = some (.slice e)) (hi : P.info? e = some i) (hsz : i.size = size)
    (g n cap : Nat) (cur : List Value) (hg : w.heap[g]? = some (.cells cur.toArray e (0, 0))) (ad : Addr) (m c : Nat) (news : List Value) (hl : news.length = m * size)
    (hnews : ∀ j u, news[j]? = some u → w.cell? (ad.add j) = some u) (h1 : ∀ u ∈ news, u.oneCell' = true) (hroom : n + m ≤ cap) (hfit : n * size + news.length ≤ cur.length) :
    (Builtin.append_ #[t, t] ty #[.slice (some ⟨g, 0, none⟩) n cap, .slice (some ad) m c]).run P w = .ok (.slice (some ⟨g, 0, none⟩) (n + m) cap) (w.setRow g (splice cur (n * size) news).toArray) := by
  subst hsz
  have := run_append_room w (P := P) t ty e i ht hi g n cap cur.toArray hg ad m c news hl hnews h1 hroom (by simpa using hfit)
  simpa [splice] using this

theorem step_append_here {P : Program} {ops : Array Oper} {o : Oper} {a : Act} {w : World} {K : Act → World → Prop} {Q : Exit → Act → World → Prop} {E : Prop} (hgd : o.guard = none) (s x : Operand) (t : TypeId)
    (ho : o.op = .call { callee := .builtin .append, args := #[s, x], argTypes := #[t, t] }) (e : TypeId) (i : TypeInfo) (size : Nat) (ht : P.underlying t = some (.slice e)) (hi : P.info? e = some i) (hsz : i.size = size)
    (g n cap : Nat) (cur : List Value) (hg : w.heap[g]? = some (.cells cur.toArray e (0, 0))) (hs : a.eval s = .slice (some ⟨g, 0, none⟩) n cap) (ad : Addr) (m c : Nat) (hx : a.eval x = .slice (some ad) m c) (news : List Value) (hl : news.length = m * size)
    (hnews : ∀ j u, news[j]? = some u → w.cell? (ad.add j) = some u) (h1 : ∀ u ∈ news, u.oneCell' = true) (hroom : n + m ≤ cap) (hfit : n * size + news.length ≤ cur.length)
    (h : ∀ w', Hid (w'.heap[g]? = some (.cells (splice cur (n * size) news).toArray e (0, 0))) → Hid (Kept (fun k => k = g) w w') → K (a.put o.dst (.slice (some ⟨g, 0, none⟩) (n + m) cap)) w') :
    if Region.wanted o (yielded ops a.tmps) = true then Oper.wp P o a w K Q else E := by
  have hw : Region.wanted o (yielded ops a.tmps) = true := by simp [Region.wanted, hgd]
  rw [if_pos hw]
  have hrun := run_append_here (P := P) w t o.type e i size ht hi hsz g n cap cur hg ad m c news hl hnews h1 hroom hfit
  unfold Oper.wp
  simp [execOp, ho, resolve, invoke, builtin, hs, hx, hrun, Result.andThen]
  exact h _ (show _ = _ from setRow_heap w g _ _ e _ hg) (Kept.setRow w g _)

theorem wpList_append_here {P : Program} (w : World) {ops : Array Oper} {rest : List Oper} {o : Oper} {a : Act} {Q : Exit → Act → World → Prop} (hgd : o.guard = none) (s x : Operand) (t : TypeId)
    (ho : o.op = .call { callee := .builtin .append, args := #[s, x], argTypes := #[t, t] }) (e : TypeId) (i : TypeInfo) (size : Nat) (ht : P.underlying t = some (.slice e)) (hi : P.info? e = some i) (hsz : i.size = size)
    (g n cap : Nat) (cur : List Value) (hg : w.heap[g]? = some (.cells cur.toArray e (0, 0))) (hs : a.eval s = .slice (some ⟨g, 0, none⟩) n cap) (ad : Addr) (m c : Nat) (hx : a.eval x = .slice (some ad) m c) (news : List Value) (hl : news.length = m * size)
    (hnews : ∀ j u, news[j]? = some u → w.cell? (ad.add j) = some u) (h1 : ∀ u ∈ news, u.oneCell' = true) (hroom : n + m ≤ cap) (hfit : n * size + news.length ≤ cur.length)
    (h : ∀ w', Hid (w'.heap[g]? = some (.cells (splice cur (n * size) news).toArray e (0, 0))) → Hid (Kept (fun k => k = g) w w') → wpList P ops Q rest (a.put o.dst (.slice (some ⟨g, 0, none⟩) (n + m) cap)) w') :
    wpList P ops Q (o :: rest) a w := by
  refine wpList_plain hgd fun K hK => ?_
  have hrun := run_append_here (P := P) w t o.type e i size ht hi hsz g n cap cur hg ad m c news hl hnews h1 hroom hfit
  unfold Oper.wp
  simp [execOp, ho, resolve, invoke, builtin, hs, hx, hrun, Result.andThen]
  exact hK _ _ (h _ (show _ = _ from setRow_heap w g _ _ e _ hg) (Kept.setRow w g _))

/-- copy into a block of one's own. -/
theorem wpList_copy_here {P : Program} (w : World) {ops : Array Oper} {rest : List Oper} {o : Oper} {a : Act} {Q : Exit → Act → World → Prop} (hgd : o.guard = none) (d s : Operand) (dT sT : TypeId)
    (ho : o.op = .call { callee := .builtin .copy, args := #[d, s], argTypes := #[dT, sT] }) (elem : TypeId) (size : Nat) (hu : P.underlying dT = some (.slice elem)) (hsz : (P.info? elem).map (·.size) = some size)
    (g off dLen dCap : Nat) (ad : Addr) (sLen sCap : Nat) (hd : a.eval d = .slice (some ⟨g, off, none⟩) dLen dCap) (hs : a.eval s = .slice (some ad) sLen sCap)
    (cur : List Value) (t : TypeId) (hg : w.heap[g]? = some (.cells cur.toArray t (0, 0))) (n : Nat) (hn : Nat.min sLen dLen = n) (cs : List Value) (hcs : cs.length = n * size)
    (hsrc : ∀ j v, cs[j]? = some v → w.cell? (ad.add j) = some v) (hfit : off + cs.length ≤ cur.length) (h1 : ∀ v ∈ cs, v.oneCell' = true)
    (h : ∀ w', Hid (w'.heap[g]? = some (.cells (splice cur off cs).toArray t (0, 0))) → Hid (Kept (fun k => k = g) w w') → wpList P ops Q rest (a.put o.dst (goInt n)) w') :
    wpList P ops Q (o :: rest) a w := by
  refine wpList_plain hgd fun K hK => ?_
  have hrun := run_copy_size (P := P) w dT sT o.type elem size g off dLen dCap ad sLen sCap cur.toArray t n cs hu hsz hg hn hcs hsrc (by simpa using hfit) h1
  unfold Oper.wp
  simp [execOp, ho, resolve, invoke, builtin, hd, hs, hrun, Result.andThen]
  exact hK _ _ (h _ (show _ = _ by simpa [splice] using setRow_heap w g _ _ t _ hg) (Kept.setRow w g _))

theorem zeroCells_len (z : Array Value) (n : Nat) : (Builtin.zeroCells z n).toList.length = n * z.size := by
  simp [Builtin.zeroCells]
theorem zeroCells_one (z : Array Value) (n : Nat) (h : ∀ j (_ : j < z.size), z[j]!.oneCell' = true) (hz : 0 < z.size) : ∀ v ∈ (Builtin.zeroCells z n).toList, v.oneCell' = true := by
  intro v hv
  simp only [Builtin.zeroCells, Array.toList_map, List.mem_map] at hv
  obtain ⟨j, _, rfl⟩ := hv
  exact h _ (Nat.mod_lt _ hz)

/-- clear of a piece of a block of one's own: what stands ahead of it is as it was. -/
theorem wpList_clear_here {P : Program} (w : World) {ops : Array Oper} {rest : List Oper} {o : Oper} {a : Act} {Q : Exit → Act → World → Prop} (hgd : o.guard = none) (s : Operand) (t : TypeId)
    (ho : o.op = .call { callee := .builtin .clear, args := #[s], argTypes := #[t] }) (e : TypeId) (i : TypeInfo) (z : Value) (ht : P.underlying t = some (.slice e)) (hi : P.info? e = some i) (hz : i.zero = some z)
    (hz1 : ∀ j (_ : j < z.cells.size), z.cells[j]!.oneCell' = true) (hz0 : 0 < z.cells.size)
    (g off n c : Nat) (hs : a.eval s = .slice (some ⟨g, off, none⟩) n c) (cur : List Value) (te : TypeId) (hg : w.heap[g]? = some (.cells cur.toArray te (0, 0))) (hfit : off + n * z.cells.size ≤ cur.length)
    (h : ∀ (w' : World) (cur' : List Value), Hid (w'.heap[g]? = some (.cells cur'.toArray te (0, 0))) → Hid (cur'.length = cur.length ∧ cur'.take off = cur.take off) → Hid (Kept (fun k => k = g) w w') → wpList P ops Q rest (a.put o.dst (.tuple #[])) w') :
    wpList P ops Q (o :: rest) a w := by
  refine wpList_plain hgd fun K hK => ?_
  cases n with
  | zero =>
    have hrun : (Builtin.clear_ #[t] o.type #[.slice (some ⟨g, off, none⟩) 0 c]).run P w = .ok (.tuple #[]) w := by simp [Builtin.clear_, run_underlying ht]
    unfold Oper.wp
    simp [execOp, ho, resolve, invoke, builtin, hs, hrun, Result.andThen]
    exact hK _ _ (h w cur hg ⟨rfl, rfl⟩ (Kept.refl _ _))
  | succ m =>
    have hzv : ∀ w, (zeroValue e).run P w = .ok z w := fun w => by simp [zeroValue, typeInfo, hi, hz]
    have hst := run_storeCells_at P g off te (Builtin.zeroCells z.cells (m + 1)).toList 0 cur.toArray w hg (by rw [zeroCells_len]; simpa using hfit) (zeroCells_one z.cells (m + 1) hz1 hz0)
    have hrun : (Builtin.clear_ #[t] o.type #[.slice (some ⟨g, off, none⟩) (m + 1) c]).run P w = .ok (.tuple #[]) (w.setRow g (splice cur off (Builtin.zeroCells z.cells (m + 1)).toList).toArray) := by
      have hst' : (storeCells ⟨g, off, none⟩ (Builtin.zeroCells z.cells (m + 1)).toList).run P w = .ok () (w.setRow g (splice cur off (Builtin.zeroCells z.cells (m + 1)).toList).toArray) := by simpa [splice] using hst
      simp [Builtin.clear_, run_underlying ht, hzv, hst']
    unfold Oper.wp
    simp [execOp, ho, resolve, invoke, builtin, hs, hrun, Result.andThen]
    refine hK _ _ (h _ _ (show _ = _ from setRow_heap w g _ _ te _ hg) ⟨?_, ?_⟩ (Kept.setRow w g _))
    · unfold splice
      have := zeroCells_len z.cells (m + 1)
      simp only [List.length_append, List.length_take, List.length_drop, this]
      omega
    · unfold splice
      rw [List.take_append_of_le_length (by rw [List.length_take]; omega), List.take_take, Nat.min_self]

theorem info_mob : (Try.prog.info? 57).map (fun i => (i.zero, i.size, i.bytes)) = some (some (.agg #[.int .i64 0, .int .i64 0, .float .f32 0, .float .f32 0, .float .f32 0, .float .f32 0, .int .i64 0]), 7, 40) := by kernel_rfl
theorem size_mob : (Try.prog.info? 57).map (·.size) = some 7 := by kernel_rfl

/-- The model's own entry for slices.overlaps, at two blocks. -/
theorem overlaps_run (w : World) (v g o k lb cb : Nat) (cv cg : List Value) (hv : w.heap[v]? = some (.cells cv.toArray 57 (0, 0))) (hg : w.heap[g]? = some (.cells cg.toArray 57 (0, 0))) (hne : v ≠ g) (hcg : cg.length ≠ 0) (kc : Nat) :
    (callFunc 90 #[.slice (some ⟨v, 0, none⟩) k kc, .slice (some ⟨g, o, none⟩) lb cb]).run Try.prog w = .ok (.value (.bool false)) w := by
  rw [run_callFunc_extern Try.func90 (by kernel_rfl) (by kernel_rfl) (by kernel_rfl) (e := Extern.SlicesOverlaps.overlaps #[38, 38] #[4]) (by kernel_rfl),
    Lib.run_overlaps_apart w 38 4 57 Try.underlying38 7 (fun w => by
      obtain ⟨i0, hi, _, hz1, _⟩ := info_parts info_mob
      simp [sizeOf, typeInfo, hi, hz1]) ⟨v, 0, none⟩ ⟨g, o, none⟩ k kc lb cb hne 57 57 cv.length cg.length (by simp [World.shape?, hv]) (by simp [World.shape?, hg]) hcg (by simp [World.frozen?, hv]) (by simp [World.frozen?, hv])]
  rfl

end Go.Proofs.Ytlfmfhmbkpnjbaa
