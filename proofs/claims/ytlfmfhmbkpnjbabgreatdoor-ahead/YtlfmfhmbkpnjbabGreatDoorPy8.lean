import Derived.Test.YtlfmfhmbkpnjbabGreatDoorPy7
namespace Go.Proofs.YtlfmfhmbkpnjbabGreatDoor
open Go.RowKit

theorem do_c (c : Cmd) (k g : Nat) (L : List Mob) (cur : List Value) (w : World) (hk : k ≤ 64) (hF : Fine k L) (h : EntAt w g L cur) :
    Calls Tryz.prog 34 #[ifaceOf c, .slice (some ⟨g, 0, none⟩) L.length 32] w (DoPost w g (doM L c)) := by
  have hr := rises_of hF.rises
  unfold ifaceOf doM
  by_cases h1 : c.kind = 1
  · rw [if_pos h1, if_pos h1]
    cases hb : spawnB c.id c.team c.x c.y with
    | false => simp only [Bool.false_eq_true, false_and, if_false]; exact do_spawn_no _ _ _ _ g L cur w hb h
    | true =>
      cases hf : findB L c.id with
      | true => simp only [Bool.true_eq_false, and_false, if_false]; exact do_spawn_there _ _ _ _ g L cur w hb hf hr h
      | false =>
        simp only [true_and, if_true]
        have hi := insert_fine (m := newM c.id c.team c.x c.y) hF (newM_fine k _ _ _ _ hb) hf
        have := hi.short
        have e : (L.take (findI L (newM c.id c.team c.x c.y).id) ++ newM c.id c.team c.x c.y :: L.drop (findI L (newM c.id c.team c.x c.y).id)).length = L.length + 1 := by
          have := findI_le L (newM c.id c.team c.x c.y).id
          simp; omega
        exact do_spawn_new _ _ _ _ g L cur w hb hf (by omega) (findI_le L _) hr h
  · rw [if_neg h1, if_neg h1]
    by_cases h2 : c.kind = 2
    · rw [if_pos h2, if_pos h2]
      cases hb : pushB c.x c.y with
      | false => simp only [Bool.false_eq_true, false_and, if_false]; exact do_push_no _ _ _ g L cur w hb h
      | true =>
        cases hf : findB L c.id with
        | false => simp only [Bool.false_eq_true, and_false, if_false]; exact do_push_none _ _ _ g L cur w hb hf hr h
        | true =>
          simp only [and_self, if_true]
          have hl := findB_lt hf
          rw [setAt_eq _ _ _ hl]
          have hm := hF.mob L[findI L c.id] (List.getElem_mem hl)
          have hp := hb
          simp only [pushB, Bool.and_eq_true] at hp
          exact do_push_there _ _ _ g L cur w hb hf _ rfl hl (push_num hp.1) (push_num hp.2) hm.vx hm.vy hr h
    · rw [if_neg h2, if_neg h2]
      by_cases h3 : c.kind = 3
      · rw [if_pos h3, if_pos h3]
        cases hb : hitB c.n with
        | false => simp only [Bool.false_eq_true, false_and, if_false]; exact do_hit_no _ _ g L cur w hb h
        | true =>
          cases hf : findB L c.id with
          | false => simp only [Bool.false_eq_true, and_false, if_false]; exact do_hit_none _ _ g L cur w hb hf hr h
          | true =>
            simp only [and_self, if_true]
            have hl := findB_lt hf
            rw [setAt_eq _ _ _ hl]
            have hm := hF.mob L[findI L c.id] (List.getElem_mem hl)
            have hn := hb
            simp only [hitB, Bool.and_eq_true, decide_eq_true_eq] at hn
            exact do_hit_there _ _ g L cur w hb hf _ rfl hl (by have := hm.low; have := hm.high; omega) hr h
      · rw [if_neg h3, if_neg h3]
        by_cases h4 : c.kind = 4
        · rw [if_pos h4, if_pos h4]
          cases hf : findB L c.id with
          | false => simp only [Bool.false_eq_true, if_false]; exact do_leave_none _ g L cur w hf hr h
          | true =>
            simp only [if_true]
            exact do_leave_there _ g L cur w hf _ rfl (findB_lt hf) hr h
        · rw [if_neg h4, if_neg h4]
          exact do_unknown g L cur w h

/-- The cells of a row of commands, six each. -/
def rowC : List Cmd → List Value
  | [] => []
  | c :: r => .int .i64 c.kind :: .int .i64 c.id :: .int .i64 c.team :: .float .f32 c.x :: .float .f32 c.y :: .int .i64 c.n :: rowC r

theorem rowC_length (L : List Cmd) : (rowC L).length = L.length * 6 := by
  induction L with
  | nil => rfl
  | cons p r ih => simp only [rowC, List.length_cons, ih]; omega
theorem rowC_append (L M : List Cmd) : rowC (L ++ M) = rowC L ++ rowC M := by
  induction L with
  | nil => rfl
  | cons p r ih => simp [rowC, ih]
theorem rowC_get (L : List Cmd) (j : Nat) (h : j < L.length) :
    (rowC L)[j * 6]? = some (.int .i64 L[j].kind) ∧ (rowC L)[j * 6 + 1]? = some (.int .i64 L[j].id) ∧ (rowC L)[j * 6 + 2]? = some (.int .i64 L[j].team) ∧ (rowC L)[j * 6 + 3]? = some (.float .f32 L[j].x) ∧
    (rowC L)[j * 6 + 4]? = some (.float .f32 L[j].y) ∧ (rowC L)[j * 6 + 5]? = some (.int .i64 L[j].n) := by
  induction L generalizing j with
  | nil => simp at h
  | cons p r ih =>
    cases j with
    | zero => simp [rowC]
    | succ m =>
      have := ih m (by simpa using h)
      rw [show (m + 1) * 6 = m * 6 + 1 + 1 + 1 + 1 + 1 + 1 from by omega]
      simpa [rowC, Nat.add_assoc] using this
theorem rowC_one (L : List Cmd) : ∀ u ∈ rowC L, u.oneCell' = true := by
  induction L with
  | nil => simp [rowC]
  | cons p r ih =>
    intro u hu
    simp only [rowC, List.mem_cons] at hu
    rcases hu with rfl | rfl | rfl | rfl | rfl | rfl | h
    · rfl
    · rfl
    · rfl
    · rfl
    · rfl
    · rfl
    · exact ih u h

/-- A list of commands that is read. -/
def ReadsC (w : World) (p : Option Addr) (L : List Cmd) : Prop :=
  L ≠ [] → ∃ b off, p = some ⟨b, off, none⟩ ∧ b < w.heap.size ∧ ∀ j u, (rowC L)[j]? = some u → w.cell? ⟨b, off + j, none⟩ = some u
theorem ReadsC.keep {w w' : World} {S : Nat → Prop} {p : Option Addr} {L : List Cmd} (h : ReadsC w p L) (hk : Kept S w w') (hS : ∀ b off, p = some ⟨b, off, none⟩ → b < w.heap.size → ¬ S b) : ReadsC w' p L := by
  intro hne
  obtain ⟨b, off, hp, hb, hc⟩ := h hne
  refine ⟨b, off, hp, Nat.lt_of_lt_of_le hb hk.size, fun j u hu => ?_⟩
  rw [cell_keep hk hb (hS b off hp hb)]; exact hc j u hu
theorem ReadsC.at {w : World} {p : Option Addr} {L : List Cmd} (h : ReadsC w p L) (i : Nat) (hi : i < L.length) : ∃ b off, p = some ⟨b, off, none⟩ ∧ b < w.heap.size ∧
    w.cell? ⟨b, off + i * 6, none⟩ = some (.int .i64 L[i].kind) ∧ w.cell? ⟨b, off + i * 6 + 1, none⟩ = some (.int .i64 L[i].id) ∧ w.cell? ⟨b, off + i * 6 + 2, none⟩ = some (.int .i64 L[i].team) ∧ w.cell? ⟨b, off + i * 6 + 3, none⟩ = some (.float .f32 L[i].x) ∧
    w.cell? ⟨b, off + i * 6 + 4, none⟩ = some (.float .f32 L[i].y) ∧ w.cell? ⟨b, off + i * 6 + 5, none⟩ = some (.int .i64 L[i].n) := by
  obtain ⟨b, off, hp, hb, hc⟩ := h (by intro e; simp [e] at hi)
  obtain ⟨r0, r1, r2, r3, r4, r5⟩ := rowC_get L i hi
  exact ⟨b, off, hp, hb, hc _ _ r0, hc _ _ r1, hc _ _ r2, hc _ _ r3, hc _ _ r4, hc _ _ r5⟩

/-- append of what is read, or of nil, within the room. -/
theorem step_append_any {P : Program} {ops : Array Oper} {o : Oper} {a : Act} {w : World} {K : Act → World → Prop} {Q : Exit → Act → World → Prop} {E : Prop} (hgd : o.guard = none) (s x : Operand) (t : TypeId)
    (ho : o.op = .call { callee := .builtin .append, args := #[s, x], argTypes := #[t, t] }) (e : TypeId) (i : TypeInfo) (size : Nat) (ht : P.underlying t = some (.slice e)) (hi : P.info? e = some i) (hsz : i.size = size)
    (g n cap : Nat) (cur : List Value) (hg : w.heap[g]? = some (.cells cur.toArray e (0, 0))) (hs : a.eval s = .slice (some ⟨g, 0, none⟩) n cap) (p : Option Addr) (m c : Nat) (hx : a.eval x = .slice p m c) (hp : p = none → c = 0) (news : List Value) (hl : news.length = m * size) (hm : p = none → m = 0)
    (hnews : ∀ ad, p = some ad → ∀ j u, news[j]? = some u → w.cell? (ad.add j) = some u) (h1 : ∀ u ∈ news, u.oneCell' = true) (hroom : n + m ≤ cap) (hn : n ≤ cap) (hcm : cap ≤ maxLen) (hcs : cur.length = cap * size) (hfit : n * size + news.length ≤ cur.length)
    (h : ∀ w', Hid (w'.heap[g]? = some (.cells (splice cur (n * size) news).toArray e (0, 0))) → Hid (Kept (fun k => k = g) w w') → K (a.put o.dst (.slice (some ⟨g, 0, none⟩) (n + m) cap)) w') :
    if Region.wanted o (yielded ops a.tmps) = true then Oper.wp P o a w K Q else E := by
  cases p with
  | some ad => exact step_append_here hgd s x t ho e i size ht hi hsz g n cap cur hg hs ad m c hx news hl (hnews ad rfl) h1 hroom hfit h
  | none =>
    obtain rfl := hm rfl
    obtain rfl := hp rfl
    obtain rfl : news = [] := List.eq_nil_of_length_eq_zero (by simpa using hl)
    have hw : Region.wanted o (yielded ops a.tmps) = true := by simp [Region.wanted, hgd]
    rw [if_pos hw]
    have hown : w.ownsRow 0 e size (.slice (some ⟨g, 0, none⟩) n cap) n (cur.take (n * size)) :=
      ⟨by rw [List.length_take]; have := Nat.mul_le_mul_right size hn; omega, Or.inr ⟨g, cap, cur.toArray, rfl, Nat.zero_le _, hg, hn, hcm, by simpa using hcs, by simp⟩⟩
    have hrun := run_append_owned_none (P := P) (w := w) 0 t o.type e i size ht hi _ n _ hown
    unfold Oper.wp
    simp [execOp, ho, resolve, invoke, builtin, hs, hx, hrun, Result.andThen]
    exact h w (show _ = _ by rw [hg]; simp [splice]) (Kept.refl _ _)
end Go.Proofs.YtlfmfhmbkpnjbabGreatDoor

namespace Go.Proofs.YtlfmfhmbkpnjbabGreatDoor
open Go.RowKit

theorem two_sets {w : World} {c : Nat} {a b : Value} {T : TypeId} (h : w.heap[c]? = some (.cells #[a, b] T (0, 0))) (u v : Value) : ((w.setCell ⟨c, 0, none⟩ u).setCell ⟨c, 1, none⟩ v).heap[c]? = some (.cells #[u, v] T (0, 0)) := by
  have h1 : (w.setCell ⟨c, 0, none⟩ u).heap[c]? = some (.cells #[u, b] T (0, 0)) := by
    rw [setCell_eq_setRow w c 0 #[a, b] T (0, 0) u h]
    exact setRow_heap w c _ _ T _ h
  exact two_set h1 v

theorem two_kept {w0 w : World} {c : Nat} (hk : Kept (fun _ => False) w0 w) (hc : w0.heap.size ≤ c) (u v : Value) : Kept (fun _ => False) w0 ((w.setCell ⟨c, 0, none⟩ u).setCell ⟨c, 1, none⟩ v) :=
  hk.join ((Kept.setCell w _ u).join (Kept.setCell _ _ v) (R := fun k => k = c) (fun _ _ e => e) (fun _ _ e => e)) (fun _ _ e => e) (fun j hj e => by omega)

def blkW (t : Int) (v : Value) : Obj := .cells #[.int .i64 t, v] 34 (0, 0)

/-- The two structs that a call of this kind lays first: what came in, what will go out. -/
theorem laid_two (w : World) (t : Int) (v : Value) : Kept (fun _ => False) w ((w.alloc (.cells #[.int .i64 t, v] 34)).alloc (.cells #[.int .i64 0, .slice none 0 0] 34)) ∧
    ((w.alloc (.cells #[.int .i64 t, v] 34)).alloc (.cells #[.int .i64 0, .slice none 0 0] 34)).heap[w.heap.size]? = some (.cells #[.int .i64 t, v] 34 (0, 0)) ∧
    ((w.alloc (.cells #[.int .i64 t, v] 34)).alloc (.cells #[.int .i64 0, .slice none 0 0] 34)).heap[w.heap.size + 1]? = some (.cells #[.int .i64 0, .slice none 0 0] 34 (0, 0)) := by
  have h1 := heap_alloc_new w (.cells #[.int .i64 t, v] 34)
  refine ⟨(Kept.alloc w _).calm2 (Kept.alloc _ _), ?_, ?_⟩
  · rw [Below.heap_alloc _ _ _ (by simp)]; exact h1
  · have := heap_alloc_new (w.alloc (.cells #[.int .i64 t, v] 34)) (.cells #[.int .i64 0, .slice none 0 0] 34)
    simpa using this

set_option maxHeartbeats 2000000 in
set_option maxRecDepth 100000 in
theorem step_bad (t : Int) (p pc : Option Addr) (cap n capc : Nat) (L : List Mob) (w : World) (hl : (L.length : Int) ≤ 4611686018427387903) (h : Reads w p L) (hb : worldB t L = false) :
    Calls Tryz.prog 17 #[.agg #[.int .i64 t, .slice p L.length cap], .slice pc n capc] w fun e w' =>
      e = .returned (.tuple #[.agg #[.int .i64 0, .slice none 0 0], .int .i64 2]) ∧ Kept (fun _ => False) w w' := by
  have HR := hide h
  clear h
  have LT := hide (laid_two w t (.slice p L.length cap))
  go_enter Tryz.func17, Tryz.ntmps17
  go_wp2_with fail
  refine (isWorld_c t p cap L _ (by omega) (HR.out.calm LT.out.1)).mono ?_
  rw [hb]
  rintro e w1 ⟨rfl, q1⟩
  have K1 := hide (LT.out.1.calm2 q1)
  have B1 : Hid (w1.heap[w.heap.size + 1]? = some (.cells #[.int .i64 0, .slice none 0 0] 34 (0, 0))) := by show _ = _; rw [q1.block _ (heap_lt LT.out.2.2) (fun e => e)]; exact LT.out.2.2
  obtain ⟨c0, c1, f0, f1⟩ := two_cells B1.out
  obtain ⟨d0, d1, -, -⟩ := two_cells (two_sets B1.out (.int .i64 0) (.slice none 0 0))
  clear q1 LT
  go_wp2
  refine bodyPost_ret (v := .tuple #[.agg #[.int .i64 0, .slice none 0 0], .int .i64 2]) (by simp [results, Tryz.results17, go_sem, d0, d1]) rfl ?_
  exact ⟨rfl, two_kept K1.out (by omega) _ _⟩

set_option maxHeartbeats 2000000 in
set_option maxRecDepth 100000 in
theorem step_last (p pc : Option Addr) (cap n capc : Nat) (L : List Mob) (w : World) (hl : (L.length : Int) ≤ 4611686018427387903) (h : Reads w p L) (hb : worldB 500 L = true) :
    Calls Tryz.prog 17 #[.agg #[.int .i64 500, .slice p L.length cap], .slice pc n capc] w fun e w' =>
      e = .returned (.tuple #[.agg #[.int .i64 0, .slice none 0 0], .int .i64 2]) ∧ Kept (fun _ => False) w w' := by
  have HR := hide h
  clear h
  have LT := hide (laid_two w 500 (.slice p L.length cap))
  go_enter Tryz.func17, Tryz.ntmps17
  go_wp2_with fail
  refine (isWorld_c 500 p cap L _ (by omega) (HR.out.calm LT.out.1)).mono ?_
  rw [hb]
  rintro e w1 ⟨rfl, q1⟩
  have K1 := hide (LT.out.1.calm2 q1)
  have A1 : Hid (w1.heap[w.heap.size]? = some (.cells #[.int .i64 500, .slice p L.length cap] 34 (0, 0))) := by show _ = _; rw [q1.block _ (heap_lt LT.out.2.1) (fun e => e)]; exact LT.out.2.1
  have B1 : Hid (w1.heap[w.heap.size + 1]? = some (.cells #[.int .i64 0, .slice none 0 0] 34 (0, 0))) := by show _ = _; rw [q1.block _ (heap_lt LT.out.2.2) (fun e => e)]; exact LT.out.2.2
  obtain ⟨a0, a1, -, -⟩ := two_cells A1.out
  obtain ⟨c0, c1, f0, f1⟩ := two_cells B1.out
  obtain ⟨d0, d1, -, -⟩ := two_cells (two_sets B1.out (.int .i64 0) (.slice none 0 0))
  clear q1 LT
  go_wp2
  refine bodyPost_ret (v := .tuple #[.agg #[.int .i64 0, .slice none 0 0], .int .i64 2]) (by simp [results, Tryz.results17, go_sem, d0, d1]) rfl ?_
  exact ⟨rfl, two_kept K1.out (by omega) _ _⟩

set_option maxHeartbeats 2000000 in
set_option maxRecDepth 100000 in
theorem step_many (t : Int) (p pc : Option Addr) (cap n capc : Nat) (L : List Mob) (w : World) (hl : (L.length : Int) ≤ 4611686018427387903) (h : Reads w p L) (hb : worldB t L = true) (ht : t ≠ 500) (hn : 64 < n) :
    Calls Tryz.prog 17 #[.agg #[.int .i64 t, .slice p L.length cap], .slice pc n capc] w fun e w' =>
      e = .returned (.tuple #[.agg #[.int .i64 0, .slice none 0 0], .int .i64 1]) ∧ Kept (fun _ => False) w w' := by
  have HR := hide h
  have ht' : (t == 500) = false := by simp [ht]
  have hn' : (64 : Int) < (n : Int) := by omega
  clear h ht
  have LT := hide (laid_two w t (.slice p L.length cap))
  go_enter Tryz.func17, Tryz.ntmps17
  go_wp2_with fail
  refine (isWorld_c t p cap L _ (by omega) (HR.out.calm LT.out.1)).mono ?_
  rw [hb]
  rintro e w1 ⟨rfl, q1⟩
  have K1 := hide (LT.out.1.calm2 q1)
  have A1 : Hid (w1.heap[w.heap.size]? = some (.cells #[.int .i64 t, .slice p L.length cap] 34 (0, 0))) := by show _ = _; rw [q1.block _ (heap_lt LT.out.2.1) (fun e => e)]; exact LT.out.2.1
  have B1 : Hid (w1.heap[w.heap.size + 1]? = some (.cells #[.int .i64 0, .slice none 0 0] 34 (0, 0))) := by show _ = _; rw [q1.block _ (heap_lt LT.out.2.2) (fun e => e)]; exact LT.out.2.2
  obtain ⟨a0, a1, -, -⟩ := two_cells A1.out
  obtain ⟨c0, c1, f0, f1⟩ := two_cells B1.out
  obtain ⟨d0, d1, -, -⟩ := two_cells (two_sets B1.out (.int .i64 0) (.slice none 0 0))
  clear q1 LT
  go_wp2
  refine bodyPost_ret (v := .tuple #[.agg #[.int .i64 0, .slice none 0 0], .int .i64 1]) (by simp [results, Tryz.results17, go_sem, d0, d1]) rfl ?_
  exact ⟨rfl, two_kept K1.out (by omega) _ _⟩
end Go.Proofs.YtlfmfhmbkpnjbabGreatDoor

namespace Go.Proofs.YtlfmfhmbkpnjbabGreatDoor
open Go.RowKit

theorem make32 : ∃ cur0 : List Value, cur0.length = 224 ∧ ∀ w : World, (Instr.makeSlice 32 (.int .i64 0) (.int .i64 32)).run Tryz.prog w = .ok (.slice (some ⟨w.heap.size, 0, none⟩) 0 32) (w.alloc (.cells cur0.toArray 63)) := by
  obtain ⟨i0, hi, hz0, hz1, hz2⟩ := info_parts info_mob
  refine ⟨(madeCells (Value.agg #[.int .i64 0, .int .i64 0, .float .f32 0, .float .f32 0, .float .f32 0, .float .f32 0, .int .i64 0]).cells (32 * 7)).toList, ?_, fun w => ?_⟩
  · rw [Array.length_toList, size_madeCells]
  · have := run_make (P := Tryz.prog) w 32 63 i0 _ Tryz.underlying32 hi hz0 .i64 .i64 0 32 (by decide) (by decide) (by rw [hz2]; decide) (by decide)
    rw [hz1] at this
    exact this

theorem worldB_fine {t : Int} {L : List Mob} (h : worldB t L = true) : 0 ≤ t ∧ t ≤ 500 ∧ Fine 0 L := by
  simp only [worldB, decide_eq_true_eq] at h
  refine ⟨h.1, h.2.1, of_rises h.2.2.rises, fun m hm => ?_⟩
  obtain ⟨j, hj, rfl⟩ := List.getElem_of_mem hm
  have := (h.2.2 j hj hj).1
  simp only [mobB, Bool.and_eq_true, decide_eq_true_eq] at this
  exact ⟨this.1.1.1.1.1.1, this.1.1.1.1.1.2, this.1.1.1.1.2, (fin_num this.1.1.1.2).ok, (fin_num this.1.1.2).ok, by omega, this.2⟩

theorem fold_fine {k : Nat} (cs : List Cmd) (L : List Mob) (h : Fine k L) : Fine (k + cs.length) (cs.foldl doM L) := by
  induction cs generalizing k L with
  | nil => exact h
  | cons c r ih =>
    have := ih (doM L c) (doM_fine c h)
    simp only [List.foldl_cons, List.length_cons]
    rw [show k + (r.length + 1) = k + 1 + r.length from by omega]
    exact this

theorem fold_take (cs : List Cmd) (L : List Mob) (i : Nat) (hi : i < cs.length) : (cs.take (i + 1)).foldl doM L = doM ((cs.take i).foldl doM L) cs[i] := by
  rw [List.take_succ_eq_append_getElem hi, List.foldl_append]; rfl

/-- The list while its entities move. -/
def half (M : List Mob) (i : Nat) : List Mob := (M.take i).map moveM ++ M.drop i
theorem half_length (M : List Mob) (i : Nat) : (half M i).length = M.length := by simp [half]; omega
theorem half_at (M : List Mob) (i : Nat) (hi : i < M.length) : (half M i)[i]'(by rw [half_length]; exact hi) = M[i] := by
  simp only [half]
  rw [List.getElem_append_right (by simp; omega)]
  simp [show i - min i M.length = 0 by omega]
theorem half_set (M : List Mob) (i : Nat) (hi : i < M.length) : (half M i).set i (moveM M[i]) = half M (i + 1) := by
  unfold half
  rw [List.set_append_right _ _ (by simp; omega), List.take_succ_eq_append_getElem hi, List.map_append, List.append_assoc]
  congr 1
  rw [show i - ((M.take i).map moveM).length = 0 from by simp; omega, List.drop_eq_getElem_cons hi]
  rfl
theorem half_all (M : List Mob) : half M M.length = M.map moveM := by simp [half]

theorem keep_fine {k : Nat} {L : List Mob} (h : Fine k L) : Fine k (keepL L) :=
  ⟨h.rises.sublist (List.filter_sublist.map _), fun m hm => h.mob m (List.mem_filter.1 hm).1⟩

set_option maxHeartbeats 4000000 in
set_option maxRecDepth 100000 in
theorem step_ok (t : Int) (p pc : Option Addr) (cap capc : Nat) (L : List Mob) (cs : List Cmd) (w : World) (hl : (L.length : Int) ≤ 4611686018427387903) (h : Reads w p L) (hp : p = none → cap = 0) (hc : ReadsC w pc cs) (hb : worldB t L = true) (ht : t ≠ 500) (hn : cs.length ≤ 64) :
    Calls Tryz.prog 17 #[.agg #[.int .i64 t, .slice p L.length cap], .slice pc cs.length capc] w fun e w' =>
      ∃ g cur, w.heap.size ≤ g ∧ e = .returned (.tuple #[.agg #[.int .i64 (t + 1), .slice (some ⟨g, 0, none⟩) (stepL cs L).length 32], .int .i64 0]) ∧ EntAt w' g (stepL cs L) cur ∧ Kept (fun _ => False) w w' := by
  obtain ⟨i0, hi, hz0, hz1, hz2⟩ := info_parts info_mob
  obtain ⟨cur0, hc0, hmk⟩ := make32
  obtain ⟨ht0, ht1, hF⟩ := worldB_fine hb
  have hsh := hF.short
  have HF := hide hF
  have HR := hide h
  have HC := hide hc
  have HP := hide hp
  have hsf := store_float Tryz.prog
  have ht' : (t == 500) = false := by simp [ht]
  have hn' : ¬ (64 : Int) < (cs.length : Int) := by omega
  have hn'' : (cs.length : Int) ≤ 64 := by omega
  have htw : IntKind.i64.wrap (t + 1) = t + 1 := wrap_id _ (by omega)
  clear h hc hp ht hF
  have LT := hide (laid_two w t (.slice p L.length cap))
  go_enter Tryz.func17, Tryz.ntmps17
  go_wp2_with fail
  refine (isWorld_c t p cap L _ (by omega) (HR.out.calm LT.out.1)).mono ?_
  rw [hb]
  rintro e w1 ⟨rfl, q1⟩
  have K1 := hide (LT.out.1.calm2 q1)
  have A1 : Hid (w1.heap[w.heap.size]? = some (.cells #[.int .i64 t, .slice p L.length cap] 34 (0, 0))) := by show _ = _; rw [q1.block _ (heap_lt LT.out.2.1) (fun e => e)]; exact LT.out.2.1
  have B1 : Hid (w1.heap[w.heap.size + 1]? = some (.cells #[.int .i64 0, .slice none 0 0] 34 (0, 0))) := by show _ = _; rw [q1.block _ (heap_lt LT.out.2.2) (fun e => e)]; exact LT.out.2.2
  obtain ⟨a0, a1, -, -⟩ := two_cells A1.out
  have hw1 := heap_lt B1.out
  have hw0 := heap_lt A1.out
  clear q1 LT
  go_wp2
  have S2 : Hid (∀ ad, p = some ad → ∀ j u, (rowM L)[j]? = some u → (w1.alloc (.cells cur0.toArray 63)).cell? (ad.add j) = some u) := fun ad had j u hu => by
    have hne : L ≠ [] := by intro e; subst e; simp [rowM] at hu
    obtain ⟨b, off, h1, h2, h3⟩ := (HR.out.calm (K1.out.calm2 (Kept.alloc w1 (.cells cur0.toArray 63)))) hne
    rw [had] at h1
    obtain rfl : ad = ⟨b, off, none⟩ := by simpa using h1
    rw [addr_add2]; exact h3 j u hu
  have S3 : Hid (p = none → L.length = 0) := fun e => by
    by_cases hne : L = []
    · rw [hne]; rfl
    · obtain ⟨b, off, h1, _⟩ := HR.out hne
      rw [e] at h1; cases h1
  go_region_law (refine step_append_any rfl (.tmp 23) (.tmp 25) 32 rfl 63 i0 7 Tryz.underlying32 hi hz1 w1.heap.size 0 32 cur0 (heap_alloc_new w1 _) (by simp [Act.eval]) p L.length cap (by simp [Act.eval]) HP.out (rowM L) (rowM_length L) S3.out S2.out (rowM_one L) (by omega) (by omega) (by decide) hc0 (by rw [rowM_length, hc0]; omega) ?_; intro w2 HG2 HK2)
  all_goals
    have KA := hide ((Kept.alloc w1 (.cells cur0.toArray 63)).calm2 (Kept.drew _))
    have E2 : Hid (EntAt w2 w1.heap.size L (splice cur0 (0 * 7) (rowM L))) := ⟨HG2.out, by rw [length_splice _ _ _ (by rw [rowM_length, hc0]; omega), hc0], by
      unfold splice
      rw [Nat.zero_mul, List.take_zero, List.nil_append, ← rowM_length, List.take_left], hsh⟩
    have K2 : Hid (Kept (fun _ => False) w w2) := (K1.out.calm2 KA.out).join HK2.out (fun _ _ e => e) (fun j hj e => by omega)
    have A2 : Hid (w2.heap[w.heap.size]? = some (.cells #[.int .i64 t, .slice p L.length cap] 34 (0, 0))) := by
      show _ = _
      rw [HK2.out.block _ (Nat.lt_of_lt_of_le hw0 KA.out.size) (by omega), KA.out.block _ hw0 (fun e => e)]; exact A1.out
    have B2 : Hid (w2.heap[w.heap.size + 1]? = some (.cells #[.int .i64 0, .slice none 0 0] 34 (0, 0))) := by
      show _ = _
      rw [HK2.out.block _ (Nat.lt_of_lt_of_le hw1 KA.out.size) (by omega), KA.out.block _ hw1 (fun e => e)]; exact B1.out
    clear HG2 HK2 S2 S3 hmk a0 a1 A1 B1 K1 KA
    generalize w1.heap.size = g at *
    go_wp2
    go_loopw [29, 6] (fun a s wr => ∃ i : Nat, ∃ cu : List Value, i ≤ cs.length ∧ a = .int .i64 i ∧ s = .slice (some ⟨g, 0, none⟩) ((cs.take i).foldl doM L).length 32 ∧ Hid (EntAt wr g ((cs.take i).foldl doM L) cu) ∧ Hid (Kept (fun k => k = g) w2 wr)) (fun a _ _ => cs.length - (intOf a).toNat)
    case atStart => exact ⟨0, _, Nat.zero_le _, rfl, rfl, E2, Kept.refl _ _⟩
    case round =>
      obtain ⟨i, cu, hil, rfl, rfl, HE, HK⟩ := hrel
      clear E2
      by_cases hlt : i < cs.length
      · have HKW : Hid (Kept (fun k => k = g) w wr) := K2.out.join HK.out (fun _ _ e => e.elim) (fun _ _ e => e)
        obtain ⟨b, off, rfl, hb', c0, c1, c2, c3, c4, c5⟩ := (HC.out.keep HKW.out (fun b off hpc hb e => by omega)).at i hlt
        have hFi := fold_fine (cs.take i) L HF.out
        rw [List.length_take, show 0 + min i cs.length = i from by omega] at hFi
        have HFi := hide hFi
        have HT := hide (fold_take cs L i hlt)
        clear hFi
        generalize (cs.take i).foldl doM L = Li at *
        have hb1 : (0 : Int) ≤ (i : Int) := by omega
        have hb2 : (i : Int) < (cs.length : Int) := by omega
        have KA := hide (Kept.alloc wr (.cells #[.int .i64 cs[i].kind, .int .i64 cs[i].id, .int .i64 cs[i].team, .float .f32 cs[i].x, .float .f32 cs[i].y, .int .i64 cs[i].n] 90))
        go_wp2_with fail
        refine (commandOf_c cs[i] _).mono ?_
        rintro e w4 ⟨rfl, q4⟩
        have K4 := hide (KA.out.calm2 q4)
        clear q4 c0 c1 c2 c3 c4 c5 KA
        generalize hcv : ifaceOf cs[i] = cv at *
        have HCV := hide hcv
        clear hcv
        go_wp2_with fail
        rw [← HCV.out]
        refine (do_c cs[i] i g Li cu _ (by omega) HFi.out (HE.out.calm K4.out)).mono ?_
        rintro e w5 ⟨rfl, ⟨cu5, q5⟩, k5⟩
        have Q5 := hide q5
        have K5 := hide (((HK.out.join K4.out (R := fun k => k = g) (fun _ _ e => e) (fun _ _ e => e.elim))).join k5 (fun _ _ e => e) (fun _ _ e => e))
        clear q5 k5
        go_wp2
        go_roundw
        case rel => exact ⟨i + 1, cu5, by omega, by go_num, by rw [HT.out], by rw [HT.out]; exact Q5, K5⟩
        case measure => simp [intOf]; omega
      · obtain rfl : i = cs.length := by omega
        rw [List.take_length] at HE
        rw [List.take_length]
        have hFi := keep_fine (fold_fine cs L HF.out)
        have HFi := hide hFi
        clear hFi
        go_wp2_with fail
        refine (deleteFunc_c g _ cu _ HE.out).mono ?_
        rintro e w4 ⟨rfl, ⟨cu4, q4⟩, k4⟩
        have HS : Hid (stepL cs L = (keepL (cs.foldl doM L)).map moveM) := rfl
        generalize keepL (cs.foldl doM L) = M at *
        have Q4 := hide q4
        have hMl := q4.short
        have K4 := hide (HK.out.join k4 (R := fun k => k = g) (fun _ _ e => e) (fun _ _ e => e))
        clear q4 k4 HE HK
        go_wp2
        go_loopw [42] (fun a wr => ∃ i : Nat, ∃ cu : List Value, i ≤ M.length ∧ a = .int .i64 i ∧ Hid (EntAt wr g (half M i) cu) ∧ Hid (Kept (fun k => k = g) w2 wr)) (fun a _ => M.length - (intOf a).toNat)
        case atStart => exact ⟨0, cu4, Nat.zero_le _, rfl, Q4, K4⟩
        case round =>
          obtain ⟨i, cu, hil, rfl, HE, HK⟩ := hrel
          clear Q4 K4
          by_cases hlt : i < M.length
          · have hm := HFi.out.mob M[i] (List.getElem_mem hlt)
            have hlt' : i < (half M i).length := by rw [half_length]; exact hlt
            have hat := half_at M i hlt
            have MV := hide (move_c g i (half M i) cu wr hlt' HE.out (by rw [hat]; exact hm.px) (by rw [hat]; exact hm.py) (by rw [hat]; exact hm.vx) (by rw [hat]; exact hm.vy))
            have HH : Hid ((half M i).set i (moveM (half M i)[i]) = half M (i + 1)) := by show _ = _; rw [hat]; exact half_set M i hlt
            have hb1 : (0 : Int) ≤ (i : Int) := by omega
            have hb2 : (i : Int) < (M.length : Int) := by omega
            clear hm hat
            go_wp2_with fail
            refine MV.out.mono ?_
            rw [HH.out]
            rintro e w6 ⟨rfl, ⟨cu6, q6⟩, k6⟩
            have Q6 := hide q6
            have K6 := hide (HK.out.join k6 (R := fun k => k = g) (fun _ _ e => e) (fun _ _ e => e))
            clear q6 k6 MV
            go_wp2
            go_roundw
            case rel => exact ⟨i + 1, cu6, by omega, by go_num, Q6, K6⟩
            case measure => simp [intOf]; omega
          · obtain rfl : i = M.length := by omega
            have EF : Hid (EntAt wr g (stepL cs L) cu) := by rw [HS.out, ← half_all]; exact HE.out
            have HLN : Hid (M.length = (stepL cs L).length) := by show _ = _; rw [HS.out, List.length_map]
            have AF : Hid (wr.heap[w.heap.size]? = some (.cells #[.int .i64 t, .slice p L.length cap] 34 (0, 0))) := by show _ = _; rw [HK.out.block _ (heap_lt A2.out) (by omega)]; exact A2.out
            have BF : Hid (wr.heap[w.heap.size + 1]? = some (.cells #[.int .i64 0, .slice none 0 0] 34 (0, 0))) := by show _ = _; rw [HK.out.block _ (heap_lt B2.out) (by omega)]; exact B2.out
            have KF : Hid (Kept (fun _ => False) w wr) := K2.out.join HK.out (fun _ _ e => e) (fun j hj e => by omega)
            obtain ⟨a0, a1, -, -⟩ := two_cells AF.out
            obtain ⟨c0, c1, f0, f1⟩ := two_cells BF.out
            obtain ⟨d0, d1, -, -⟩ := two_cells (two_sets BF.out (.int .i64 (t + 1)) (.slice (some ⟨g, 0, none⟩) M.length 32))
            clear HE HK
            go_wp2
            refine bodyPost_ret (v := .tuple #[.agg #[.int .i64 (t + 1), .slice (some ⟨g, 0, none⟩) M.length 32], .int .i64 0]) (by simp [results, Tryz.results17, go_sem, d0, d1]) rfl ?_
            refine ⟨g, cu, by omega, by rw [HLN.out], ?_, two_kept KF.out (by omega) _ _⟩
            have kk : Kept (fun k => k = w.heap.size + 1) wr ((wr.setCell ⟨w.heap.size + 1, 0, none⟩ (.int .i64 (t + 1))).setCell ⟨w.heap.size + 1, 1, none⟩ (.slice (some ⟨g, 0, none⟩) M.length 32)) := (Kept.setCell wr _ _).join (Kept.setCell _ _ _) (fun _ _ e => e) (fun _ _ e => e)
            exact EF.out.keep kk (by omega)
end Go.Proofs.YtlfmfhmbkpnjbabGreatDoor

namespace Go.Proofs.YtlfmfhmbkpnjbabGreatDoor
open Go.RowKit

def I64 (z : Int) : Prop := -9223372036854775808 ≤ z ∧ z ≤ 9223372036854775807

/-- A list of raw numbers. -/
def RI (w : World) (p : Option Addr) (n : Nat) : Prop :=
  0 < n → ∃ b off, p = some ⟨b, off, none⟩ ∧ b < w.heap.size ∧ ∀ j, j < n → ∃ z, I64 z ∧ w.cell? ⟨b, off + j, none⟩ = some (.int .i64 z)
theorem RI.keep {w w' : World} {S : Nat → Prop} {p : Option Addr} {n : Nat} (h : RI w p n) (hk : Kept S w w') (hS : ∀ b, b < w.heap.size → ¬ S b) : RI w' p n := by
  intro hn
  obtain ⟨b, off, h1, h2, h3⟩ := h hn
  refine ⟨b, off, h1, Nat.lt_of_lt_of_le h2 hk.size, fun j hj => ?_⟩
  obtain ⟨z, q1, q2⟩ := h3 j hj
  exact ⟨z, q1, by rw [cell_keep hk h2 (hS b h2)]; exact q2⟩
theorem RI.calm {w w' : World} {p : Option Addr} {n : Nat} (h : RI w p n) (hk : Kept (fun _ => False) w w') : RI w' p n := h.keep hk (fun _ _ e => e)

theorem i64_tdiv {z : Int} (h : I64 z) (k : Int) (hk : 0 < k) : I64 (z.tdiv k) := by
  unfold I64 at *
  by_cases h0 : 0 ≤ z
  · rw [Int.tdiv_eq_ediv_of_nonneg h0]
    have h1 := Int.ediv_nonneg h0 (Int.le_of_lt hk)
    have h2 := Int.ediv_le_self k h0
    omega
  · obtain ⟨y, rfl⟩ : ∃ y, z = -y := ⟨-z, by omega⟩
    rw [Int.neg_tdiv, Int.tdiv_eq_ediv_of_nonneg (by omega)]
    have h1 := Int.ediv_nonneg (show 0 ≤ y by omega) (Int.le_of_lt hk)
    have h2 := Int.ediv_le_self k (show 0 ≤ y by omega)
    omega

theorem ten_pos : isPos 1092616192 := ⟨false, 10485760, -20, by decide, by decide⟩
theorem ok_int (n : Int) : okV (floatOfInt .f32 n) := ok_nearest _ _ _

theorem six_cells {w : World} {c : Nat} {a b d e f g : Value} {T : TypeId} (h : w.heap[c]? = some (.cells #[a, b, d, e, f, g] T (0, 0))) : w.cell? ⟨c, 0, none⟩ = some a ∧ w.cell? ⟨c, 1, none⟩ = some b ∧ w.cell? ⟨c, 2, none⟩ = some d ∧ w.cell? ⟨c, 3, none⟩ = some e ∧ w.cell? ⟨c, 4, none⟩ = some f ∧ w.cell? ⟨c, 5, none⟩ = some g := by
  refine ⟨?_, ?_, ?_, ?_, ?_, ?_⟩ <;> rw [cell_block h] <;> rfl

theorem info_cmd : (Tryz.prog.info? 90).map (fun i => (i.zero, i.size, i.bytes)) = some (some (.agg #[.int .i64 0, .int .i64 0, .int .i64 0, .float .f32 0, .float .f32 0, .int .i64 0]), 6, 40) := by kernel_rfl

theorem owns_readsC {w : World} {base : Nat} {p : Option Addr} {cap : Nat} {cs : List Cmd} (h : w.ownsRow base 90 6 (.slice p cs.length cap) cs.length (rowC cs)) : ReadsC w p cs ∧ (p = none → cap = 0) ∧ (∀ b off, p = some ⟨b, off, none⟩ → base ≤ b ∧ b < w.heap.size) := by
  have h' := h
  rcases h.2 with ⟨e, h0⟩ | ⟨g, cp, cur, e, hb, hh, _⟩
  · simp only [Value.slice.injEq] at e
    obtain ⟨rfl, _, rfl⟩ := e
    exact ⟨fun hne => absurd (List.eq_nil_of_length_eq_zero h0) hne, fun _ => rfl, fun b off e => by cases e⟩
  · simp only [Value.slice.injEq] at e
    obtain ⟨rfl, _, rfl⟩ := e
    refine ⟨fun _ => ⟨g, 0, rfl, heap_lt hh, fun j u hu => ?_⟩, (fun e => by cases e), fun b off e => ?_⟩
    · have := h'.cells (g := g) rfl j u hu
      rw [addr_add2] at this; exact this
    · simp only [Option.some.injEq, Addr.mk.injEq] at e
      obtain ⟨rfl, _⟩ := e
      exact ⟨hb, heap_lt hh⟩

end Go.Proofs.YtlfmfhmbkpnjbabGreatDoor
