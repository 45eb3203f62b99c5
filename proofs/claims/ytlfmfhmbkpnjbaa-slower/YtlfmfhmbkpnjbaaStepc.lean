import Derived.Test.YtlfmfhmbkpnjbaaPure
namespace Go.Proofs.Ytlfmfhmbkpnjbaa
open Go.RowKit

theorem do_c (c : Cmd) (k g : Nat) (L : List Mob) (cur : List Value) (w : World) (hk : k ≤ 64) (hF : Fine k L) (h : EntAt w g L cur) :
    Calls Try.prog 48 #[ifaceOf c, .slice (some ⟨g, 0, none⟩) L.length 32] w (DoPost w g (doM L c)) := by
  have hr := rises_of hF.rises
  unfold ifaceOf doM
  by_cases h1 : c.kind = 1
  · rw [if_pos h1, if_pos h1]
    cases hb : spawnB c.id c.team c.x c.y with
    | false => simp only [Bool.false_eq_true, false_and, if_false]; exact do_spawn_no _ _ _ _ g L cur w hb h
    | true =>
      cases hf : findB L c.id with
      | true => simp only [Bool.true_eq_false, and_false, if_false]; exact do_spawn_there _ _ _ _ g L cur w hb hf hr h
      | false =>
        simp only [true_and, if_true]
        have hi := insert_fine (m := newM c.id c.team c.x c.y) hF (newM_fine k _ _ _ _ hb) hf
        have := hi.short
        have e : (L.take (findI L (newM c.id c.team c.x c.y).id) ++ newM c.id c.team c.x c.y :: L.drop (findI L (newM c.id c.team c.x c.y).id)).length = L.length + 1 := by
          have := findI_le L (newM c.id c.team c.x c.y).id
          simp; omega
        exact do_spawn_new _ _ _ _ g L cur w hb hf (by omega) (findI_le L _) hr h
  · rw [if_neg h1, if_neg h1]
    by_cases h2 : c.kind = 2
    · rw [if_pos h2, if_pos h2]
      cases hb : pushB c.x c.y with
      | false => simp only [Bool.false_eq_true, false_and, if_false]; exact do_push_no _ _ _ g L cur w hb h
      | true =>
        cases hf : findB L c.id with
        | false => simp only [Bool.false_eq_true, and_false, if_false]; exact do_push_none _ _ _ g L cur w hb hf hr h
        | true =>
          simp only [and_self, if_true]
          have hl := findB_lt hf
          rw [setAt_eq _ _ _ hl]
          have hm := hF.mob L[findI L c.id] (List.getElem_mem hl)
          have hp := hb
          simp only [pushB, Bool.and_eq_true] at hp
          exact do_push_there _ _ _ g L cur w hb hf _ rfl hl (push_num hp.1) (push_num hp.2) hm.vx hm.vy hr h
    · rw [if_neg h2, if_neg h2]
      by_cases h3 : c.kind = 3
      · rw [if_pos h3, if_pos h3]
        cases hb : hitB c.n with
        | false => simp only [Bool.false_eq_true, false_and, if_false]; exact do_hit_no _ _ g L cur w hb h
        | true =>
          cases hf : findB L c.id with
          | false => simp only [Bool.false_eq_true, and_false, if_false]; exact do_hit_none _ _ g L cur w hb hf hr h
          | true =>
            simp only [and_self, if_true]
            have hl := findB_lt hf
            rw [setAt_eq _ _ _ hl]
            have hm := hF.mob L[findI L c.id] (List.getElem_mem hl)
            have hn := hb
            simp only [hitB, Bool.and_eq_true, decide_eq_true_eq] at hn
            exact do_hit_there _ _ g L cur w hb hf _ rfl hl (by have := hm.low; have := hm.high; omega) hr h
      · rw [if_neg h3, if_neg h3]
        by_cases h4 : c.kind = 4
        · rw [if_pos h4, if_pos h4]
          cases hf : findB L c.id with
          | false => simp only [Bool.false_eq_true, if_false]; exact do_leave_none _ g L cur w hf hr h
          | true =>
            simp only [if_true]
            exact do_leave_there _ g L cur w hf _ rfl (findB_lt hf) hr h
        · rw [if_neg h4, if_neg h4]
          exact do_unknown g L cur w h

/-- The cells of a row of commands, six each. -/
def rowC : List Cmd → List Value
  | [] => []
  | c :: r => .int .i64 c.kind :: .int .i64 c.id :: .int .i64 c.team :: .float .f32 c.x :: .float .f32 c.y :: .int .i64 c.n :: rowC r

theorem rowC_length (L : List Cmd) : (rowC L).length = L.length * 6 := by
  induction L with
  | nil => rfl
  | cons p r ih => simp only [rowC, List.length_cons, ih]; omega
theorem rowC_append (L M : List Cmd) : rowC (L ++ M) = rowC L ++ rowC M := by
  induction L with
  | nil => rfl
  | cons p r ih => simp [rowC, ih]
theorem rowC_get (L : List Cmd) (j : Nat) (h : j < L.length) :
    (rowC L)[j * 6]? = some (.int .i64 L[j].kind) ∧ (rowC L)[j * 6 + 1]? = some (.int .i64 L[j].id) ∧ (rowC L)[j * 6 + 2]? = some (.int .i64 L[j].team) ∧ (rowC L)[j * 6 + 3]? = some (.float .f32 L[j].x) ∧
    (rowC L)[j * 6 + 4]? = some (.float .f32 L[j].y) ∧ (rowC L)[j * 6 + 5]? = some (.int .i64 L[j].n) := by
  induction L generalizing j with
  | nil => simp at h
  | cons p r ih =>
    cases j with
    | zero => simp [rowC]
    | succ m =>
      have := ih m (by simpa using h)
      rw [show (m + 1) * 6 = m * 6 + 1 + 1 + 1 + 1 + 1 + 1 from by omega]
      simpa [rowC, Nat.add_assoc] using this
theorem rowC_one (L : List Cmd) : ∀ u ∈ rowC L, u.oneCell' = true := by
  induction L with
  | nil => simp [rowC]
  | cons p r ih =>
    intro u hu
    simp only [rowC, List.mem_cons] at hu
    rcases hu with rfl | rfl | rfl | rfl | rfl | rfl | h
    · rfl
    · rfl
    · rfl
    · rfl
    · rfl
    · rfl
    · exact ih u h

/-- A list of commands that is read. -/
def ReadsC (w : World) (p : Option Addr) (L : List Cmd) : Prop :=
  L ≠ [] → ∃ b off, p = some ⟨b, off, none⟩ ∧ b < w.heap.size ∧ ∀ j u, (rowC L)[j]? = some u → w.cell? ⟨b, off + j, none⟩ = some u
theorem ReadsC.keep {w w' : World} {S : Nat → Prop} {p : Option Addr} {L : List Cmd} (h : ReadsC w p L) (hk : Kept S w w') (hS : ∀ b off, p = some ⟨b, off, none⟩ → b < w.heap.size → ¬ S b) : ReadsC w' p L := by
  intro hne
  obtain ⟨b, off, hp, hb, hc⟩ := h hne
  refine ⟨b, off, hp, Nat.lt_of_lt_of_le hb hk.size, fun j u hu => ?_⟩
  rw [cell_keep hk hb (hS b off hp hb)]; exact hc j u hu
theorem ReadsC.at {w : World} {p : Option Addr} {L : List Cmd} (h : ReadsC w p L) (i : Nat) (hi : i < L.length) : ∃ b off, p = some ⟨b, off, none⟩ ∧ b < w.heap.size ∧
    w.cell? ⟨b, off + i * 6, none⟩ = some (.int .i64 L[i].kind) ∧ w.cell? ⟨b, off + i * 6 + 1, none⟩ = some (.int .i64 L[i].id) ∧ w.cell? ⟨b, off + i * 6 + 2, none⟩ = some (.int .i64 L[i].team) ∧ w.cell? ⟨b, off + i * 6 + 3, none⟩ = some (.float .f32 L[i].x) ∧
    w.cell? ⟨b, off + i * 6 + 4, none⟩ = some (.float .f32 L[i].y) ∧ w.cell? ⟨b, off + i * 6 + 5, none⟩ = some (.int .i64 L[i].n) := by
  obtain ⟨b, off, hp, hb, hc⟩ := h (by intro e; simp [e] at hi)
  obtain ⟨r0, r1, r2, r3, r4, r5⟩ := rowC_get L i hi
  exact ⟨b, off, hp, hb, hc _ _ r0, hc _ _ r1, hc _ _ r2, hc _ _ r3, hc _ _ r4, hc _ _ r5⟩

/-- append of what is read, or of nil, within the room. -/
theorem step_append_any {P : Program} {ops : Array Oper} {o : Oper} {a : Act} {w : World} {K : Act → World → Prop} {Q : Exit → Act → World → Prop} {E : Prop} (hgd : o.guard = none) (s x : Operand) (t : TypeId)
    (ho : o.op = .call { callee := .builtin .append, args := #[s, x], argTypes := #[t, t] }) (e : TypeId) (i : TypeInfo) (size : Nat) (ht : P.underlying t = some (.slice e)) (hi : P.info? e = some i) (hsz : i.size = size)
    (g n cap : Nat) (cur : List Value) (hg : w.heap[g]? = some (.cells cur.toArray e (0, 0))) (hs : a.eval s = .slice (some ⟨g, 0, none⟩) n cap) (p : Option Addr) (m c : Nat) (hx : a.eval x = .slice p m c) (hp : p = none → c = 0) (news : List Value) (hl : news.length = m * size) (hm : p = none → m = 0)
    (hnews : ∀ ad, p = some ad → ∀ j u, news[j]? = some u → w.cell? (ad.add j) = some u) (h1 : ∀ u ∈ news, u.oneCell' = true) (hroom : n + m ≤ cap) (hn : n ≤ cap) (hcm : cap ≤ maxLen) (hcs : cur.length = cap * size) (hfit : n * size + news.length ≤ cur.length)
    (h : ∀ w', Hid (w'.heap[g]? = some (.cells (splice cur (n * size) news).toArray e (0, 0))) → Hid (Kept (fun k => k = g) w w') → K (a.put o.dst (.slice (some ⟨g, 0, none⟩) (n + m) cap)) w') :
    if Region.wanted o (yielded ops a.tmps) = true then Oper.wp P o a w K Q else E := by
  cases p with
  | some ad => exact step_append_here hgd s x t ho e i size ht hi hsz g n cap cur hg hs ad m c hx news hl (hnews ad rfl) h1 hroom hfit h
  | none =>
    obtain rfl := hm rfl
    obtain rfl := hp rfl
    obtain rfl : news = [] := List.eq_nil_of_length_eq_zero (by simpa using hl)
    have hw : Region.wanted o (yielded ops a.tmps) = true := by simp [Region.wanted, hgd]
    rw [if_pos hw]
    have hown : w.ownsRow 0 e size (.slice (some ⟨g, 0, none⟩) n cap) n (cur.take (n * size)) :=
      ⟨by rw [List.length_take]; have := Nat.mul_le_mul_right size hn; omega, Or.inr ⟨g, cap, cur.toArray, rfl, Nat.zero_le _, hg, hn, hcm, by simpa using hcs, by simp⟩⟩
    have hrun := run_append_owned_none (P := P) (w := w) 0 t o.type e i size ht hi _ n _ hown
    unfold Oper.wp
    simp [execOp, ho, resolve, invoke, builtin, hs, hx, hrun, Result.andThen]
    exact h w (show _ = _ by rw [hg]; simp [splice]) (Kept.refl _ _)
end Go.Proofs.Ytlfmfhmbkpnjbaa
