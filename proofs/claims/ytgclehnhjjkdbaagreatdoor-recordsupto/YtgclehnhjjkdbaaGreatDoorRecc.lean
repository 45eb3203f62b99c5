import Derived.Test.YtgclehnhjjkdbaaGreatDoorMrecd
import Derived.Test.YtgclehnhjjkdbaaGreatDoorBegun
namespace Go.Proofs.YtgclehnhjjkdbaaGreatDoor
open Go.RowKit

theorem recd_c (B bk : Nat) (mv sv : Value) (ms : Int) (ev : Value) (Q : List Els) (D : List MD) (q : Nat) (hq : q < D.length) (pc : Option Addr) (capc : Nat) (cs : List Cmd) (w : World)
    (h : MInv B w bk mv sv ms ev Q D) (hB : B ≤ w.heap.size) (hT : Tabs w) (hB4 : 4 < B) (hB2 : 2 < B) (hC : ReadsC w pc cs)
    (hpc : cs ≠ [] → ∀ b off, pc = some ⟨b, off, none⟩ → b < B ∨ typ w b 39) (hIC : ∀ c ∈ cs, IntC c) (hcl : cs.length ≤ 1048576) (hQ : Q.length ≤ 1000000000) :
    Calls Tryz.prog 10 #[.pointer (some ⟨bk, 0, none⟩), ptrM D[q], .slice pc cs.length capc] w fun e w' => e = .returned (.bool true) ∧ ∃ D' ev' Q', MInv B w' bk mv sv ms ev' Q' D' ∧ D'.length = D.length ∧ Q'.length = Q.length + 4 ∧ Kept (Far w B) w w' := by
  refine (recorded_walk B bk mv sv ms ev Q D[q] pc capc cs w h.book (h.each q hq) (h.low q hq) hT hB4 hB2 hC hpc hIC hcl hQ).mono ?_
  rintro e w' ⟨rfl, d', ev', Q', o, g, hf, k, hb, hQ', he⟩
  obtain ⟨h1, h2⟩ := h.turn hB q hq o g.mb hf k hb he
  exact ⟨rfl, _, ev', Q', h1, by simp, hQ', h2⟩

/-- An operation of the script. -/
structure OpD where
  k : Int
  a : Int
  n : Int
  p : Option Addr
  cap : Nat
  cs : List Cmd

def OpD.val (o : OpD) : Value := .agg #[.int .i64 o.k, .int .i64 o.a, .int .i64 o.n, .slice o.p o.cs.length o.cap]
structure OpD.Ok (B : Nat) (w : World) (o : OpD) : Prop where
  reads : ReadsC w o.p o.cs
  low : o.cs ≠ [] → ∀ b off, o.p = some ⟨b, off, none⟩ → b < B ∨ typ w b 39
  int : ∀ c ∈ o.cs, IntC c
  short : o.cs.length ≤ 1048576
  at1 : -9223372036854775808 ≤ o.a
  at2 : o.a ≤ 9223372036854775807
theorem OpD.Ok.keep {B : Nat} {w w' : World} {o : OpD} (h : o.Ok B w) (k : Kept (Far w B) w w') : o.Ok B w' where
  reads := fun hne => (h.reads.keep k (fun b off e hb f => by
    rcases h.low hne b off e with q | q
    · have := f.1; omega
    · exact f.2.2 q)) hne
  low := fun hne b off e => (h.low hne b off e).imp id (fun t => typ_keep t k (fun f => f.2.2 t))
  int := h.int
  short := h.short
  at1 := h.at1
  at2 := h.at2
theorem OpD.Ok.calm {B : Nat} {w w' : World} {o : OpD} (h : o.Ok B w) (k : Kept (fun _ => False) w w') : o.Ok B w' := h.keep (k.mono (fun _ _ e => e.elim))

theorem op_cells {w : World} {c : Nat} {a b d e : Value} {T : TypeId} (h : w.heap[c]? = some (.cells #[a, b, d, e] T (0, 0))) : w.cell? ⟨c, 0, none⟩ = some a ∧ w.cell? ⟨c, 1, none⟩ = some b ∧ w.cell? ⟨c, 2, none⟩ = some d ∧ w.cell? ⟨c, 3, none⟩ = some e := by
  obtain ⟨h0, h1, h2, h3, -⟩ := match_cells h
  exact ⟨h0, h1, h2, h3⟩

def StepPost (B bk : Nat) (sv : Value) (Q : List Els) (D : List MD) (o : OpD) (w : World) (e : Ending) (w' : World) : Prop :=
  e = .returned (.bool true) ∧ ∃ mv' ev' Q' D', MInv B w' bk mv' sv 2 ev' Q' D' ∧ D.length ≤ D'.length ∧ D'.length ≤ D.length + 1 ∧ (o.k = 1 ∧ 1 ≤ o.n ∧ o.n ≤ 64 → 0 < D'.length) ∧ Q'.length ≤ Q.length + 4 ∧ Kept (Far w B) w w'

set_option maxHeartbeats 2000000 in
set_option maxRecDepth 100000 in
theorem step_none (B bk : Nat) (mv sv ev : Value) (Q : List Els) (D : List MD) (o : OpD) (w : World) (h : MInv B w bk mv sv 2 ev Q D) (hk : o.k < 1 ∨ 2 < o.k) :
    Calls Tryz.prog 5 #[.pointer (some ⟨bk, 0, none⟩), o.val] w (StepPost B bk sv Q D o w) := by
  have fin : ∀ w', Kept (fun _ => False) w w' → StepPost B bk sv Q D o w (.returned (.bool true)) w' := fun w' k => ⟨rfl, mv, ev, Q, D, h.calm k, Nat.le_refl _, by omega, fun e => by omega, by omega, k.mono (fun _ _ e => e.elim)⟩
  have FIN := hide fin
  obtain ⟨c0, c1, c2, c3, c4, cf⟩ := five_cells h.book.blk
  have hbk : bk < w.heap.size := heap_lt h.book.blk
  have H := hide h
  clear h fin
  obtain ⟨k, a, n, p, cap, cs⟩ := o
  unfold OpD.val
  dsimp only at hk ⊢
  rcases hk with hk | hk
  · have hd : decide (k < 1) = true := by simp [hk]
    go_enter Tryz.func5, Tryz.ntmps5
    go_wp2_with fail
    go_quiet (fail)
    go_wp2
    go_ret
    exact FIN.out _ ((Kept.alloc _ _).calm2 (Kept.drewN _ _))
  · have hd : decide (k < 1) = false := by simp; omega
    have hd2 : decide (2 < k) = true := by simp [hk]
    go_enter Tryz.func5, Tryz.ntmps5
    go_wp2_with fail
    go_quiet (fail)
    go_wp2
    go_ret
    exact FIN.out _ ((Kept.alloc _ _).calm2 (Kept.drewN _ _))

theorem Kept.far {B : Nat} {w w' : World} (k : Kept (fun _ => False) w w') : Kept (Far w B) w w' := k.mono (fun _ _ e => e.elim)

set_option maxHeartbeats 2000000 in
set_option maxRecDepth 100000 in
theorem step_new (B bk : Nat) (mv sv ev : Value) (Q : List Els) (D : List MD) (o : OpD) (w : World) (h : MInv B w bk mv sv 2 ev Q D) (hB : B ≤ w.heap.size) (hT : Tabs w) (hD : D.length ≤ 1000000000) (hk : o.k = 1) :
    Calls Tryz.prog 5 #[.pointer (some ⟨bk, 0, none⟩), o.val] w (StepPost B bk sv Q D o w) := by
  obtain ⟨c0, c1, c2, c3, c4, cf⟩ := five_cells h.book.blk
  have hbk : bk < w.heap.size := heap_lt h.book.blk
  have H := hide h
  have HT := hide hT
  clear h hT
  obtain ⟨k, a, n, p, cap, cs⟩ := o
  unfold OpD.val
  dsimp only at hk ⊢
  subst hk
  have hd : decide ((1 : Int) < 1) = false := by decide
  have hd2 : decide ((2 : Int) < 1) = false := by decide
  go_enter Tryz.func5, Tryz.ntmps5
  go_wp2_with fail
  go_quiet (fail)
  have K1 : Hid (Kept (fun _ => False) w ((w.alloc (.cells #[.int .i64 1, .int .i64 a, .int .i64 n, .slice p cs.length cap] 36)).drewN nq)) := (Kept.alloc _ _).calm2 (Kept.drewN _ _)
  obtain ⟨o0, o1, o2, o3⟩ := op_cells (w := (w.alloc (.cells #[.int .i64 1, .int .i64 a, .int .i64 n, .slice p cs.length cap] 36)).drewN nq) (c := w.heap.size) (heap_alloc_new w _)
  generalize (w.alloc (.cells #[.int .i64 1, .int .i64 a, .int .i64 n, .slice p cs.length cap] 36)).drewN nq = w1 at *
  have hs := K1.out.size
  go_wp2_with fail
  refine (begun_c B bk mv sv 2 ev Q D n w1 (H.out.calm K1.out) (by omega) (HT.out.calm K1.out) hD).mono ?_
  rintro e w2 ⟨rfl, mv', D', h1, h2, h3, h4, k2⟩
  have FIN : Hid (StepPost B bk sv Q D ⟨1, a, n, p, cap, cs⟩ w (.returned (.bool true)) w2) := ⟨rfl, mv', ev, Q, D', h1, h2, h3, fun e => h4 e.2, by omega, Far.join K1.out.far k2⟩
  clear h1 h2 h3 h4 k2
  go_wp2
  go_ret
  exact FIN.out

set_option maxHeartbeats 2000000 in
set_option maxRecDepth 100000 in
theorem step_rec (B bk : Nat) (mv sv ev : Value) (Q : List Els) (D : List MD) (o : OpD) (w : World) (h : MInv B w bk mv sv 2 ev Q D) (hB : B ≤ w.heap.size) (hT : Tabs w) (hB4 : 4 < B) (hB2 : 2 < B)
    (hD : D.length ≤ 1000000000) (hD0 : 0 < D.length) (hQ : Q.length ≤ 1000000000) (ho : o.Ok B w) (hk : o.k = 2) :
    Calls Tryz.prog 5 #[.pointer (some ⟨bk, 0, none⟩), o.val] w (StepPost B bk sv Q D o w) := by
  obtain ⟨c0, c1, c2, c3, c4, cf⟩ := five_cells h.book.blk
  have hbk : bk < w.heap.size := heap_lt h.book.blk
  have hq := pickN_lt_law o.a D.length hD0
  obtain ⟨g, cp, hmv⟩ : ∃ g cp, mv = .slice (some ⟨g, 0, none⟩) D.length cp := by
    rcases h.list.2 with ⟨_, h0⟩ | ⟨g, cp, _, e, _⟩
    · omega
    · exact ⟨g, cp, e⟩
  subst hmv
  have cg : w.cell? ⟨g, pickN_law o.a D.length, none⟩ = some (ptrM (D[pickN_law o.a D.length]'hq)) := by
    have h2 := h.list.cells (g := g) rfl (pickN_law o.a D.length) (ptrM (D[pickN_law o.a D.length]'hq)) (by simp [hq])
    rwa [addr_add2, Nat.zero_add] at h2
  have hgl : g < w.heap.size := owns_lt h.list g rfl
  have H := hide h
  have HT := hide hT
  have HO := hide ho
  have ha1 := ho.at1
  have ha2 := ho.at2
  clear h hT ho
  have HP := hide (fun (w : World) => pick_law o.a (D.length : Int) D.length w ha1 ha2 rfl hD0 hD)
  have HR := hide (recd_c B bk (.slice (some ⟨g, 0, none⟩) D.length cp) sv 2 ev Q D (pickN_law o.a D.length) hq o.p o.cap o.cs)
  clear ha1 ha2
  generalize hqn : pickN_law o.a D.length = q at *
  obtain ⟨k, a, n, p, cap, cs⟩ := o
  unfold OpD.val
  dsimp only at hk HP HR ⊢
  subst hk
  have hq1 : (0 : Int) ≤ (q : Int) := by omega
  have hq2 : (q : Int) < (D.length : Int) := by omega
  have hd : decide ((2 : Int) < 1) = false := by decide
  have hd2 : decide ((2 : Int) < 2) = false := by decide
  go_enter Tryz.func5, Tryz.ntmps5
  go_wp2_with fail
  go_quiet (fail)
  have K1 : Hid (Kept (fun _ => False) w ((w.alloc (.cells #[.int .i64 2, .int .i64 a, .int .i64 n, .slice p cs.length cap] 36)).drewN nq)) := (Kept.alloc _ _).calm2 (Kept.drewN _ _)
  obtain ⟨o0, o1, o2, o3⟩ := op_cells (w := (w.alloc (.cells #[.int .i64 2, .int .i64 a, .int .i64 n, .slice p cs.length cap] 36)).drewN nq) (c := w.heap.size) (heap_alloc_new w _)
  generalize (w.alloc (.cells #[.int .i64 2, .int .i64 a, .int .i64 n, .slice p cs.length cap] 36)).drewN nq = w1 at *
  have d0 : w1.cell? ⟨bk, 0, none⟩ = some (.slice (some ⟨g, 0, none⟩) D.length cp) := by rw [cell_keep K1.out hbk (fun e => e)]; exact c0
  have dg : w1.cell? ⟨g, q, none⟩ = some (ptrM (D[q]'hq)) := by rw [cell_keep K1.out hgl (fun e => e)]; exact cg
  have H1 := hide (H.out.calm K1.out)
  have HT1 := hide (HT.out.calm K1.out)
  have HO1 := hide (HO.out.calm K1.out)
  have hs1 : B ≤ w1.heap.size := Nat.le_trans hB K1.out.size
  have K1F := hide (K1.out.far (B := B))
  clear c0 c1 c2 c3 c4 cf cg H HT HO K1
  generalize w.heap.size = ob at *
  generalize hpm : ptrM (D[q]'hq) = pm at *
  go_wp2_with fail
  go_quiet ((go_at_call 9; exact Calls.quiet_of_same (HP.out _)))
  have K2 : Hid (Kept (fun _ => False) w1 (w1.drewN nq)) := Kept.drewN _ _
  have e3 : (w1.drewN nq).cell? ⟨ob, 3, none⟩ = some (.slice p cs.length cap) := o3
  have e0 : (w1.drewN nq).cell? ⟨ob, 0, none⟩ = some (.int .i64 2) := o0
  generalize w1.drewN nq = w2 at *
  have HC2 := hide (HR.out w2 (H1.out.calm K2.out) (Nat.le_trans hs1 K2.out.size) (HT1.out.calm K2.out) hB4 hB2 (HO1.out.calm K2.out).reads (HO1.out.calm K2.out).low HO1.out.int HO1.out.short hQ)
  have K2F := hide (Far.join K1F.out (K2.out.far))
  clear H1 HT1 HO1 HR o0 o1 o2 o3 d0 dg K1F K2
  go_wp2_with fail
  refine HC2.out.mono ?_
  rintro e w3 ⟨rfl, D', ev', Q', h1, h2, h3, k3⟩
  have FIN : Hid (StepPost B bk sv Q D ⟨2, a, n, p, cap, cs⟩ w (.returned (.bool true)) w3) := ⟨rfl, _, ev', Q', D', h1, by omega, by omega, fun e => by omega, by omega, Far.join K2F.out k3⟩
  clear h1 h2 h3 k3
  go_wp2
  go_ret
  exact FIN.out

theorem step_c (B bk : Nat) (mv sv ev : Value) (Q : List Els) (D : List MD) (o : OpD) (w : World) (h : MInv B w bk mv sv 2 ev Q D) (hB : B ≤ w.heap.size) (hT : Tabs w) (hB4 : 4 < B) (hB2 : 2 < B)
    (hD : D.length ≤ 1000000000) (hD0 : o.k = 2 → 0 < D.length) (hQ : Q.length ≤ 1000000000) (ho : o.Ok B w) :
    Calls Tryz.prog 5 #[.pointer (some ⟨bk, 0, none⟩), o.val] w (StepPost B bk sv Q D o w) := by
  by_cases h1 : o.k = 1
  · exact step_new B bk mv sv ev Q D o w h hB hT hD h1
  · by_cases h2 : o.k = 2
    · exact step_rec B bk mv sv ev Q D o w h hB hT hB4 hB2 hD (hD0 h2) hQ ho h2
    · exact step_none B bk mv sv ev Q D o w h (by omega)
end Go.Proofs.YtgclehnhjjkdbaaGreatDoor
