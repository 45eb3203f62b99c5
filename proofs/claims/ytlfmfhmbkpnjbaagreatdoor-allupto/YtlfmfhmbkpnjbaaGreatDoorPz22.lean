import Derived.Test.YtlfmfhmbkpnjbaaGreatDoorPz21
import Derived.Test.YtlfmfhmbkpnjbaaGreatDoorRows
import Derived.Deep.Slices
import Derived.ProofKit
import Derived.OpenShut
import Derived.ShutString
import Derived.ChangeOld
import Derived.Below
import Derived.Deep.DeepHandedRow
namespace Go.Proofs.YtlfmfhmbkpnjbaaGreatDoor
open Go.RowKit

theorem recd_c (B bk : Nat) (mv sv : Value) (ms : Int) (ev : Value) (Q : List Els) (D : List MD) (q : Nat) (hq : q < D.length) (pc : Option Addr) (capc : Nat) (cs : List Cmd) (w : World)
    (h : MInv B w bk mv sv ms ev Q D) (hB : B ≤ w.heap.size) (hT : Tabs w) (hB4 : 6 < B) (hB2 : 4 < B) (hC : ReadsC w pc cs)
    (hpc : cs ≠ [] → ∀ b off, pc = some ⟨b, off, none⟩ → b < B ∨ typ w b 57) (hIC : ∀ c ∈ cs, IntC c) (hcl : cs.length ≤ 1048576) (hQ : Q.length ≤ 1000000000) :
    Calls Tryz.prog 31 #[.pointer (some ⟨bk, 0, none⟩), ptrM D[q], .slice pc cs.length capc] w fun e w' => e = .returned (.bool true) ∧ ∃ D' ev' Q', MInv B w' bk mv sv ms ev' Q' D' ∧ D'.length = D.length ∧ Q'.length = Q.length + 4 ∧ Kept (Far w B) w w' := by
  refine (recorded_walk B bk mv sv ms ev Q D[q] pc capc cs w h.book (h.each q hq) (h.low q hq) hT hB4 hB2 hC hpc hIC hcl hQ).mono ?_
  rintro e w' ⟨rfl, d', ev', Q', o, g, hf, k, hb, hQ', he, -⟩
  obtain ⟨h1, h2⟩ := h.turn hB q hq o g.mb hf k hb he
  exact ⟨rfl, _, ev', Q', h1, by simp, hQ', h2⟩

/-- An operation of the script. -/
structure OpD where
  k : Int
  a : Int
  n : Int
  p : Option Addr
  cap : Nat
  cs : List Cmd

def OpD.val (o : OpD) : Value := .agg #[.int .i64 o.k, .int .i64 o.a, .int .i64 o.n, .slice o.p o.cs.length o.cap]
structure OpD.Ok (B : Nat) (w : World) (o : OpD) : Prop where
  reads : ReadsC w o.p o.cs
  low : o.cs ≠ [] → ∀ b off, o.p = some ⟨b, off, none⟩ → b < B ∨ typ w b 57
  int : ∀ c ∈ o.cs, IntC c
  f32 : ∀ c ∈ o.cs, F32C c
  short : o.cs.length ≤ 1048576
  at1 : -9223372036854775808 ≤ o.a
  at2 : o.a ≤ 9223372036854775807
  n1 : -9223372036854775808 ≤ o.n
  n2 : o.n ≤ 9223372036854775807
theorem OpD.Ok.keep {B : Nat} {w w' : World} {o : OpD} (h : o.Ok B w) (k : Kept (Far w B) w w') : o.Ok B w' where
  reads := fun hne => (h.reads.keep k (fun b off e hb f => by
    rcases h.low hne b off e with q | q
    · have := f.1; omega
    · exact f.2.2 q)) hne
  low := fun hne b off e => (h.low hne b off e).imp id (fun t => typ_keep t k (fun f => f.2.2 t))
  int := h.int
  f32 := h.f32
  short := h.short
  at1 := h.at1
  at2 := h.at2
  n1 := h.n1
  n2 := h.n2
theorem OpD.Ok.calm {B : Nat} {w w' : World} {o : OpD} (h : o.Ok B w) (k : Kept (fun _ => False) w w') : o.Ok B w' := h.keep (k.mono (fun _ _ e => e.elim))

theorem op_cells {w : World} {c : Nat} {a b d e : Value} {T : TypeId} (h : w.heap[c]? = some (.cells #[a, b, d, e] T (0, 0))) : w.cell? ⟨c, 0, none⟩ = some a ∧ w.cell? ⟨c, 1, none⟩ = some b ∧ w.cell? ⟨c, 2, none⟩ = some d ∧ w.cell? ⟨c, 3, none⟩ = some e := by
  obtain ⟨h0, h1, h2, h3, -⟩ := match_cells h
  exact ⟨h0, h1, h2, h3⟩

def StepPost (B bk : Nat) (sv : Value) (Q : List Els) (D : List MD) (o : OpD) (w : World) (e : Ending) (w' : World) : Prop :=
  e = .returned (.bool true) ∧ ∃ mv' ev' Q' D', MInv B w' bk mv' sv 2 ev' Q' D' ∧ D.length ≤ D'.length ∧ D'.length ≤ D.length + 1 ∧ (o.k = 1 ∧ 1 ≤ o.n ∧ o.n ≤ 64 → 0 < D'.length) ∧ Q'.length ≤ Q.length + 4 ∧ Kept (Far w B) w w'

set_option maxHeartbeats 2000000 in
set_option maxRecDepth 100000 in
theorem step_none (B bk : Nat) (mv sv ev : Value) (Q : List Els) (D : List MD) (o : OpD) (w : World) (h : MInv B w bk mv sv 2 ev Q D) (hk : o.k < 1 ∨ 2 < o.k) :
    Calls Tryz.prog 16 #[.pointer (some ⟨bk, 0, none⟩), o.val] w (StepPost B bk sv Q D o w) := by
  have fin : ∀ w', Kept (fun _ => False) w w' → StepPost B bk sv Q D o w (.returned (.bool true)) w' := fun w' k => ⟨rfl, mv, ev, Q, D, h.calm k, Nat.le_refl _, by omega, fun e => by omega, by omega, k.mono (fun _ _ e => e.elim)⟩
  have FIN := hide fin
  obtain ⟨c0, c1, c2, c3, c4, cf⟩ := five_cells h.book.blk
  have hbk : bk < w.heap.size := heap_lt h.book.blk
  have H := hide h
  clear h fin
  obtain ⟨k, a, n, p, cap, cs⟩ := o
  unfold OpD.val
  dsimp only at hk ⊢
  rcases hk with hk | hk
  · have hd : decide (k < 1) = true := by simp [hk]
    go_enter Tryz.func16, Tryz.ntmps16
    go_wp2_with fail
    go_quiet (fail)
    go_wp2
    go_ret
    exact FIN.out _ ((Kept.alloc _ _).calm2 (Kept.drewN _ _))
  · have hd : decide (k < 1) = false := by simp; omega
    have hd2 : decide (2 < k) = true := by simp [hk]
    go_enter Tryz.func16, Tryz.ntmps16
    go_wp2_with fail
    go_quiet (fail)
    go_wp2
    go_ret
    exact FIN.out _ ((Kept.alloc _ _).calm2 (Kept.drewN _ _))

theorem Kept.far {B : Nat} {w w' : World} (k : Kept (fun _ => False) w w') : Kept (Far w B) w w' := k.mono (fun _ _ e => e.elim)

set_option maxHeartbeats 2000000 in
set_option maxRecDepth 100000 in
theorem step_new (B bk : Nat) (mv sv ev : Value) (Q : List Els) (D : List MD) (o : OpD) (w : World) (h : MInv B w bk mv sv 2 ev Q D) (hB : B ≤ w.heap.size) (hT : Tabs w) (hD : D.length ≤ 1000000000) (hk : o.k = 1) :
    Calls Tryz.prog 16 #[.pointer (some ⟨bk, 0, none⟩), o.val] w (StepPost B bk sv Q D o w) := by
  obtain ⟨c0, c1, c2, c3, c4, cf⟩ := five_cells h.book.blk
  have hbk : bk < w.heap.size := heap_lt h.book.blk
  have H := hide h
  have HT := hide hT
  clear h hT
  obtain ⟨k, a, n, p, cap, cs⟩ := o
  unfold OpD.val
  dsimp only at hk ⊢
  subst hk
  have hd : decide ((1 : Int) < 1) = false := by decide
  have hd2 : decide ((2 : Int) < 1) = false := by decide
  go_enter Tryz.func16, Tryz.ntmps16
  go_wp2_with fail
  go_quiet (fail)
  have K1 : Hid (Kept (fun _ => False) w ((w.alloc (.cells #[.int .i64 1, .int .i64 a, .int .i64 n, .slice p cs.length cap] 54)).drewN nq)) := (Kept.alloc _ _).calm2 (Kept.drewN _ _)
  obtain ⟨o0, o1, o2, o3⟩ := op_cells (w := (w.alloc (.cells #[.int .i64 1, .int .i64 a, .int .i64 n, .slice p cs.length cap] 54)).drewN nq) (c := w.heap.size) (heap_alloc_new w _)
  generalize (w.alloc (.cells #[.int .i64 1, .int .i64 a, .int .i64 n, .slice p cs.length cap] 54)).drewN nq = w1 at *
  have hs := K1.out.size
  go_wp2_with fail
  refine (begun_c B bk mv sv 2 ev Q D n w1 (H.out.calm K1.out) (by omega) (HT.out.calm K1.out) hD).mono ?_
  rintro e w2 ⟨rfl, mv', D', h1, h2, h3, h4, k2⟩
  have FIN : Hid (StepPost B bk sv Q D ⟨1, a, n, p, cap, cs⟩ w (.returned (.bool true)) w2) := ⟨rfl, mv', ev, Q, D', h1, h2, h3, fun e => h4 e.2, by omega, Far.join K1.out.far k2⟩
  clear h1 h2 h3 h4 k2
  go_wp2
  go_ret
  exact FIN.out

set_option maxHeartbeats 2000000 in
set_option maxRecDepth 100000 in
theorem step_rec (B bk : Nat) (mv sv ev : Value) (Q : List Els) (D : List MD) (o : OpD) (w : World) (h : MInv B w bk mv sv 2 ev Q D) (hB : B ≤ w.heap.size) (hT : Tabs w) (hB4 : 6 < B) (hB2 : 4 < B)
    (hD : D.length ≤ 1000000000) (hD0 : 0 < D.length) (hQ : Q.length ≤ 1000000000) (ho : o.Ok B w) (hk : o.k = 2) :
    Calls Tryz.prog 16 #[.pointer (some ⟨bk, 0, none⟩), o.val] w (StepPost B bk sv Q D o w) := by
  obtain ⟨c0, c1, c2, c3, c4, cf⟩ := five_cells h.book.blk
  have hbk : bk < w.heap.size := heap_lt h.book.blk
  have hq := pickN_lt_law o.a D.length hD0
  obtain ⟨g, cp, hmv⟩ : ∃ g cp, mv = .slice (some ⟨g, 0, none⟩) D.length cp := by
    rcases h.list.2 with ⟨_, h0⟩ | ⟨g, cp, _, e, _⟩
    · omega
    · exact ⟨g, cp, e⟩
  subst hmv
  have cg : w.cell? ⟨g, pickN_law o.a D.length, none⟩ = some (ptrM (D[pickN_law o.a D.length]'hq)) := by
    have h2 := h.list.cells (g := g) rfl (pickN_law o.a D.length) (ptrM (D[pickN_law o.a D.length]'hq)) (by simp [hq])
    rwa [addr_add2, Nat.zero_add] at h2
  have hgl : g < w.heap.size := owns_lt h.list g rfl
  have H := hide h
  have HT := hide hT
  have HO := hide ho
  have ha1 := ho.at1
  have ha2 := ho.at2
  clear h hT ho
  have HP := hide (fun (w : World) => pick_law o.a (D.length : Int) D.length w ha1 ha2 rfl hD0 hD)
  have HR := hide (recd_c B bk (.slice (some ⟨g, 0, none⟩) D.length cp) sv 2 ev Q D (pickN_law o.a D.length) hq o.p o.cap o.cs)
  clear ha1 ha2
  generalize hqn : pickN_law o.a D.length = q at *
  obtain ⟨k, a, n, p, cap, cs⟩ := o
  unfold OpD.val
  dsimp only at hk HP HR ⊢
  subst hk
  have hq1 : (0 : Int) ≤ (q : Int) := by omega
  have hq2 : (q : Int) < (D.length : Int) := by omega
  have hd : decide ((2 : Int) < 1) = false := by decide
  have hd2 : decide ((2 : Int) < 2) = false := by decide
  go_enter Tryz.func16, Tryz.ntmps16
  go_wp2_with fail
  go_quiet (fail)
  have K1 : Hid (Kept (fun _ => False) w ((w.alloc (.cells #[.int .i64 2, .int .i64 a, .int .i64 n, .slice p cs.length cap] 54)).drewN nq)) := (Kept.alloc _ _).calm2 (Kept.drewN _ _)
  obtain ⟨o0, o1, o2, o3⟩ := op_cells (w := (w.alloc (.cells #[.int .i64 2, .int .i64 a, .int .i64 n, .slice p cs.length cap] 54)).drewN nq) (c := w.heap.size) (heap_alloc_new w _)
  generalize (w.alloc (.cells #[.int .i64 2, .int .i64 a, .int .i64 n, .slice p cs.length cap] 54)).drewN nq = w1 at *
  have d0 : w1.cell? ⟨bk, 0, none⟩ = some (.slice (some ⟨g, 0, none⟩) D.length cp) := by rw [cell_keep K1.out hbk (fun e => e)]; exact c0
  have dg : w1.cell? ⟨g, q, none⟩ = some (ptrM (D[q]'hq)) := by rw [cell_keep K1.out hgl (fun e => e)]; exact cg
  have H1 := hide (H.out.calm K1.out)
  have HT1 := hide (HT.out.calm K1.out)
  have HO1 := hide (HO.out.calm K1.out)
  have hs1 : B ≤ w1.heap.size := Nat.le_trans hB K1.out.size
  have K1F := hide (K1.out.far (B := B))
  clear c0 c1 c2 c3 c4 cf cg H HT HO K1
  generalize w.heap.size = ob at *
  generalize hpm : ptrM (D[q]'hq) = pm at *
  go_wp2_with fail
  go_quiet ((go_at_call 30; exact Calls.quiet_of_same (HP.out _)))
  have K2 : Hid (Kept (fun _ => False) w1 (w1.drewN nq)) := Kept.drewN _ _
  have e3 : (w1.drewN nq).cell? ⟨ob, 3, none⟩ = some (.slice p cs.length cap) := o3
  have e0 : (w1.drewN nq).cell? ⟨ob, 0, none⟩ = some (.int .i64 2) := o0
  generalize w1.drewN nq = w2 at *
  have HC2 := hide (HR.out w2 (H1.out.calm K2.out) (Nat.le_trans hs1 K2.out.size) (HT1.out.calm K2.out) hB4 hB2 (HO1.out.calm K2.out).reads (HO1.out.calm K2.out).low HO1.out.int HO1.out.short hQ)
  have K2F := hide (Far.join K1F.out (K2.out.far))
  clear H1 HT1 HO1 HR o0 o1 o2 o3 d0 dg K1F K2
  go_wp2_with fail
  refine HC2.out.mono ?_
  rintro e w3 ⟨rfl, D', ev', Q', h1, h2, h3, k3⟩
  have FIN : Hid (StepPost B bk sv Q D ⟨2, a, n, p, cap, cs⟩ w (.returned (.bool true)) w3) := ⟨rfl, _, ev', Q', D', h1, by omega, by omega, fun e => by omega, by omega, Far.join K2F.out k3⟩
  clear h1 h2 h3 k3
  go_wp2
  go_ret
  exact FIN.out

theorem step_c (B bk : Nat) (mv sv ev : Value) (Q : List Els) (D : List MD) (o : OpD) (w : World) (h : MInv B w bk mv sv 2 ev Q D) (hB : B ≤ w.heap.size) (hT : Tabs w) (hB4 : 6 < B) (hB2 : 4 < B)
    (hD : D.length ≤ 1000000000) (hD0 : o.k = 2 → 0 < D.length) (hQ : Q.length ≤ 1000000000) (ho : o.Ok B w) :
    Calls Tryz.prog 16 #[.pointer (some ⟨bk, 0, none⟩), o.val] w (StepPost B bk sv Q D o w) := by
  by_cases h1 : o.k = 1
  · exact step_new B bk mv sv ev Q D o w h hB hT hD h1
  · by_cases h2 : o.k = 2
    · exact step_rec B bk mv sv ev Q D o w h hB hT hB4 hB2 hD (hD0 h2) hQ ho h2
    · exact step_none B bk mv sv ev Q D o w h (by omega)
end Go.Proofs.YtlfmfhmbkpnjbaaGreatDoor

namespace Go.Proofs.YtlfmfhmbkpnjbaaGreatDoor
open Go.RowKit

/-- A script, where it lies. -/
def RO (B : Nat) (w : World) (p : Option Addr) (n : Nat) (P : Nat → OpD → Prop) : Prop :=
  0 < n → ∃ b off, p = some ⟨b, off, none⟩ ∧ b < w.heap.size ∧ (b < B ∨ typ w b 54) ∧ ∀ j, j < n → ∃ o : OpD, P j o ∧ o.Ok B w ∧
    w.cell? ⟨b, off + j * 4, none⟩ = some (.int .i64 o.k) ∧ w.cell? ⟨b, off + j * 4 + 1, none⟩ = some (.int .i64 o.a) ∧ w.cell? ⟨b, off + j * 4 + 2, none⟩ = some (.int .i64 o.n) ∧ w.cell? ⟨b, off + j * 4 + 3, none⟩ = some (.slice o.p o.cs.length o.cap)
theorem RO.keep {B : Nat} {w w' : World} {p : Option Addr} {n : Nat} {P : Nat → OpD → Prop} (h : RO B w p n P) (k : Kept (Far w B) w w') : RO B w' p n P := by
  intro h0
  obtain ⟨b, off, hp, hb, hl, hj⟩ := h h0
  have nf : ¬ Far w B b := fun f => by
    rcases hl with e | e
    · have := f.1; omega
    · exact f.2.1 e
  refine ⟨b, off, hp, Nat.lt_of_lt_of_le hb k.size, hl.imp id (fun t => typ_keep t k nf), fun j hjn => ?_⟩
  obtain ⟨o, q0, q1, q2, q3, q4, q5⟩ := hj j hjn
  exact ⟨o, q0, q1.keep k, by rw [cell_keep k hb nf]; exact q2, by rw [cell_keep k hb nf]; exact q3, by rw [cell_keep k hb nf]; exact q4, by rw [cell_keep k hb nf]; exact q5⟩
theorem RO.calm {B : Nat} {w w' : World} {p : Option Addr} {n : Nat} {P : Nat → OpD → Prop} (h : RO B w p n P) (k : Kept (fun _ => False) w w') : RO B w' p n P := h.keep k.far

def cmd1 : Cmd := ⟨1, 3, 0, 1092616192, 1148829696, 0⟩
def cmd2 : Cmd := ⟨2, 3, 0, 1082130432, 1073741824, 0⟩

theorem first_ops {w : World} {B cb ob : Nat}
    (hc : w.heap[cb]? = some (.cells #[.int .i64 1, .int .i64 3, .int .i64 0, .float .f32 1092616192, .float .f32 1148829696, .int .i64 0, .int .i64 2, .int .i64 3, .int .i64 0, .float .f32 1082130432, .float .f32 1073741824, .int .i64 0] 57 (0, 0)))
    (ho : w.heap[ob]? = some (.cells #[.int .i64 1, .int .i64 0, .int .i64 2, .slice none 0 0, .int .i64 2, .int .i64 0, .int .i64 0, .slice (some ⟨cb, 0, none⟩) 2 2, .int .i64 2, .int .i64 0, .int .i64 0, .slice none 0 0, .int .i64 2, .int .i64 0, .int .i64 0, .slice none 0 0, .int .i64 3, .int .i64 0, .int .i64 (-1), .slice none 0 0, .int .i64 4, .int .i64 0, .int .i64 3, .slice none 0 0, .int .i64 5, .int .i64 0, .int .i64 (-1), .slice none 0 0] 54 (0, 0))) :
    RO B w (some ⟨ob, 0, none⟩) 7 (fun j o => j = 0 → o.k = 1 ∧ o.n = 2) := by
  intro _
  have plain : ∀ k n : Int, -10 ≤ n ∧ n ≤ 10 → OpD.Ok B w ⟨k, 0, n, none, 0, []⟩ := fun k n hn => ⟨fun e => absurd rfl e, fun e => absurd rfl e, (fun c hc => by cases hc), (fun c hc => by cases hc), Nat.zero_le _, (by decide : (-9223372036854775808 : Int) ≤ 0), (by decide : (0 : Int) ≤ 9223372036854775807), (show -9223372036854775808 ≤ n by omega), (show n ≤ 9223372036854775807 by omega)⟩
  have two : OpD.Ok B w ⟨2, 0, 0, some ⟨cb, 0, none⟩, 2, [cmd1, cmd2]⟩ := by
    refine ⟨fun _ => ⟨cb, 0, rfl, heap_lt hc, fun j u hu => ?_⟩, fun _ b off e => Or.inr ?_, fun c hcm => ?_, fun c hcm => ?_, (by decide : (2 : Nat) ≤ 1048576), (by decide : (-9223372036854775808 : Int) ≤ 0), (by decide : (0 : Int) ≤ 9223372036854775807), (by decide : (-9223372036854775808 : Int) ≤ 0), (by decide : (0 : Int) ≤ 9223372036854775807)⟩
    · have hj : j < 12 := (List.getElem?_eq_some_iff.1 hu).1
      rw [Nat.zero_add, cell_block hc]
      rw [← hu]
      rcases j with _ | _ | _ | _ | _ | _ | _ | _ | _ | _ | _ | _ | j
      all_goals first | rfl | omega
    · have e' : some (⟨cb, 0, none⟩ : Addr) = some ⟨b, off, none⟩ := e
      simp only [Option.some.injEq, Addr.mk.injEq] at e'
      rw [← e'.1]; exact typ_blk hc
    · simp only [List.mem_cons, List.not_mem_nil, or_false] at hcm
      rcases hcm with rfl | rfl
      all_goals (constructor <;> decide)
    · simp only [List.mem_cons, List.not_mem_nil, or_false] at hcm
      rcases hcm with rfl | rfl
      all_goals (constructor <;> decide)
  refine ⟨ob, 0, rfl, heap_lt ho, Or.inr (typ_blk ho), fun j hj => ?_⟩
  rcases j with _ | _ | _ | _ | _ | _ | _ | j
  · exact ⟨⟨1, 0, 2, none, 0, []⟩, fun _ => ⟨rfl, rfl⟩, plain _ _ (by decide), by rw [cell_block ho]; rfl, by rw [cell_block ho]; rfl, by rw [cell_block ho]; rfl, by rw [cell_block ho]; rfl⟩
  · exact ⟨⟨2, 0, 0, some ⟨cb, 0, none⟩, 2, [cmd1, cmd2]⟩, fun e => by omega, two, by rw [cell_block ho]; rfl, by rw [cell_block ho]; rfl, by rw [cell_block ho]; rfl, by rw [cell_block ho]; rfl⟩
  · exact ⟨⟨2, 0, 0, none, 0, []⟩, fun e => by omega, plain _ _ (by decide), by rw [cell_block ho]; rfl, by rw [cell_block ho]; rfl, by rw [cell_block ho]; rfl, by rw [cell_block ho]; rfl⟩
  · exact ⟨⟨2, 0, 0, none, 0, []⟩, fun e => by omega, plain _ _ (by decide), by rw [cell_block ho]; rfl, by rw [cell_block ho]; rfl, by rw [cell_block ho]; rfl, by rw [cell_block ho]; rfl⟩
  · exact ⟨⟨3, 0, -1, none, 0, []⟩, fun e => by omega, plain _ _ (by decide), by rw [cell_block ho]; rfl, by rw [cell_block ho]; rfl, by rw [cell_block ho]; rfl, by rw [cell_block ho]; rfl⟩
  · exact ⟨⟨4, 0, 3, none, 0, []⟩, fun e => by omega, plain _ _ (by decide), by rw [cell_block ho]; rfl, by rw [cell_block ho]; rfl, by rw [cell_block ho]; rfl, by rw [cell_block ho]; rfl⟩
  · exact ⟨⟨5, 0, -1, none, 0, []⟩, fun e => by omega, plain _ _ (by decide), by rw [cell_block ho]; rfl, by rw [cell_block ho]; rfl, by rw [cell_block ho]; rfl, by rw [cell_block ho]; rfl⟩
  · omega

theorem minv_first {w : World} {B bk : Nat} (hB : B ≤ bk) (h : w.heap[bk]? = some (.cells #[.slice none 0 0, .slice none 0 0, .slice none 0 0, .slice none 0 0, .int .i64 2] 51 (0, 0))) :
    MInv B w bk (.slice none 0 0) (.slice none 0 0) 2 (.slice none 0 0) [] [] where
  book := ⟨h, ⟨rfl, Or.inl ⟨rfl, rfl⟩⟩, (fun i hi => absurd hi (Nat.not_lt_zero _)), (fun i hi => absurd hi (Nat.not_lt_zero _)), (fun i hi => absurd hi (Nat.not_lt_zero _)), rfl⟩
  blow := hB
  elow := fun j hj => by cases hj
  list := ⟨rfl, Or.inl ⟨rfl, rfl⟩⟩
  llow := fun j hj => by cases hj
  each := fun i hi => absurd hi (Nat.not_lt_zero _)
  low := fun i hi => absurd hi (Nat.not_lt_zero _)
  apart := fun i hi => absurd hi (Nat.not_lt_zero _)

/-- The world behind the first rows of 'UpTo'. -/
def laidW (w : World) : World :=
  ((w.alloc (.cells #[.slice none 0 0, .slice none 0 0, .slice none 0 0, .slice none 0 0, .int .i64 2] 51)).alloc
    (.cells #[.int .i64 1, .int .i64 3, .int .i64 0, .float .f32 1092616192, .float .f32 1148829696, .int .i64 0, .int .i64 2, .int .i64 3, .int .i64 0, .float .f32 1082130432, .float .f32 1073741824, .int .i64 0] 57)).alloc
    (.cells #[.int .i64 1, .int .i64 0, .int .i64 2, .slice none 0 0, .int .i64 2, .int .i64 0, .int .i64 0, .slice (some ⟨w.heap.size + 1, 0, none⟩) 2 2, .int .i64 2, .int .i64 0, .int .i64 0, .slice none 0 0, .int .i64 2, .int .i64 0, .int .i64 0, .slice none 0 0, .int .i64 3, .int .i64 0, .int .i64 (-1), .slice none 0 0, .int .i64 4, .int .i64 0, .int .i64 3, .slice none 0 0, .int .i64 5, .int .i64 0, .int .i64 (-1), .slice none 0 0] 54)
theorem laidW_kept (w : World) : Kept (fun _ => False) w (laidW w) := ((Kept.alloc _ _).calm2 (Kept.alloc _ _)).calm2 (Kept.alloc _ _)
theorem laidW_inv (w : World) : MInv w.heap.size (laidW w) w.heap.size (.slice none 0 0) (.slice none 0 0) 2 (.slice none 0 0) [] [] := by
  refine minv_first (Nat.le_refl _) ?_
  unfold laidW
  rw [((Kept.alloc _ _).calm2 (Kept.alloc _ _)).block w.heap.size (by simp) (fun e => e)]
  exact heap_alloc_new w _
theorem laidW_ops (w : World) : RO w.heap.size (laidW w) (some ⟨w.heap.size + 2, 0, none⟩) 7 (fun j o => j = 0 → o.k = 1 ∧ o.n = 2) := by
  refine first_ops (cb := w.heap.size + 1) ?_ ?_
  · unfold laidW
    rw [(Kept.alloc _ _).block (w.heap.size + 1) (by simp) (fun e => e)]
    have := heap_alloc_new (w.alloc (.cells #[.slice none 0 0, .slice none 0 0, .slice none 0 0, .slice none 0 0, .int .i64 2] 51)) (.cells #[.int .i64 1, .int .i64 3, .int .i64 0, .float .f32 1092616192, .float .f32 1148829696, .int .i64 0, .int .i64 2, .int .i64 3, .int .i64 0, .float .f32 1082130432, .float .f32 1073741824, .int .i64 0] 57)
    simpa using this
  · unfold laidW
    have h2 : ((w.alloc (.cells #[.slice none 0 0, .slice none 0 0, .slice none 0 0, .slice none 0 0, .int .i64 2] 51)).alloc (.cells #[.int .i64 1, .int .i64 3, .int .i64 0, .float .f32 1092616192, .float .f32 1148829696, .int .i64 0, .int .i64 2, .int .i64 3, .int .i64 0, .float .f32 1082130432, .float .f32 1073741824, .int .i64 0] 57)).heap.size = w.heap.size + 2 := by simp
    rw [← h2]
    exact heap_alloc_new _ _

set_option maxHeartbeats 4000000 in
set_option maxRecDepth 100000 in
theorem upto_c (p : Option Addr) (n cap : Nat) (w : World) (hn : n ≤ 1048576) (hT : Tabs w) (hR : RO w.heap.size w p n (fun _ _ => True)) :
    Calls Tryz.prog 7 #[.slice p n cap, .int .i64 2] w fun e w' => e = .returned (.int .i64 (-1)) ∧ Below w.heap.size w w' := by
  have HT := hide (hT.calm (laidW_kept w))
  have HR := hide (hR.calm (laidW_kept w))
  have HF := hide (laidW_ops w)
  have HI := hide (laidW_inv w)
  have HK0 := hide (laidW_kept w)
  have hB2 := hT.pow_lt
  have hB4 : 6 < w.heap.size := World.block_lt_of_cell? w ⟨6, 15, none⟩ hT.four
  have hBs := (laidW_kept w).size
  have nf4 : Hid (∀ w', ¬ Far w' w.heap.size 6) := fun w' f => by have := f.1; omega
  have nf2 : Hid (∀ w', ¬ Far w' w.heap.size 4) := fun w' f => by have := f.1; omega
  have hnb : (n : Int) ≤ 9223372036854775807 := by omega
  clear hT hR
  go_enter Tryz.func7, Tryz.ntmps7
  go_wp2
  obtain ⟨ws, hws⟩ : ∃ ws, ws = laidW w := ⟨_, rfl⟩
  rw [← hws] at HT HR HF HI HK0 hBs
  unfold laidW at hws
  rw [← hws]
  clear hws
  generalize hBn : w.heap.size = B at *
  go_loopw [7] (fun a wr => ∃ (i : Nat) (mv ev : Value) (Q : List Els) (D : List MD), a = .int .i64 i ∧ i ≤ 7 ∧ Hid (MInv B wr B mv (.slice none 0 0) 2 ev Q D) ∧ Hid (0 < i → 0 < D.length) ∧ D.length ≤ i ∧ Q.length ≤ 4 * i ∧ Hid (Kept (Far ws B) ws wr)) (fun a _ => 7 - (intOf a).toNat)
  case atStart => exact ⟨0, _, _, [], [], rfl, Nat.zero_le _, HI.out, (fun e => absurd e (Nat.not_lt_zero _) : _ → _), Nat.zero_le _, Nat.zero_le _, Kept.refl _ _⟩
  case round =>
    obtain ⟨i, mv, ev, Q, D, rfl, hi, HM, HD0, hDl, hQl, HK⟩ := hrel
    have hBr : B ≤ wr.heap.size := Nat.le_trans hBs HK.out.size
    have HTr := hide (HT.out.keep HK.out (nf4.out _) (nf2.out _))
    by_cases hlt : i < 7
    · have hb2 : (i : Int) < 7 := by omega
      have hb1 : (0 : Int) ≤ (i : Int) := by omega
      obtain ⟨b, off, hp, hb, -, hj⟩ := (HF.out.keep HK.out) (by decide)
      obtain ⟨o, hP, ho, q0, q1, q2, q3⟩ := hj i hlt
      simp only [Option.some.injEq, Addr.mk.injEq, and_true] at hp
      obtain ⟨rfl, rfl⟩ := hp
      rw [Nat.zero_add] at q0 q1 q2 q3
      have hk2 : o.k = 2 → 0 < D.length := fun e => by
        by_cases h0 : i = 0
        · have := (hP h0).1; omega
        · exact HD0.out (by omega)
      have HS := hide (step_c B B mv (.slice none 0 0) ev Q D o wr HM.out hBr HTr.out hB4 hB2 (by omega) hk2 (by omega) ho)
      have HP := hide hP
      clear hP ho hj hk2
      go_wp2_with fail
      refine HS.out.mono ?_
      rintro e w2 ⟨rfl, mv', ev', Q', D', h1, h2, h3, h4, h5, k2⟩
      have HM2 := hide h1
      have H4 := hide h4
      have HK2 := hide (Far.join HK.out k2)
      clear h1 h4 k2 q0 q1 q2 q3 HS
      go_wp2
      go_roundw
      case rel => exact ⟨i + 1, mv', ev', Q', D', by go_num, by omega, HM2.out, (fun _ => by
        by_cases h0 : i = 0
        · obtain ⟨e1, e2⟩ := HP.out h0
          exact H4.out ⟨e1, by omega, by omega⟩
        · have := HD0.out (by omega); omega : _ → _), by omega, by omega, HK2.out⟩
      case measure => simp [intOf]; omega
    · have hD0 := HD0.out (by omega)
      have hb2 : ¬ (i : Int) < 7 := by omega
      go_wp2
      have HMs := hide HM.out
      have HKs := hide HK.out
      have HD7 : D.length ≤ 7 := by omega
      have HQ7 : Q.length ≤ 28 := by omega
      clear HM HK HTr hBr hi HD0 hlt hDl hQl HF HI hb2
      generalize i = i0 at *
      generalize wr = wr0 at *
      generalize u4 = v4 at *
      go_loopw [9] (fun a wr => ∃ (i : Nat) (mv ev : Value) (Q : List Els) (D : List MD), a = .int .i64 i ∧ i ≤ n ∧ Hid (MInv B wr B mv (.slice none 0 0) 2 ev Q D) ∧ 0 < D.length ∧ D.length ≤ 7 + i ∧ Q.length ≤ 28 + 4 * i ∧ Hid (Kept (Far ws B) ws wr)) (fun a _ => n - (intOf a).toNat)
      case atStart => exact ⟨0, mv, ev, Q, D, rfl, Nat.zero_le _, HMs.out, hD0, by omega, by omega, HKs.out⟩
      case round =>
        clear HMs HKs hD0 HD7 HQ7
        clear mv ev Q D
        obtain ⟨i, mv, ev, Q, D, rfl, hi, HM, hD0, hDl, hQl, HK⟩ := hrel
        have hBr : B ≤ wr.heap.size := Nat.le_trans hBs HK.out.size
        have HTr := hide (HT.out.keep HK.out (nf4.out _) (nf2.out _))
        by_cases hlt : i < n
        · have hb2 : (i : Int) < (n : Int) := by omega
          have hb1 : (0 : Int) ≤ (i : Int) := by omega
          obtain ⟨b, off, rfl, hb, -, hj⟩ := (HR.out.keep HK.out) (by omega)
          obtain ⟨o, -, ho, q0, q1, q2, q3⟩ := hj i hlt
          have HS := hide (step_c B B mv (.slice none 0 0) ev Q D o wr HM.out hBr HTr.out hB4 hB2 (by omega) (fun _ => hD0) (by omega) ho)
          clear ho hj
          go_wp2_with fail
          refine HS.out.mono ?_
          rintro e w2 ⟨rfl, mv', ev', Q', D', h1, h2, h3, -, h5, k2⟩
          have HM2 := hide h1
          have HK2 := hide (Far.join HK.out k2)
          clear h1 k2 q0 q1 q2 q3 HS HK HM HTr
          go_wp2_with fail
          refine (wholeF B mv' (.slice none 0 0) 2 ev' Q' w2 (by omega) HM2.out.book).mono ?_
          rintro e w3 ⟨rfl, k3⟩
          have HM3 := hide (HM2.out.calm k3)
          have HK3 := hide (Far.join HK2.out k3.far)
          clear k3 HM2 HK2
          go_wp2
          go_roundw
          case rel => exact ⟨i + 1, mv', ev', Q', D', by go_num, by omega, HM3.out, by omega, by omega, by omega, HK3.out⟩
          case measure => simp [intOf]; omega
        · have hb2 : ¬ (i : Int) < (n : Int) := by omega
          go_wp2
          obtain ⟨c0, c1, c2, c3, c4, cf⟩ := five_cells HM.out.book.blk
          generalize hwx : wr = wx at *
          clear hwx
          go_loopw [12] (fun a wr => a = .int .i64 0 ∧ wr = wx) (fun a _ => 0)
          case atStart => exact ⟨rfl, rfl⟩
          case round =>
            obtain ⟨rfl, rfl⟩ := hrel
            go_wp2
            go_ret
            exact ⟨rfl, (HK0.out.join HK.out (R := fun j => B ≤ j) (fun _ _ e => e.elim) (fun _ _ e => e.1)).below _ (by omega) (fun j hj e => by omega)⟩

set_option maxHeartbeats 1000000 in
set_option maxRecDepth 100000 in
theorem records_walk (p : Option Addr) (n cap : Nat) (w : World) (hn : n ≤ 1048576) (hT : Tabs w) (hR : RO w.heap.size w p n (fun _ _ => True)) :
    Calls Tryz.prog 3 #[.slice p n cap] w fun e w' => e = .returned (.bool true) ∧ Below w.heap.size w w' := by
  have HU := hide (upto_c p n cap w hn hT hR)
  clear hT hR
  go_enter Tryz.func3, Tryz.ntmps3
  go_wp2_with fail
  refine HU.out.mono ?_
  rintro e w1 ⟨rfl, hb⟩
  have HB := hide hb
  clear hb
  go_wp2
  go_ret
  exact ⟨rfl, HB.out⟩
end Go.Proofs.YtlfmfhmbkpnjbaaGreatDoor

namespace Go.Proofs.YtlfmfhmbkpnjbaaGreatDoor.openoP
open Go.ChangeShapes Go.WideShapes Go.ChangeAt Go.RowKit Go.Deep
set_option linter.unusedVariables false
set_option maxRecDepth 100000

theorem cellsI : Tryz.prog.cellsOf 3 = 1 := by kernel_rfl
theorem cellsF : Tryz.prog.cellsOf 55 = 1 := by kernel_rfl
theorem cellsC : Tryz.prog.cellsOf 57 = 6 := by kernel_rfl
theorem cellsL : Tryz.prog.cellsOf 52 = 1 := by kernel_rfl
theorem cellsO : Tryz.prog.cellsOf 54 = 4 := by kernel_rfl

/-- A command that came in. -/
structure GoodC (c : Cmd) : Prop where
  int : IntC c
  f32 : F32C c
theorem f32_wf {n : Nat} (h : (Lit.float .f32 n).wf = true) : n < 4294967296 := by
  have := of_decide_eq_true h
  exact this

theorem trod_float {P : Program} {H : Type} {enc : TypeId × Value → H} {w : World} {base : Nat} {spare : Nat → Bool} {held : Bool} {fuel : Nat} {t : TypeId} {cs : List Value} {x : DataW H × List MemPlace} {k : FloatKind} (ht : P.underlying t = some (.float k)) (h : DataW.trod enc P w base spare held fuel t cs = some x) : ∃ n, cs = [.float k n] ∧ (Lit.float k n).wf = true := by
  cases fuel with
  | zero => simp [DataW.trod] at h
  | succ n =>
    unfold DataW.trod at h
    rw [ht] at h
    split at h <;> simp_all

theorem one_le {H : Type} (d : DataW H) : 1 ≤ Rows.uptoBulk d := by
  cases d with
  | lit l => cases l <;> simp [Rows.uptoBulk]
  | _ => simp [Rows.uptoBulk]

theorem many_le {H : Type} (l : List (DataW H)) : l.length ≤ Rows.uptoBulkAll l := by
  induction l with
  | nil => exact Nat.zero_le _
  | cons x r ih =>
    have := one_le x
    simp only [Rows.uptoBulkAll, List.length_cons]
    omega

theorem cmd_of {H : Type} {enc : TypeId × Value → H} {W : World} {spare : Nat → Bool} {held : Bool} {n : Nat} {cs : List Value} {x : DataW H × List MemPlace} (h : DataW.trod enc Tryz.prog W 0 spare held n 57 cs = some x) :
    ∃ m : Cmd, cs = rowC [m] ∧ GoodC m := by
  obtain ⟨xs, m, _, rfl, hl, hlen, hf⟩ := DataW.trod_struct Tryz.underlying57 h
  rw [cellsC] at hl
  match cs, hl, xs, hlen with
  | [c0, c1, c2, c3, c4, c5], _, [y0, y1, y2, y3, y4, y5], _ =>
    have f0 : DataW.trod enc Tryz.prog W 0 spare held m 3 [c0] = some y0 := by have := hf 0 _ rfl; simpa [cellsI] using this
    have f1 : DataW.trod enc Tryz.prog W 0 spare held m 3 [c1] = some y1 := by have := hf 1 _ rfl; simpa [cellsI] using this
    have f2 : DataW.trod enc Tryz.prog W 0 spare held m 3 [c2] = some y2 := by have := hf 2 _ rfl; simpa [cellsI] using this
    have f3 : DataW.trod enc Tryz.prog W 0 spare held m 55 [c3] = some y3 := by have := hf 3 _ rfl; simpa [cellsF] using this
    have f4 : DataW.trod enc Tryz.prog W 0 spare held m 55 [c4] = some y4 := by have := hf 4 _ rfl; simpa [cellsF] using this
    have f5 : DataW.trod enc Tryz.prog W 0 spare held m 3 [c5] = some y5 := by have := hf 5 _ rfl; simpa [cellsI] using this
    obtain ⟨k0, e0, _, w0⟩ := DataW.trod_int Tryz.underlying3 f0
    obtain ⟨k1, e1, _, w1⟩ := DataW.trod_int Tryz.underlying3 f1
    obtain ⟨k2, e2, _, w2⟩ := DataW.trod_int Tryz.underlying3 f2
    obtain ⟨k3, e3, w3⟩ := trod_float Tryz.underlying55 f3
    obtain ⟨k4, e4, w4⟩ := trod_float Tryz.underlying55 f4
    obtain ⟨k5, e5, _, w5⟩ := DataW.trod_int Tryz.underlying3 f5
    simp only [List.cons.injEq, and_true] at e0 e1 e2 e3 e4 e5
    subst e0 e1 e2 e3 e4 e5
    exact ⟨⟨k0, k1, k2, k3, k4, k5⟩, rfl, ⟨⟨bounds_i64 w0, bounds_i64 w1, bounds_i64 w2, bounds_i64 w5⟩, ⟨f32_wf w3, f32_wf w4⟩⟩⟩

theorem cmds_at {W : World} {b off : Nat} (len : Nat) (hel : ∀ i, i < len → ∃ m : Cmd, GoodC m ∧ ∀ k, k < 6 → W.cell? ⟨b, off + i * 6 + k, none⟩ = (rowC [m])[k]?) :
    ∃ L : List Cmd, L.length = len ∧ (∀ c ∈ L, GoodC c) ∧ ∀ j u, (rowC L)[j]? = some u → W.cell? ⟨b, off + j, none⟩ = some u := by
  induction len with
  | zero => exact ⟨[], rfl, (fun c hc => by cases hc), fun j u hu => by simp [rowC] at hu⟩
  | succ n ih =>
    obtain ⟨L, hl, hi, hr⟩ := ih (fun i hi => hel i (by omega))
    obtain ⟨m, hI, hm⟩ := hel n (by omega)
    refine ⟨L ++ [m], by simp [hl], fun c hc => ?_, fun j u hu => ?_⟩
    · rcases List.mem_append.1 hc with h | h
      · exact hi c h
      · obtain rfl : c = m := by simpa using h
        exact hI
    · rw [rowC_append] at hu
      have hll : (rowC L).length = n * 6 := by rw [rowC_length, hl]
      by_cases hj : j < n * 6
      · rw [List.getElem?_append_left (by omega)] at hu
        exact hr j u hu
      · rw [List.getElem?_append_right (by omega), hll] at hu
        have h7 : j - n * 6 < 6 := (List.getElem?_eq_some_iff.1 hu).1
        have := hm (j - n * 6) h7
        rw [hu, show off + n * 6 + (j - n * 6) = off + j from by omega] at this
        exact this

theorem cmds_of {H : Type} {enc : TypeId × Value → H} {W : World} {spare : Nat → Bool} {held : Bool} {fuel : Nat} {cs : List Value} {x : DataW H × List MemPlace} (h : DataW.trod enc Tryz.prog W 0 spare held fuel 52 cs = some x) :
    ∃ p cap, ∃ L : List Cmd, cs = [.slice p L.length cap] ∧ ReadsC W p L ∧ (∀ c ∈ L, GoodC c) ∧ L.length ≤ Rows.uptoBulk x.1 := by
  rcases open_slice Tryz.underlying52 h with ⟨hcs, _⟩ | ⟨a, len, cap, m, n, D, Pl, hcs, _, hl, _, hmm, hx, hel⟩
  · exact ⟨none, 0, [], hcs, fun h => absurd rfl h, (fun c hc => by cases hc), Nat.zero_le _⟩
  · rw [cellsC] at hel
    have hlm : len ≤ m := by rw [hmm]; split <;> omega
    have hbulk : len ≤ Rows.uptoBulk x.1 := by
      have := many_le ((List.range len).map D)
      rw [hx]
      simp only [Rows.uptoBulk]
      simp only [List.length_map, List.length_range] at this
      omega
    by_cases hpos : 0 < len
    · obtain ⟨b, off, spot⟩ := a
      have hfirst : spot = none ∧ b < W.heap.size := by
        obtain ⟨cs', h1, h2⟩ := hel 0 (by omega)
        obtain ⟨m0, rfl, _⟩ := cmd_of h2
        have h3 := (World.cells?_some h1).2.2 0 (by omega)
        have h4 : W.cell? (((⟨b, off, spot⟩ : Addr).add (0 * 6)).add 0) = some (.int .i64 m0.kind) := h3
        simp only [Nat.zero_mul] at h4
        have e : ((⟨b, off, spot⟩ : Addr).add 0).add 0 = ⟨b, off, spot⟩ := by simp [Addr.add]
        rw [e] at h4
        exact ⟨World.cell?_spot h4, World.block_lt_of_cell? (w := W) (a := ⟨b, off, spot⟩) h4⟩
      obtain ⟨rfl, hb⟩ := hfirst
      obtain ⟨L, hLl, hLi, hr⟩ := cmds_at (W := W) (b := b) (off := off) len (fun i hi => by
        obtain ⟨cs', h1, h2⟩ := hel i (by omega)
        obtain ⟨m0, rfl, hI⟩ := cmd_of h2
        have hc := (World.cells?_some h1).2.2
        exact ⟨m0, hI, fun k hk => by have := hc k hk; rwa [addr_add2, addr_add2] at this⟩)
      exact ⟨some ⟨b, off, none⟩, cap, L, by rw [hLl]; exact hcs, fun _ => ⟨b, off, rfl, hb, hr⟩, hLi, by rw [hLl]; exact hbulk⟩
    · obtain rfl : len = 0 := by omega
      exact ⟨some a, cap, [], hcs, fun h => absurd rfl h, (fun c hc => by cases hc), Nat.zero_le _⟩

theorem part_le {H : Type} (D : Nat → DataW H) (n j : Nat) (hj : j < n) : Rows.uptoBulk (D j) ≤ Rows.uptoBulkAll ((List.range n).map D) := by
  have : ∀ l : List (DataW H), ∀ x ∈ l, Rows.uptoBulk x ≤ Rows.uptoBulkAll l := by
    intro l
    induction l with
    | nil => intro x hx; cases hx
    | cons y r ih =>
      intro x hx
      simp only [Rows.uptoBulkAll]
      rcases List.mem_cons.1 hx with rfl | hx
      · omega
      · have := ih x hx; omega
  exact this _ _ (List.mem_map.2 ⟨j, List.mem_range.2 hj, rfl⟩)

/-- An operation that came in. -/
theorem op_of {H : Type} {enc : TypeId × Value → H} {W : World} {spare : Nat → Bool} {held : Bool} {n : Nat} {cs : List Value} {x : DataW H × List MemPlace} (h : DataW.trod enc Tryz.prog W 0 spare held n 54 cs = some x) (hb : Rows.uptoBulk x.1 ≤ 1048576) :
    ∃ o : OpD, cs = [.int .i64 o.k, .int .i64 o.a, .int .i64 o.n, .slice o.p o.cs.length o.cap] ∧ o.Ok W.heap.size W := by
  obtain ⟨xs, m, _, hx, hl, hlen, hf⟩ := DataW.trod_struct Tryz.underlying54 h
  rw [cellsO] at hl
  match cs, hl, xs, hlen, hx with
  | [c0, c1, c2, c3], _, [y0, y1, y2, y3], _, hx =>
    have f0 : DataW.trod enc Tryz.prog W 0 spare held m 3 [c0] = some y0 := by have := hf 0 _ rfl; simpa [cellsI] using this
    have f1 : DataW.trod enc Tryz.prog W 0 spare held m 3 [c1] = some y1 := by have := hf 1 _ rfl; simpa [cellsI] using this
    have f2 : DataW.trod enc Tryz.prog W 0 spare held m 3 [c2] = some y2 := by have := hf 2 _ rfl; simpa [cellsI] using this
    have f3 : DataW.trod enc Tryz.prog W 0 spare held m 52 [c3] = some y3 := by have := hf 3 _ rfl; simpa [cellsL] using this
    obtain ⟨k0, e0, _, w0⟩ := DataW.trod_int Tryz.underlying3 f0
    obtain ⟨k1, e1, _, w1⟩ := DataW.trod_int Tryz.underlying3 f1
    obtain ⟨k2, e2, _, w2⟩ := DataW.trod_int Tryz.underlying3 f2
    obtain ⟨p, cap, L, e3, hR, hI, hLb⟩ := cmds_of f3
    simp only [List.cons.injEq, and_true] at e0 e1 e2 e3
    subst e0 e1 e2 e3
    have hbx : Rows.uptoBulk y3.1 ≤ 1048576 := by
      rw [hx] at hb
      simp only [List.map_cons, List.map_nil, Rows.uptoBulk, Rows.uptoBulkAll] at hb
      omega
    refine ⟨⟨k0, k1, k2, p, cap, L⟩, rfl, ⟨hR, fun hne b off e => ?_, fun c hc => (hI c hc).int, fun c hc => (hI c hc).f32, Nat.le_trans hLb hbx, (bounds_i64 w1).1, (bounds_i64 w1).2, (bounds_i64 w2).1, (bounds_i64 w2).2⟩⟩
    obtain ⟨b', off', e', hb', _⟩ := hR hne
    have e2 : p = some ⟨b, off, none⟩ := e
    rw [e2] at e'
    simp only [Option.some.injEq, Addr.mk.injEq, and_true] at e'
    rw [e'.1]; exact Or.inl hb'

theorem open_ops {H : Type} {enc : TypeId × Value → H} {W : World} {a0 : Option Addr} {len0 cap0 : Nat} {d0 : DataW H} {p0 : List MemPlace} (h0 : DataW.Trod enc Tryz.prog W 0 (fun _ => true) true 22 (.slice a0 len0 cap0) d0 p0) (hb : Rows.uptoBulk d0 ≤ 1048576) :
    len0 ≤ 1048576 ∧ RO W.heap.size W a0 len0 (fun _ _ => True) := by
  obtain ⟨fuel, hf⟩ := h0
  rcases open_slice Tryz.underlying22 hf with ⟨hcs, _⟩ | ⟨a, len, cap, m, n, D, Pl, hcs, _, hl, hcm, hmm, hx, hel⟩
  · simp [Value.cells] at hcs
    obtain ⟨rfl, rfl, rfl⟩ := hcs
    exact ⟨by decide, fun e => absurd e (by decide)⟩
  · simp [Value.cells] at hcs
    obtain ⟨rfl, rfl, rfl⟩ := hcs
    rw [cellsO] at hel
    have hlm : len0 ≤ m := by rw [hmm]; split <;> omega
    simp only [Prod.mk.injEq] at hx
    have hbd : Rows.uptoBulkAll ((List.range len0).map D) ≤ 1048576 := by
      rw [hx.1] at hb
      simp only [Rows.uptoBulk] at hb
      omega
    have hlen : len0 ≤ 1048576 := by
      have := many_le ((List.range len0).map D)
      simp only [List.length_map, List.length_range] at this
      omega
    refine ⟨hlen, fun hpos => ?_⟩
    have cell : ∀ j, j < len0 → ∃ o : OpD, o.Ok W.heap.size W ∧ ∀ k, k < 4 → W.cell? ((a.add (j * 4)).add k) = [Value.int .i64 o.k, .int .i64 o.a, .int .i64 o.n, .slice o.p o.cs.length o.cap][k]? := by
      intro j hj
      obtain ⟨cs', h1, h2⟩ := hel j (by omega)
      obtain ⟨o, rfl, ho⟩ := op_of h2 (Nat.le_trans (part_le D len0 j hj) hbd)
      exact ⟨o, ho, fun k hk => (World.cells?_some h1).2.2 k hk⟩
    obtain ⟨b, off, spot⟩ := a
    obtain ⟨o, _, h3⟩ := cell 0 hpos
    have h4 : W.cell? (((⟨b, off, spot⟩ : Addr).add (0 * 4)).add 0) = some (.int .i64 o.k) := h3 0 (by decide)
    simp only [Nat.zero_mul] at h4
    have e : ((⟨b, off, spot⟩ : Addr).add 0).add 0 = ⟨b, off, spot⟩ := by simp [Addr.add]
    rw [e] at h4
    obtain rfl := World.cell?_spot h4
    have hbl := World.block_lt_of_cell? (w := W) (a := ⟨b, off, none⟩) h4
    refine ⟨b, off, rfl, hbl, Or.inl hbl, fun j hj => ?_⟩
    obtain ⟨o, ho, h5⟩ := cell j hj
    have c0 := h5 0 (by decide)
    have c1 := h5 1 (by decide)
    have c2 := h5 2 (by decide)
    have c3 := h5 3 (by decide)
    rw [addr_add2, addr_add2] at c0 c1 c2 c3
    exact ⟨o, trivial, ho, c0, c1, c2, c3⟩

end Go.Proofs.YtlfmfhmbkpnjbaaGreatDoor.openoP
