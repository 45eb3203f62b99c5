import Derived.Test.YtlfmfhmbkpnjbaaGreatDoorAl41
import Derived.Test.YtlfmfhmbkpnjbaaGreatDoorAl23
namespace Go.Proofs.YtlfmfhmbkpnjbaaGreatDoor
open Go.RowKit

/-- Behind a step. -/
def StepA (B bk : Nat) (Q : List Els) (D : List MD) (X : List SD) (o : OpD) (w : World) (e : Ending) (w' : World) : Prop :=
  e = .returned (.bool true) ∧ ∃ mv' sv' ev' Q' D' X', AInv B w' bk mv' sv' ev' Q' D' X' ∧ D.length ≤ D'.length ∧ D'.length ≤ D.length + 1 ∧ X'.length ≤ X.length + 1 ∧ (o.k = 1 ∧ 1 ≤ o.n ∧ o.n ≤ 64 → 0 < D'.length) ∧ Q'.length ≤ Q.length + 4 ∧ Kept (Far w B) w w'

set_option maxHeartbeats 2000000 in
set_option maxRecDepth 100000 in
theorem stepA_none (B bk : Nat) (mv sv ev : Value) (Q : List Els) (D : List MD) (X : List SD) (o : OpD) (w : World) (h : AInv B w bk mv sv ev Q D X) (hk : o.k < 1 ∨ 6 < o.k) :
    Calls Tryz.prog 16 #[.pointer (some ⟨bk, 0, none⟩), o.val] w (StepA B bk Q D X o w) := by
  have fin : ∀ w', Kept (fun _ => False) w w' → StepA B bk Q D X o w (.returned (.bool true)) w' := fun w' k => ⟨rfl, mv, sv, ev, Q, D, X, h.calm k, Nat.le_refl _, by omega, by omega, fun e => by omega, by omega, k.far⟩
  have FIN := hide fin
  obtain ⟨c0, c1, c2, c3, c4, cf⟩ := five_cells h.m.book.blk
  have hbk : bk < w.heap.size := heap_lt h.m.book.blk
  have H := hide h
  clear h fin
  obtain ⟨k, a, n, p, cap, cs⟩ := o
  unfold OpD.val
  dsimp only at hk ⊢
  rcases hk with hk | hk
  · have hd : decide (k < 1) = true := by simp [hk]
    go_enter Tryz.func16, Tryz.ntmps16
    go_wp2_with fail
    go_quiet (fail)
    go_wp2
    go_ret
    exact FIN.out _ ((Kept.alloc _ _).calm2 (Kept.drewN _ _))
  · have hd : decide (k < 1) = false := by simp; omega
    have hd2 : decide (6 < k) = true := by simp [hk]
    go_enter Tryz.func16, Tryz.ntmps16
    go_wp2_with fail
    go_quiet (fail)
    go_wp2
    go_ret
    exact FIN.out _ ((Kept.alloc _ _).calm2 (Kept.drewN _ _))

set_option maxHeartbeats 2000000 in
set_option maxRecDepth 100000 in
theorem stepA_new (B bk : Nat) (mv sv ev : Value) (Q : List Els) (D : List MD) (X : List SD) (o : OpD) (w : World) (h : AInv B w bk mv sv ev Q D X) (hB : B ≤ w.heap.size) (hT : Tabs w) (hD : D.length ≤ 1000000000) (hk : o.k = 1) :
    Calls Tryz.prog 16 #[.pointer (some ⟨bk, 0, none⟩), o.val] w (StepA B bk Q D X o w) := by
  obtain ⟨c0, c1, c2, c3, c4, cf⟩ := five_cells h.m.book.blk
  have hbk : bk < w.heap.size := heap_lt h.m.book.blk
  have H := hide h
  have HT := hide hT
  clear h hT
  obtain ⟨k, a, n, p, cap, cs⟩ := o
  unfold OpD.val
  dsimp only at hk ⊢
  subst hk
  have hd : decide ((1 : Int) < 1) = false := by decide
  have hd2 : decide ((6 : Int) < 1) = false := by decide
  go_enter Tryz.func16, Tryz.ntmps16
  go_wp2_with fail
  go_quiet (fail)
  have K1 : Hid (Kept (fun _ => False) w ((w.alloc (.cells #[.int .i64 1, .int .i64 a, .int .i64 n, .slice p cs.length cap] 54)).drewN nq)) := (Kept.alloc _ _).calm2 (Kept.drewN _ _)
  obtain ⟨o0, o1, o2, o3⟩ := op_cells (w := (w.alloc (.cells #[.int .i64 1, .int .i64 a, .int .i64 n, .slice p cs.length cap] 54)).drewN nq) (c := w.heap.size) (heap_alloc_new w _)
  generalize (w.alloc (.cells #[.int .i64 1, .int .i64 a, .int .i64 n, .slice p cs.length cap] 54)).drewN nq = w1 at *
  have hs := K1.out.size
  have HB : Hid (Calls Tryz.prog 29 #[.pointer (some ⟨bk, 0, none⟩), .int .i64 n] w1 fun e w' => e = .returned (.bool true) ∧ StepA B bk Q D X ⟨1, a, n, p, cap, cs⟩ w (.returned (.bool true)) w') := by
    by_cases he : 1 ≤ n ∧ n ≤ 64
    · refine (begun_ok B bk mv sv 6 ev Q D n w1 (H.out.calm K1.out).m (by omega) (HT.out.calm K1.out) hD he).mono ?_
      rintro e w' ⟨rfl, mv', d, hm, ⟨e1, e2, e3, e4⟩, hnew, hfar, hkk⟩
      have hh : Hist d [] := ⟨by rw [e1, e2]; rfl, by rw [e3]; rfl, fun j hj => by
        have hj0 : j = 0 := by rw [e3] at hj; simpa using hj
        subst hj0
        simp only [e3]
        exact ⟨rfl, rfl⟩, fun j hj => by
        have hj0 : j = 0 := by rw [e4] at hj; simpa using hj
        subst hj0
        simp only [e4, e1, e2]
        rfl, cs_nil⟩
      exact ⟨rfl, rfl, mv', sv, ev, Q, _, X, (H.out.calm K1.out).begun hm hh hnew hkk, by simp, by simp, by omega, fun _ => by simp, by omega, Far.join K1.out.far hfar⟩
    · refine (begun_bad bk n w1 he).mono ?_
      rintro e w' ⟨rfl, rfl⟩
      exact ⟨rfl, rfl, mv, sv, ev, Q, D, X, H.out.calm K1.out, Nat.le_refl _, by omega, by omega, fun e => absurd e.2 he, by omega, K1.out.far⟩
  go_wp2_with fail
  refine HB.out.mono ?_
  rintro e w2 ⟨rfl, fin⟩
  have FIN := hide fin
  clear fin
  go_wp2
  go_ret
  exact FIN.out

set_option maxHeartbeats 4000000 in
set_option maxRecDepth 100000 in
theorem stepA_rec (B bk : Nat) (mv sv ev : Value) (Q : List Els) (D : List MD) (X : List SD) (o : OpD) (w : World) (h : AInv B w bk mv sv ev Q D X) (hB : B ≤ w.heap.size) (hE : Errs w) (hB4 : 6 < B) (hB2 : 4 < B)
    (hD : D.length ≤ 1000000000) (hX : X.length ≤ 1000000000) (hD0 : 0 < D.length) (hQ : Q.length ≤ 1000000000) (ho : o.Ok B w) (hk : o.k = 2 ∨ o.k = 3) :
    Calls Tryz.prog 16 #[.pointer (some ⟨bk, 0, none⟩), o.val] w (StepA B bk Q D X o w) := by
  obtain ⟨c0, c1, c2, c3, c4, cf⟩ := five_cells h.m.book.blk
  have hbk : bk < w.heap.size := heap_lt h.m.book.blk
  have hq := pickN_lt_law o.a D.length hD0
  obtain ⟨g, cp, hmv⟩ : ∃ g cp, mv = .slice (some ⟨g, 0, none⟩) D.length cp := by
    rcases h.m.list.2 with ⟨_, h0⟩ | ⟨g, cp, _, e, _⟩
    · omega
    · exact ⟨g, cp, e⟩
  subst hmv
  have cg : w.cell? ⟨g, pickN_law o.a D.length, none⟩ = some (ptrM (D[pickN_law o.a D.length]'hq)) := by
    have h2 := h.m.list.cells (g := g) rfl (pickN_law o.a D.length) (ptrM (D[pickN_law o.a D.length]'hq)) (by simp [hq])
    rwa [addr_add2, Nat.zero_add] at h2
  have hgl : g < w.heap.size := owns_lt h.m.list g rfl
  have H := hide h
  have HE := hide hE
  have HO := hide ho
  have ha1 := ho.at1
  have ha2 := ho.at2
  clear h hE ho
  have HP := hide (fun (w : World) => pick_law o.a (D.length : Int) D.length w ha1 ha2 rfl hD0 hD)
  clear ha1 ha2
  generalize hqn : pickN_law o.a D.length = q at *
  -- 'recorded' and 'opened', in one form
  have HR : Hid (∀ w', Kept (fun _ => False) w w' → Calls Tryz.prog 31 #[.pointer (some ⟨bk, 0, none⟩), ptrM (D[q]'hq), .slice o.p o.cs.length o.cap] w' fun e w2 => e = .returned (.bool true) ∧ StepA B bk Q D X o w (.returned (.bool true)) w2) := fun w' k => by
    have h' := H.out.calm k
    have o' := HO.out.calm k
    have hsz := k.size
    refine (recorded_walk B bk (.slice (some ⟨g, 0, none⟩) D.length cp) sv 6 ev Q (D[q]'hq) o.p o.cap o.cs w' h'.m.book (h'.m.each q hq) (h'.m.low q hq) (HE.out.calm k).tabs hB4 hB2 o'.reads o'.low o'.int o'.short hQ).mono ?_
    rintro e w2 ⟨rfl, d', ev', Q', od, gr, hf, kk, hb, hQ', hev, hold⟩
    obtain ⟨css, hh⟩ := h'.hist q hq
    obtain ⟨⟨css', hh'⟩, hws⟩ := hh.grew (h'.m.each q hq) gr o'.int o'.f32
    obtain ⟨m1, m2⟩ := h'.m.turn (by omega) q hq od gr.mb hf kk hb hev
    exact ⟨rfl, rfl, _, sv, ev', Q', _, X, h'.recd q hq m1 hh' hws hf kk hold, by simp, by simp, by omega, fun e => by rcases hk with hk | hk <;> omega, by omega, Far.join k.far m2⟩
  have HV : Hid (∀ w', Kept (fun _ => False) w w' → Calls Tryz.prog 32 #[.pointer (some ⟨bk, 0, none⟩), ptrM (D[q]'hq), .int .i64 o.n] w' fun e w2 => e = .returned (.bool true) ∧ StepA B bk Q D X o w (.returned (.bool true)) w2) := fun w' k => by
    have h' := H.out.calm k
    have hsz := k.size
    refine (opened_c B bk (.slice (some ⟨g, 0, none⟩) D.length cp) sv ev Q D X q hq o.n w' h' (by omega) (HE.out.calm k) hX ⟨HO.out.n1, HO.out.n2⟩).mono ?_
    rintro e w2 ⟨rfl, sv', X', h1, h2, h3⟩
    exact ⟨rfl, rfl, _, sv', ev, Q, D, X', h1, Nat.le_refl _, by omega, h2, fun e => by rcases hk with hk | hk <;> omega, by omega, Far.join k.far h3⟩
  obtain ⟨k, a, n, p, cap, cs⟩ := o
  unfold OpD.val
  dsimp only at hk HP HR HV ⊢
  have hq1 : (0 : Int) ≤ (q : Int) := by omega
  have hq2 : (q : Int) < (D.length : Int) := by omega
  have hd : decide (k < 1) = false := by simp; omega
  have hd2 : decide (6 < k) = false := by simp; omega
  have hk1 : (k == 1) = false := by simp; omega
  go_enter Tryz.func16, Tryz.ntmps16
  go_wp2_with fail
  go_quiet (fail)
  have K1 : Hid (Kept (fun _ => False) w ((w.alloc (.cells #[.int .i64 k, .int .i64 a, .int .i64 n, .slice p cs.length cap] 54)).drewN nq)) := (Kept.alloc _ _).calm2 (Kept.drewN _ _)
  obtain ⟨o0, o1, o2, o3⟩ := op_cells (w := (w.alloc (.cells #[.int .i64 k, .int .i64 a, .int .i64 n, .slice p cs.length cap] 54)).drewN nq) (c := w.heap.size) (heap_alloc_new w _)
  generalize (w.alloc (.cells #[.int .i64 k, .int .i64 a, .int .i64 n, .slice p cs.length cap] 54)).drewN nq = w1 at *
  have d0 : w1.cell? ⟨bk, 0, none⟩ = some (.slice (some ⟨g, 0, none⟩) D.length cp) := by rw [cell_keep K1.out hbk (fun e => e)]; exact c0
  have dg : w1.cell? ⟨g, q, none⟩ = some (ptrM (D[q]'hq)) := by rw [cell_keep K1.out hgl (fun e => e)]; exact cg
  have hob := World.block_lt_of_cell? w1 ⟨w.heap.size, 0, none⟩ o0
  clear c0 c1 c2 c3 c4 cf cg H HE HO
  generalize hpm : ptrM (D[q]'hq) = pm at *
  rcases hk with hk | hk
  · subst hk
    clear HV
    have e2 : ((2 : Int) == 2) = true := rfl
    go_wp2_with fail
    go_quiet ((go_at_call 30; exact Calls.quiet_of_same (HP.out _)))
    have K2 : Hid (Kept (fun _ => False) w (w1.drewN nq)) := K1.out.calm2 (Kept.drewN _ _)
    have e3 : (w1.drewN nq).cell? ⟨w.heap.size, 3, none⟩ = some (.slice p cs.length cap) := o3
    have e0 : (w1.drewN nq).cell? ⟨w.heap.size, 0, none⟩ = some (.int .i64 2) := o0
    generalize w1.drewN nq = w2 at *
    have HC2 := hide (HR.out w2 K2.out)
    clear HR o0 o1 o2 o3 d0 dg K1 K2
    go_wp2_with fail
    refine HC2.out.mono ?_
    rintro e w3 ⟨rfl, fin⟩
    have FIN := hide fin
    clear fin
    go_wp2
    go_ret
    exact FIN.out
  · subst hk
    clear HR
    have e2 : ((3 : Int) == 2) = false := rfl
    have e2' : ((3 : Int) == 3) = true := rfl
    go_wp2_with fail
    go_quiet ((go_at_call 30; exact Calls.quiet_of_same (HP.out _)))
    have K2 : Hid (Kept (fun _ => False) w (w1.drewN nq)) := K1.out.calm2 (Kept.drewN _ _)
    have e3 : (w1.drewN nq).cell? ⟨w.heap.size, 2, none⟩ = some (.int .i64 n) := o2
    have e0 : (w1.drewN nq).cell? ⟨w.heap.size, 0, none⟩ = some (.int .i64 3) := o0
    generalize w1.drewN nq = w2 at *
    have HC2 := hide (HV.out w2 K2.out)
    clear HV o0 o1 o2 o3 d0 dg K1 K2
    go_wp2_with fail
    refine HC2.out.mono ?_
    rintro e w3 ⟨rfl, fin⟩
    have FIN := hide fin
    clear fin
    go_wp2
    go_ret
    exact FIN.out

set_option maxHeartbeats 4000000 in
set_option maxRecDepth 100000 in
theorem stepA_play (B bk : Nat) (mv sv ev : Value) (Q : List Els) (D : List MD) (X : List SD) (o : OpD) (w : World) (h : AInv B w bk mv sv ev Q D X) (hB : B ≤ w.heap.size)
    (hX : X.length ≤ 1000000000) (hQ : Q.length ≤ 1000000000) (ho : o.Ok B w) (hk : 4 ≤ o.k ∧ o.k ≤ 6) :
    Calls Tryz.prog 16 #[.pointer (some ⟨bk, 0, none⟩), o.val] w (StepA B bk Q D X o w) := by
  obtain ⟨c0, c1, c2, c3, c4, cf⟩ := five_cells h.m.book.blk
  have hbk : bk < w.heap.size := heap_lt h.m.book.blk
  have fin : ∀ w', Kept (fun _ => False) w w' → StepA B bk Q D X o w (.returned (.bool true)) w' := fun w' k => ⟨rfl, mv, sv, ev, Q, D, X, h.calm k, Nat.le_refl _, by omega, by omega, fun e => by omega, by omega, k.far⟩
  have FINF := hide fin
  clear fin
  have H := hide h
  have HO := hide ho
  have ha1 := ho.at1
  have ha2 := ho.at2
  clear ho
  obtain ⟨ao, cp, rfl⟩ : ∃ ao cp, sv = .slice ao X.length cp := by
    rcases h.list.2 with ⟨rfl, h0⟩ | ⟨g, cp, _, rfl, _⟩
    · exact ⟨none, 0, by rw [h0]⟩
    · exact ⟨_, _, rfl⟩
  by_cases hX0 : X.length = 0
  · clear h
    obtain ⟨k, a, n, p, cap, cs⟩ := o
    unfold OpD.val
    dsimp only at hk ⊢
    have hd : decide (k < 1) = false := by simp; omega
    have hd2 : decide (6 < k) = false := by simp; omega
    have hk1 : (k == 1) = false := by simp; omega
    have hk2 : (k == 2) = false := by simp; omega
    have hk3 : (k == 3) = false := by simp; omega
    have hx0 : ((X.length : Int) == 0) = true := by simp [hX0]
    have K1 : Hid (∀ m, Kept (fun _ => False) w ((w.alloc (.cells #[.int .i64 k, .int .i64 a, .int .i64 n, .slice p cs.length cap] 54)).drewN m)) := fun m => (Kept.alloc _ _).calm2 (Kept.drewN _ _)
    have CC : Hid (∀ m, ((w.alloc (.cells #[.int .i64 k, .int .i64 a, .int .i64 n, .slice p cs.length cap] 54)).drewN m).cell? ⟨bk, 1, none⟩ = some (.slice ao X.length cp)) := fun m => by rw [cell_keep (K1.out m) hbk (fun e => e)]; exact c1
    go_enter Tryz.func16, Tryz.ntmps16
    go_wp2_with fail
    go_quiet (fail)
    obtain ⟨o0, o1, o2, o3⟩ := op_cells (w := (w.alloc (.cells #[.int .i64 k, .int .i64 a, .int .i64 n, .slice p cs.length cap] 54)).drewN nq) (c := w.heap.size) (heap_alloc_new w _)
    have d1 := CC.out nq
    have FIN := hide (FINF.out _ (K1.out nq))
    clear CC K1 FINF c0 c1 c2 c3 c4 cf
    generalize (w.alloc (.cells #[.int .i64 k, .int .i64 a, .int .i64 n, .slice p cs.length cap] 54)).drewN nq = w1 at *
    clear hX0
    go_wp2
    go_ret
    exact FIN.out
  · have hX1 : 0 < X.length := by omega
    have hq := pickN_lt_law o.a X.length hX1
    obtain ⟨g, hao⟩ : ∃ g, ao = some ⟨g, 0, none⟩ := by
      rcases h.list.2 with ⟨_, h0⟩ | ⟨g, cp', _, e, _⟩
      · omega
      · injection e with e1
        exact ⟨g, e1⟩
    subst hao
    have cgf : ∀ (w' : World) (X' : List SD), w'.ownsRow 0 61 1 (.slice (some ⟨g, 0, none⟩) X.length cp) X'.length (X'.map ptrS) → X'.map ptrS = X.map ptrS → X'.length = X.length → w'.cell? ⟨g, pickN_law o.a X.length, none⟩ = some (ptrS (X[pickN_law o.a X.length]'hq)) := fun w' X' hl he hn => by
      rw [he, hn] at hl
      have h2 := hl.cells (g := g) rfl (pickN_law o.a X.length) (ptrS (X[pickN_law o.a X.length]'hq)) (by simp [hq])
      rwa [addr_add2, Nat.zero_add] at h2
    have cg := cgf w X h.list rfl rfl
    have hgl : g < w.heap.size := owns_lt h.list g rfl
    have HP := hide (fun (w : World) => pick_law o.a (X.length : Int) X.length w ha1 ha2 rfl hX1 hX)
    have HPL : Hid (∀ w', Kept (fun _ => False) w w' → Calls Tryz.prog 18 #[.pointer (some ⟨bk, 0, none⟩), ptrS (X[pickN_law o.a X.length]'hq), o.val] w' fun e w2 => e = .returned (.bool true) ∧ StepA B bk Q D X o w (.returned (.bool true)) w2 ∧ w2.cell? ⟨bk, 1, none⟩ = some (.slice (some ⟨g, 0, none⟩) X.length cp) ∧ Kept (Far w' B) w' w2 ∧ w2.cell? ⟨g, pickN_law o.a X.length, none⟩ = w'.cell? ⟨g, pickN_law o.a X.length, none⟩) := fun w' k => by
      have h' := H.out.calm k
      have hsz := k.size
      refine (plays_c B bk mv (.slice (some ⟨g, 0, none⟩) X.length cp) ev Q D X (pickN_law o.a X.length) hq o w' h' (by omega) hQ).mono ?_
      rintro e w2 ⟨rfl, ev', Q', X', h1, h2, h3, h4, h5⟩
      obtain ⟨-, b1, -⟩ := five_cells h1.m.book.blk
      refine ⟨rfl, ⟨rfl, mv, _, ev', Q', D, X', h1, Nat.le_refl _, by omega, by omega, fun e => by omega, h3, Far.join k.far h4⟩, b1, h4, ?_⟩
      rw [cgf w2 X' (by have := h1.list; rwa [h2] at this ⊢) h5 h2, cgf w' X h'.list rfl rfl]
    clear ha1 ha2 h
    generalize hqn : pickN_law o.a X.length = q at *
    obtain ⟨k, a, n, p, cap, cs⟩ := o
    unfold OpD.val at HPL ⊢
    dsimp only at hk HP HPL ⊢
    have hq1 : (0 : Int) ≤ (q : Int) := by omega
    have hq2 : (q : Int) < (X.length : Int) := by omega
    have hd : decide (k < 1) = false := by simp; omega
    have hd2 : decide (6 < k) = false := by simp; omega
    have hk1 : (k == 1) = false := by simp; omega
    have hk2 : (k == 2) = false := by simp; omega
    have hk3 : (k == 3) = false := by simp; omega
    have hx0 : ((X.length : Int) == 0) = false := by rw [beq_eq_false_iff_ne]; omega
    go_enter Tryz.func16, Tryz.ntmps16
    go_wp2_with fail
    go_quiet (fail)
    have K1 : Hid (Kept (fun _ => False) w ((w.alloc (.cells #[.int .i64 k, .int .i64 a, .int .i64 n, .slice p cs.length cap] 54)).drewN nq)) := (Kept.alloc _ _).calm2 (Kept.drewN _ _)
    have OB : Hid (((w.alloc (.cells #[.int .i64 k, .int .i64 a, .int .i64 n, .slice p cs.length cap] 54)).drewN nq).heap[w.heap.size]? = some (.cells #[.int .i64 k, .int .i64 a, .int .i64 n, .slice p cs.length cap] 54 (0, 0))) := heap_alloc_new w _
    obtain ⟨o0, o1, o2, o3⟩ := op_cells OB.out
    generalize (w.alloc (.cells #[.int .i64 k, .int .i64 a, .int .i64 n, .slice p cs.length cap] 54)).drewN nq = w1 at *
    have d1 : w1.cell? ⟨bk, 1, none⟩ = some (.slice (some ⟨g, 0, none⟩) X.length cp) := by rw [cell_keep K1.out hbk (fun e => e)]; exact c1
    have dg : w1.cell? ⟨g, q, none⟩ = some (ptrS (X[q]'hq)) := by rw [cell_keep K1.out hgl (fun e => e)]; exact cg
    clear c0 c1 c2 c3 c4 cf cg cgf H HO FINF hX0
    have hob := heap_lt OB.out
    generalize hpm : ptrS (X[q]'hq) = pm at *
    obtain ⟨pa, hpa⟩ : ∃ pa, pm = .pointer (some pa) := ⟨_, hpm.symm⟩
    subst hpa
    clear hpm
    go_wp2_with fail
    have CE : Hid (∀ w', Kept (Far w1 B) w1 w' → w'.cell? ⟨w.heap.size, 0, none⟩ = some (.int .i64 k) ∧ w'.cell? ⟨w.heap.size, 1, none⟩ = some (.int .i64 a) ∧ w'.cell? ⟨w.heap.size, 2, none⟩ = some (.int .i64 n) ∧ w'.cell? ⟨w.heap.size, 3, none⟩ = some (.slice p cs.length cap)) := fun w' kk => by
      have hn : ¬ Far w1 B w.heap.size := fun f => f.2.1 (typ_blk OB.out)
      exact ⟨by rw [cell_keep kk hob hn]; exact o0, by rw [cell_keep kk hob hn]; exact o1, by rw [cell_keep kk hob hn]; exact o2, by rw [cell_keep kk hob hn]; exact o3⟩
    go_region_held3 (fun w' => w'.cell? ⟨bk, 1, none⟩ = some (.slice (some ⟨g, 0, none⟩) X.length cp) ∧ w'.cell? ⟨g, q, none⟩ = some (.pointer (some pa)) ∧ w'.cell? ⟨w.heap.size, 0, none⟩ = some (.int .i64 k) ∧ w'.cell? ⟨w.heap.size, 1, none⟩ = some (.int .i64 a) ∧ w'.cell? ⟨w.heap.size, 2, none⟩ = some (.int .i64 n) ∧ w'.cell? ⟨w.heap.size, 3, none⟩ = some (.slice p cs.length cap)) (go_keep)
      (first
        | (go_at_call 30; refine (HP.out _).mono ?_; rintro e w2 ⟨rfl, rfl⟩)
        | (go_at_call 18; refine (HPL.out _ (K1.out.calm2 (Kept.drew w1))).mono ?_; rintro e w2 ⟨rfl, fin, f1, f2, f3⟩; have FIN := hide fin; obtain ⟨y0, y1, y2, y3⟩ := CE.out w2 (Far.join (Kept.drew w1).far f2); have f4 : w2.cell? ⟨g, q, none⟩ = some (.pointer (some pa)) := (by rw [f3]; exact dg); clear fin f2 f3))
    all_goals
      clear y0 y1 y2 y3 f1 f4
      go_wp2
      go_ret
      exact FIN.out

theorem stepA_c (B bk : Nat) (mv sv ev : Value) (Q : List Els) (D : List MD) (X : List SD) (o : OpD) (w : World) (h : AInv B w bk mv sv ev Q D X) (hB : B ≤ w.heap.size) (hE : Errs w) (hB4 : 6 < B) (hB2 : 4 < B)
    (hD : D.length ≤ 1000000000) (hX : X.length ≤ 1000000000) (hD0 : o.k = 2 ∨ o.k = 3 → 0 < D.length) (hQ : Q.length ≤ 1000000000) (ho : o.Ok B w) :
    Calls Tryz.prog 16 #[.pointer (some ⟨bk, 0, none⟩), o.val] w (StepA B bk Q D X o w) := by
  by_cases h1 : o.k = 1
  · exact stepA_new B bk mv sv ev Q D X o w h hB hE.tabs hD h1
  · by_cases h2 : o.k = 2 ∨ o.k = 3
    · exact stepA_rec B bk mv sv ev Q D X o w h hB hE hB4 hB2 hD hX (hD0 h2) hQ ho h2
    · by_cases h3 : 4 ≤ o.k ∧ o.k ≤ 6
      · exact stepA_play B bk mv sv ev Q D X o w h hB hX hQ ho h3
      · exact stepA_none B bk mv sv ev Q D X o w h (by omega)
end Go.Proofs.YtlfmfhmbkpnjbaaGreatDoor

namespace Go.Proofs.YtlfmfhmbkpnjbaaGreatDoor
open Go.RowKit

theorem minv_first6 {w : World} {B bk : Nat} (hB : B ≤ bk) (h : w.heap[bk]? = some (.cells #[.slice none 0 0, .slice none 0 0, .slice none 0 0, .slice none 0 0, .int .i64 6] 51 (0, 0))) :
    MInv B w bk (.slice none 0 0) (.slice none 0 0) 6 (.slice none 0 0) [] [] where
  book := ⟨h, ⟨rfl, Or.inl ⟨rfl, rfl⟩⟩, (fun i hi => absurd hi (Nat.not_lt_zero _)), (fun i hi => absurd hi (Nat.not_lt_zero _)), (fun i hi => absurd hi (Nat.not_lt_zero _)), rfl⟩
  blow := hB
  elow := fun j hj => by cases hj
  list := ⟨rfl, Or.inl ⟨rfl, rfl⟩⟩
  llow := fun j hj => by cases hj
  each := fun i hi => absurd hi (Nat.not_lt_zero _)
  low := fun i hi => absurd hi (Nat.not_lt_zero _)
  apart := fun i hi => absurd hi (Nat.not_lt_zero _)

/-- The world behind the first rows of 'UpTo'. -/
def laidA (w : World) : World :=
  ((w.alloc (.cells #[.slice none 0 0, .slice none 0 0, .slice none 0 0, .slice none 0 0, .int .i64 6] 51)).alloc
    (.cells #[.int .i64 1, .int .i64 3, .int .i64 0, .float .f32 1092616192, .float .f32 1148829696, .int .i64 0, .int .i64 2, .int .i64 3, .int .i64 0, .float .f32 1082130432, .float .f32 1073741824, .int .i64 0] 57)).alloc
    (.cells #[.int .i64 1, .int .i64 0, .int .i64 2, .slice none 0 0, .int .i64 2, .int .i64 0, .int .i64 0, .slice (some ⟨w.heap.size + 1, 0, none⟩) 2 2, .int .i64 2, .int .i64 0, .int .i64 0, .slice none 0 0, .int .i64 2, .int .i64 0, .int .i64 0, .slice none 0 0, .int .i64 3, .int .i64 0, .int .i64 (-1), .slice none 0 0, .int .i64 4, .int .i64 0, .int .i64 3, .slice none 0 0, .int .i64 5, .int .i64 0, .int .i64 (-1), .slice none 0 0] 54)
theorem laidA_kept (w : World) : Kept (fun _ => False) w (laidA w) := ((Kept.alloc _ _).calm2 (Kept.alloc _ _)).calm2 (Kept.alloc _ _)
theorem laidA_inv (w : World) : MInv w.heap.size (laidA w) w.heap.size (.slice none 0 0) (.slice none 0 0) 6 (.slice none 0 0) [] [] := by
  refine minv_first6 (Nat.le_refl _) ?_
  unfold laidA
  rw [((Kept.alloc _ _).calm2 (Kept.alloc _ _)).block w.heap.size (by simp) (fun e => e)]
  exact heap_alloc_new w _
theorem laidA_ops (w : World) : RO w.heap.size (laidA w) (some ⟨w.heap.size + 2, 0, none⟩) 7 (fun j o => j = 0 → o.k = 1 ∧ o.n = 2) := by
  refine first_ops (cb := w.heap.size + 1) ?_ ?_
  · unfold laidA
    rw [(Kept.alloc _ _).block (w.heap.size + 1) (by simp) (fun e => e)]
    have := heap_alloc_new (w.alloc (.cells #[.slice none 0 0, .slice none 0 0, .slice none 0 0, .slice none 0 0, .int .i64 6] 51)) (.cells #[.int .i64 1, .int .i64 3, .int .i64 0, .float .f32 1092616192, .float .f32 1148829696, .int .i64 0, .int .i64 2, .int .i64 3, .int .i64 0, .float .f32 1082130432, .float .f32 1073741824, .int .i64 0] 57)
    simpa using this
  · unfold laidA
    have h2 : ((w.alloc (.cells #[.slice none 0 0, .slice none 0 0, .slice none 0 0, .slice none 0 0, .int .i64 6] 51)).alloc (.cells #[.int .i64 1, .int .i64 3, .int .i64 0, .float .f32 1092616192, .float .f32 1148829696, .int .i64 0, .int .i64 2, .int .i64 3, .int .i64 0, .float .f32 1082130432, .float .f32 1073741824, .int .i64 0] 57)).heap.size = w.heap.size + 2 := by simp
    rw [← h2]
    exact heap_alloc_new _ _

theorem laidA_ainv (w : World) : AInv w.heap.size (laidA w) w.heap.size (.slice none 0 0) (.slice none 0 0) (.slice none 0 0) [] [] [] where
  m := laidA_inv w
  hist := fun i hi => absurd hi (Nat.not_lt_zero _)
  list := ⟨rfl, Or.inl ⟨rfl, rfl⟩⟩
  llow := fun j hj => by cases hj
  each := fun i hi => absurd hi (Nat.not_lt_zero _)
  low := fun i hi => absurd hi (Nat.not_lt_zero _)
  apart := fun i hi => absurd hi (Nat.not_lt_zero _)
  sbs := fun i hi => absurd hi (Nat.not_lt_zero _)
  dis := fun i hi => absurd hi (Nat.not_lt_zero _)
  pre := fun i hi => absurd hi (Nat.not_lt_zero _)

set_option maxHeartbeats 4000000 in
set_option maxRecDepth 100000 in
theorem uptoA_c (p : Option Addr) (n cap : Nat) (w : World) (hn : n ≤ 1048576) (hE : Errs w) (hR : RO w.heap.size w p n (fun _ _ => True)) :
    Calls Tryz.prog 7 #[.slice p n cap, .int .i64 6] w fun e w' => e = .returned (.int .i64 (-1)) ∧ Below w.heap.size w w' := by
  have HE := hide (hE.calm (laidA_kept w))
  have hT := hE.tabs
  have hMS := hide hE.mine_size
  have HR := hide (hR.calm (laidA_kept w))
  have HF := hide (laidA_ops w)
  have HI := hide (laidA_ainv w)
  have HK0 := hide (laidA_kept w)
  have hB2 := hT.pow_lt
  have hB4 : 6 < w.heap.size := World.block_lt_of_cell? w ⟨6, 15, none⟩ hT.four
  have hBs := (laidA_kept w).size
  have hnb : (n : Int) ≤ 9223372036854775807 := by omega
  clear hT hR hE
  go_enter Tryz.func7, Tryz.ntmps7
  go_wp2
  obtain ⟨ws, hws⟩ : ∃ ws, ws = laidA w := ⟨_, rfl⟩
  rw [← hws] at HE HR HF HI HK0 hBs
  unfold laidA at hws
  rw [← hws]
  clear hws
  generalize hBn : w.heap.size = B at *
  go_loopw [7] (fun a wr => ∃ (i : Nat) (mv sv ev : Value) (Q : List Els) (D : List MD) (X : List SD), a = .int .i64 i ∧ i ≤ 7 ∧ Hid (AInv B wr B mv sv ev Q D X) ∧ Hid (0 < i → 0 < D.length) ∧ D.length ≤ i ∧ X.length ≤ i ∧ Q.length ≤ 4 * i ∧ Hid (Kept (Far ws B) ws wr)) (fun a _ => 7 - (intOf a).toNat)
  case atStart => exact ⟨0, _, _, _, [], [], [], rfl, Nat.zero_le _, HI.out, (fun e => absurd e (Nat.not_lt_zero _) : _ → _), Nat.zero_le _, Nat.zero_le _, Nat.zero_le _, Kept.refl _ _⟩
  case round =>
    obtain ⟨i, mv, sv, ev, Q, D, X, rfl, hi, HM, HD0, hDl, hXl, hQl, HK⟩ := hrel
    have hBr : B ≤ wr.heap.size := Nat.le_trans hBs HK.out.size
    have HEr := hide (HE.out.far hMS.out (HK.out.mono (fun _ _ e => e.1)))
    by_cases hlt : i < 7
    · have hb2 : (i : Int) < 7 := by omega
      have hb1 : (0 : Int) ≤ (i : Int) := by omega
      obtain ⟨b, off, hp, hb, -, hj⟩ := (HF.out.keep HK.out) (by decide)
      obtain ⟨o, hP, ho, q0, q1, q2, q3⟩ := hj i hlt
      simp only [Option.some.injEq, Addr.mk.injEq, and_true] at hp
      obtain ⟨rfl, rfl⟩ := hp
      rw [Nat.zero_add] at q0 q1 q2 q3
      have hk2 : o.k = 2 ∨ o.k = 3 → 0 < D.length := fun e => by
        by_cases h0 : i = 0
        · have := (hP h0).1; omega
        · exact HD0.out (by omega)
      have HS := hide (stepA_c B B mv sv ev Q D X o wr HM.out hBr HEr.out hB4 hB2 (by omega) (by omega) hk2 (by omega) ho)
      have HP := hide hP
      clear hP ho hj hk2
      go_wp2_with fail
      refine HS.out.mono ?_
      rintro e w2 ⟨rfl, mv', sv', ev', Q', D', X', h1, h2, h3, hx3, h4, h5, k2⟩
      have HM2 := hide h1
      have H4 := hide h4
      have HK2 := hide (Far.join HK.out k2)
      clear h1 h4 k2 q0 q1 q2 q3 HS
      go_wp2
      go_roundw
      case rel => exact ⟨i + 1, mv', sv', ev', Q', D', X', by go_num, by omega, HM2.out, (fun _ => by
        by_cases h0 : i = 0
        · obtain ⟨e1, e2⟩ := HP.out h0
          exact H4.out ⟨e1, by omega, by omega⟩
        · have := HD0.out (by omega); omega : _ → _), by omega, by omega, by omega, HK2.out⟩
      case measure => simp [intOf]; omega
    · have hD0 := HD0.out (by omega)
      have hb2 : ¬ (i : Int) < 7 := by omega
      go_wp2
      have HMs := hide HM.out
      have HKs := hide HK.out
      have HD7 : D.length ≤ 7 := by omega
      have HX7 : X.length ≤ 7 := by omega
      have HQ7 : Q.length ≤ 28 := by omega
      clear HM HK HEr hBr hi HD0 hlt hDl hXl hQl HF HI hb2
      generalize i = i0 at *
      generalize wr = wr0 at *
      generalize u4 = v4 at *
      go_loopw [9] (fun a wr => ∃ (i : Nat) (mv sv ev : Value) (Q : List Els) (D : List MD) (X : List SD), a = .int .i64 i ∧ i ≤ n ∧ Hid (AInv B wr B mv sv ev Q D X) ∧ 0 < D.length ∧ D.length ≤ 7 + i ∧ X.length ≤ 7 + i ∧ Q.length ≤ 28 + 4 * i ∧ Hid (Kept (Far ws B) ws wr)) (fun a _ => n - (intOf a).toNat)
      case atStart => exact ⟨0, mv, sv, ev, Q, D, X, rfl, Nat.zero_le _, HMs.out, hD0, by omega, by omega, by omega, HKs.out⟩
      case round =>
        clear HMs HKs hD0 HD7 HX7 HQ7
        clear mv sv ev Q D X
        obtain ⟨i, mv, sv, ev, Q, D, X, rfl, hi, HM, hD0, hDl, hXl, hQl, HK⟩ := hrel
        have hBr : B ≤ wr.heap.size := Nat.le_trans hBs HK.out.size
        have HEr := hide (HE.out.far hMS.out (HK.out.mono (fun _ _ e => e.1)))
        by_cases hlt : i < n
        · have hb2 : (i : Int) < (n : Int) := by omega
          have hb1 : (0 : Int) ≤ (i : Int) := by omega
          obtain ⟨b, off, rfl, hb, -, hj⟩ := (HR.out.keep HK.out) (by omega)
          obtain ⟨o, -, ho, q0, q1, q2, q3⟩ := hj i hlt
          have HS := hide (stepA_c B B mv sv ev Q D X o wr HM.out hBr HEr.out hB4 hB2 (by omega) (by omega) (fun _ => hD0) (by omega) ho)
          clear ho hj
          go_wp2_with fail
          refine HS.out.mono ?_
          rintro e w2 ⟨rfl, mv', sv', ev', Q', D', X', h1, h2, h3, hx3, -, h5, k2⟩
          have HM2 := hide h1
          have HK2 := hide (Far.join HK.out k2)
          clear h1 k2 q0 q1 q2 q3 HS HK HM HEr
          go_wp2_with fail
          refine (wholeF B mv' sv' 6 ev' Q' w2 (by omega) HM2.out.m.book).mono ?_
          rintro e w3 ⟨rfl, k3⟩
          have HM3 := hide (HM2.out.calm k3)
          have HK3 := hide (Far.join HK2.out k3.far)
          clear k3 HM2 HK2
          go_wp2
          go_roundw
          case rel => exact ⟨i + 1, mv', sv', ev', Q', D', X', by go_num, by omega, HM3.out, by omega, by omega, by omega, by omega, HK3.out⟩
          case measure => simp [intOf]; omega
        · have hb2 : ¬ (i : Int) < (n : Int) := by omega
          go_wp2
          have HMs := hide HM.out
          have HKs := hide HK.out
          obtain ⟨ao, cp, rfl⟩ : ∃ ao cp, sv = .slice ao X.length cp := by
            rcases HM.out.list.2 with ⟨rfl, h0⟩ | ⟨g, cp, _, rfl, _⟩
            · exact ⟨none, 0, by rw [h0]⟩
            · exact ⟨_, _, rfl⟩
          have hXb : X.length ≤ 1100000 := by omega
          have hQb : Q.length ≤ 1000000000 := by omega
          clear HM HK HEr hBr hi hlt hDl hXl hQl hb2 hD0
          generalize wr = wx at *
          generalize u4 = v44 at *
          generalize i = i00 at *
          go_loopw [12] (fun a wr => ∃ (i : Nat), a = .int .i64 i ∧ i ≤ X.length ∧ Hid (AInv B wr B mv (.slice ao X.length cp) ev Q D X) ∧ Hid (Kept (Far ws B) ws wr)) (fun a _ => X.length - (intOf a).toNat)
          case atStart => exact ⟨0, rfl, Nat.zero_le _, HMs.out, HKs.out⟩
          case round =>
            clear HMs HKs
            obtain ⟨i, rfl, hi, HM, HK⟩ := hrel
            obtain ⟨c0, c1, c2, c3, c4, cf⟩ := five_cells HM.out.m.book.blk
            by_cases hlt : i < X.length
            · have hb1 : (0 : Int) ≤ (i : Int) := by omega
              have hb2 : (i : Int) < (X.length : Int) := by omega
              obtain ⟨g, hao⟩ : ∃ g, ao = some ⟨g, 0, none⟩ := by
                rcases HM.out.list.2 with ⟨_, h0⟩ | ⟨g, cp', _, e, _⟩
                · omega
                · injection e with e1
                  exact ⟨g, e1⟩
              subst hao
              have cg : wr.cell? ⟨g, i, none⟩ = some (ptrS X[i]) := by
                have h2 := HM.out.list.cells (g := g) rfl i (ptrS X[i]) (by simp [hlt])
                rwa [addr_add2, Nat.zero_add] at h2
              obtain ⟨pa, hpa⟩ : ∃ pa, ptrS X[i] = .pointer (some pa) := ⟨_, rfl⟩
              have HPL : Hid (Calls Tryz.prog 18 #[.pointer (some ⟨B, 0, none⟩), .pointer (some pa), .agg #[.int .i64 6, .int .i64 0, .int .i64 0, .slice none 0 0]] wr fun e w' => e = .returned (.bool true) ∧ Kept (fun _ => False) wr w') := by
                rw [← hpa]
                exact plays_told B B mv (.slice (some ⟨g, 0, none⟩) X.length cp) ev Q D X i hlt ⟨6, 0, 0, none, 0, []⟩ wr HM.out (by decide) (by decide)
              rw [hpa] at cg
              clear hpa
              go_wp2_with fail
              refine HPL.out.mono ?_
              rintro e w2 ⟨rfl, k2⟩
              have HM2 := hide (HM.out.calm k2)
              have HK2 := hide (Far.join HK.out k2.far)
              clear k2 HPL HM HK c0 c1 c2 c3 c4 cf cg
              go_wp2
              go_roundw
              case rel => exact ⟨i + 1, by go_num, by omega, HM2.out, HK2.out⟩
              case measure => simp [intOf]; omega
            · have hb2 : ¬ (i : Int) < (X.length : Int) := by omega
              go_wp2
              go_ret
              exact ⟨rfl, (HK0.out.join HK.out (R := fun j => B ≤ j) (fun _ _ e => e.elim) (fun _ _ e => e.1)).below _ (by omega) (fun j hj e => by omega)⟩

set_option maxHeartbeats 1000000 in
set_option maxRecDepth 100000 in
theorem all_walk (p : Option Addr) (n cap : Nat) (w : World) (hn : n ≤ 1048576) (hE : Errs w) (hR : RO w.heap.size w p n (fun _ _ => True)) :
    Calls Tryz.prog 4 #[.slice p n cap] w fun e w' => e = .returned (.bool true) ∧ Below w.heap.size w w' := by
  have HU := hide (uptoA_c p n cap w hn hE hR)
  clear hE hR
  go_enter Tryz.func4, Tryz.ntmps4
  go_wp2_with fail
  refine HU.out.mono ?_
  rintro e w1 ⟨rfl, hb⟩
  have HB := hide hb
  clear hb
  go_wp2
  go_ret
  exact ⟨rfl, HB.out⟩
end Go.Proofs.YtlfmfhmbkpnjbaaGreatDoor
