import Derived.Test.YtgclehnhjjkdbaaGreatDoorRecc
namespace Go.Proofs.YtgclehnhjjkdbaaGreatDoor
open Go.RowKit

/-- A script, where it lies. -/
def RO (B : Nat) (w : World) (p : Option Addr) (n : Nat) (P : Nat → OpD → Prop) : Prop :=
  0 < n → ∃ b off, p = some ⟨b, off, none⟩ ∧ b < w.heap.size ∧ (b < B ∨ typ w b 36) ∧ ∀ j, j < n → ∃ o : OpD, P j o ∧ o.Ok B w ∧
    w.cell? ⟨b, off + j * 4, none⟩ = some (.int .i64 o.k) ∧ w.cell? ⟨b, off + j * 4 + 1, none⟩ = some (.int .i64 o.a) ∧ w.cell? ⟨b, off + j * 4 + 2, none⟩ = some (.int .i64 o.n) ∧ w.cell? ⟨b, off + j * 4 + 3, none⟩ = some (.slice o.p o.cs.length o.cap)
theorem RO.keep {B : Nat} {w w' : World} {p : Option Addr} {n : Nat} {P : Nat → OpD → Prop} (h : RO B w p n P) (k : Kept (Far w B) w w') : RO B w' p n P := by
  intro h0
  obtain ⟨b, off, hp, hb, hl, hj⟩ := h h0
  have nf : ¬ Far w B b := fun f => by
    rcases hl with e | e
    · have := f.1; omega
    · exact f.2.1 e
  refine ⟨b, off, hp, Nat.lt_of_lt_of_le hb k.size, hl.imp id (fun t => typ_keep t k nf), fun j hjn => ?_⟩
  obtain ⟨o, q0, q1, q2, q3, q4, q5⟩ := hj j hjn
  exact ⟨o, q0, q1.keep k, by rw [cell_keep k hb nf]; exact q2, by rw [cell_keep k hb nf]; exact q3, by rw [cell_keep k hb nf]; exact q4, by rw [cell_keep k hb nf]; exact q5⟩
theorem RO.calm {B : Nat} {w w' : World} {p : Option Addr} {n : Nat} {P : Nat → OpD → Prop} (h : RO B w p n P) (k : Kept (fun _ => False) w w') : RO B w' p n P := h.keep k.far

def cmd1 : Cmd := ⟨1, 3, 0, 1092616192, 1148829696, 0⟩
def cmd2 : Cmd := ⟨2, 3, 0, 1082130432, 1073741824, 0⟩

theorem first_ops {w : World} {B cb ob : Nat}
    (hc : w.heap[cb]? = some (.cells #[.int .i64 1, .int .i64 3, .int .i64 0, .float .f32 1092616192, .float .f32 1148829696, .int .i64 0, .int .i64 2, .int .i64 3, .int .i64 0, .float .f32 1082130432, .float .f32 1073741824, .int .i64 0] 39 (0, 0)))
    (ho : w.heap[ob]? = some (.cells #[.int .i64 1, .int .i64 0, .int .i64 2, .slice none 0 0, .int .i64 2, .int .i64 0, .int .i64 0, .slice (some ⟨cb, 0, none⟩) 2 2, .int .i64 2, .int .i64 0, .int .i64 0, .slice none 0 0, .int .i64 2, .int .i64 0, .int .i64 0, .slice none 0 0, .int .i64 3, .int .i64 0, .int .i64 (-1), .slice none 0 0, .int .i64 4, .int .i64 0, .int .i64 3, .slice none 0 0, .int .i64 5, .int .i64 0, .int .i64 (-1), .slice none 0 0] 36 (0, 0))) :
    RO B w (some ⟨ob, 0, none⟩) 7 (fun j o => j = 0 → o.k = 1 ∧ o.n = 2) := by
  intro _
  have plain : ∀ k n : Int, OpD.Ok B w ⟨k, 0, n, none, 0, []⟩ := fun k n => ⟨fun e => absurd rfl e, fun e => absurd rfl e, (fun c hc => by cases hc), Nat.zero_le _, (by decide : (-9223372036854775808 : Int) ≤ 0), (by decide : (0 : Int) ≤ 9223372036854775807)⟩
  have two : OpD.Ok B w ⟨2, 0, 0, some ⟨cb, 0, none⟩, 2, [cmd1, cmd2]⟩ := by
    refine ⟨fun _ => ⟨cb, 0, rfl, heap_lt hc, fun j u hu => ?_⟩, fun _ b off e => Or.inr ?_, fun c hcm => ?_, (by decide : (2 : Nat) ≤ 1048576), (by decide : (-9223372036854775808 : Int) ≤ 0), (by decide : (0 : Int) ≤ 9223372036854775807)⟩
    · have hj : j < 12 := (List.getElem?_eq_some_iff.1 hu).1
      rw [Nat.zero_add, cell_block hc]
      rw [← hu]
      rcases j with _ | _ | _ | _ | _ | _ | _ | _ | _ | _ | _ | _ | j
      all_goals first | rfl | omega
    · have e' : some (⟨cb, 0, none⟩ : Addr) = some ⟨b, off, none⟩ := e
      simp only [Option.some.injEq, Addr.mk.injEq] at e'
      rw [← e'.1]; exact typ_blk hc
    · simp only [List.mem_cons, List.not_mem_nil, or_false] at hcm
      rcases hcm with rfl | rfl
      all_goals (constructor <;> decide)
  refine ⟨ob, 0, rfl, heap_lt ho, Or.inr (typ_blk ho), fun j hj => ?_⟩
  rcases j with _ | _ | _ | _ | _ | _ | _ | j
  · exact ⟨⟨1, 0, 2, none, 0, []⟩, fun _ => ⟨rfl, rfl⟩, plain _ _, by rw [cell_block ho]; rfl, by rw [cell_block ho]; rfl, by rw [cell_block ho]; rfl, by rw [cell_block ho]; rfl⟩
  · exact ⟨⟨2, 0, 0, some ⟨cb, 0, none⟩, 2, [cmd1, cmd2]⟩, fun e => by omega, two, by rw [cell_block ho]; rfl, by rw [cell_block ho]; rfl, by rw [cell_block ho]; rfl, by rw [cell_block ho]; rfl⟩
  · exact ⟨⟨2, 0, 0, none, 0, []⟩, fun e => by omega, plain _ _, by rw [cell_block ho]; rfl, by rw [cell_block ho]; rfl, by rw [cell_block ho]; rfl, by rw [cell_block ho]; rfl⟩
  · exact ⟨⟨2, 0, 0, none, 0, []⟩, fun e => by omega, plain _ _, by rw [cell_block ho]; rfl, by rw [cell_block ho]; rfl, by rw [cell_block ho]; rfl, by rw [cell_block ho]; rfl⟩
  · exact ⟨⟨3, 0, -1, none, 0, []⟩, fun e => by omega, plain _ _, by rw [cell_block ho]; rfl, by rw [cell_block ho]; rfl, by rw [cell_block ho]; rfl, by rw [cell_block ho]; rfl⟩
  · exact ⟨⟨4, 0, 3, none, 0, []⟩, fun e => by omega, plain _ _, by rw [cell_block ho]; rfl, by rw [cell_block ho]; rfl, by rw [cell_block ho]; rfl, by rw [cell_block ho]; rfl⟩
  · exact ⟨⟨5, 0, -1, none, 0, []⟩, fun e => by omega, plain _ _, by rw [cell_block ho]; rfl, by rw [cell_block ho]; rfl, by rw [cell_block ho]; rfl, by rw [cell_block ho]; rfl⟩
  · omega

theorem minv_first {w : World} {B bk : Nat} (hB : B ≤ bk) (h : w.heap[bk]? = some (.cells #[.slice none 0 0, .slice none 0 0, .slice none 0 0, .slice none 0 0, .int .i64 2] 33 (0, 0))) :
    MInv B w bk (.slice none 0 0) (.slice none 0 0) 2 (.slice none 0 0) [] [] where
  book := ⟨h, ⟨rfl, Or.inl ⟨rfl, rfl⟩⟩, (fun i hi => absurd hi (Nat.not_lt_zero _)), (fun i hi => absurd hi (Nat.not_lt_zero _)), (fun i hi => absurd hi (Nat.not_lt_zero _)), rfl⟩
  blow := hB
  elow := fun j hj => by cases hj
  list := ⟨rfl, Or.inl ⟨rfl, rfl⟩⟩
  llow := fun j hj => by cases hj
  each := fun i hi => absurd hi (Nat.not_lt_zero _)
  low := fun i hi => absurd hi (Nat.not_lt_zero _)
  apart := fun i hi => absurd hi (Nat.not_lt_zero _)

/-- The world behind the first rows of 'UpTo'. -/
def laidW (w : World) : World :=
  ((w.alloc (.cells #[.slice none 0 0, .slice none 0 0, .slice none 0 0, .slice none 0 0, .int .i64 2] 33)).alloc
    (.cells #[.int .i64 1, .int .i64 3, .int .i64 0, .float .f32 1092616192, .float .f32 1148829696, .int .i64 0, .int .i64 2, .int .i64 3, .int .i64 0, .float .f32 1082130432, .float .f32 1073741824, .int .i64 0] 39)).alloc
    (.cells #[.int .i64 1, .int .i64 0, .int .i64 2, .slice none 0 0, .int .i64 2, .int .i64 0, .int .i64 0, .slice (some ⟨w.heap.size + 1, 0, none⟩) 2 2, .int .i64 2, .int .i64 0, .int .i64 0, .slice none 0 0, .int .i64 2, .int .i64 0, .int .i64 0, .slice none 0 0, .int .i64 3, .int .i64 0, .int .i64 (-1), .slice none 0 0, .int .i64 4, .int .i64 0, .int .i64 3, .slice none 0 0, .int .i64 5, .int .i64 0, .int .i64 (-1), .slice none 0 0] 36)
theorem laidW_kept (w : World) : Kept (fun _ => False) w (laidW w) := ((Kept.alloc _ _).calm2 (Kept.alloc _ _)).calm2 (Kept.alloc _ _)
theorem laidW_inv (w : World) : MInv w.heap.size (laidW w) w.heap.size (.slice none 0 0) (.slice none 0 0) 2 (.slice none 0 0) [] [] := by
  refine minv_first (Nat.le_refl _) ?_
  unfold laidW
  rw [((Kept.alloc _ _).calm2 (Kept.alloc _ _)).block w.heap.size (by simp) (fun e => e)]
  exact heap_alloc_new w _
theorem laidW_ops (w : World) : RO w.heap.size (laidW w) (some ⟨w.heap.size + 2, 0, none⟩) 7 (fun j o => j = 0 → o.k = 1 ∧ o.n = 2) := by
  refine first_ops (cb := w.heap.size + 1) ?_ ?_
  · unfold laidW
    rw [(Kept.alloc _ _).block (w.heap.size + 1) (by simp) (fun e => e)]
    have := heap_alloc_new (w.alloc (.cells #[.slice none 0 0, .slice none 0 0, .slice none 0 0, .slice none 0 0, .int .i64 2] 33)) (.cells #[.int .i64 1, .int .i64 3, .int .i64 0, .float .f32 1092616192, .float .f32 1148829696, .int .i64 0, .int .i64 2, .int .i64 3, .int .i64 0, .float .f32 1082130432, .float .f32 1073741824, .int .i64 0] 39)
    simpa using this
  · unfold laidW
    have h2 : ((w.alloc (.cells #[.slice none 0 0, .slice none 0 0, .slice none 0 0, .slice none 0 0, .int .i64 2] 33)).alloc (.cells #[.int .i64 1, .int .i64 3, .int .i64 0, .float .f32 1092616192, .float .f32 1148829696, .int .i64 0, .int .i64 2, .int .i64 3, .int .i64 0, .float .f32 1082130432, .float .f32 1073741824, .int .i64 0] 39)).heap.size = w.heap.size + 2 := by simp
    rw [← h2]
    exact heap_alloc_new _ _

set_option maxHeartbeats 4000000 in
set_option maxRecDepth 100000 in
theorem upto_c (p : Option Addr) (n cap : Nat) (w : World) (hn : n ≤ 1048576) (hT : Tabs w) (hR : RO w.heap.size w p n (fun _ _ => True)) :
    Calls Tryz.prog 4 #[.slice p n cap, .int .i64 2] w fun e w' => e = .returned (.int .i64 (-1)) ∧ Below w.heap.size w w' := by
  have HT := hide (hT.calm (laidW_kept w))
  have HR := hide (hR.calm (laidW_kept w))
  have HF := hide (laidW_ops w)
  have HI := hide (laidW_inv w)
  have HK0 := hide (laidW_kept w)
  have hB2 := hT.pow_lt
  have hB4 : 4 < w.heap.size := World.block_lt_of_cell? w ⟨4, 15, none⟩ hT.four
  have hBs := (laidW_kept w).size
  have nf4 : Hid (∀ w', ¬ Far w' w.heap.size 4) := fun w' f => by have := f.1; omega
  have nf2 : Hid (∀ w', ¬ Far w' w.heap.size 2) := fun w' f => by have := f.1; omega
  have hnb : (n : Int) ≤ 9223372036854775807 := by omega
  clear hT hR
  go_enter Tryz.func4, Tryz.ntmps4
  go_wp2
  obtain ⟨ws, hws⟩ : ∃ ws, ws = laidW w := ⟨_, rfl⟩
  rw [← hws] at HT HR HF HI HK0 hBs
  unfold laidW at hws
  rw [← hws]
  clear hws
  generalize hBn : w.heap.size = B at *
  go_loopw [7] (fun a wr => ∃ (i : Nat) (mv ev : Value) (Q : List Els) (D : List MD), a = .int .i64 i ∧ i ≤ 7 ∧ Hid (MInv B wr B mv (.slice none 0 0) 2 ev Q D) ∧ Hid (0 < i → 0 < D.length) ∧ D.length ≤ i ∧ Q.length ≤ 4 * i ∧ Hid (Kept (Far ws B) ws wr)) (fun a _ => 7 - (intOf a).toNat)
  case atStart => exact ⟨0, _, _, [], [], rfl, Nat.zero_le _, HI.out, (fun e => absurd e (Nat.not_lt_zero _) : _ → _), Nat.zero_le _, Nat.zero_le _, Kept.refl _ _⟩
  case round =>
    obtain ⟨i, mv, ev, Q, D, rfl, hi, HM, HD0, hDl, hQl, HK⟩ := hrel
    have hBr : B ≤ wr.heap.size := Nat.le_trans hBs HK.out.size
    have HTr := hide (HT.out.keep HK.out (nf4.out _) (nf2.out _))
    by_cases hlt : i < 7
    · have hb2 : (i : Int) < 7 := by omega
      have hb1 : (0 : Int) ≤ (i : Int) := by omega
      obtain ⟨b, off, hp, hb, -, hj⟩ := (HF.out.keep HK.out) (by decide)
      obtain ⟨o, hP, ho, q0, q1, q2, q3⟩ := hj i hlt
      simp only [Option.some.injEq, Addr.mk.injEq, and_true] at hp
      obtain ⟨rfl, rfl⟩ := hp
      rw [Nat.zero_add] at q0 q1 q2 q3
      have hk2 : o.k = 2 → 0 < D.length := fun e => by
        by_cases h0 : i = 0
        · have := (hP h0).1; omega
        · exact HD0.out (by omega)
      have HS := hide (step_c B B mv (.slice none 0 0) ev Q D o wr HM.out hBr HTr.out hB4 hB2 (by omega) hk2 (by omega) ho)
      have HP := hide hP
      clear hP ho hj hk2
      go_wp2_with fail
      refine HS.out.mono ?_
      rintro e w2 ⟨rfl, mv', ev', Q', D', h1, h2, h3, h4, h5, k2⟩
      have HM2 := hide h1
      have H4 := hide h4
      have HK2 := hide (Far.join HK.out k2)
      clear h1 h4 k2 q0 q1 q2 q3 HS
      go_wp2
      go_roundw
      case rel => exact ⟨i + 1, mv', ev', Q', D', by go_num, by omega, HM2.out, (fun _ => by
        by_cases h0 : i = 0
        · obtain ⟨e1, e2⟩ := HP.out h0
          exact H4.out ⟨e1, by omega, by omega⟩
        · have := HD0.out (by omega); omega : _ → _), by omega, by omega, HK2.out⟩
      case measure => simp [intOf]; omega
    · have hD0 := HD0.out (by omega)
      have hb2 : ¬ (i : Int) < 7 := by omega
      go_wp2
      have HMs := hide HM.out
      have HKs := hide HK.out
      have HD7 : D.length ≤ 7 := by omega
      have HQ7 : Q.length ≤ 28 := by omega
      clear HM HK HTr hBr hi HD0 hlt hDl hQl HF HI hb2
      generalize i = i0 at *
      generalize wr = wr0 at *
      generalize u4 = v4 at *
      go_loopw [9] (fun a wr => ∃ (i : Nat) (mv ev : Value) (Q : List Els) (D : List MD), a = .int .i64 i ∧ i ≤ n ∧ Hid (MInv B wr B mv (.slice none 0 0) 2 ev Q D) ∧ 0 < D.length ∧ D.length ≤ 7 + i ∧ Q.length ≤ 28 + 4 * i ∧ Hid (Kept (Far ws B) ws wr)) (fun a _ => n - (intOf a).toNat)
      case atStart => exact ⟨0, mv, ev, Q, D, rfl, Nat.zero_le _, HMs.out, hD0, by omega, by omega, HKs.out⟩
      case round =>
        clear HMs HKs hD0 HD7 HQ7
        clear mv ev Q D
        obtain ⟨i, mv, ev, Q, D, rfl, hi, HM, hD0, hDl, hQl, HK⟩ := hrel
        have hBr : B ≤ wr.heap.size := Nat.le_trans hBs HK.out.size
        have HTr := hide (HT.out.keep HK.out (nf4.out _) (nf2.out _))
        by_cases hlt : i < n
        · have hb2 : (i : Int) < (n : Int) := by omega
          have hb1 : (0 : Int) ≤ (i : Int) := by omega
          obtain ⟨b, off, rfl, hb, -, hj⟩ := (HR.out.keep HK.out) (by omega)
          obtain ⟨o, -, ho, q0, q1, q2, q3⟩ := hj i hlt
          have HS := hide (step_c B B mv (.slice none 0 0) ev Q D o wr HM.out hBr HTr.out hB4 hB2 (by omega) (fun _ => hD0) (by omega) ho)
          clear ho hj
          go_wp2_with fail
          refine HS.out.mono ?_
          rintro e w2 ⟨rfl, mv', ev', Q', D', h1, h2, h3, -, h5, k2⟩
          have HM2 := hide h1
          have HK2 := hide (Far.join HK.out k2)
          clear h1 k2 q0 q1 q2 q3 HS HK HM HTr
          go_wp2_with fail
          refine (wholeF B mv' (.slice none 0 0) 2 ev' Q' w2 (by omega) HM2.out.book).mono ?_
          rintro e w3 ⟨rfl, k3⟩
          have HM3 := hide (HM2.out.calm k3)
          have HK3 := hide (Far.join HK2.out k3.far)
          clear k3 HM2 HK2
          go_wp2
          go_roundw
          case rel => exact ⟨i + 1, mv', ev', Q', D', by go_num, by omega, HM3.out, by omega, by omega, by omega, HK3.out⟩
          case measure => simp [intOf]; omega
        · have hb2 : ¬ (i : Int) < (n : Int) := by omega
          go_wp2
          obtain ⟨c0, c1, c2, c3, c4, cf⟩ := five_cells HM.out.book.blk
          generalize hwx : wr = wx at *
          clear hwx
          go_loopw [12] (fun a wr => a = .int .i64 0 ∧ wr = wx) (fun a _ => 0)
          case atStart => exact ⟨rfl, rfl⟩
          case round =>
            obtain ⟨rfl, rfl⟩ := hrel
            go_wp2
            go_ret
            exact ⟨rfl, (HK0.out.join HK.out (R := fun j => B ≤ j) (fun _ _ e => e.elim) (fun _ _ e => e.1)).below _ (by omega) (fun j hj e => by omega)⟩

set_option maxHeartbeats 1000000 in
set_option maxRecDepth 100000 in
theorem records_walk (p : Option Addr) (n cap : Nat) (w : World) (hn : n ≤ 1048576) (hT : Tabs w) (hR : RO w.heap.size w p n (fun _ _ => True)) :
    Calls Tryz.prog 3 #[.slice p n cap] w fun e w' => e = .returned (.bool true) ∧ Below w.heap.size w w' := by
  have HU := hide (upto_c p n cap w hn hT hR)
  clear hT hR
  go_enter Tryz.func3, Tryz.ntmps3
  go_wp2_with fail
  refine HU.out.mono ?_
  rintro e w1 ⟨rfl, hb⟩
  have HB := hide hb
  clear hb
  go_wp2
  go_ret
  exact ⟨rfl, HB.out⟩
end Go.Proofs.YtgclehnhjjkdbaaGreatDoor
