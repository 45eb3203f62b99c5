import Derived.Test.YtaheegdfcddlpaaBase
import Derived.Test.YtaheegdfcddlpaaRows
import Derived.WalkLawsBesides
namespace Go.Proofs.Ytaheegdfcddlpaa
open Go.RowKit

/-- The digits of a number, the least first: as many as there is fuel for. -/
def digs : Nat → Nat → List UInt8
  | 0, _ => []
  | f + 1, m => if m = 0 then [] else (65 + UInt8.ofNat (m % 16)) :: digs f (m / 16)

def textL (n : Int) : List UInt8 := if n < 0 then 109 :: digs 16 (-(n + 1)).toNat else 107 :: digs 16 n.toNat
def textOf (n : Int) : ByteArray := ⟨(textL n).toArray⟩

theorem byte_conv (wr : World) (m : Nat) :
    (convert 96 9 (.slice (some ⟨wr.heap.size, 0, none⟩) 1 1)).run Try.prog (wr.alloc (.cells #[.int .u8 (65 + (m : Int) % 16)] 5)) =
      .ok (.string ⟨[UInt8.ofNat (65 + m % 16)].toArray⟩) (wr.alloc (.cells #[.int .u8 (65 + (m : Int) % 16)] 5)) := by
  refine run_convert_bytes_back (P := Try.prog) _ 96 9 5 ⟨wr.heap.size, 0, none⟩ 1 [UInt8.ofNat (65 + m % 16)] Try.underlying96 Try.underlying5 Try.underlying9 ?_
  intro j hj
  match j, hj with
  | 0, _ =>
    rw [addr_add, cell_block (heap_alloc_new wr _)]
    have h : m % 16 < 16 := Nat.mod_lt _ (by decide)
    have e : (UInt8.ofNat (65 + m % 16)).toNat = 65 + m % 16 := by
      rw [UInt8.toNat_ofNat']; omega
    simp only [List.getElem_cons_zero, e]
    congr 2

theorem bytes_snoc (p : List UInt8) (x : UInt8) : ((⟨p.toArray⟩ : ByteArray) ++ (⟨#[x]⟩ : ByteArray)) = ⟨(p ++ [x]).toArray⟩ := by
  apply ByteArray.ext
  simp

theorem digs_zero (f : Nat) : digs f 0 = [] := by cases f <;> simp [digs]
theorem digs_succ (f m : Nat) (h : ¬ m = 0) : digs (f + 1) m = (65 + UInt8.ofNat (m % 16)) :: digs f (m / 16) := by simp [digs, h]

/-- What a round of 'text' hands on. -/
def TextInv (n : Int) (f m : Nat) (p : List UInt8) : Prop := p.length + f ≤ 17 ∧ m < 16 ^ f ∧ p ++ digs f m = textL n

theorem TextInv.step {n : Int} {f m : Nat} {p : List UInt8} (h : TextInv n f m p) (h0 : ¬ m = 0) : ∃ f', TextInv n f' (m / 16) (p ++ [65 + UInt8.ofNat (m % 16)]) := by
  obtain ⟨h1, h2, h3⟩ := h
  cases f with
  | zero => simp at h2; omega
  | succ f =>
    refine ⟨f, by simp; omega, ?_, ?_⟩
    · apply Nat.div_lt_of_lt_mul
      rw [Nat.mul_comm, ← Nat.pow_succ]; exact h2
    · rw [← h3, digs_succ f m h0]; simp

theorem TextInv.done {n : Int} {f : Nat} {p : List UInt8} (h : TextInv n f 0 p) : (⟨p.toArray⟩ : ByteArray) = textOf n := by
  have := h.2.2
  rw [digs_zero, List.append_nil] at this
  rw [this]; rfl

theorem pow_big : 9223372036854775808 ≤ 16 ^ 16 := by decide

theorem TextInv.neg (n : Int) (h1 : -9223372036854775808 ≤ n) (h2 : n < 0) : TextInv n 16 (-(n + 1)).toNat [109] := by
  refine ⟨by simp, ?_, ?_⟩
  · have := pow_big; omega
  · simp [textL, h2]
theorem TextInv.pos (n : Int) (h1 : n ≤ 9223372036854775807) (h2 : ¬ n < 0) : TextInv n 16 n.toNat [107] := by
  refine ⟨by simp, ?_, ?_⟩
  · have := pow_big; omega
  · simp [textL, h2]

set_option maxHeartbeats 400000 in
set_option maxRecDepth 100000 in
theorem text_neg (n : Int) (w : World) (h1 : -9223372036854775808 ≤ n) (h2 : n < 0) :
    Calls Try.prog 18 #[.int .i64 n] w fun e w' => e = .returned (.string (textOf n)) ∧ Kept (fun _ => False) w w' := by
  have HT := hide (TextInv.neg n h1 h2)
  go_enter Try.func18, Try.ntmps18
  go_wp2
  go_loopw [0, 3] (fun a s wr => ∃ m : Nat, ∃ p : List UInt8, m < 9223372036854775808 ∧ a = .int .i64 m ∧ s = .string ⟨p.toArray⟩ ∧ Hid ((∃ f, TextInv n f m p) ∧ Kept (fun _ => False) w wr)) (fun a _ _ => (intOf a).toNat)
  case atStart => exact ⟨(-(n + 1)).toNat, _, by omega, by go_num, rfl, ⟨_, HT⟩, Kept.refl _ _⟩
  case round =>
    obtain ⟨m, p, hm2, rfl, rfl, HP⟩ := hrel
    clear HT
    by_cases h0 : m = 0
    · subst h0
      go_wp2
      go_ret
      obtain ⟨⟨f, q⟩, hk⟩ := HP.out
      refine ⟨ret1 ?_, hk⟩
      rw [← q.done]
      rfl
    · have hpos : (0 : Int) < (m : Int) := by omega
      have hcv := byte_conv wr m
      have hpl : p.length ≤ 17 := by obtain ⟨⟨f, q⟩, _⟩ := HP.out; have := q.1; omega
      have HS : Hid ((∃ f, TextInv n f (m / 16) (p ++ [65 + UInt8.ofNat (m % 16)])) ∧ Kept (fun _ => False) w (wr.alloc (.cells #[.int .u8 (65 + (m : Int) % 16)] 5))) := by
        obtain ⟨⟨f, q⟩, hk⟩ := HP.out
        exact ⟨q.step h0, hk.join (Kept.alloc _ _) (fun _ _ e => e) (fun _ _ e => e)⟩
      clear HP
      go_wp2
      go_roundw
      case rel => exact ⟨m / 16, _, by omega, by go_num, by rw [bytes_snoc], HS⟩
      case measure => simp [intOf]; omega

set_option maxHeartbeats 400000 in
set_option maxRecDepth 100000 in
theorem text_pos (n : Int) (w : World) (h1 : n ≤ 9223372036854775807) (h2 : ¬ n < 0) :
    Calls Try.prog 18 #[.int .i64 n] w fun e w' => e = .returned (.string (textOf n)) ∧ Kept (fun _ => False) w w' := by
  have HT := hide (TextInv.pos n h1 h2)
  go_enter Try.func18, Try.ntmps18
  go_wp2
  go_loopw [0, 3] (fun a s wr => ∃ m : Nat, ∃ p : List UInt8, m < 9223372036854775808 ∧ a = .int .i64 m ∧ s = .string ⟨p.toArray⟩ ∧ Hid ((∃ f, TextInv n f m p) ∧ Kept (fun _ => False) w wr)) (fun a _ _ => (intOf a).toNat)
  case atStart => exact ⟨n.toNat, _, by omega, by go_num, rfl, ⟨_, HT⟩, Kept.refl _ _⟩
  case round =>
    obtain ⟨m, p, hm2, rfl, rfl, HP⟩ := hrel
    clear HT
    by_cases h0 : m = 0
    · subst h0
      go_wp2
      go_ret
      obtain ⟨⟨f, q⟩, hk⟩ := HP.out
      refine ⟨ret1 ?_, hk⟩
      rw [← q.done]
      rfl
    · have hpos : (0 : Int) < (m : Int) := by omega
      have hcv := byte_conv wr m
      have hpl : p.length ≤ 17 := by obtain ⟨⟨f, q⟩, _⟩ := HP.out; have := q.1; omega
      have HS : Hid ((∃ f, TextInv n f (m / 16) (p ++ [65 + UInt8.ofNat (m % 16)])) ∧ Kept (fun _ => False) w (wr.alloc (.cells #[.int .u8 (65 + (m : Int) % 16)] 5))) := by
        obtain ⟨⟨f, q⟩, hk⟩ := HP.out
        exact ⟨q.step h0, hk.join (Kept.alloc _ _) (fun _ _ e => e) (fun _ _ e => e)⟩
      clear HP
      go_wp2
      go_roundw
      case rel => exact ⟨m / 16, _, by omega, by go_num, by rw [bytes_snoc], HS⟩
      case measure => simp [intOf]; omega

theorem text_any (n : Int) (w : World) (h1 : -9223372036854775808 ≤ n) (h2 : n ≤ 9223372036854775807) :
    Calls Try.prog 18 #[.int .i64 n] w fun e w' => e = .returned (.string (textOf n)) ∧ Kept (fun _ => False) w w' := by
  by_cases h : n < 0
  · exact text_neg n w h1 h
  · exact text_pos n w h2 h

theorem digs_inj (f : Nat) : ∀ a b : Nat, a < 16 ^ f → b < 16 ^ f → digs f a = digs f b → a = b := by
  induction f with
  | zero => intro a b ha hb _; simp at ha hb; omega
  | succ f ih =>
    intro a b ha hb h
    by_cases h0 : a = 0
    · subst h0
      by_cases h1 : b = 0
      · exact h1.symm
      · rw [digs_zero, digs_succ f b h1] at h; cases h
    · by_cases h1 : b = 0
      · subst h1; rw [digs_zero, digs_succ f a h0] at h; cases h
      · rw [digs_succ f a h0, digs_succ f b h1] at h
        simp only [List.cons.injEq] at h
        have e1 := ih (a / 16) (b / 16) (Nat.div_lt_of_lt_mul (by rw [Nat.mul_comm, ← Nat.pow_succ]; exact ha)) (Nat.div_lt_of_lt_mul (by rw [Nat.mul_comm, ← Nat.pow_succ]; exact hb)) h.2
        have e2 : a % 16 = b % 16 := by
          have h3 := congrArg UInt8.toNat h.1
          simp only [UInt8.toNat_add, UInt8.toNat_ofNat'] at h3
          have : (65 : UInt8).toNat = 65 := rfl
          omega
        omega

theorem textOf_inj (a b : Int) (ha1 : -9223372036854775808 ≤ a) (ha2 : a ≤ 9223372036854775807) (hb1 : -9223372036854775808 ≤ b) (hb2 : b ≤ 9223372036854775807) (h : textOf a = textOf b) : a = b := by
  have h' : textL a = textL b := by
    have := congrArg (fun x : ByteArray => x.data.toList) h
    simpa [textOf] using this
  have hp := pow_big
  unfold textL at h'
  by_cases h1 : a < 0 <;> by_cases h2 : b < 0
  · simp only [h1, h2, if_true, List.cons.injEq, true_and] at h'
    have := digs_inj 16 _ _ (by omega) (by omega) h'
    omega
  · simp only [h1, h2, if_true, if_false, List.cons.injEq] at h'
    exact absurd h'.1 (by decide)
  · simp only [h1, h2, if_true, if_false, List.cons.injEq] at h'
    exact absurd h'.1 (by decide)
  · simp only [h1, h2, if_false, List.cons.injEq, true_and] at h'
    have := digs_inj 16 _ _ (by omega) (by omega) h'
    omega
end Go.Proofs.Ytaheegdfcddlpaa
