import Derived.Test.YtlfmfhmbkpnjbaaCa1
import Derived.Test.YtlfmfhmbkpnjbaaRows
import Derived.WalkLawsBesides
import Derived.Test.YtlfmfhmbkpnjbaaCa2
import Derived.Test.YtlfmfhmbkpnjbaaCa3
namespace Go.Proofs.Ytlfmfhmbkpnjbaa
open Go.RowKit

/-- The digits of a number, the least first: as many as there is fuel for. -/
def digs : Nat → Nat → List UInt8
  | 0, _ => []
  | f + 1, m => if m = 0 then [] else (65 + UInt8.ofNat (m % 16)) :: digs f (m / 16)

def textL (n : Int) : List UInt8 := if n < 0 then 109 :: digs 16 (-(n + 1)).toNat else 107 :: digs 16 n.toNat
def textOf (n : Int) : ByteArray := ⟨(textL n).toArray⟩

theorem byte_conv (wr : World) (m : Nat) :
    (convert 139 9 (.slice (some ⟨wr.heap.size, 0, none⟩) 1 1)).run Try.prog (wr.alloc (.cells #[.int .u8 (65 + (m : Int) % 16)] 5)) =
      .ok (.string ⟨[UInt8.ofNat (65 + m % 16)].toArray⟩) (wr.alloc (.cells #[.int .u8 (65 + (m : Int) % 16)] 5)) := by
  refine run_convert_bytes_back (P := Try.prog) _ 139 9 5 ⟨wr.heap.size, 0, none⟩ 1 [UInt8.ofNat (65 + m % 16)] Try.underlying139 Try.underlying5 Try.underlying9 ?_
  intro j hj
  match j, hj with
  | 0, _ =>
    rw [addr_add, cell_block (heap_alloc_new wr _)]
    have h : m % 16 < 16 := Nat.mod_lt _ (by decide)
    have e : (UInt8.ofNat (65 + m % 16)).toNat = 65 + m % 16 := by
      rw [UInt8.toNat_ofNat']; omega
    simp only [List.getElem_cons_zero, e]
    congr 2

theorem bytes_snoc (p : List UInt8) (x : UInt8) : ((⟨p.toArray⟩ : ByteArray) ++ (⟨#[x]⟩ : ByteArray)) = ⟨(p ++ [x]).toArray⟩ := by
  apply ByteArray.ext
  simp

theorem digs_zero (f : Nat) : digs f 0 = [] := by cases f <;> simp [digs]
theorem digs_succ (f m : Nat) (h : ¬ m = 0) : digs (f + 1) m = (65 + UInt8.ofNat (m % 16)) :: digs f (m / 16) := by simp [digs, h]

/-- What a round of 'text' hands on. -/
def TextInv (n : Int) (f m : Nat) (p : List UInt8) : Prop := p.length + f ≤ 17 ∧ m < 16 ^ f ∧ p ++ digs f m = textL n

theorem TextInv.step {n : Int} {f m : Nat} {p : List UInt8} (h : TextInv n f m p) (h0 : ¬ m = 0) : ∃ f', TextInv n f' (m / 16) (p ++ [65 + UInt8.ofNat (m % 16)]) := by
  obtain ⟨h1, h2, h3⟩ := h
  cases f with
  | zero => simp at h2; omega
  | succ f =>
    refine ⟨f, by simp; omega, ?_, ?_⟩
    · apply Nat.div_lt_of_lt_mul
      rw [Nat.mul_comm, ← Nat.pow_succ]; exact h2
    · rw [← h3, digs_succ f m h0]; simp

theorem TextInv.done {n : Int} {f : Nat} {p : List UInt8} (h : TextInv n f 0 p) : (⟨p.toArray⟩ : ByteArray) = textOf n := by
  have := h.2.2
  rw [digs_zero, List.append_nil] at this
  rw [this]; rfl

theorem pow_big : 9223372036854775808 ≤ 16 ^ 16 := by decide

theorem TextInv.neg (n : Int) (h1 : -9223372036854775808 ≤ n) (h2 : n < 0) : TextInv n 16 (-(n + 1)).toNat [109] := by
  refine ⟨by simp, ?_, ?_⟩
  · have := pow_big; omega
  · simp [textL, h2]
theorem TextInv.pos (n : Int) (h1 : n ≤ 9223372036854775807) (h2 : ¬ n < 0) : TextInv n 16 n.toNat [107] := by
  refine ⟨by simp, ?_, ?_⟩
  · have := pow_big; omega
  · simp [textL, h2]

set_option maxHeartbeats 400000 in
set_option maxRecDepth 100000 in
theorem text_neg (n : Int) (w : World) (h1 : -9223372036854775808 ≤ n) (h2 : n < 0) :
    Calls Try.prog 37 #[.int .i64 n] w fun e w' => e = .returned (.string (textOf n)) ∧ Kept (fun _ => False) w w' := by
  have HT := hide (TextInv.neg n h1 h2)
  go_enter Try.func37, Try.ntmps37
  go_wp2
  go_loopw [0, 3] (fun a s wr => ∃ m : Nat, ∃ p : List UInt8, m < 9223372036854775808 ∧ a = .int .i64 m ∧ s = .string ⟨p.toArray⟩ ∧ Hid ((∃ f, TextInv n f m p) ∧ Kept (fun _ => False) w wr)) (fun a _ _ => (intOf a).toNat)
  case atStart => exact ⟨(-(n + 1)).toNat, _, by omega, by go_num, rfl, ⟨_, HT⟩, Kept.refl _ _⟩
  case round =>
    obtain ⟨m, p, hm2, rfl, rfl, HP⟩ := hrel
    clear HT
    by_cases h0 : m = 0
    · subst h0
      go_wp2
      go_ret
      obtain ⟨⟨f, q⟩, hk⟩ := HP.out
      refine ⟨ret1 ?_, hk⟩
      rw [← q.done]
      rfl
    · have hpos : (0 : Int) < (m : Int) := by omega
      have hcv := byte_conv wr m
      have hpl : p.length ≤ 17 := by obtain ⟨⟨f, q⟩, _⟩ := HP.out; have := q.1; omega
      have HS : Hid ((∃ f, TextInv n f (m / 16) (p ++ [65 + UInt8.ofNat (m % 16)])) ∧ Kept (fun _ => False) w (wr.alloc (.cells #[.int .u8 (65 + (m : Int) % 16)] 5))) := by
        obtain ⟨⟨f, q⟩, hk⟩ := HP.out
        exact ⟨q.step h0, hk.join (Kept.alloc _ _) (fun _ _ e => e) (fun _ _ e => e)⟩
      clear HP
      go_wp2
      go_roundw
      case rel => exact ⟨m / 16, _, by omega, by go_num, by rw [bytes_snoc], HS⟩
      case measure => simp [intOf]; omega

set_option maxHeartbeats 400000 in
set_option maxRecDepth 100000 in
theorem text_pos (n : Int) (w : World) (h1 : n ≤ 9223372036854775807) (h2 : ¬ n < 0) :
    Calls Try.prog 37 #[.int .i64 n] w fun e w' => e = .returned (.string (textOf n)) ∧ Kept (fun _ => False) w w' := by
  have HT := hide (TextInv.pos n h1 h2)
  go_enter Try.func37, Try.ntmps37
  go_wp2
  go_loopw [0, 3] (fun a s wr => ∃ m : Nat, ∃ p : List UInt8, m < 9223372036854775808 ∧ a = .int .i64 m ∧ s = .string ⟨p.toArray⟩ ∧ Hid ((∃ f, TextInv n f m p) ∧ Kept (fun _ => False) w wr)) (fun a _ _ => (intOf a).toNat)
  case atStart => exact ⟨n.toNat, _, by omega, by go_num, rfl, ⟨_, HT⟩, Kept.refl _ _⟩
  case round =>
    obtain ⟨m, p, hm2, rfl, rfl, HP⟩ := hrel
    clear HT
    by_cases h0 : m = 0
    · subst h0
      go_wp2
      go_ret
      obtain ⟨⟨f, q⟩, hk⟩ := HP.out
      refine ⟨ret1 ?_, hk⟩
      rw [← q.done]
      rfl
    · have hpos : (0 : Int) < (m : Int) := by omega
      have hcv := byte_conv wr m
      have hpl : p.length ≤ 17 := by obtain ⟨⟨f, q⟩, _⟩ := HP.out; have := q.1; omega
      have HS : Hid ((∃ f, TextInv n f (m / 16) (p ++ [65 + UInt8.ofNat (m % 16)])) ∧ Kept (fun _ => False) w (wr.alloc (.cells #[.int .u8 (65 + (m : Int) % 16)] 5))) := by
        obtain ⟨⟨f, q⟩, hk⟩ := HP.out
        exact ⟨q.step h0, hk.join (Kept.alloc _ _) (fun _ _ e => e) (fun _ _ e => e)⟩
      clear HP
      go_wp2
      go_roundw
      case rel => exact ⟨m / 16, _, by omega, by go_num, by rw [bytes_snoc], HS⟩
      case measure => simp [intOf]; omega

theorem text_any (n : Int) (w : World) (h1 : -9223372036854775808 ≤ n) (h2 : n ≤ 9223372036854775807) :
    Calls Try.prog 37 #[.int .i64 n] w fun e w' => e = .returned (.string (textOf n)) ∧ Kept (fun _ => False) w w' := by
  by_cases h : n < 0
  · exact text_neg n w h1 h
  · exact text_pos n w h2 h

theorem digs_inj (f : Nat) : ∀ a b : Nat, a < 16 ^ f → b < 16 ^ f → digs f a = digs f b → a = b := by
  induction f with
  | zero => intro a b ha hb _; simp at ha hb; omega
  | succ f ih =>
    intro a b ha hb h
    by_cases h0 : a = 0
    · subst h0
      by_cases h1 : b = 0
      · exact h1.symm
      · rw [digs_zero, digs_succ f b h1] at h; cases h
    · by_cases h1 : b = 0
      · subst h1; rw [digs_zero, digs_succ f a h0] at h; cases h
      · rw [digs_succ f a h0, digs_succ f b h1] at h
        simp only [List.cons.injEq] at h
        have e1 := ih (a / 16) (b / 16) (Nat.div_lt_of_lt_mul (by rw [Nat.mul_comm, ← Nat.pow_succ]; exact ha)) (Nat.div_lt_of_lt_mul (by rw [Nat.mul_comm, ← Nat.pow_succ]; exact hb)) h.2
        have e2 : a % 16 = b % 16 := by
          have h3 := congrArg UInt8.toNat h.1
          simp only [UInt8.toNat_add, UInt8.toNat_ofNat'] at h3
          have : (65 : UInt8).toNat = 65 := rfl
          omega
        omega

theorem textOf_inj (a b : Int) (ha1 : -9223372036854775808 ≤ a) (ha2 : a ≤ 9223372036854775807) (hb1 : -9223372036854775808 ≤ b) (hb2 : b ≤ 9223372036854775807) (h : textOf a = textOf b) : a = b := by
  have h' : textL a = textL b := by
    have := congrArg (fun x : ByteArray => x.data.toList) h
    simpa [textOf] using this
  have hp := pow_big
  unfold textL at h'
  by_cases h1 : a < 0 <;> by_cases h2 : b < 0
  · simp only [h1, h2, if_true, List.cons.injEq, true_and] at h'
    have := digs_inj 16 _ _ (by omega) (by omega) h'
    omega
  · simp only [h1, h2, if_true, if_false, List.cons.injEq] at h'
    exact absurd h'.1 (by decide)
  · simp only [h1, h2, if_true, if_false, List.cons.injEq] at h'
    exact absurd h'.1 (by decide)
  · simp only [h1, h2, if_false, List.cons.injEq, true_and] at h'
    have := digs_inj 16 _ _ (by omega) (by omega) h'
    omega
end Go.Proofs.Ytlfmfhmbkpnjbaa

namespace Go.Proofs.Ytlfmfhmbkpnjbaa

def In64 (n : Int) : Prop := -9223372036854775808 ≤ n ∧ n ≤ 9223372036854775807
/-- An entry of the cache of texts. -/
def tz (p : Ent) : ByteArray × Int := (textOf p.1, (p.2.size : Int))

structure KeysOk (L : List Ent) : Prop where
  nodup : (L.map Prod.fst).Nodup
  rng : ∀ p ∈ L, In64 p.1

theorem idx_map (L : List Ent) (k : Int) (hL : ∀ p ∈ L, In64 p.1) (hk : In64 k) : idx (L.map tz) (textOf k) = idx L k := by
  induction L with
  | nil => rfl
  | cons p r ih =>
    have hp := hL p List.mem_cons_self
    have hr := ih (fun q hq => hL q (List.mem_cons_of_mem _ hq))
    simp only [List.map_cons, idx]
    by_cases e : p.1 = k
    · have : (tz p).1 = textOf k := by simp [tz, e]
      simp only [e, this, if_true]
    · have : ¬ (tz p).1 = textOf k := fun h => e (textOf_inj _ _ hp.1 hp.2 hk.1 hk.2 h)
      simp only [e, this, if_false, hr]

theorem touch_map {α β : Type} (f : α → β) (L : List α) (p : Nat) (e : α) : touch (L.map f) p (f e) = (touch L p e).map f := by
  simp [touch, List.map_take, List.map_drop]

theorem z_put (n : Nat) (L : List Ent) (k : Int) (x : ByteArray) (hL : ∀ p ∈ L, In64 p.1) (hk : In64 k) : putL n (L.map tz) (textOf k, (x.size : Int)) = (putL n L (k, x)).map tz := by
  have h1 := idx_map L k hL hk
  have h2 : fHas (L.map tz) (textOf k) = fHas L k := by simp [fHas, h1]
  have h3 : fAt (L.map tz) (textOf k) = fAt L k := by simp [fAt, h1]
  have e : ((textOf k, (x.size : Int)) : ByteArray × Int) = tz (k, x) := rfl
  unfold putL
  simp only [h2, h3, List.length_map]
  split
  · rw [e, touch_map]
  · split
    · rw [e]; rfl
    · rw [e, ← List.map_take]; rfl

theorem z_get (L : List Ent) (k : Int) (hL : ∀ p ∈ L, In64 p.1) (hk : In64 k) :
    getL_si (L.map tz) (textOf k) = (((getL_is L k).1.size : Int), (getL_is L k).2.1, (getL_is L k).2.2.map tz) := by
  have h1 := idx_map L k hL hk
  by_cases h : idx L k < L.length
  · have h' : idx (L.map tz) (textOf k) < (L.map tz).length := by rw [h1, List.length_map]; exact h
    have g1 : getL_si (L.map tz) (textOf k) = ((L.map tz)[idx (L.map tz) (textOf k)].2, true, touch (L.map tz) (idx (L.map tz) (textOf k)) (L.map tz)[idx (L.map tz) (textOf k)]) := dif_pos h'
    have g2 : getL_is L k = (L[idx L k].2, true, touch L (idx L k) L[idx L k]) := dif_pos h
    have e1 : (L.map tz)[idx (L.map tz) (textOf k)] = tz L[idx L k] := by simp [h1]
    rw [g1, g2, e1, h1, touch_map]
    rfl
  · have h' : ¬ idx (L.map tz) (textOf k) < (L.map tz).length := by rw [h1, List.length_map]; exact h
    simp only [getL_si, getL_is, h, h', dif_neg, not_false_eq_true]
    rfl

theorem mem_touch {α : Type} (L : List α) (p : Nat) (e x : α) (h : x ∈ touch L p e) : x = e ∨ x ∈ L := by
  simp only [touch, List.mem_cons, List.mem_append] at h
  rcases h with h | h | h
  · exact Or.inl h
  · exact Or.inr (List.mem_of_mem_take h)
  · exact Or.inr (List.mem_of_mem_drop h)

theorem idx_key {V : Type} (L : List (Int × V)) (k : Int) (h : idx L k < L.length) : L[idx L k].1 = k := by
  induction L with
  | nil => simp at h
  | cons p r ih =>
    by_cases e : p.1 = k
    · simp [idx, e]
    · have h2 : idx r k < r.length := by simpa [idx, e] using h
      have := ih h2
      simpa [idx, e] using this

theorem idx_out {V : Type} (L : List (Int × V)) (k : Int) (h : ¬ idx L k < L.length) : ∀ p ∈ L, ¬ p.1 = k := by
  induction L with
  | nil => simp
  | cons p r ih =>
    by_cases e : p.1 = k
    · simp [idx, e] at h
    · have h2 : ¬ idx r k < r.length := by simpa [idx, e] using h
      intro q hq
      rcases List.mem_cons.1 hq with rfl | hq
      · exact e
      · exact ih h2 q hq

theorem fold_none (k : Int) (r : List Ent) (a : ByteArray × Bool) (h : ∀ q ∈ r, ¬ q.1 = k) : r.foldl (fun a p => if p.1 = k then (p.2, true) else a) a = a := by
  induction r generalizing a with
  | nil => rfl
  | cons p r ih =>
    rw [List.foldl_cons, if_neg (h p List.mem_cons_self)]
    exact ih a (fun q hq => h q (List.mem_cons_of_mem _ hq))

theorem drop_none (k : Int) (r : List Ent) (h : ∀ q ∈ r, ¬ q.1 = k) : dropKey r k = r := by
  unfold dropKey
  rw [List.filter_eq_self]
  intro q hq
  simp [h q hq]

theorem parts (L : List Ent) (p : Nat) (hp : p < L.length) : L = L.take p ++ L[p] :: L.drop (p + 1) := by rw [← List.drop_eq_getElem_cons hp, List.take_append_drop]

theorem nodup_off (L : List Ent) (hd : (L.map Prod.fst).Nodup) (p : Nat) (hp : p < L.length) : ∀ q ∈ L.take p ++ L.drop (p + 1), ¬ q.1 = L[p].1 := by
  have e := parts L p hp
  have h1 : ((L.take p ++ L[p] :: L.drop (p + 1)).map Prod.fst).Nodup := by rw [← e]; exact hd
  rw [List.map_append, List.map_cons] at h1
  have h2 := (List.perm_middle.nodup_iff).1 h1
  rw [List.nodup_cons] at h2
  intro q hq hc
  apply h2.1
  rw [← hc, ← List.map_append]
  exact List.mem_map_of_mem hq

theorem drop_has (L : List Ent) (hd : (L.map Prod.fst).Nodup) (p : Nat) (hp : p < L.length) : dropKey L L[p].1 = L.take p ++ L.drop (p + 1) ∧ seek L L[p].1 = (L[p].2, true) := by
  have hoff := nodup_off L hd p hp
  have e := parts L p hp
  have o1 : ∀ q ∈ L.take p, ¬ q.1 = L[p].1 := fun q hq => hoff q (List.mem_append_left _ hq)
  have o2 : ∀ q ∈ L.drop (p + 1), ¬ q.1 = L[p].1 := fun q hq => hoff q (List.mem_append_right _ hq)
  generalize L[p] = x at *
  generalize L.take p = A at *
  generalize L.drop (p + 1) = B at *
  subst e
  constructor
  · have h1 := drop_none x.1 A o1
    have h2 := drop_none x.1 B o2
    unfold dropKey at *
    rw [List.filter_append, List.filter_cons_of_neg (by simp), h1, h2]
  · unfold seek
    rw [List.foldl_append, fold_none _ _ _ o1, List.foldl_cons, if_pos rfl, fold_none _ _ _ o2]

theorem ref_put (n : Nat) (L : List Ent) (e : Ent) (hn : 1 ≤ n) (hl : L.length ≤ n) (hd : (L.map Prod.fst).Nodup) : refPutL n L e = putL n L e := by
  unfold refPutL putL
  by_cases h : idx L e.1 < L.length
  · have hf : fHas L e.1 = true := by simp [fHas, h]
    have ha : fAt L e.1 = idx L e.1 := by simp [fAt, h]
    have hk := idx_key L e.1 h
    have := (drop_has L hd _ h).1
    rw [hk] at this
    rw [if_pos hf, ha, this]
    show (touch L (idx L e.1) e).take n = _
    exact List.take_of_length_le (by rw [touch_length L _ e h]; exact hl)
  · have hf : fHas L e.1 = false := by simp [fHas, h]
    rw [drop_none _ _ (idx_out L e.1 h), if_neg (by rw [hf]; decide)]
    obtain ⟨m, rfl⟩ : ∃ m, n = m + 1 := ⟨n - 1, by omega⟩
    rw [List.take_succ_cons]
    split
    · rw [List.take_of_length_le (by omega)]
    · congr 2
      omega

theorem ref_get (L : List Ent) (k : Int) (hd : (L.map Prod.fst).Nodup) : seek L k = ((getL_is L k).1, (getL_is L k).2.1) ∧ refGetL L k = (getL_is L k).2.2 := by
  by_cases h : idx L k < L.length
  · have hk := idx_key L k h
    obtain ⟨h1, h2⟩ := drop_has L hd _ h
    rw [hk] at h1 h2
    have e1 : getL_is L k = (L[idx L k].2, true, touch L (idx L k) L[idx L k]) := by simp [getL_is, h]
    rw [e1, h2]
    refine ⟨rfl, ?_⟩
    unfold refGetL
    rw [h2, h1, if_pos rfl]
    unfold touch
    congr 1
    exact Prod.ext hk.symm rfl
  · have hn := idx_out L k h
    have e1 : getL_is L k = (ByteArray.empty, false, L) := by simp [getL_is, h]
    have e2 : seek L k = (ByteArray.empty, false) := fold_none k L _ hn
    rw [e1, e2]
    refine ⟨rfl, ?_⟩
    unfold refGetL
    rw [e2]; rfl

theorem KeysOk.put {n : Nat} {L : List Ent} (h : KeysOk L) (k : Int) (x : ByteArray) (hk : In64 k) : KeysOk (putL n L (k, x)) := by
  refine ⟨?_, ?_⟩
  · unfold putL
    split
    · rename_i hf
      have hi : idx L k < L.length := by simpa [fHas] using hf
      have ha : fAt L k = idx L k := by simp [fAt, hi]
      show ((touch L (fAt L k) (k, x)).map Prod.fst).Nodup
      rw [ha]
      have hoff := nodup_off L h.nodup _ hi
      have e := parts L _ hi
      have h1 : ((L.take (idx L k) ++ L[idx L k] :: L.drop (idx L k + 1)).map Prod.fst).Nodup := by rw [← e]; exact h.nodup
      rw [List.map_append, List.map_cons] at h1
      have h2 := (List.perm_middle.nodup_iff).1 h1
      rw [idx_key L k hi] at h2
      simpa [touch] using h2
    · rename_i hf
      have hi : ¬ idx L k < L.length := by simpa [fHas] using hf
      have hno := idx_out L k hi
      split
      · rw [List.map_cons, List.nodup_cons]
        refine ⟨fun hm => ?_, h.nodup⟩
        obtain ⟨q, hq, hqe⟩ := List.mem_map.1 hm
        exact hno q hq hqe
      · rw [List.map_cons, List.nodup_cons]
        refine ⟨fun hm => ?_, ?_⟩
        · obtain ⟨q, hq, hqe⟩ := List.mem_map.1 hm
          exact hno q (List.mem_of_mem_take hq) hqe
        · rw [List.map_take]
          exact h.nodup.sublist (List.take_sublist _ _)
  · intro q hq
    unfold putL at hq
    split at hq
    · rcases mem_touch _ _ _ _ hq with rfl | hq
      · exact hk
      · exact h.rng q hq
    · split at hq
      · rcases List.mem_cons.1 hq with rfl | hq
        · exact hk
        · exact h.rng q hq
      · rcases List.mem_cons.1 hq with rfl | hq
        · exact hk
        · exact h.rng q (List.mem_of_mem_take hq)

theorem KeysOk.get {L : List Ent} (h : KeysOk L) (k : Int) : KeysOk (getL_is L k).2.2 ∧ (getL_is L k).2.2.length = L.length := by
  by_cases hi : idx L k < L.length
  · have e1 : getL_is L k = (L[idx L k].2, true, touch L (idx L k) L[idx L k]) := by simp [getL_is, hi]
    rw [e1]
    refine ⟨⟨?_, ?_⟩, touch_length L _ _ hi⟩
    · have e := parts L _ hi
      have h1 : ((L.take (idx L k) ++ L[idx L k] :: L.drop (idx L k + 1)).map Prod.fst).Nodup := by rw [← e]; exact h.nodup
      rw [List.map_append, List.map_cons] at h1
      have h2 := (List.perm_middle.nodup_iff).1 h1
      simpa [touch] using h2
    · intro q hq
      rcases mem_touch _ _ _ _ hq with rfl | hq
      · exact h.rng _ (List.getElem_mem hi)
      · exact h.rng q hq
  · have e1 : getL_is L k = (ByteArray.empty, false, L) := by simp [getL_is, hi]
    rw [e1]
    exact ⟨h, rfl⟩

theorem KeysOk.nil : KeysOk [] := ⟨by simp, by simp⟩
end Go.Proofs.Ytlfmfhmbkpnjbaa

namespace Go.Proofs.Ytlfmfhmbkpnjbaa
open Go.RowKit

set_option maxHeartbeats 400000 in
theorem new_bad_is (n : Int) (w : World) (h : n < 1 ∨ 64 < n) :
    Calls Try.prog 33 #[.int .i64 n] w fun e w' => e = .returned (.tuple #[.pointer none, .int .i64 1]) ∧ w' = w := by
  rcases h with h | h
  · go_enter Try.func33, Try.ntmps33
    go_wp2
    go_ret2
    exact ⟨rfl, rfl⟩
  · have h' : ¬ n < 1 := by omega
    go_enter Try.func33, Try.ntmps33
    go_wp2
    go_ret2
    exact ⟨rfl, rfl⟩

set_option maxHeartbeats 400000 in
theorem new_good_is (n : Nat) (w : World) (h1 : 1 ≤ n) (h2 : n ≤ 64) :
    Calls Try.prog 33 #[.int .i64 n] w fun e w' => e = .returned (.tuple #[.pointer (some ⟨w.heap.size, 0, none⟩), .int .i64 0]) ∧ Isis w' w.heap.size (.slice none 0 0) n [] ∧ Kept (fun _ => False) w w' := by
  have hw : Hid (Isis (w.alloc (.cells #[.int .i64 n, .slice none 0 0] 129)) w.heap.size (.slice none 0 0) n [] ∧ Kept (fun _ => False) w (w.alloc (.cells #[.int .i64 n, .slice none 0 0] 129))) :=
    ⟨⟨heap_alloc_new w _, World.ownsRow_nil _ _ _ _⟩, Kept.alloc _ _⟩
  have h3 : ¬ (n : Int) < 1 := by omega
  have h4 : ¬ (64 : Int) < (n : Int) := by omega
  go_enter Try.func33, Try.ntmps33
  go_wp2
  go_ret2
  exact ⟨rfl, hw.out⟩
end Go.Proofs.Ytlfmfhmbkpnjbaa

namespace Go.Proofs.Ytlfmfhmbkpnjbaa
open Go.RowKit

set_option maxHeartbeats 400000 in
theorem new_bad_si (n : Int) (w : World) (h : n < 1 ∨ 64 < n) :
    Calls Try.prog 34 #[.int .i64 n] w fun e w' => e = .returned (.tuple #[.pointer none, .int .i64 1]) ∧ w' = w := by
  rcases h with h | h
  · go_enter Try.func34, Try.ntmps34
    go_wp2
    go_ret2
    exact ⟨rfl, rfl⟩
  · have h' : ¬ n < 1 := by omega
    go_enter Try.func34, Try.ntmps34
    go_wp2
    go_ret2
    exact ⟨rfl, rfl⟩

set_option maxHeartbeats 400000 in
theorem new_good_si (n : Nat) (w : World) (h1 : 1 ≤ n) (h2 : n ≤ 64) :
    Calls Try.prog 34 #[.int .i64 n] w fun e w' => e = .returned (.tuple #[.pointer (some ⟨w.heap.size, 0, none⟩), .int .i64 0]) ∧ Issi w' w.heap.size (.slice none 0 0) n [] ∧ Kept (fun _ => False) w w' := by
  have hw : Hid (Issi (w.alloc (.cells #[.int .i64 n, .slice none 0 0] 132)) w.heap.size (.slice none 0 0) n [] ∧ Kept (fun _ => False) w (w.alloc (.cells #[.int .i64 n, .slice none 0 0] 132))) :=
    ⟨⟨heap_alloc_new w _, World.ownsRow_nil _ _ _ _⟩, Kept.alloc _ _⟩
  have h3 : ¬ (n : Int) < 1 := by omega
  have h4 : ¬ (64 : Int) < (n : Int) := by omega
  go_enter Try.func34, Try.ntmps34
  go_wp2
  go_ret2
  exact ⟨rfl, hw.out⟩
end Go.Proofs.Ytlfmfhmbkpnjbaa

namespace Go.Proofs.Ytlfmfhmbkpnjbaa
open Go.RowKit

/-- Three caches side by side: two of the program's, the document's. -/
structure Tri (w : World) (cc x z y : Nat) (rx rz ry : Value) (n : Nat) (X : List Ent) (Z : List (ByteArray × Int)) (Y : List Ent) : Prop where
  blk : w.heap[cc]? = some (.cells #[.pointer (some ⟨x, 0, none⟩), .pointer (some ⟨z, 0, none⟩), .pointer (some ⟨y, 0, none⟩)] 85 (0, 0))
  ix : Isis w x rx n X
  iz : Issi w z rz n Z
  iy : IsRef w y ry n Y

/-- Their blocks. -/
def TFoot (cc x z y : Nat) (rx rz ry : Value) : Nat → Prop := fun j => j = cc ∨ Foot x rx j ∨ Foot z rz j ∨ Foot y ry j

theorem foot_typ {w : World} {T E : TypeId} {c : Nat} {cap : Int} {v : Value} {n : Nat} {xs : List Value} (h : CacheAt w T E c cap v n xs) (j : Nat) (hj : Foot c v j) : typ w j T ∨ typ w j E := by
  rcases hj with rfl | hj
  · exact Or.inl (typ_blk h.1)
  · exact Or.inr (typ_own h.2 j hj)

theorem typ_two {w : World} {j : Nat} {s t : TypeId} (h : typ w j s) (k : typ w j t) (hst : s ≠ t) : False := typ_ne h k hst rfl

section
variable {w w' : World} {cc x z y : Nat} {rx rz ry : Value} {n : Nat} {X : List Ent} {Z : List (ByteArray × Int)} {Y : List Ent}

theorem Tri.tc (h : Tri w cc x z y rx rz ry n X Z Y) : typ w cc 85 := typ_blk h.blk
theorem Tri.tx (h : Tri w cc x z y rx rz ry n X Z Y) (j : Nat) (hj : Foot x rx j) : typ w j 129 ∨ typ w j 135 := foot_typ h.ix j hj
theorem Tri.tz (h : Tri w cc x z y rx rz ry n X Z Y) (j : Nat) (hj : Foot z rz j) : typ w j 132 ∨ typ w j 138 := foot_typ h.iz j hj
theorem Tri.ty (h : Tri w cc x z y rx rz ry n X Z Y) (j : Nat) (hj : Foot y ry j) : typ w j 83 ∨ typ w j 95 := foot_typ h.iy j hj

theorem Tri.keep {S : Nat → Prop} (h : Tri w cc x z y rx rz ry n X Z Y) (hk : Kept S w w') (hS : ∀ j, TFoot cc x z y rx rz ry j → ¬ S j) : Tri w' cc x z y rx rz ry n X Z Y :=
  ⟨by rw [hk.block cc (heap_lt h.blk) (hS cc (Or.inl rfl))]; exact h.blk,
    CacheAt.keep h.ix hk (fun j hj => hS j (Or.inr (Or.inl hj))),
    CacheAt.keep h.iz hk (fun j hj => hS j (Or.inr (Or.inr (Or.inl hj)))),
    CacheAt.keep h.iy hk (fun j hj => hS j (Or.inr (Or.inr (Or.inr hj))))⟩

theorem Tri.lt (h : Tri w cc x z y rx rz ry n X Z Y) (j : Nat) (hj : TFoot cc x z y rx rz ry j) : j < w.heap.size := by
  rcases hj with rfl | hj | hj | hj
  · exact heap_lt h.blk
  · exact CacheAt.lt h.ix j hj
  · exact CacheAt.lt h.iz j hj
  · exact CacheAt.lt h.iy j hj

theorem Tri.xz (h : Tri w cc x z y rx rz ry n X Z Y) (j : Nat) (a : Foot x rx j) (b : Foot z rz j) : False := by
  rcases h.tx j a with p | p <;> rcases h.tz j b with q | q <;> exact typ_two p q (by decide)
theorem Tri.xy (h : Tri w cc x z y rx rz ry n X Z Y) (j : Nat) (a : Foot x rx j) (b : Foot y ry j) : False := by
  rcases h.tx j a with p | p <;> rcases h.ty j b with q | q <;> exact typ_two p q (by decide)
theorem Tri.zy (h : Tri w cc x z y rx rz ry n X Z Y) (j : Nat) (a : Foot z rz j) (b : Foot y ry j) : False := by
  rcases h.tz j a with p | p <;> rcases h.ty j b with q | q <;> exact typ_two p q (by decide)
theorem Tri.cx (h : Tri w cc x z y rx rz ry n X Z Y) (b : Foot x rx cc) : False := by
  rcases h.tx cc b with q | q <;> exact typ_two h.tc q (by decide)
theorem Tri.cz (h : Tri w cc x z y rx rz ry n X Z Y) (b : Foot z rz cc) : False := by
  rcases h.tz cc b with q | q <;> exact typ_two h.tc q (by decide)
theorem Tri.cy (h : Tri w cc x z y rx rz ry n X Z Y) (b : Foot y ry cc) : False := by
  rcases h.ty cc b with q | q <;> exact typ_two h.tc q (by decide)

theorem Tri.stepX {rx' : Value} {X' : List Ent} (h : Tri w cc x z y rx rz ry n X Z Y) (hi : Isis w' x rx' n X') (hk : Kept (Foot x rx) w w') : Tri w' cc x z y rx' rz ry n X' Z Y :=
  ⟨by rw [hk.block cc (heap_lt h.blk) (fun e => h.cx e)]; exact h.blk, hi, CacheAt.keep h.iz hk (fun j hj e => h.xz j e hj), CacheAt.keep h.iy hk (fun j hj e => h.xy j e hj)⟩
theorem Tri.stepZ {rz' : Value} {Z' : List (ByteArray × Int)} (h : Tri w cc x z y rx rz ry n X Z Y) (hi : Issi w' z rz' n Z') (hk : Kept (Foot z rz) w w') : Tri w' cc x z y rx rz' ry n X Z' Y :=
  ⟨by rw [hk.block cc (heap_lt h.blk) (fun e => h.cz e)]; exact h.blk, CacheAt.keep h.ix hk (fun j hj e => h.xz j hj e), hi, CacheAt.keep h.iy hk (fun j hj e => h.zy j e hj)⟩
theorem Tri.stepY {ry' : Value} {Y' : List Ent} (h : Tri w cc x z y rx rz ry n X Z Y) (hi : IsRef w' y ry' n Y') (hk : Kept (Foot y ry) w w') : Tri w' cc x z y rx rz ry' n X Z Y' :=
  ⟨by rw [hk.block cc (heap_lt h.blk) (fun e => h.cy e)]; exact h.blk, CacheAt.keep h.ix hk (fun j hj e => h.xy j hj e), CacheAt.keep h.iz hk (fun j hj e => h.zy j hj e), hi⟩

theorem three_cells {c : Nat} {a b d : Value} {T : TypeId} (h : w.heap[c]? = some (.cells #[a, b, d] T (0, 0))) : w.cell? ⟨c, 0, none⟩ = some a ∧ w.cell? ⟨c, 1, none⟩ = some b ∧ w.cell? ⟨c, 2, none⟩ = some d := by
  refine ⟨?_, ?_, ?_⟩ <;> rw [cell_block h] <;> rfl
end

set_option maxHeartbeats 400000 in
set_option maxRecDepth 100000 in
theorem made_bad (n : Int) (w : World) (h : n < 1 ∨ 64 < n) :
    Calls Try.prog 10 #[.int .i64 n] w fun e w' => e = .returned (.tuple #[.pointer none, .bool true]) ∧ w' = w := by
  have H := hide h
  rcases h with h | h
  · go_enter Try.func10, Try.ntmps10
    go_wp2_with fail
    refine (new_bad_is n _ H.out).mono ?_
    rintro e w' ⟨rfl, rfl⟩
    go_wp2_with fail
    refine (new_bad_si n _ H.out).mono ?_
    rintro e w'' ⟨rfl, rfl⟩
    go_wp2
    go_ret2
    exact ⟨rfl, rfl⟩
  · have h' : ¬ n < 1 := by omega
    go_enter Try.func10, Try.ntmps10
    go_wp2_with fail
    refine (new_bad_is n _ H.out).mono ?_
    rintro e w' ⟨rfl, rfl⟩
    go_wp2_with fail
    refine (new_bad_si n _ H.out).mono ?_
    rintro e w'' ⟨rfl, rfl⟩
    go_wp2
    go_ret2
    exact ⟨rfl, rfl⟩

theorem made_fin {w w1 w2 : World} {n : Nat} (i1 : Isis w1 w.heap.size (.slice none 0 0) n []) (k1 : Kept (fun _ => False) w w1) (i2 : Issi w2 w1.heap.size (.slice none 0 0) n []) (k2 : Kept (fun _ => False) w1 w2) :
    Tri ((w2.alloc (.cells #[.int .i64 n, .slice none 0 0] 83)).alloc (.cells #[.pointer (some ⟨w.heap.size, 0, none⟩), .pointer (some ⟨w1.heap.size, 0, none⟩), .pointer (some ⟨w2.heap.size, 0, none⟩)] 85))
      (w2.heap.size + 1) w.heap.size w1.heap.size w2.heap.size (.slice none 0 0) (.slice none 0 0) (.slice none 0 0) n [] [] [] ∧
    Kept (fun _ => False) w ((w2.alloc (.cells #[.int .i64 n, .slice none 0 0] 83)).alloc (.cells #[.pointer (some ⟨w.heap.size, 0, none⟩), .pointer (some ⟨w1.heap.size, 0, none⟩), .pointer (some ⟨w2.heap.size, 0, none⟩)] 85)) ∧
    w.heap.size ≤ w1.heap.size ∧ w1.heap.size ≤ w2.heap.size := by
  have ka := Kept.alloc w2 (.cells #[.int .i64 n, .slice none 0 0] 83)
  have kb := Kept.alloc (w2.alloc (.cells #[.int .i64 n, .slice none 0 0] 83)) (.cells #[.pointer (some ⟨w.heap.size, 0, none⟩), .pointer (some ⟨w1.heap.size, 0, none⟩), .pointer (some ⟨w2.heap.size, 0, none⟩)] 85)
  have kab := ka.join kb (R := fun _ => False) (fun _ _ e => e) (fun _ _ e => e)
  have e : (w2.alloc (.cells #[.int .i64 n, .slice none 0 0] 83)).heap.size = w2.heap.size + 1 := by simp
  refine ⟨⟨?_, ?_, ?_, ?_⟩, ?_, k1.size, k2.size⟩
  · rw [← e]; exact heap_alloc_new _ _
  · exact CacheAt.keep (CacheAt.keep i1 k2 (fun _ _ e => e)) kab (fun _ _ e => e)
  · exact CacheAt.keep i2 kab (fun _ _ e => e)
  · refine ⟨?_, World.ownsRow_nil _ _ _ _⟩
    rw [kb.block _ (by rw [e]; omega) (fun e => e)]
    exact heap_alloc_new _ _
  · exact (k1.join k2 (fun _ _ e => e) (fun _ _ e => e)).join kab (fun _ _ e => e) (fun _ _ e => e)

set_option maxHeartbeats 400000 in
set_option maxRecDepth 100000 in
theorem made_good (n : Nat) (w : World) (h1 : 1 ≤ n) (h2 : n ≤ 64) :
    Calls Try.prog 10 #[.int .i64 n] w fun e w' => ∃ cc x z y, e = .returned (.tuple #[.pointer (some ⟨cc, 0, none⟩), .bool true]) ∧
      Tri w' cc x z y (.slice none 0 0) (.slice none 0 0) (.slice none 0 0) n [] [] [] ∧ Kept (fun _ => False) w w' ∧ (∀ j, TFoot cc x z y (.slice none 0 0) (.slice none 0 0) (.slice none 0 0) j → w.heap.size ≤ j) := by
  have h3 : ¬ (n : Int) < 1 := by omega
  have h4 : ¬ (64 : Int) < (n : Int) := by omega
  go_enter Try.func10, Try.ntmps10
  go_wp2_with fail
  refine (new_good_is n _ h1 h2).mono ?_
  rintro e w1 ⟨rfl, i1, k1⟩
  have I1 := hide (And.intro i1 k1)
  clear i1 k1
  go_wp2_with fail
  refine (new_good_si n _ h1 h2).mono ?_
  rintro e w2 ⟨rfl, i2, k2⟩
  have R := hide (made_fin I1.out.1 I1.out.2 i2 k2)
  clear i2 k2 I1
  go_wp2
  go_ret2
  obtain ⟨r1, r2, r3, r4⟩ := R.out
  refine ⟨_, _, _, _, rfl, r1, r2, ?_⟩
  intro j hj
  rcases hj with rfl | (rfl | hj) | (rfl | hj) | (rfl | hj)
  · omega
  · exact Nat.le_refl _
  · cases hj
  · exact r3
  · cases hj
  · omega
  · cases hj
end Go.Proofs.Ytlfmfhmbkpnjbaa

namespace Go.Proofs.Ytlfmfhmbkpnjbaa
open Go.RowKit

abbrev Lst := Nat × Nat × Nat
/-- A list that came out: its block, its length, its capacity. -/
def sv (q : Lst) : Value := .slice (some ⟨q.1, 0, none⟩) q.2.1 q.2.2

/-- The book: lists of entities: none; lists of keys, each written full with its mark. -/
structure BookAt (w : World) (bk : Nat) (kv : Value) (Q : List Lst) : Prop where
  blk : w.heap[bk]? = some (.cells #[.slice none 0 0, kv] 27 (0, 0))
  own : w.ownsRow 0 53 1 kv Q.length (Q.map sv)
  rows : ∀ i (h : i < Q.length), ∃ cur, w.heap[Q[i].1]? = some (.cells cur 3 (0, 0)) ∧ ∀ j, j < Q[i].2.1 → cur[j]? = some (.int .i64 (-1000 - (i : Int) / 4))
  short : ∀ i (h : i < Q.length), Q[i].2.1 ≤ 100
  four : Q.length % 4 = 0

theorem book_cells {w : World} {bk : Nat} {a b : Value} {T : TypeId} (h : w.heap[bk]? = some (.cells #[a, b] T (0, 0))) : w.cell? ⟨bk, 0, none⟩ = some a ∧ w.cell? ⟨bk, 1, none⟩ = some b := ⟨(two_cells h).1, (two_cells h).2.1⟩

set_option maxHeartbeats 400000 in
set_option maxRecDepth 100000 in
theorem whole_nil (bk : Nat) (w : World) (h : w.heap[bk]? = some (.cells #[.slice none 0 0, .slice none 0 0] 27 (0, 0))) :
    Calls Try.prog 13 #[.pointer (some ⟨bk, 0, none⟩)] w fun e w' => e = .returned (.bool true) ∧ w' = w := by
  obtain ⟨c0, c1⟩ := book_cells h
  clear h
  go_enter Try.func13, Try.ntmps13
  go_wp2
  refine wp_loop_rounds 1 ?_
  rw [rounds_succ]
  go_wp2
  refine wp_loop_rounds 1 ?_
  rw [rounds_succ]
  go_wp2
  go_ret
  exact ⟨rfl, rfl⟩

set_option maxHeartbeats 800000 in
set_option maxRecDepth 100000 in
theorem whole_row (bk G cp : Nat) (Q : List Lst) (w : World) (hQ : Q.length ≤ 1000000000) (h : BookAt w bk (.slice (some ⟨G, 0, none⟩) Q.length cp) Q) :
    Calls Try.prog 13 #[.pointer (some ⟨bk, 0, none⟩)] w fun e w' => e = .returned (.bool true) ∧ w' = w := by
  obtain ⟨c0, c1⟩ := book_cells h.blk
  have H := hide h
  clear h
  go_enter Try.func13, Try.ntmps13
  go_wp2
  refine wp_loop_rounds 1 ?_
  rw [rounds_succ]
  go_wp2
  go_loop [5] (fun t => ∃ i : Nat, i ≤ Q.length ∧ t = .int .i64 i) (fun t => Q.length - (intOf t).toNat)
  case atStart => exact ⟨0, Nat.zero_le _, rfl⟩
  case round =>
    obtain ⟨i, hi, rfl⟩ := hrel
    by_cases hlt : i < Q.length
    · have d1 : w.cell? ⟨G, i, none⟩ = some (sv Q[i]) := row_cell H.out.own i _ (by simp [hlt])
      obtain ⟨cur, b1, hcur⟩ := H.out.rows i hlt
      have hsh := H.out.short i hlt
      obtain ⟨⟨g, l, cp2⟩, hq⟩ : ∃ q, Q[i] = q := ⟨_, rfl⟩
      rw [hq] at d1 b1 hcur hsh
      simp only [sv] at d1 b1 hcur hsh
      have hc : Hid (∀ j, j < l → w.cell? ⟨g, j, none⟩ = some (.int .i64 (-1000 - (i : Int) / 4))) := fun j hj => by rw [cell_block b1]; exact hcur j hj
      clear b1 hcur hq
      go_wp2
      go_loop [6] (fun t => ∃ j : Nat, j ≤ l ∧ t = .int .i64 j) (fun t => l - (intOf t).toNat)
      case atStart => exact ⟨0, Nat.zero_le _, rfl⟩
      case round =>
        obtain ⟨j, hj, rfl⟩ := hrel
        by_cases hjl : j < l
        · have e1 := hc.out j hjl
          go_wp2
          go_round
          case rel => exact ⟨j + 1, by omega, by go_num⟩
          case measure => simp [intOf]; omega
        · go_wp2
          go_round
          case rel => exact ⟨i + 1, by omega, by go_num⟩
          case measure => simp [intOf]; omega
    · go_wp2
      go_ret
      exact ⟨rfl, rfl⟩

theorem whole_any (bk : Nat) (kv : Value) (Q : List Lst) (w : World) (hQ : Q.length ≤ 1000000000) (h : BookAt w bk kv Q) :
    Calls Try.prog 13 #[.pointer (some ⟨bk, 0, none⟩)] w fun e w' => e = .returned (.bool true) ∧ w' = w := by
  rcases h.own.2 with ⟨rfl, _⟩ | ⟨G, cp, _, rfl, _⟩
  · exact whole_nil bk w h.blk
  · exact whole_row bk G cp Q w hQ h
/-- A row that is there is written over from its head. -/
def FillAt (g : Nat) (w wr : World) (T : TypeId) (ks : List Value) (i : Nat) : Prop :=
  ∃ xs : List Value, xs.length = ks.length ∧ xs.take i = ks.take i ∧ wr.heap[g]? = some (.cells xs.toArray T (0, 0)) ∧ Kept (fun j => j = g) w wr

theorem FillAt.cell {g : Nat} {w wr : World} {T : TypeId} {ks : List Value} {i : Nat} (h : FillAt g w wr T ks i) (hi : i < ks.length) : ∃ old, wr.cell? ⟨g, i, none⟩ = some old ∧ wr.frozen? ⟨g, i, none⟩ = false := by
  obtain ⟨xs, h1, _, h3, _⟩ := h
  refine ⟨xs[i], ?_, by simp [World.frozen?, h3]⟩
  rw [cell_block h3]
  simp [show i < xs.length by omega]

theorem FillAt.step {g : Nat} {w wr : World} {T : TypeId} {ks : List Value} {i : Nat} (h : FillAt g w wr T ks i) (u : Value) (hu : ks[i]? = some u) : FillAt g w (wr.setCell ⟨g, i, none⟩ u) T ks (i + 1) := by
  obtain ⟨xs, h1, h2, h3, h4⟩ := h
  have hi : i < ks.length := (List.getElem?_eq_some_iff.1 hu).1
  refine ⟨xs.set i u, by simpa using h1, ?_, ?_, ?_⟩
  · apply List.ext_getElem?
    intro j
    simp only [List.getElem?_take]
    by_cases hj : j < i + 1
    · simp only [hj, if_true]
      by_cases hji : j = i
      · subst hji; rw [List.getElem?_set_self (by omega), hu]
      · rw [List.getElem?_set_ne (by omega)]
        have := congrArg (·[j]?) h2
        simpa [List.getElem?_take, show j < i by omega] using this
    · simp [hj]
  · rw [setCell_eq_setRow wr _ i _ T (0, 0) u h3]
    have := setRow_heap wr g xs.toArray (xs.toArray.setIfInBounds i u) T (0, 0) h3
    simpa using this
  · exact h4.join (Kept.setCell wr _ u) (fun _ _ e => e) (fun j hj e => e)

theorem FillAt.done {g : Nat} {w wr : World} {T : TypeId} {ks : List Value} {i : Nat} (h : FillAt g w wr T ks i) (hi : ks.length ≤ i) : wr.heap[g]? = some (.cells ks.toArray T (0, 0)) ∧ Kept (fun j => j = g) w wr := by
  obtain ⟨xs, h1, h2, h3, h4⟩ := h
  rw [List.take_of_length_le (by omega), List.take_of_length_le hi] at h2
  subst h2
  exact ⟨h3, h4⟩

/-- n marks. -/
def marks (n : Nat) (m : Int) : List Value := List.replicate n (.int .i64 m)
theorem marks_len (n : Nat) (m : Int) : (marks n m).length = n := by simp [marks]
theorem marks_get (n : Nat) (m : Int) (j : Nat) (h : j < n) : (marks n m)[j]? = some (.int .i64 m) := by simp [marks, h]
theorem marks_mem (n : Nat) (m : Int) (j : Nat) (u : Value) (h : (marks n m)[j]? = some u) : u = .int .i64 m := by
  have := List.mem_of_getElem? h
  exact List.eq_of_mem_replicate this
theorem marks_one (n : Nat) (m : Int) : ∀ u ∈ marks n m, u.oneCell' = true := by
  intro u hu
  rw [List.eq_of_mem_replicate hu]; rfl
theorem marks_add (a b : Nat) (m : Int) : marks a m ++ marks b m = marks (a + b) m := by simp [marks]

/-- A row of marks. -/
def Marked (w : World) (g l : Nat) (m : Int) : Prop := ∃ cur, w.heap[g]? = some (.cells cur 3 (0, 0)) ∧ ∀ j, j < l → cur[j]? = some (.int .i64 m)

theorem Marked.keep {w w' : World} {g l : Nat} {m : Int} {S : Nat → Prop} (h : Marked w g l m) (hk : Kept S w w') (hS : ¬ S g) : Marked w' g l m := by
  obtain ⟨cur, h1, h2⟩ := h
  exact ⟨cur, by rw [hk.block g (heap_lt h1) hS]; exact h1, h2⟩

theorem Marked.cells {w : World} {g l : Nat} {m : Int} (h : Marked w g l m) : ∀ j u, (marks l m)[j]? = some u → w.cell? ((⟨g, 0, none⟩ : Addr).add j) = some u := by
  obtain ⟨cur, h1, h2⟩ := h
  intro j u hu
  have hj : j < l := by have := (List.getElem?_eq_some_iff.1 hu).1; rwa [marks_len] at this
  rw [addr_add, cell_block h1, h2 j hj, marks_mem l m j u hu]

theorem Marked.lt {w : World} {g l : Nat} {m : Int} (h : Marked w g l m) : g < w.heap.size := by
  obtain ⟨cur, h1, _⟩ := h
  exact heap_lt h1

theorem marked_own {w : World} {base : Nat} {v : Value} {l : Nat} {m : Int} (h : w.ownsRow base 3 1 v l (marks l m)) (hl : 0 < l) : ∃ g cp, v = .slice (some ⟨g, 0, none⟩) l cp ∧ base ≤ g ∧ Marked w g l m := by
  rcases h.2 with ⟨_, h0⟩ | ⟨g, cp, cur, hv, hb, hh, _, _, _, h4⟩
  · omega
  · refine ⟨g, cp, hv, hb, cur, hh, fun j hj => ?_⟩
    have e : (cur.toList.take (l * 1))[j]? = some (.int .i64 m) := by rw [h4]; exact marks_get l m j hj
    rw [List.getElem?_take_of_lt (by omega)] at e
    simpa using e

end Go.Proofs.Ytlfmfhmbkpnjbaa
