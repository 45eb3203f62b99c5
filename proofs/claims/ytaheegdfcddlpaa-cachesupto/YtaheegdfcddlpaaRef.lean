import Derived.Test.YtaheegdfcddlpaaBase
import Derived.Test.YtaheegdfcddlpaaRows
namespace Go.Proofs.Ytaheegdfcddlpaa
open Go.RowKit

abbrev Ent := Int × ByteArray
def ek : Int → Value := Value.int .i64
def dropKey (L : List Ent) (k : Int) : List Ent := L.filter (fun p => decide (¬ p.1 = k))
def seek (L : List Ent) (k : Int) : ByteArray × Bool := L.foldl (fun a p => if p.1 = k then (p.2, true) else a) (ByteArray.empty, false)

theorem take_snoc {α : Type} (L : List α) (i : Nat) (h : i < L.length) : L.take (i + 1) = L.take i ++ [L[i]] := List.take_succ_eq_append_getElem h

theorem dropKey_hit (L : List Ent) (k : Int) (i : Nat) (h : i < L.length) (e : L[i].1 = k) : dropKey (L.take (i + 1)) k = dropKey (L.take i) k ∧ seek (L.take (i + 1)) k = (L[i].2, true) := by
  rw [take_snoc L i h]
  constructor
  · unfold dropKey
    rw [List.filter_append, List.filter_cons_of_neg (by simp [e])]; simp
  · unfold seek
    rw [List.foldl_append, List.foldl_cons, if_pos e, List.foldl_nil]
theorem dropKey_miss (L : List Ent) (k : Int) (i : Nat) (h : i < L.length) (e : ¬ L[i].1 = k) : dropKey (L.take (i + 1)) k = dropKey (L.take i) k ++ [L[i]] ∧ seek (L.take (i + 1)) k = seek (L.take i) k := by
  rw [take_snoc L i h]
  constructor
  · unfold dropKey
    rw [List.filter_append, List.filter_cons_of_pos (by simp [e])]; simp
  · unfold seek
    rw [List.foldl_append, List.foldl_cons, if_neg e, List.foldl_nil]
theorem dropKey_len (L : List Ent) (k : Int) : (dropKey L k).length ≤ L.length := List.length_filter_le _ _

/-- The document's cache. -/
def IsRef (w : World) (c : Nat) (r : Value) (n : Nat) (L : List Ent) : Prop :=
  CacheAt w 58 70 c n r L.length (flat (Value.int .i64) Value.string L)

theorem info_ref : (Try.prog.info? 70).map (fun i => (i.zero, i.size, i.bytes)) = some (some (.agg #[.int .i64 0, .string ByteArray.empty]), 2, 24) := by kernel_rfl

set_option maxHeartbeats 400000 in
set_option maxRecDepth 100000 in
theorem without_row (c n g cp : Nat) (k : Int) (L : List Ent) (w : World) (hlen : L.length ≤ 64) (h : IsRef w c (.slice (some ⟨g, 0, none⟩) L.length cp) n L) :
    Calls Try.prog 36 #[.pointer (some ⟨c, 0, none⟩), .int .i64 k] w fun e w' =>
      ∃ lv, e = .returned (.tuple #[lv, .string (seek L k).1, .bool (seek L k).2]) ∧ w'.ownsRow w.heap.size 70 2 lv (dropKey L k).length (flat (Value.int .i64) Value.string (dropKey L k)) ∧ Kept (fun _ => False) w w' := by
  obtain ⟨i0, hi, hz0, hz1, hz2⟩ := info_parts info_ref
  have H := hide h
  clear h
  go_enter Try.func36, Try.ntmps36
  go_wp2
  go_loopw [7, 8, 9, 10] (fun lv v th t wr => ∃ i : Nat, i ≤ L.length ∧ t = .int .i64 i ∧ v = .string (seek (L.take i) k).1 ∧ th = .bool (seek (L.take i) k).2 ∧
      Hid (wr.ownsRow w.heap.size 70 2 lv (dropKey (L.take i) k).length (flat (Value.int .i64) Value.string (dropKey (L.take i) k)) ∧ Kept (fun _ => False) w wr)) (fun _ _ _ t _ => L.length - (intOf t).toNat)
  case atStart => exact ⟨0, Nat.zero_le _, rfl, rfl, rfl, World.ownsRow_nil _ _ _ _, Kept.refl _ _⟩
  case round =>
    obtain ⟨i, hil, rfl, rfl, rfl, HR⟩ := hrel
    have HC : Hid (IsRef wr c (.slice (some ⟨g, 0, none⟩) L.length cp) n L) := CacheAt.keep H.out HR.out.2 (fun _ _ e => e)
    have d1 := (two_cells HC.out.1).2.1
    by_cases hlt : i < L.length
    · have hk := row_cell HC.out.2 (i * 2) _ (flat_key _ _ L i hlt)
      have hv := row_cell HC.out.2 (i * 2 + 1) _ (flat_val _ _ L i hlt)
      by_cases he : L[i].1 = k
      · have hb := ints_beq _ _ he
        obtain ⟨q1, q2⟩ := dropKey_hit L k i hlt he
        have Q := hide (And.intro q1 q2)
        clear q1 q2 he HC
        go_wp2
        go_roundw
        case rel => exact ⟨i + 1, by omega, by go_num, by rw [Q.out.2], by rw [Q.out.2], by rw [Q.out.1]; exact HR⟩
        case measure => simp [intOf]; omega
      · have hb := ints_bne _ _ he
        obtain ⟨q1, q2⟩ := dropKey_miss L k i hlt he
        have Q := hide (And.intro q1 q2)
        have hdl := dropKey_len (L.take i) k
        have hdl2 : (L.take i).length ≤ i := List.length_take_le _ _
        clear q1 q2 he HC
        go_wp2_with (at_builtin; refine wpList_append_own _ rfl (.tmp 38) (.tmp 46) 56 rfl w.heap.size 70 i0 (.agg #[.int .i64 0, .string ByteArray.empty]) 2 24 Try.underlying56 hi hz0 hz1 hz2 rfl (by decide) _ _ _ rfl (HR.out.1.alloc _) ⟨wr.heap.size, 0, none⟩ 1 1 [.int .i64 L[i].1, .string L[i].2] rfl rfl ?c1 ?c2 ?c3 ?c4 ?c5 ?_)
        case c1 => exact new_two _ _ _ _ _ rfl
        case c2 => intro u hu; simp at hu; rcases hu with rfl | rfl <;> rfl
        case c3 => unfold maxLen; omega
        case c4 => omega
        case c5 => have := HR.out.2.size; simp; omega
        intro lv' w1 hown hgrow _
        have hsz := HR.out.2.size
        have HN : Hid (w1.ownsRow w.heap.size 70 2 lv' (dropKey (L.take (i + 1)) k).length (flat (Value.int .i64) Value.string (dropKey (L.take (i + 1)) k)) ∧ Kept (fun _ => False) w w1) := by
          refine ⟨?_, ?_⟩
          · rw [Q.out.1, flat_append, List.length_append]; exact hown
          · refine HR.out.2.join ((Kept.alloc wr _).join (Kept.of_grown hgrow) (R := fun j => w.heap.size ≤ j) (fun _ _ e => e.elim) (fun j _ e => ?_)) (fun _ _ e => e) (fun j hj e => by omega)
            exact (HR.out.1.lt j e.symm).1
        clear hown hgrow HR hk hv d1
        go_wp2
        go_roundw
        case rel => exact ⟨i + 1, by omega, by go_num, by rw [Q.out.2], by rw [Q.out.2], HN⟩
        case measure => simp [intOf]; omega
    · have hii : L.take i = L := List.take_of_length_le (by omega)
      rw [hii] at HR ⊢
      clear HC
      go_wp2
      go_ret3
      exact ⟨_, rfl, HR.out.1, HR.out.2⟩
set_option maxHeartbeats 400000 in
set_option maxRecDepth 100000 in
theorem without_nil (c : Nat) (cap k : Int) (w : World) (h : w.heap[c]? = some (.cells #[.int .i64 cap, .slice none 0 0] 58 (0, 0))) :
    Calls Try.prog 36 #[.pointer (some ⟨c, 0, none⟩), .int .i64 k] w fun e w' =>
      e = .returned (.tuple #[.slice none 0 0, .string ByteArray.empty, .bool false]) ∧ w' = w := by
  have c1 := (two_cells h).2.1
  clear h
  go_enter Try.func36, Try.ntmps36
  go_wp2
  refine wp_loop_rounds 1 ?_
  rw [rounds_succ]
  go_wp2
  go_ret3
  exact ⟨rfl, rfl⟩

theorem without_any (c n : Nat) (r : Value) (k : Int) (L : List Ent) (w : World) (hlen : L.length ≤ 64) (h : IsRef w c r n L) :
    Calls Try.prog 36 #[.pointer (some ⟨c, 0, none⟩), .int .i64 k] w fun e w' =>
      ∃ lv, e = .returned (.tuple #[lv, .string (seek L k).1, .bool (seek L k).2]) ∧ w'.ownsRow w.heap.size 70 2 lv (dropKey L k).length (flat (Value.int .i64) Value.string (dropKey L k)) ∧ Kept (fun _ => False) w w' := by
  rcases h.2.2 with ⟨rfl, h0⟩ | ⟨g, cp, _, rfl, _⟩
  · obtain rfl : L = [] := List.eq_nil_of_length_eq_zero h0
    refine (without_nil c n k w h.1).mono ?_
    rintro e w' ⟨rfl, rfl⟩
    exact ⟨_, rfl, World.ownsRow_nil _ _ _ _, Kept.refl _ _⟩
  · exact without_row c n g cp k L w hlen h
end Go.Proofs.Ytaheegdfcddlpaa
