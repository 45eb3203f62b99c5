import Derived.Test.YtlfmfhmbkpnjbaaStepok
namespace Go.Proofs.Ytlfmfhmbkpnjbaa
open Go.RowKit

def I64 (z : Int) : Prop := -9223372036854775808 ≤ z ∧ z ≤ 9223372036854775807

/-- A list of raw numbers. -/
def RI (w : World) (p : Option Addr) (n : Nat) : Prop :=
  0 < n → ∃ b off, p = some ⟨b, off, none⟩ ∧ b < w.heap.size ∧ ∀ j, j < n → ∃ z, I64 z ∧ w.cell? ⟨b, off + j, none⟩ = some (.int .i64 z)
theorem RI.keep {w w' : World} {S : Nat → Prop} {p : Option Addr} {n : Nat} (h : RI w p n) (hk : Kept S w w') (hS : ∀ b, b < w.heap.size → ¬ S b) : RI w' p n := by
  intro hn
  obtain ⟨b, off, h1, h2, h3⟩ := h hn
  refine ⟨b, off, h1, Nat.lt_of_lt_of_le h2 hk.size, fun j hj => ?_⟩
  obtain ⟨z, q1, q2⟩ := h3 j hj
  exact ⟨z, q1, by rw [cell_keep hk h2 (hS b h2)]; exact q2⟩
theorem RI.calm {w w' : World} {p : Option Addr} {n : Nat} (h : RI w p n) (hk : Kept (fun _ => False) w w') : RI w' p n := h.keep hk (fun _ _ e => e)

theorem i64_tdiv {z : Int} (h : I64 z) (k : Int) (hk : 0 < k) : I64 (z.tdiv k) := by
  unfold I64 at *
  by_cases h0 : 0 ≤ z
  · rw [Int.tdiv_eq_ediv_of_nonneg h0]
    have h1 := Int.ediv_nonneg h0 (Int.le_of_lt hk)
    have h2 := Int.ediv_le_self k h0
    omega
  · obtain ⟨y, rfl⟩ : ∃ y, z = -y := ⟨-z, by omega⟩
    rw [Int.neg_tdiv, Int.tdiv_eq_ediv_of_nonneg (by omega)]
    have h1 := Int.ediv_nonneg (show 0 ≤ y by omega) (Int.le_of_lt hk)
    have h2 := Int.ediv_le_self k (show 0 ≤ y by omega)
    omega

theorem ten_pos : isPos 1092616192 := ⟨false, 10485760, -20, by decide, by decide⟩
theorem ok_int (n : Int) : okV (floatOfInt .f32 n) := ok_nearest _ _ _

theorem six_cells {w : World} {c : Nat} {a b d e f g : Value} {T : TypeId} (h : w.heap[c]? = some (.cells #[a, b, d, e, f, g] T (0, 0))) : w.cell? ⟨c, 0, none⟩ = some a ∧ w.cell? ⟨c, 1, none⟩ = some b ∧ w.cell? ⟨c, 2, none⟩ = some d ∧ w.cell? ⟨c, 3, none⟩ = some e ∧ w.cell? ⟨c, 4, none⟩ = some f ∧ w.cell? ⟨c, 5, none⟩ = some g := by
  refine ⟨?_, ?_, ?_, ?_, ?_, ?_⟩ <;> rw [cell_block h] <;> rfl

theorem info_cmd : (Try.prog.info? 99).map (fun i => (i.zero, i.size, i.bytes)) = some (some (.agg #[.int .i64 0, .int .i64 0, .int .i64 0, .float .f32 0, .float .f32 0, .int .i64 0]), 6, 40) := by kernel_rfl

theorem owns_readsC {w : World} {base : Nat} {p : Option Addr} {cap : Nat} {cs : List Cmd} (h : w.ownsRow base 99 6 (.slice p cs.length cap) cs.length (rowC cs)) : ReadsC w p cs ∧ (p = none → cap = 0) ∧ (∀ b off, p = some ⟨b, off, none⟩ → base ≤ b ∧ b < w.heap.size) := by
  have h' := h
  rcases h.2 with ⟨e, h0⟩ | ⟨g, cp, cur, e, hb, hh, _⟩
  · simp only [Value.slice.injEq] at e
    obtain ⟨rfl, _, rfl⟩ := e
    exact ⟨fun hne => absurd (List.eq_nil_of_length_eq_zero h0) hne, fun _ => rfl, fun b off e => by cases e⟩
  · simp only [Value.slice.injEq] at e
    obtain ⟨rfl, _, rfl⟩ := e
    refine ⟨fun _ => ⟨g, 0, rfl, heap_lt hh, fun j u hu => ?_⟩, (fun e => by cases e), fun b off e => ?_⟩
    · have := h'.cells (g := g) rfl j u hu
      rw [addr_add2] at this; exact this
    · simp only [Option.some.injEq, Addr.mk.injEq] at e
      obtain ⟨rfl, _⟩ := e
      exact ⟨hb, heap_lt hh⟩

end Go.Proofs.Ytlfmfhmbkpnjbaa
