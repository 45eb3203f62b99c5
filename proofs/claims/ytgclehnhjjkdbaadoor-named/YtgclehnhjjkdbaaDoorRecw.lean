import Derived.Test.YtgclehnhjjkdbaaDoorWds
import Derived.Test.YtgclehnhjjkdbaaDoorEqm
namespace Go.Proofs.YtgclehnhjjkdbaaDoor
open Go.RowKit

/-- The ticks that came in, just these. -/
def RTZ (w : World) (q : Option Addr) (zss : List (List Int)) : Prop :=
  zss ≠ [] → ∃ b off, q = some ⟨b, off, none⟩ ∧ b < w.heap.size ∧ ∀ j zs, zss[j]? = some zs → ∃ pj cj, w.cell? ⟨b, off + j, none⟩ = some (.slice pj zs.length cj) ∧ ((zs.length : Nat) : Int) ≤ 9223372036854775807 ∧ RZ w pj zs
theorem RTZ.calm {w w' : World} {q : Option Addr} {zss : List (List Int)} (h : RTZ w q zss) (hk : Kept (fun _ => False) w w') : RTZ w' q zss := by
  intro hn
  obtain ⟨b, off, h1, h2, h3⟩ := h hn
  refine ⟨b, off, h1, Nat.lt_of_lt_of_le h2 hk.size, fun j zs hj => ?_⟩
  obtain ⟨pj, cj, q1, q2, q3⟩ := h3 j zs hj
  exact ⟨pj, cj, by rw [cell_keep hk h2 (fun e => e)]; exact q1, q2, q3.calm hk⟩

/-- The entities behind k ticks; the file behind k ticks. -/
noncomputable def mobsAt (css : List (List Cmd)) : Nat → List Mob
  | 0 => []
  | k + 1 => stepL (css.getD k []) (mobsAt css k)
noncomputable def fileAt (ev : Int) (css : List (List Cmd)) : Nat → List UInt8
  | 0 => lineL (firstW ev)
  | k + 1 => fileAt ev css k ++ lineL (tickW (css.getD k []) ((k : Int) + 1) (mobsAt css (k + 1)) ev)

theorem mobsAt_world (css : List (List Cmd)) (k : Nat) (hk : k ≤ 400) : worldB (k : Int) (mobsAt css k) = true := by
  induction k with
  | zero => exact worldB_true 0 [] ⟨by decide, by decide⟩ (fun j hj _ => absurd hj (Nat.not_lt_zero _))
  | succ n ih =>
    have := worldB_next (css.getD n []) (ih (by omega)) (by omega)
    rw [show ((n + 1 : Nat) : Int) = (n : Int) + 1 from rfl]
    exact this

theorem pick_small (c : Int) (m : Nat) (hm : 0 < m) (h2 : m ≤ 1000) : -9223372036854775808 ≤ (pickN_keep c m : Int) ∧ (pickN_keep c m : Int) ≤ 9223372036854775807 := by
  have := pickN_lt_keep c m hm
  omega
theorem cmdOf_int (zs : List Int) (i : Nat) : IntC (cmdOf zs i) := by
  have h1 := pickN_lt_keep (rawZ zs i) 4 (by decide)
  have h2 := pickN_lt_keep ((rawZ zs i).tdiv 4) 6 (by decide)
  have h3 := pickN_lt_keep ((rawZ zs i).tdiv 24) 2 (by decide)
  have h4 := pickN_lt_keep ((rawZ zs i).tdiv 48) 40 (by decide)
  unfold cmdOf
  split <;> constructor <;> dsimp only <;> omega
theorem cmdsOf_int (zs : List Int) : ∀ c ∈ cmdsOf zs, IntC c := by
  intro c hc
  simp only [cmdsOf, List.mem_map] at hc
  obtain ⟨k, _, rfl⟩ := hc
  exact cmdOf_int zs _
theorem cmdsOf_few (zs : List Int) : (cmdsOf zs).length ≤ 64 := by simp [cmdsOf]; omega
theorem mob_int {t : Int} {L : List Mob} (h : worldB t L = true) : ∀ m ∈ L, IntM m := by
  intro m hm
  have hf := (worldB_fine h).2.2.mob m hm
  have h1 := idB_in hf.id
  have h2 : m.team = 0 ∨ m.team = 1 := by have := hf.team; simpa [teamB] using this
  have h3 := hf.low
  have h4 := hf.high
  exact ⟨by omega, by omega, by omega⟩
theorem mob_same {t : Int} {L : List Mob} (h : worldB t L = true) : ∀ m ∈ L, eqM m m = true := fun m hm => fine_eq ((worldB_fine h).2.2.mob m hm)

theorem file_short (ev : Int) (css : List (List Cmd)) (k : Nat) (hk : k ≤ 60) (he : 1 ≤ ev ∧ ev ≤ 64) (h : ∀ cs ∈ css, cs.length ≤ 64 ∧ ∀ c ∈ cs, IntC c) : (fileAt ev css k).length ≤ 1000 + k * 15001 := by
  induction k with
  | zero =>
    have h1 := first_small ev he
    have h2 : (⟨(lineL (firstW ev)).toArray⟩ : ByteArray).size = (lineL (firstW ev)).length := by show (lineL (firstW ev)).toArray.size = _; simp
    have h3 := join_short (firstW ev) (by
      intro x hx
      simp only [firstW, List.mem_cons, List.not_mem_nil, or_false] at hx
      rcases hx with rfl | rfl
      · show (6 : Nat) ≤ 24; decide
      · exact itoaW_short ev (by omega))
    have h4 : (firstW ev).length = 2 := rfl
    rw [h4] at h3
    show (lineL (firstW ev)).length ≤ _
    unfold lineL
    simp only [List.length_append, List.length_cons, List.length_nil]
    omega
  | succ n ih =>
    have hw := mobsAt_world css (n + 1) (by omega)
    have hc : (css.getD n []).length ≤ 64 ∧ ∀ c ∈ css.getD n [], IntC c := by
      by_cases hn : n < css.length
      · rw [show css.getD n [] = css[n] from by simp [List.getD, hn]]
        exact h _ (List.getElem_mem hn)
      · rw [show css.getD n [] = [] from by simp [List.getD, List.getElem?_eq_none (show css.length ≤ n by omega)]]
        exact ⟨by simp, fun c hc => by cases hc⟩
    have := tick_short (css.getD n []) ((n : Int) + 1) (mobsAt css (n + 1)) ev hc.1 (worldB_fine hw).2.2.short hc.2 (mob_int hw)
    have := ih (by omega)
    show (fileAt ev css n ++ _).length ≤ _
    rw [List.length_append]
    omega
theorem file_pos (ev : Int) (css : List (List Cmd)) (k : Nat) : fileAt ev css k ≠ [] := by
  induction k with
  | zero => show lineL (firstW ev) ≠ []; unfold lineL; simp
  | succ n ih =>
    show fileAt ev css n ++ _ ≠ []
    simp [ih]

theorem Run.cells {w wr : World} {WS : List Wd} {g cap : Nat} (R : Run w wr WS (some ⟨g, 0, none⟩) cap) (i : Nat) (hi : i < WS.length) :
    g < wr.heap.size ∧ wr.cell? ⟨g, i * 2, none⟩ = some (.int .i64 WS[i].t) ∧ wr.cell? ⟨g, i * 2 + 1, none⟩ = some (.slice WS[i].p WS[i].L.length WS[i].cap) := by
  have h := fun j u hu => R.own.cells (g := g) rfl j u hu
  obtain ⟨r0, r1⟩ := rowW_get WS i hi
  have h0 := h _ _ r0
  have h1 := h _ _ r1
  rw [addr_add2, Nat.zero_add] at h0 h1
  exact ⟨(R.own.lt g rfl).2, h0, h1⟩
/-- What lies untouched. -/
theorem Run.keep {w wr w' : World} {S : Nat → Prop} {WS : List Wd} {g cap : Nat} (R : Run w wr WS (some ⟨g, 0, none⟩) cap) (k : Kept S wr w') (h1 : ∀ j, typ wr j 30 → ¬ S j) (h2 : ∀ j, typ wr j 45 → ¬ S j) (h3 : ∀ j, S j → w.heap.size ≤ j) : Run w w' WS (some ⟨g, 0, none⟩) cap :=
  ⟨owns_block R.own (fun j hj => k.block j (owns_lt R.own j hj) (h1 j (typ_own R.own j hj))), fun d hd => (R.ok d hd).keep k h2, R.tick, R.kept.join k (fun _ _ e => e) (fun j hj e => by have := h3 j e; omega)⟩
end Go.Proofs.YtgclehnhjjkdbaaDoor
