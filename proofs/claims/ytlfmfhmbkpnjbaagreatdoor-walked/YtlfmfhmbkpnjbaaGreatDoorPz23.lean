import Derived.Test.YtlfmfhmbkpnjbaaGreatDoorPz15
import Derived.Test.YtlfmfhmbkpnjbaaGreatDoorPz16
import Derived.Lib.AtoiAll
import Derived.Lib.Bytealg
import Derived.Test.YtlfmfhmbkpnjbaaGreatDoorPz1
import Derived.Test.YtlfmfhmbkpnjbaaGreatDoorRows
import Derived.Test.YtlfmfhmbkpnjbaaGreatDoorPz9
namespace Go.Proofs.YtlfmfhmbkpnjbaaGreatDoor
open Go.RowKit

/-- A text, cut at the first of a sign. -/
def cutL (c : UInt8) : List UInt8 → List UInt8 × List UInt8 × Bool
  | [] => ([], [], false)
  | x :: r => if x = c then ([], r, true) else (x :: (cutL c r).1, (cutL c r).2.1, (cutL c r).2.2)
theorem cutL_hit (c : UInt8) (a b : List UInt8) (h : c ∉ a) : cutL c (a ++ c :: b) = (a, b, true) := by
  induction a with
  | nil => simp [cutL]
  | cons x r ih =>
    have hx : ¬ x = c := fun e => h (by simp [e])
    have := ih (fun e => h (by simp [e]))
    simp only [List.cons_append, cutL, if_neg hx, this]
theorem cutL_miss (c : UInt8) (a : List UInt8) (h : c ∉ a) : cutL c a = (a, [], false) := by
  induction a with
  | nil => rfl
  | cons x r ih =>
    have hx : ¬ x = c := fun e => h (by simp [e])
    have := ih (fun e => h (by simp [e]))
    simp only [cutL, if_neg hx, this]
theorem cutL_short (c : UInt8) (s : List UInt8) : (cutL c s).1.length ≤ s.length ∧ (cutL c s).2.1.length ≤ s.length ∧ ((cutL c s).2.2 = true → (cutL c s).2.1.length < s.length) := by
  induction s with
  | nil => simp [cutL]
  | cons x r ih =>
    by_cases h : x = c
    · simp [cutL, h]
    · simp only [cutL, if_neg h, List.length_cons]
      refine ⟨by omega, by omega, fun e => ?_⟩
      have := ih.2.2 e
      omega
theorem cutL_index (c : UInt8) (s : List UInt8) : (Lib.indexByte s c = -1 ∧ cutL c s = (s, [], false)) ∨ ∃ i : Nat, Lib.indexByte s c = (i : Int) ∧ i < s.length ∧ cutL c s = (s.take i, s.drop (i + 1), true) := by
  induction s with
  | nil => exact Or.inl ⟨rfl, rfl⟩
  | cons x r ih =>
    by_cases h : x = c
    · refine Or.inr ⟨0, ?_, by simp, by simp [cutL, h]⟩
      simp [Lib.indexByte, h]
    · rcases ih with ⟨h1, h2⟩ | ⟨i, h1, h2, h3⟩
      · refine Or.inl ⟨?_, by simp [cutL, h, h2]⟩
        simp [Lib.indexByte, h, h1]
      · refine Or.inr ⟨i + 1, ?_, by simp; omega, by simp [cutL, h, h3]⟩
        have hb : (x == c) = false := by simp [h]
        have hi : ((i : Int) == -1) = false := by simp
        simp [Lib.indexByte, hb, h1, hi]

/-! Numbers. -/
theorem parse_app (l m : List UInt8) (a v : Nat) (h : Lib.parseUint10 a l = .ok v) : Lib.parseUint10 a (l ++ m) = Lib.parseUint10 v m := by
  induction l generalizing a with
  | nil =>
    simp only [Lib.parseUint10] at h
    injection h with h
    simp [h]
  | cons c r ih =>
    simp only [Lib.parseUint10] at h
    simp only [List.cons_append, Lib.parseUint10]
    split at h
    · rename_i h1
      rw [if_pos h1]
      split at h
      · cases h
      · rename_i h2
        rw [if_neg h2]
        split at h
        · cases h
        · rename_i h3
          rw [if_neg h3]
          exact ih _ h
    · cases h
theorem decs_form (u : Nat) : Lib.decDigits u = (if u < 10 then [] else Lib.decDigits (u / 10)) ++ [UInt8.ofNat (48 + u % 10)] := by
  by_cases h : u < 10
  · rw [Lib.decDigits, dif_pos h, if_pos h, Nat.mod_eq_of_lt h]; rfl
  · rw [Lib.decDigits, dif_neg h, if_neg h]
theorem dec_parse (u : Nat) (h : u < 18446744073709551616) : Lib.parseUint10 0 (Lib.decDigits u) = .ok u := by
  induction u using Nat.strongRecOn with
  | _ u ih =>
    have key : Lib.parseUint10 (u / 10) [UInt8.ofNat (48 + u % 10)] = .ok u := by
      have e : (UInt8.ofNat (48 + u % 10)).toNat = 48 + u % 10 := by rw [UInt8.toNat_ofNat']; omega
      simp only [Lib.parseUint10, e]
      rw [if_pos (by omega), if_neg (by omega), if_neg (by omega)]
      congr 1
      omega
    rw [decs_form u]
    by_cases hu : u < 10
    · rw [if_pos hu, List.nil_append]
      rw [show u / 10 = 0 by omega] at key
      exact key
    · rw [if_neg hu, parse_app _ _ _ _ (ih (u / 10) (by omega) (by omega))]
      exact key
theorem dec_first (u : Nat) : ∃ c r, Lib.decDigits u = c :: r ∧ 48 ≤ c.toNat := by
  induction u using Nat.strongRecOn with
  | _ u ih =>
    rw [decs_form u]
    by_cases hu : u < 10
    · rw [if_pos hu]
      exact ⟨_, _, rfl, by rw [UInt8.toNat_ofNat']; omega⟩
    · rw [if_neg hu]
      obtain ⟨c, r, h1, h2⟩ := ih (u / 10) (by omega)
      exact ⟨c, r ++ _, by rw [h1]; rfl, h2⟩
theorem atoi_neg (D : List UInt8) (u : Nat) (h : Lib.parseMag D = .ok u) (hu : u ≤ 9223372036854775808) : Lib.atoiAll (45 :: D) = .ok (-(u : Int)) := by
  have e45 : (45 : UInt8).toNat = 45 := rfl
  unfold Lib.atoiAll
  dsimp only
  rw [if_pos (Or.inr e45), h]
  dsimp only
  rw [if_neg (fun e => e.1 e45), if_neg (fun e => by omega), if_pos e45]
theorem atoi_pos (c : UInt8) (r : List UInt8) (u : Nat) (hc : 48 ≤ c.toNat) (h : Lib.parseMag (c :: r) = .ok u) (hu : u < 9223372036854775808) : Lib.atoiAll (c :: r) = .ok (u : Int) := by
  have h45 : ¬ c.toNat = 45 := by omega
  unfold Lib.atoiAll
  dsimp only
  rw [if_neg (by omega), h]
  dsimp only
  rw [if_neg (fun e => by omega), if_neg (fun e => h45 e.1), if_neg h45]
theorem atoi_itoa (n : Int) (h : -9223372036854775808 ≤ n ∧ n ≤ 9223372036854775807) : Lib.atoiAll (Lib.itoa n) = .ok n := by
  unfold Lib.itoa
  split
  · rename_i hn
    obtain ⟨c, r, e, _⟩ := dec_first n.natAbs
    have hp := dec_parse n.natAbs (by omega)
    have hm : Lib.parseMag (Lib.decDigits n.natAbs) = .ok n.natAbs := by unfold Lib.parseMag; rw [if_neg (by rw [e]; simp)]; exact hp
    have := atoi_neg _ _ hm (by omega)
    rw [this]
    congr 1
    omega
  · rename_i hn
    obtain ⟨c, r, e, hc⟩ := dec_first n.toNat
    have hp := dec_parse n.toNat (by omega)
    have hm : Lib.parseMag (Lib.decDigits n.toNat) = .ok n.toNat := by unfold Lib.parseMag; rw [if_neg (by rw [e]; simp)]; exact hp
    rw [e] at hm ⊢
    have := atoi_pos _ _ _ hc hm (by omega)
    rw [this]
    congr 1
    omega

/-- A word as a number, if it is just as one is written. -/
def numL (x : List UInt8) : Option Int :=
  match Lib.atoiAll x with
  | .ok n => if Lib.itoa n = x then some n else none
  | _ => none
theorem numL_itoa (n : Int) (h : -9223372036854775808 ≤ n ∧ n ≤ 9223372036854775807) : numL (Lib.itoa n) = some n := by simp [numL, atoi_itoa n h]

/-- A sign of a number at base 16. -/
def hexD (c : Nat) : Option Nat :=
  if 48 ≤ c ∧ c ≤ 57 then some (c - 48) else if 97 ≤ c ∧ c ≤ 102 then some (c - 87) else if 65 ≤ c ∧ c ≤ 70 then some (c - 55) else none
def hexA (a : Nat) : List UInt8 → Option Nat
  | [] => some a
  | c :: r => match hexD c.toNat with
    | some d => if 4294967296 ≤ a * 16 + d then none else hexA (a * 16 + d) r
    | none => none
/-- A word as the bits of a number with a point, if it is just as one is written. -/
def bitsL (x : List UInt8) : Option Nat :=
  if x = [] then none else match hexA 0 x with
  | some u => if hexL u = x then some u else none
  | none => none
theorem hexA_app (l m : List UInt8) (a v : Nat) (h : hexA a l = some v) : hexA a (l ++ m) = hexA v m := by
  induction l generalizing a with
  | nil =>
    simp only [hexA] at h
    injection h with h
    simp [h]
  | cons c r ih =>
    simp only [hexA] at h
    simp only [List.cons_append, hexA]
    split at h
    · split at h
      · cases h
      · rename_i h2
        rw [if_neg h2]
        exact ih _ h
    · cases h
theorem hexA_lt (l : List UInt8) (a v : Nat) (ha : a < 4294967296) (h : hexA a l = some v) : v < 4294967296 := by
  induction l generalizing a with
  | nil =>
    simp only [hexA] at h
    injection h with h
    omega
  | cons c r ih =>
    simp only [hexA] at h
    split at h
    · split at h
      · cases h
      · exact ih _ (by omega) h
    · cases h
theorem hexD_hexc : ∀ d : Fin 16, hexD (hexc d.val).toNat = some d.val := by decide
theorem hexs_form (u : Nat) : hexL u = (if u < 16 then [] else hexL (u / 16)) ++ [hexc (u % 16)] := by
  by_cases h : u < 16
  · rw [hexL_one h, if_pos h, Nat.mod_eq_of_lt h]; rfl
  · rw [hexL_more h, if_neg h]
theorem hex_parse (u : Nat) (h : u < 4294967296) : hexA 0 (hexL u) = some u := by
  induction u using Nat.strongRecOn with
  | _ u ih =>
    have key : hexA (u / 16) [hexc (u % 16)] = some u := by
      have e := hexD_hexc ⟨u % 16, Nat.mod_lt _ (by decide)⟩
      simp only at e
      simp only [hexA, e]
      rw [if_neg (by omega)]
      congr 1
      omega
    rw [hexs_form u]
    by_cases hu : u < 16
    · rw [if_pos hu, List.nil_append]
      rw [show u / 16 = 0 by omega] at key
      exact key
    · rw [if_neg hu, hexA_app _ _ _ _ (ih (u / 16) (by omega) (by omega))]
      exact key
theorem bitsL_hex (u : Nat) (h : u < 4294967296) : bitsL (hexL u) = some u := by
  have hne : hexL u ≠ [] := by rw [hexs_form]; simp
  simp [bitsL, hne, hex_parse u h]

/-! A reader. -/
structure Rd where
  rest : List UInt8
  over : Bool
  broken : Bool
def Rd.bad (r : Rd) : Rd := ⟨r.rest, r.over, true⟩
def Rd.word (r : Rd) : List UInt8 × Rd :=
  if r.over = true then ([], ⟨r.rest, true, true⟩) else ((cutL 32 r.rest).1, ⟨(cutL 32 r.rest).2.1, !(cutL 32 r.rest).2.2, r.broken⟩)
def Rd.int (r : Rd) (lo hi : Int) : Int × Rd :=
  match numL r.word.1 with
  | some n => if lo ≤ n ∧ n ≤ hi then (n, r.word.2) else (0, r.word.2.bad)
  | none => (0, r.word.2.bad)
def Rd.any (r : Rd) : Int × Rd := r.int (-9223372036854775808) 9223372036854775807
def Rd.flt (r : Rd) : Nat × Rd :=
  match bitsL r.word.1 with
  | some u => (u, r.word.2)
  | none => (0, r.word.2.bad)
def Rd.cmd (r : Rd) : Cmd × Rd :=
  if r.any.1 = 1 then (⟨1, r.any.2.any.1, r.any.2.any.2.any.1, r.any.2.any.2.any.2.flt.1, r.any.2.any.2.any.2.flt.2.flt.1, 0⟩, r.any.2.any.2.any.2.flt.2.flt.2)
  else if r.any.1 = 2 then (⟨2, r.any.2.any.1, 0, r.any.2.any.2.flt.1, r.any.2.any.2.flt.2.flt.1, 0⟩, r.any.2.any.2.flt.2.flt.2)
  else if r.any.1 = 3 then (⟨3, r.any.2.any.1, 0, 0, 0, r.any.2.any.2.any.1⟩, r.any.2.any.2.any.2)
  else if r.any.1 = 4 then (⟨4, r.any.2.any.1, 0, 0, 0, 0⟩, r.any.2.any.2)
  else (⟨r.any.1, 0, 0, 0, 0, 0⟩, r.any.2)
def Rd.cmds (r : Rd) : Nat → List Cmd × Rd
  | 0 => ([], r)
  | k + 1 => ((r.cmds k).1 ++ [(r.cmds k).2.cmd.1], (r.cmds k).2.cmd.2)
def Rd.ent (r : Rd) : Mob × Rd :=
  (⟨r.any.1, r.any.2.any.1, r.any.2.any.2.flt.1, r.any.2.any.2.flt.2.flt.1, r.any.2.any.2.flt.2.flt.2.flt.1, r.any.2.any.2.flt.2.flt.2.flt.2.flt.1, r.any.2.any.2.flt.2.flt.2.flt.2.flt.2.any.1⟩,
    r.any.2.any.2.flt.2.flt.2.flt.2.flt.2.any.2)
def Rd.ents (r : Rd) : Nat → List Mob × Rd
  | 0 => ([], r)
  | k + 1 => ((r.ents k).1 ++ [(r.ents k).2.ent.1], (r.ents k).2.ent.2)
def Rd.cmdL (r : Rd) : List Cmd × Rd := (r.int 0 64).2.cmds (r.int 0 64).1.toNat
def Rd.entL (r : Rd) : List Mob × Rd := (r.int 0 32).2.ents (r.int 0 32).1.toNat
def Rd.done (r : Rd) : Bool := r.over && !r.broken
def Rd.of (l : List UInt8) : Rd := ⟨l, false, false⟩

/-- What a file tells. -/
structure Mt where
  ev : Nat
  cmds : List (List Cmd)
  whole : List (List Mob)
open Classical in
noncomputable def Mt.add (m : Mt) (l : List UInt8) : Option Mt :=
  if 500 ≤ m.cmds.length then none
  else if (m.cmds.length + 1) % m.ev = 0 then
    if worldB ((m.cmds.length : Int) + 1) (Rd.of l).cmdL.2.entL.1 = true ∧ (Rd.of l).cmdL.2.entL.2.done = true then some ⟨m.ev, m.cmds ++ [(Rd.of l).cmdL.1], m.whole ++ [(Rd.of l).cmdL.2.entL.1]⟩ else none
  else if (Rd.of l).cmdL.2.done = true then some ⟨m.ev, m.cmds ++ [(Rd.of l).cmdL.1], m.whole⟩ else none
noncomputable def Mt.adds (m : Mt) : List (List UInt8) → Option Mt
  | [] => some m
  | l :: r => match m.add l with
    | some m' => m'.adds r
    | none => none
/-- The lines that have their end. -/
def linesL (a : List UInt8) : List UInt8 → List (List UInt8)
  | [] => []
  | x :: r => if x = 10 then a :: linesL [] r else linesL (a ++ [x]) r
def encoreL : List UInt8 := [101, 110, 99, 111, 114, 101]
def everyL (l : List UInt8) : Option Nat :=
  if (Rd.of l).word.1 = encoreL ∧ ((Rd.of l).word.2.int 1 64).2.done = true then some ((Rd.of l).word.2.int 1 64).1.toNat else none
noncomputable def matchL (s : List UInt8) : Option Mt :=
  match linesL [] s with
  | [] => none
  | f :: r => match everyL f with
    | some ev => (Mt.mk ev [] [[]]).adds r
    | none => none

/-- The world at a tick. -/
noncomputable def fromM (css : List (List Cmd)) (b : Nat) (L : List Mob) : Nat → List Mob
  | 0 => L
  | k + 1 => stepL (css.getD (b + k) []) (fromM css b L k)
noncomputable def Mt.at (m : Mt) (t : Nat) : List Mob := fromM m.cmds (t / m.ev * m.ev) (m.whole.getD (t / m.ev) []) (t % m.ev)

/-- A match that can be played. -/
structure Mt.Ok (m : Mt) : Prop where
  ev : 1 ≤ m.ev ∧ m.ev ≤ 64
  len : m.cmds.length ≤ 500
  cmds : ∀ cs ∈ m.cmds, cs.length ≤ 64
  count : m.whole.length = m.cmds.length / m.ev + 1
  good : ∀ k (h : k < m.whole.length), worldB ((k * m.ev : Nat) : Int) m.whole[k] = true
theorem int_bounds (r : Rd) (lo hi : Int) (h : lo ≤ 0 ∧ 0 ≤ hi) : lo ≤ (r.int lo hi).1 ∧ (r.int lo hi).1 ≤ hi := by
  unfold Rd.int
  split
  · split
    · assumption
    · exact h
  · exact h
theorem cmds_length (r : Rd) (k : Nat) : (r.cmds k).1.length = k := by
  induction k with
  | zero => rfl
  | succ n ih => simp [Rd.cmds, ih]
theorem ents_length (r : Rd) (k : Nat) : (r.ents k).1.length = k := by
  induction k with
  | zero => rfl
  | succ n ih => simp [Rd.ents, ih]
theorem cmdL_short (r : Rd) : r.cmdL.1.length ≤ 64 := by
  have := int_bounds r 0 64 (by omega)
  unfold Rd.cmdL
  rw [cmds_length]
  omega
theorem Mt.add_ok {m m' : Mt} {l : List UInt8} (h : m.Ok) (ha : m.add l = some m') : m'.Ok ∧ m'.ev = m.ev ∧ m'.cmds.length = m.cmds.length + 1 := by
  have hev := h.ev
  unfold Mt.add at ha
  split at ha
  · cases ha
  · rename_i hl
    have hdiv : ∀ q, m.cmds.length / m.ev = q → (m.cmds.length + 1) / m.ev = if (m.cmds.length + 1) % m.ev = 0 then q + 1 else q := by
      intro q hq
      rw [Nat.succ_div]
      simp only [Nat.dvd_iff_mod_eq_zero, hq]
      split <;> rfl
    split at ha
    · rename_i h0
      split at ha
      · rename_i hw
        injection ha with ha
        subst ha
        refine ⟨⟨h.ev, by simp; omega, ?_, ?_, ?_⟩, rfl, by simp⟩
        · intro cs hc
          rcases List.mem_append.1 hc with hc | hc
          · exact h.cmds cs hc
          · simp only [List.mem_cons, List.not_mem_nil, or_false] at hc
            subst hc
            exact cmdL_short _
        · simp only [List.length_append, List.length_cons, List.length_nil, Nat.zero_add]
          rw [hdiv _ rfl, if_pos h0, h.count]
        · intro k hk
          simp only [List.length_append, List.length_cons, List.length_nil, Nat.zero_add] at hk
          by_cases hk' : k < m.whole.length
          · simp only [List.getElem_append_left hk']
            exact h.good k hk'
          · obtain rfl : k = m.whole.length := by omega
            simp only [List.getElem_append_right (Nat.le_refl _), Nat.sub_self, List.getElem_cons_zero]
            rw [show ((m.whole.length * m.ev : Nat) : Int) = (m.cmds.length : Int) + 1 from ?_]
            · exact hw.1
            · have := Nat.div_add_mod (m.cmds.length + 1) m.ev
              rw [h0, hdiv _ rfl, if_pos h0, Nat.mul_comm] at this
              rw [h.count]
              omega
      · cases ha
    · rename_i h0
      split at ha
      · injection ha with ha
        subst ha
        refine ⟨⟨h.ev, by simp; omega, ?_, ?_, h.good⟩, rfl, by simp⟩
        · intro cs hc
          rcases List.mem_append.1 hc with hc | hc
          · exact h.cmds cs hc
          · simp only [List.mem_cons, List.not_mem_nil, or_false] at hc
            subst hc
            exact cmdL_short _
        · simp only [List.length_append, List.length_cons, List.length_nil, Nat.zero_add]
          rw [hdiv _ rfl, if_neg h0, h.count]
      · cases ha
end Go.Proofs.YtlfmfhmbkpnjbaaGreatDoor

namespace Go.Proofs.YtlfmfhmbkpnjbaaGreatDoor
open Go.RowKit
/-- Which of m things a raw number speaks of. -/
def pickN_keep (c : Int) (m : Nat) : Nat := ((if c < 0 then -(c + 1) else c).tmod m).toNat

theorem pickN_lt_keep (c : Int) (m : Nat) (hm : 0 < m) : pickN_keep c m < m := by
  have h0 : 0 ≤ (if c < 0 then -(c + 1) else c) := by split <;> omega
  have h1 := Int.tmod_lt_of_pos (if c < 0 then -(c + 1) else c) (show (0 : Int) < m by omega)
  have h2 := Int.tmod_nonneg (m : Int) h0
  unfold pickN_keep
  omega

theorem pickN_cast_keep (c : Int) (m : Nat) : ((pickN_keep c m : Nat) : Int) = (if c < 0 then -(c + 1) else c).tmod m := by
  have h0 : 0 ≤ (if c < 0 then -(c + 1) else c) := by split <;> omega
  have h2 := Int.tmod_nonneg (m : Int) h0
  unfold pickN_keep
  omega

set_option maxHeartbeats 400000 in
theorem pick_keep (c M : Int) (m : Nat) (w : World) (h1 : -9223372036854775808 ≤ c) (h2 : c ≤ 9223372036854775807) (hM : M = m) (hm : 0 < m) (hm2 : m ≤ 1000000000) :
    Calls Tryz.prog 10 #[.int .i64 c, .int .i64 M] w fun e w' => e = .returned (.int .i64 (pickN_keep c m)) ∧ w' = w := by
  subst hM
  have hp := hide (pickN_cast_keep c m)
  have hm0 : ((m : Int) == 0) = false := by simp; omega
  by_cases hc : c < 0
  · go_enter Tryz.func10, Tryz.ntmps10
    go_wp2
    go_ret
    refine ⟨ret1 ?_, rfl⟩
    show Value.int .i64 (-((c + 1).tmod m)) = _
    rw [hp.out, if_pos hc, Int.neg_tmod]
  · go_enter Tryz.func10, Tryz.ntmps10
    go_wp2
    go_ret
    refine ⟨ret1 ?_, rfl⟩
    show Value.int .i64 (c % m) = _
    rw [hp.out, if_neg (by omega), Int.tmod_eq_emod_of_nonneg hc]
end Go.Proofs.YtlfmfhmbkpnjbaaGreatDoor

namespace Go.Proofs.YtlfmfhmbkpnjbaaGreatDoor
open Go.RowKit

set_option maxHeartbeats 400000 in
theorem raw_c (p : Option Addr) (n cap i : Nat) (w : World) (h : RI w p n) :
    Calls Tryz.prog 65 #[.slice p n cap, .int .i64 i] w fun e w' => ∃ r, I64 r ∧ e = .returned (.int .i64 r) ∧ w' = w := by
  by_cases hi : i < n
  · obtain ⟨b, off, rfl, _, h3⟩ := h (by omega)
    obtain ⟨z, q1, q2⟩ := h3 i hi
    have Q1 := hide q1
    clear h3 h q1
    have hb1 : (0 : Int) ≤ (i : Int) := by omega
    have hb2 : (i : Int) < (n : Int) := by omega
    go_enter Tryz.func65, Tryz.ntmps65
    go_wp2
    go_ret
    exact ⟨z, Q1.out, rfl, rfl⟩
  · clear h
    go_enter Tryz.func65, Tryz.ntmps65
    go_wp2
    go_ret
    exact ⟨0, by unfold I64; omega, rfl, rfl⟩

theorem pickn_c (c M : Int) (m : Nat) (w : World) (h : -9223372036854775808 ≤ c ∧ c ≤ 9223372036854775807) (hM : M = m) (hm : 0 < m) (hm2 : m ≤ 1000000000) :
    Calls Tryz.prog 10 #[.int .i64 c, .int .i64 M] w fun e w' => ∃ k : Nat, k < m ∧ e = .returned (.int .i64 k) ∧ w' = w :=
  (pick_keep c M m w h.1 h.2 hM hm hm2).mono fun _ _ ⟨h1, h2⟩ => ⟨_, pickN_lt_keep c m hm, h1, h2⟩

set_option maxHeartbeats 2000000 in
set_option maxRecDepth 100000 in
theorem command_c (p : Option Addr) (n cap i : Nat) (w : World) (hi : i ≤ 1000) (h : RI w p n) :
    Calls Tryz.prog 38 #[.slice p n cap, .int .i64 i] w fun e w' => ∃ c : Cmd, e = .returned (.agg #[.int .i64 c.kind, .int .i64 c.id, .int .i64 c.team, .float .f32 c.x, .float .f32 c.y, .int .i64 c.n]) ∧ Kept (fun _ => False) w w' := by
  have H := hide h
  have hsf := store_float Tryz.prog
  have K0 := hide (Kept.alloc w (.cells #[.int .i64 0, .int .i64 0, .int .i64 0, .float .f32 0, .float .f32 0, .int .i64 0] 57))
  clear h
  go_enter Tryz.func38, Tryz.ntmps38
  go_wp2_with fail
  refine (raw_c p n cap i _ (H.out.calm K0.out)).mono ?_
  rintro e w1 ⟨a, ha, rfl, rfl⟩
  have d0 : -9223372036854775808 ≤ a ∧ a ≤ 9223372036854775807 := ha
  have d4 : -9223372036854775808 ≤ a.tdiv 4 ∧ a.tdiv 4 ≤ 9223372036854775807 := i64_tdiv ha 4 (by decide)
  have d24 : -9223372036854775808 ≤ a.tdiv 24 ∧ a.tdiv 24 ≤ 9223372036854775807 := i64_tdiv ha 24 (by decide)
  have d48 : -9223372036854775808 ≤ a.tdiv 48 ∧ a.tdiv 48 ≤ 9223372036854775807 := i64_tdiv ha 48 (by decide)
  have d7 : -9223372036854775808 ≤ a.tdiv 7 ∧ a.tdiv 7 ≤ 9223372036854775807 := i64_tdiv ha 7 (by decide)
  go_wp2_with fail
  refine (pickn_c a 4 4 _ d0 rfl (by decide) (by decide)).mono ?_
  rintro e w1 ⟨k1, lk1, rfl, rfl⟩
  go_wp2_with fail
  refine (pickn_c (a.tdiv 4) 6 6 _ d4 rfl (by decide) (by decide)).mono ?_
  rintro e w1 ⟨k2, lk2, rfl, rfl⟩
  go_wp2_with fail
  refine (pickn_c (a.tdiv 24) 2 2 _ d24 rfl (by decide) (by decide)).mono ?_
  rintro e w1 ⟨k3, lk3, rfl, rfl⟩
  go_wp2_with fail
  refine (pickn_c (a.tdiv 48) 40 40 _ d48 rfl (by decide) (by decide)).mono ?_
  rintro e w1 ⟨k4, lk4, rfl, rfl⟩
  have K1 := hide (K0.out.calm2 (Kept.alloc _ (.cells #[.int .i64 (1 + (k1 : Int)), .int .i64 (k2 : Int), .int .i64 (k3 : Int), .float .f32 0, .float .f32 0, .int .i64 (1 + (k4 : Int))] 57)))
  clear d4 d24 d48
  go_wp2_with fail
  rw [show ((i : Int) + 1) = ((i + 1 : Nat) : Int) from rfl]
  refine (raw_c p n cap (i + 1) _ (H.out.calm K1.out)).mono ?_
  rintro e w1 ⟨a1, ha1, rfl, rfl⟩
  have d1 : -9223372036854775808 ≤ a1 ∧ a1 ≤ 9223372036854775807 := ha1
  go_wp2_with fail
  refine (pickn_c a1 201 201 _ d1 rfl (by decide) (by decide)).mono ?_
  rintro e w1 ⟨k5, l5, rfl, rfl⟩
  have hx := ok_int ((k5 : Int) - 100)
  go_wp2_with fail
  generalize floatOfInt .f32 ((k5 : Int) - 100) = x5 at *
  rw [show ((i : Int) + 2) = ((i + 2 : Nat) : Int) from rfl]
  refine (raw_c p n cap (i + 2) _ (H.out.calm (K0.out.calm2 (Kept.alloc _ _)))).mono ?_
  rintro e w1 ⟨a2, ha2, rfl, rfl⟩
  have d2 : -9223372036854775808 ≤ a2 ∧ a2 ≤ 9223372036854775807 := ha2
  go_wp2_with fail
  refine (pickn_c a2 201 201 _ d2 rfl (by decide) (by decide)).mono ?_
  rintro e w1 ⟨k6, l6, rfl, rfl⟩
  have hy := ok_int ((k6 : Int) - 100)
  go_wp2_with fail
  generalize floatOfInt .f32 ((k6 : Int) - 100) = y5 at *
  refine (pickn_c (a.tdiv 7) 5 5 _ d7 rfl (by decide) (by decide)).mono ?_
  rintro e w1 ⟨k7, l7, rfl, rfl⟩
  have r1 : ∀ w, (binOp .mul 55 (.float .f32 x5) (.float .f32 1092616192)).run Tryz.prog w = .ok (.float .f32 (fmul x5 1092616192)) w := fun w => run_float_arith w .mul _ .f32 _ _ _ (fmul_ok hx ten_pos).1
  have r2 : ∀ w, (binOp .mul 55 (.float .f32 y5) (.float .f32 1092616192)).run Tryz.prog w = .ok (.float .f32 (fmul y5 1092616192)) w := fun w => run_float_arith w .mul _ .f32 _ _ _ (fmul_ok hy ten_pos).1
  clear hx hy d1 d2 d7 K1
  by_cases h7 : k7 = 0
  · subst h7
    go_wp2
    refine bodyPost_ret (v := .agg #[.int .i64 (1 + (k1 : Int)), .int .i64 (k2 : Int), .int .i64 (k3 : Int), .float .f32 (fmul x5 1092616192), .float .f32 (fmul y5 1092616192), .int .i64 (1 + (k4 : Int))]) (by simp [results, Tryz.results38, go_sem]) rfl ?_
    exact ⟨⟨1 + (k1 : Int), k2, k3, (fmul x5 1092616192), (fmul y5 1092616192), 1 + (k4 : Int)⟩, rfl, (Kept.alloc w _).calm2 (Kept.alloc _ _)⟩
  · have h7' : ((k7 : Int) == 0) = false := by simp; omega
    go_wp2
    refine bodyPost_ret (v := .agg #[.int .i64 (1 + (k1 : Int)), .int .i64 (k2 : Int), .int .i64 (k3 : Int), .float .f32 x5, .float .f32 y5, .int .i64 (1 + (k4 : Int))]) (by simp [results, Tryz.results38, go_sem]) rfl ?_
    exact ⟨⟨1 + (k1 : Int), k2, k3, x5, y5, 1 + (k4 : Int)⟩, rfl, (Kept.alloc w _).calm2 (Kept.alloc _ _)⟩

set_option maxHeartbeats 2000000 in
set_option maxRecDepth 100000 in
theorem commands_c (q : Option Addr) (n capq : Nat) (w : World) (hn : (n : Int) ≤ 9223372036854775807) (h : RI w q n) :
    Calls Tryz.prog 21 #[.slice q n capq] w fun e w' => ∃ p cap, ∃ cs : List Cmd, cs.length ≤ 64 ∧ e = .returned (.slice p cs.length cap) ∧ w'.ownsRow w.heap.size 57 6 (.slice p cs.length cap) cs.length (rowC cs) ∧ Kept (fun _ => False) w w' := by
  obtain ⟨i0, hi, hz0, hz1, hz2⟩ := info_parts info_cmd
  have H := hide h
  have hsf := store_float Tryz.prog
  clear h
  go_enter Tryz.func21, Tryz.ntmps21
  go_wp2
  go_loopw [3, 4] (fun s t wr => ∃ p cap, ∃ cs : List Cmd, cs.length ≤ 64 ∧ s = .slice p cs.length cap ∧ t = .int .i64 ((3 * cs.length : Nat) : Int) ∧ Hid (wr.ownsRow w.heap.size 57 6 (.slice p cs.length cap) cs.length (rowC cs)) ∧ Hid (Kept (fun _ => False) w wr)) (fun _ t _ => 1000 - (intOf t).toNat)
  case atStart => exact ⟨none, 0, [], by decide, rfl, rfl, ⟨rfl, Or.inl ⟨rfl, rfl⟩⟩, Kept.refl _ _⟩
  case round =>
    obtain ⟨p, cap, cs, hcs, rfl, rfl, HO, HK⟩ := hrel
    generalize hk : 3 * cs.length = k at *
    by_cases hlt : k < n
    · have hb2 : ((k : Nat) : Int) < (n : Int) := by omega
      by_cases h64 : cs.length < 64
      · have hb3 : ((cs.length : Nat) : Int) < 64 := by omega
        go_wp2_with fail
        refine (command_c q n capq k _ (by omega) (H.out.calm HK.out)).mono ?_
        rintro e w1 ⟨c, rfl, q1⟩
        have K1 := hide (HK.out.calm2 q1)
        have O1 := hide (owns_block HO.out (fun g hg => by exact q1.block g (owns_lt HO.out g hg) (fun e => e)))
        have hbase := (HK.out.calm2 q1).size
        clear q1
        go_wp2_with (at_builtin; refine wpList_append_at _ rfl (.tmp 20) (.tmp 22) 52 rfl w.heap.size 57 i0 (.agg #[.int .i64 0, .int .i64 0, .int .i64 0, .float .f32 0, .float .f32 0, .int .i64 0]) 6 40 Tryz.underlying52 hi hz0 hz1 hz2 rfl (by decide) _ _ _ rfl ((O1.out.alloc _).alloc _) ⟨w1.heap.size + 1, 0, none⟩ 1 1 (rowC [c]) rfl rfl ?c1 (rowC_one [c]) (by decide) ?c3 ?c4 ?c5 ?_)
        case c1 => exact new_cells (w1.alloc (.cells #[.int .i64 c.kind, .int .i64 c.id, .int .i64 c.team, .float .f32 c.x, .float .f32 c.y, .int .i64 c.n] 57)) (rowC [c]) 57 (w1.heap.size + 1) (by simp)
        case c3 => unfold maxLen; omega
        case c4 => omega
        case c5 => simp; omega
        intro g cap' w2 hown hgr
        have O2 : Hid (w2.ownsRow w.heap.size 57 6 (.slice (some ⟨g, 0, none⟩) (cs ++ [c]).length cap') (cs ++ [c]).length (rowC (cs ++ [c]))) := by
          rw [rowC_append, List.length_append]; exact hown
        have K2 : Hid (Kept (fun _ => False) w w2) := by
          refine ((K1.out.calm2 (Kept.alloc w1 _)).calm2 (Kept.alloc _ _)).join (Kept.of_grown hgr) (fun _ _ e => e) (fun j hj e => ?_)
          have := (O1.out.lt j e.symm).1
          omega
        clear hown hgr O1 HO HK K1
        go_wp2
        go_roundw
        case rel => exact ⟨some ⟨g, 0, none⟩, cap', cs ++ [c], by simp; omega, by simp, by simp; omega, O2, K2⟩
        case measure => simp [intOf]; omega
      · have hb3 : ¬ ((cs.length : Nat) : Int) < 64 := by omega
        go_wp2
        go_ret
        exact ⟨p, cap, cs, hcs, rfl, HO.out, HK.out⟩
    · have hb2 : ¬ ((k : Nat) : Int) < (n : Int) := by omega
      go_wp2
      go_ret
      exact ⟨p, cap, cs, hcs, rfl, HO.out, HK.out⟩
end Go.Proofs.YtlfmfhmbkpnjbaaGreatDoor

namespace Go.Proofs.YtlfmfhmbkpnjbaaGreatDoor
open Go.RowKit

/-- A list of raw numbers, just these. -/
def RZ (w : World) (p : Option Addr) (zs : List Int) : Prop :=
  zs ≠ [] → ∃ b off, p = some ⟨b, off, none⟩ ∧ b < w.heap.size ∧ ∀ j z, zs[j]? = some z → I64 z ∧ w.cell? ⟨b, off + j, none⟩ = some (.int .i64 z)
theorem RZ.keep {w w' : World} {S : Nat → Prop} {p : Option Addr} {zs : List Int} (h : RZ w p zs) (hk : Kept S w w') (hS : ∀ b, b < w.heap.size → ¬ S b) : RZ w' p zs := by
  intro hn
  obtain ⟨b, off, h1, h2, h3⟩ := h hn
  refine ⟨b, off, h1, Nat.lt_of_lt_of_le h2 hk.size, fun j z hj => ?_⟩
  obtain ⟨q1, q2⟩ := h3 j z hj
  exact ⟨q1, by rw [cell_keep hk h2 (hS b h2)]; exact q2⟩
theorem RZ.calm {w w' : World} {p : Option Addr} {zs : List Int} (h : RZ w p zs) (hk : Kept (fun _ => False) w w') : RZ w' p zs := h.keep hk (fun _ _ e => e)

def rawZ (zs : List Int) (i : Nat) : Int := zs.getD i 0
theorem rawZ_i64 {w : World} {p : Option Addr} {zs : List Int} (h : RZ w p zs) (i : Nat) : I64 (rawZ zs i) := by
  unfold rawZ
  by_cases hi : i < zs.length
  · obtain ⟨b, off, _, _, h3⟩ := h (by intro e; subst e; simp at hi)
    have := (h3 i zs[i] (by simp [hi])).1
    simpa [List.getD, hi] using this
  · simp only [List.getD, List.getElem?_eq_none (show zs.length ≤ i by omega), Option.getD_none]
    unfold I64; omega

set_option maxHeartbeats 400000 in
theorem raw_e (p : Option Addr) (zs : List Int) (cap i : Nat) (w : World) (h : RZ w p zs) :
    Calls Tryz.prog 65 #[.slice p zs.length cap, .int .i64 i] w fun e w' => e = .returned (.int .i64 (rawZ zs i)) ∧ w' = w := by
  by_cases hi : i < zs.length
  · obtain ⟨b, off, rfl, _, h3⟩ := h (by intro e; subst e; simp at hi)
    obtain ⟨-, q2⟩ := h3 i zs[i] (by simp [hi])
    have HZ : Hid (rawZ zs i = zs[i]) := by show _ = _; simp [rawZ, List.getD, hi]
    clear h3 h
    have hb1 : (0 : Int) ≤ (i : Int) := by omega
    have hb2 : (i : Int) < (zs.length : Int) := by omega
    go_enter Tryz.func65, Tryz.ntmps65
    go_wp2
    go_ret
    exact ⟨ret1 (by rw [HZ.out]; rfl), rfl⟩
  · have HZ : Hid (rawZ zs i = 0) := by show _ = _; simp only [rawZ, List.getD, List.getElem?_eq_none (show zs.length ≤ i by omega), Option.getD_none]
    clear h
    go_enter Tryz.func65, Tryz.ntmps65
    go_wp2
    go_ret
    exact ⟨ret1 (by rw [HZ.out]; rfl), rfl⟩

theorem picke_c (c M : Int) (m : Nat) (w : World) (h : -9223372036854775808 ≤ c ∧ c ≤ 9223372036854775807) (hM : M = m) (hm : 0 < m) (hm2 : m ≤ 1000000000) :
    Calls Tryz.prog 10 #[.int .i64 c, .int .i64 M] w fun e w' => e = .returned (.int .i64 (pickN_keep c m)) ∧ w' = w := pick_keep c M m w h.1 h.2 hM hm hm2

/-- A command out of raw numbers. -/
def wayOf (z : Int) : Nat := floatOfInt .f32 ((pickN_keep z 201 : Int) - 100)
noncomputable def cmdOf (zs : List Int) (i : Nat) : Cmd :=
  if pickN_keep ((rawZ zs i).tdiv 7) 5 = 0 then { kind := 1 + (pickN_keep (rawZ zs i) 4 : Int), id := pickN_keep ((rawZ zs i).tdiv 4) 6, team := pickN_keep ((rawZ zs i).tdiv 24) 2, x := fmul (wayOf (rawZ zs (i + 1))) 1092616192, y := fmul (wayOf (rawZ zs (i + 2))) 1092616192, n := 1 + (pickN_keep ((rawZ zs i).tdiv 48) 40 : Int) }
  else { kind := 1 + (pickN_keep (rawZ zs i) 4 : Int), id := pickN_keep ((rawZ zs i).tdiv 4) 6, team := pickN_keep ((rawZ zs i).tdiv 24) 2, x := wayOf (rawZ zs (i + 1)), y := wayOf (rawZ zs (i + 2)), n := 1 + (pickN_keep ((rawZ zs i).tdiv 48) 40 : Int) }
noncomputable def cmdsOf (zs : List Int) : List Cmd := (List.range (min 64 ((zs.length + 2) / 3))).map (fun k => cmdOf zs (3 * k))

set_option maxHeartbeats 2000000 in
set_option maxRecDepth 100000 in
theorem command_e (p : Option Addr) (zs : List Int) (cap i : Nat) (w : World) (hi : i ≤ 1000) (h : RZ w p zs) :
    Calls Tryz.prog 38 #[.slice p zs.length cap, .int .i64 i] w fun e w' => e = .returned (.agg #[.int .i64 (cmdOf zs i).kind, .int .i64 (cmdOf zs i).id, .int .i64 (cmdOf zs i).team, .float .f32 (cmdOf zs i).x, .float .f32 (cmdOf zs i).y, .int .i64 (cmdOf zs i).n]) ∧ Kept (fun _ => False) w w' := by
  have H := hide h
  have hsf := store_float Tryz.prog
  have K0 := hide (Kept.alloc w (.cells #[.int .i64 0, .int .i64 0, .int .i64 0, .float .f32 0, .float .f32 0, .int .i64 0] 57))
  clear h
  go_enter Tryz.func38, Tryz.ntmps38
  go_wp2_with fail
  refine (raw_e p zs cap i _ (H.out.calm K0.out)).mono ?_
  rintro e w1 ⟨rfl, rfl⟩
  have ha := rawZ_i64 H.out i
  have hi1 := rawZ_i64 H.out (i + 1)
  have hi2 := rawZ_i64 H.out (i + 2)
  have HCO : Hid (cmdOf zs i = cmdOf zs i) := rfl
  unfold cmdOf wayOf at HCO
  generalize hza : rawZ zs i = a at *
  generalize hz1 : rawZ zs (i + 1) = a1 at *
  generalize hz2 : rawZ zs (i + 2) = a2 at *
  have HZA := hide hza
  have HZ1 := hide hz1
  have HZ2 := hide hz2
  clear hza hz1 hz2 HCO
  have d0 : -9223372036854775808 ≤ a ∧ a ≤ 9223372036854775807 := ha
  have d4 : -9223372036854775808 ≤ a.tdiv 4 ∧ a.tdiv 4 ≤ 9223372036854775807 := i64_tdiv ha 4 (by decide)
  have d24 : -9223372036854775808 ≤ a.tdiv 24 ∧ a.tdiv 24 ≤ 9223372036854775807 := i64_tdiv ha 24 (by decide)
  have d48 : -9223372036854775808 ≤ a.tdiv 48 ∧ a.tdiv 48 ≤ 9223372036854775807 := i64_tdiv ha 48 (by decide)
  have d7 : -9223372036854775808 ≤ a.tdiv 7 ∧ a.tdiv 7 ≤ 9223372036854775807 := i64_tdiv ha 7 (by decide)
  go_wp2_with fail
  refine (picke_c a 4 4 _ d0 rfl (by decide) (by decide)).mono ?_
  rintro e w1 ⟨rfl, rfl⟩
  have lk1 := pickN_lt_keep a 4 (by decide)
  generalize hp1 : pickN_keep a 4 = k1 at *
  have HP1 := hide hp1
  clear hp1
  go_wp2_with fail
  refine (picke_c (a.tdiv 4) 6 6 _ d4 rfl (by decide) (by decide)).mono ?_
  rintro e w1 ⟨rfl, rfl⟩
  have lk2 := pickN_lt_keep (a.tdiv 4) 6 (by decide)
  generalize hp2 : pickN_keep (a.tdiv 4) 6 = k2 at *
  have HP2 := hide hp2
  clear hp2
  go_wp2_with fail
  refine (picke_c (a.tdiv 24) 2 2 _ d24 rfl (by decide) (by decide)).mono ?_
  rintro e w1 ⟨rfl, rfl⟩
  have lk3 := pickN_lt_keep (a.tdiv 24) 2 (by decide)
  generalize hp3 : pickN_keep (a.tdiv 24) 2 = k3 at *
  have HP3 := hide hp3
  clear hp3
  go_wp2_with fail
  refine (picke_c (a.tdiv 48) 40 40 _ d48 rfl (by decide) (by decide)).mono ?_
  rintro e w1 ⟨rfl, rfl⟩
  have lk4 := pickN_lt_keep (a.tdiv 48) 40 (by decide)
  generalize hp4 : pickN_keep (a.tdiv 48) 40 = k4 at *
  have HP4 := hide hp4
  clear hp4
  have K1 := hide (K0.out.calm2 (Kept.alloc _ (.cells #[.int .i64 (1 + (k1 : Int)), .int .i64 (k2 : Int), .int .i64 (k3 : Int), .float .f32 0, .float .f32 0, .int .i64 (1 + (k4 : Int))] 57)))
  clear d4 d24 d48
  go_wp2_with fail
  rw [show ((i : Int) + 1) = ((i + 1 : Nat) : Int) from rfl]
  refine (raw_e p zs cap (i + 1) _ (H.out.calm K1.out)).mono ?_
  rintro e w1 ⟨rfl, rfl⟩
  rw [HZ1.out]
  have d1 : -9223372036854775808 ≤ a1 ∧ a1 ≤ 9223372036854775807 := hi1
  go_wp2_with fail
  refine (picke_c a1 201 201 _ d1 rfl (by decide) (by decide)).mono ?_
  rintro e w1 ⟨rfl, rfl⟩
  have l5 := pickN_lt_keep a1 201 (by decide)
  generalize hp5 : pickN_keep a1 201 = k5 at *
  have HP5 := hide hp5
  clear hp5
  have hx := ok_int ((k5 : Int) - 100)
  go_wp2_with fail
  generalize hx5 : floatOfInt .f32 ((k5 : Int) - 100) = x5 at *
  have HX5 := hide hx5
  clear hx5
  rw [show ((i : Int) + 2) = ((i + 2 : Nat) : Int) from rfl]
  refine (raw_e p zs cap (i + 2) _ (H.out.calm (K0.out.calm2 (Kept.alloc _ _)))).mono ?_
  rintro e w1 ⟨rfl, rfl⟩
  rw [HZ2.out]
  have d2 : -9223372036854775808 ≤ a2 ∧ a2 ≤ 9223372036854775807 := hi2
  go_wp2_with fail
  refine (picke_c a2 201 201 _ d2 rfl (by decide) (by decide)).mono ?_
  rintro e w1 ⟨rfl, rfl⟩
  have l6 := pickN_lt_keep a2 201 (by decide)
  generalize hp6 : pickN_keep a2 201 = k6 at *
  have HP6 := hide hp6
  clear hp6
  have hy := ok_int ((k6 : Int) - 100)
  go_wp2_with fail
  generalize hy5 : floatOfInt .f32 ((k6 : Int) - 100) = y5 at *
  have HY5 := hide hy5
  clear hy5
  refine (picke_c (a.tdiv 7) 5 5 _ d7 rfl (by decide) (by decide)).mono ?_
  rintro e w1 ⟨rfl, rfl⟩
  have l7 := pickN_lt_keep (a.tdiv 7) 5 (by decide)
  generalize hp7 : pickN_keep (a.tdiv 7) 5 = k7 at *
  have HP7 := hide hp7
  clear hp7
  have r1 : ∀ w, (binOp .mul 55 (.float .f32 x5) (.float .f32 1092616192)).run Tryz.prog w = .ok (.float .f32 (fmul x5 1092616192)) w := fun w => run_float_arith w .mul _ .f32 _ _ _ (fmul_ok hx ten_pos).1
  have r2 : ∀ w, (binOp .mul 55 (.float .f32 y5) (.float .f32 1092616192)).run Tryz.prog w = .ok (.float .f32 (fmul y5 1092616192)) w := fun w => run_float_arith w .mul _ .f32 _ _ _ (fmul_ok hy ten_pos).1
  clear hx hy d1 d2 d7 K1
  by_cases h7 : k7 = 0
  · have HC : Hid (cmdOf zs i = ⟨1 + (k1 : Int), k2, k3, (fmul x5 1092616192), (fmul y5 1092616192), 1 + (k4 : Int)⟩) := by
      show _ = _
      unfold cmdOf wayOf
      rw [HZA.out, HZ1.out, HZ2.out, HP1.out, HP2.out, HP3.out, HP4.out, HP5.out, HP6.out, HP7.out, HX5.out, HY5.out, if_pos h7]
    have h7' : ((k7 : Int) == 0) = true := by simp [h7]
    go_wp2
    refine bodyPost_ret (v := .agg #[.int .i64 (1 + (k1 : Int)), .int .i64 (k2 : Int), .int .i64 (k3 : Int), .float .f32 (fmul x5 1092616192), .float .f32 (fmul y5 1092616192), .int .i64 (1 + (k4 : Int))]) (by simp [results, Tryz.results38, go_sem]) rfl ?_
    rw [HC.out]
    exact ⟨rfl, (Kept.alloc w _).calm2 (Kept.alloc _ _)⟩
  · have HC : Hid (cmdOf zs i = ⟨1 + (k1 : Int), k2, k3, x5, y5, 1 + (k4 : Int)⟩) := by
      show _ = _
      unfold cmdOf wayOf
      rw [HZA.out, HZ1.out, HZ2.out, HP1.out, HP2.out, HP3.out, HP4.out, HP5.out, HP6.out, HP7.out, HX5.out, HY5.out, if_neg h7]
    have h7' : ((k7 : Int) == 0) = false := by simp; omega
    go_wp2
    refine bodyPost_ret (v := .agg #[.int .i64 (1 + (k1 : Int)), .int .i64 (k2 : Int), .int .i64 (k3 : Int), .float .f32 x5, .float .f32 y5, .int .i64 (1 + (k4 : Int))]) (by simp [results, Tryz.results38, go_sem]) rfl ?_
    rw [HC.out]
    exact ⟨rfl, (Kept.alloc w _).calm2 (Kept.alloc _ _)⟩

set_option maxHeartbeats 2000000 in
set_option maxRecDepth 100000 in
theorem commands_e (q : Option Addr) (zs : List Int) (capq : Nat) (w : World) (hn : (zs.length : Int) ≤ 9223372036854775807) (h : RZ w q zs) :
    Calls Tryz.prog 21 #[.slice q zs.length capq] w fun e w' => ∃ p cap, e = .returned (.slice p (cmdsOf zs).length cap) ∧ w'.ownsRow w.heap.size 57 6 (.slice p (cmdsOf zs).length cap) (cmdsOf zs).length (rowC (cmdsOf zs)) ∧ Kept (fun _ => False) w w' := by
  obtain ⟨i0, hi, hz0, hz1, hz2⟩ := info_parts info_cmd
  have H := hide h
  have hsf := store_float Tryz.prog
  clear h
  go_enter Tryz.func21, Tryz.ntmps21
  go_wp2
  go_loopw [3, 4] (fun s t wr => ∃ p cap, ∃ cs : List Cmd, cs.length ≤ 64 ∧ (cs.length = 0 ∨ 3 * (cs.length - 1) < zs.length) ∧ Hid (cs = (List.range cs.length).map (fun k => cmdOf zs (3 * k))) ∧ s = .slice p cs.length cap ∧ t = .int .i64 ((3 * cs.length : Nat) : Int) ∧ Hid (wr.ownsRow w.heap.size 57 6 (.slice p cs.length cap) cs.length (rowC cs)) ∧ Hid (Kept (fun _ => False) w wr)) (fun _ t _ => 1000 - (intOf t).toNat)
  case atStart => exact ⟨none, 0, [], by decide, Or.inl rfl, rfl, rfl, rfl, ⟨rfl, Or.inl ⟨rfl, rfl⟩⟩, Kept.refl _ _⟩
  case round =>
    obtain ⟨p, cap, cs, hcs, hcl, HCS, rfl, rfl, HO, HK⟩ := hrel
    have HEND : Hid (¬ (3 * cs.length < zs.length ∧ cs.length < 64) → cs = cmdsOf zs) := fun hne => by
      unfold cmdsOf
      rw [show min 64 ((zs.length + 2) / 3) = cs.length from by omega]
      exact HCS.out
    have HNX : Hid (3 * cs.length < zs.length ∧ cs.length < 64 → (cs ++ [cmdOf zs (3 * cs.length)]) = (List.range (cs.length + 1)).map (fun k => cmdOf zs (3 * k))) := fun _ => by
      rw [List.range_succ, List.map_append, ← HCS.out]; rfl
    generalize hk : 3 * cs.length = k at *
    by_cases hlt : k < zs.length
    · have hb2 : ((k : Nat) : Int) < (zs.length : Int) := by omega
      by_cases h64 : cs.length < 64
      · have hb3 : ((cs.length : Nat) : Int) < 64 := by omega
        go_wp2_with fail
        refine (command_e q zs capq k _ (by omega) (H.out.calm HK.out)).mono ?_
        rintro e w1 ⟨rfl, q1⟩
        generalize hcE : cmdOf zs k = c at *
        have HCE := hide hcE
        clear hcE
        have K1 := hide (HK.out.calm2 q1)
        have O1 := hide (owns_block HO.out (fun g hg => by exact q1.block g (owns_lt HO.out g hg) (fun e => e)))
        have hbase := (HK.out.calm2 q1).size
        clear q1
        go_wp2_with (at_builtin; refine wpList_append_at _ rfl (.tmp 20) (.tmp 22) 52 rfl w.heap.size 57 i0 (.agg #[.int .i64 0, .int .i64 0, .int .i64 0, .float .f32 0, .float .f32 0, .int .i64 0]) 6 40 Tryz.underlying52 hi hz0 hz1 hz2 rfl (by decide) _ _ _ rfl ((O1.out.alloc _).alloc _) ⟨w1.heap.size + 1, 0, none⟩ 1 1 (rowC [c]) rfl rfl ?c1 (rowC_one [c]) (by decide) ?c3 ?c4 ?c5 ?_)
        case c1 => exact new_cells (w1.alloc (.cells #[.int .i64 c.kind, .int .i64 c.id, .int .i64 c.team, .float .f32 c.x, .float .f32 c.y, .int .i64 c.n] 57)) (rowC [c]) 57 (w1.heap.size + 1) (by simp)
        case c3 => unfold maxLen; omega
        case c4 => omega
        case c5 => simp; omega
        intro g cap' w2 hown hgr
        have O2 : Hid (w2.ownsRow w.heap.size 57 6 (.slice (some ⟨g, 0, none⟩) (cs ++ [c]).length cap') (cs ++ [c]).length (rowC (cs ++ [c]))) := by
          rw [rowC_append, List.length_append]; exact hown
        have K2 : Hid (Kept (fun _ => False) w w2) := by
          refine ((K1.out.calm2 (Kept.alloc w1 _)).calm2 (Kept.alloc _ _)).join (Kept.of_grown hgr) (fun _ _ e => e) (fun j hj e => ?_)
          have := (O1.out.lt j e.symm).1
          omega
        clear hown hgr O1 HO HK K1
        go_wp2
        go_roundw
        case rel =>
          refine ⟨some ⟨g, 0, none⟩, cap', cs ++ [c], by simp; omega, Or.inr (by simp; omega), ?_, by simp, by simp; omega, O2, K2⟩
          show _ = _
          have := HNX.out ⟨by omega, h64⟩
          rw [List.length_append, List.length_singleton]
          exact this
        case measure => simp [intOf]; omega
      · have hb3 : ¬ ((cs.length : Nat) : Int) < 64 := by omega
        go_wp2
        go_ret
        rw [← HEND.out (by omega)]
        exact ⟨p, cap, rfl, HO.out, HK.out⟩
    · have hb2 : ¬ ((k : Nat) : Int) < (zs.length : Int) := by omega
      go_wp2
      go_ret
      rw [← HEND.out (by omega)]
      exact ⟨p, cap, rfl, HO.out, HK.out⟩
end Go.Proofs.YtlfmfhmbkpnjbaaGreatDoor
