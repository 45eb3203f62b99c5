import Derived.Test.YtlfmfhmbkpnjbaaGreatDoorRc16
import Derived.Test.YtlfmfhmbkpnjbaaGreatDoorRc19
import Derived.Lib.AtoiAll
import Derived.Lib.Bytealg
import Derived.Test.YtlfmfhmbkpnjbaaGreatDoorRc15
import Derived.Test.YtlfmfhmbkpnjbaaGreatDoorRc25
import Derived.Test.YtlfmfhmbkpnjbaaGreatDoorRows
import Derived.Deep.Slices
import Derived.ProofKit
import Derived.LaidMore
import Derived.OpenShut
import Derived.ShutString
import Derived.ChangeOld
import Derived.Below
import Derived.Stop.Joined
import Derived.Stop.LaidErr
import Derived.Lib.TrailingZeros
import Derived.Deep.DeepHandedRow
import Derived.SizedLaws
import Derived.Lib.LaidTab
import Derived.Test.YtlfmfhmbkpnjbaaGreatDoorRc24
import Derived.Test.YtlfmfhmbkpnjbaaGreatDoorCards
import Derived.Test.YtlfmfhmbkpnjbaaGreatDoorTie
import Derived.SevenTiedAt
namespace Go.Proofs.YtlfmfhmbkpnjbaaGreatDoor
open Go.RowKit

/-- A text, cut at the first of a sign. -/
def cutL (c : UInt8) : List UInt8 → List UInt8 × List UInt8 × Bool
  | [] => ([], [], false)
  | x :: r => if x = c then ([], r, true) else (x :: (cutL c r).1, (cutL c r).2.1, (cutL c r).2.2)
theorem cutL_hit (c : UInt8) (a b : List UInt8) (h : c ∉ a) : cutL c (a ++ c :: b) = (a, b, true) := by
  induction a with
  | nil => simp [cutL]
  | cons x r ih =>
    have hx : ¬ x = c := fun e => h (by simp [e])
    have := ih (fun e => h (by simp [e]))
    simp only [List.cons_append, cutL, if_neg hx, this]
theorem cutL_miss (c : UInt8) (a : List UInt8) (h : c ∉ a) : cutL c a = (a, [], false) := by
  induction a with
  | nil => rfl
  | cons x r ih =>
    have hx : ¬ x = c := fun e => h (by simp [e])
    have := ih (fun e => h (by simp [e]))
    simp only [cutL, if_neg hx, this]
theorem cutL_short (c : UInt8) (s : List UInt8) : (cutL c s).1.length ≤ s.length ∧ (cutL c s).2.1.length ≤ s.length ∧ ((cutL c s).2.2 = true → (cutL c s).2.1.length < s.length) := by
  induction s with
  | nil => simp [cutL]
  | cons x r ih =>
    by_cases h : x = c
    · simp [cutL, h]
    · simp only [cutL, if_neg h, List.length_cons]
      refine ⟨by omega, by omega, fun e => ?_⟩
      have := ih.2.2 e
      omega
theorem cutL_index (c : UInt8) (s : List UInt8) : (Lib.indexByte s c = -1 ∧ cutL c s = (s, [], false)) ∨ ∃ i : Nat, Lib.indexByte s c = (i : Int) ∧ i < s.length ∧ cutL c s = (s.take i, s.drop (i + 1), true) := by
  induction s with
  | nil => exact Or.inl ⟨rfl, rfl⟩
  | cons x r ih =>
    by_cases h : x = c
    · refine Or.inr ⟨0, ?_, by simp, by simp [cutL, h]⟩
      simp [Lib.indexByte, h]
    · rcases ih with ⟨h1, h2⟩ | ⟨i, h1, h2, h3⟩
      · refine Or.inl ⟨?_, by simp [cutL, h, h2]⟩
        simp [Lib.indexByte, h, h1]
      · refine Or.inr ⟨i + 1, ?_, by simp; omega, by simp [cutL, h, h3]⟩
        have hb : (x == c) = false := by simp [h]
        have hi : ((i : Int) == -1) = false := by simp
        simp [Lib.indexByte, hb, h1, hi]

/-! Numbers. -/
theorem parse_app (l m : List UInt8) (a v : Nat) (h : Lib.parseUint10 a l = .ok v) : Lib.parseUint10 a (l ++ m) = Lib.parseUint10 v m := by
  induction l generalizing a with
  | nil =>
    simp only [Lib.parseUint10] at h
    injection h with h
    simp [h]
  | cons c r ih =>
    simp only [Lib.parseUint10] at h
    simp only [List.cons_append, Lib.parseUint10]
    split at h
    · rename_i h1
      rw [if_pos h1]
      split at h
      · cases h
      · rename_i h2
        rw [if_neg h2]
        split at h
        · cases h
        · rename_i h3
          rw [if_neg h3]
          exact ih _ h
    · cases h
theorem decs_form (u : Nat) : Lib.decDigits u = (if u < 10 then [] else Lib.decDigits (u / 10)) ++ [UInt8.ofNat (48 + u % 10)] := by
  by_cases h : u < 10
  · rw [Lib.decDigits, dif_pos h, if_pos h, Nat.mod_eq_of_lt h]; rfl
  · rw [Lib.decDigits, dif_neg h, if_neg h]
theorem dec_parse (u : Nat) (h : u < 18446744073709551616) : Lib.parseUint10 0 (Lib.decDigits u) = .ok u := by
  induction u using Nat.strongRecOn with
  | _ u ih =>
    have key : Lib.parseUint10 (u / 10) [UInt8.ofNat (48 + u % 10)] = .ok u := by
      have e : (UInt8.ofNat (48 + u % 10)).toNat = 48 + u % 10 := by rw [UInt8.toNat_ofNat']; omega
      simp only [Lib.parseUint10, e]
      rw [if_pos (by omega), if_neg (by omega), if_neg (by omega)]
      congr 1
      omega
    rw [decs_form u]
    by_cases hu : u < 10
    · rw [if_pos hu, List.nil_append]
      rw [show u / 10 = 0 by omega] at key
      exact key
    · rw [if_neg hu, parse_app _ _ _ _ (ih (u / 10) (by omega) (by omega))]
      exact key
theorem dec_first (u : Nat) : ∃ c r, Lib.decDigits u = c :: r ∧ 48 ≤ c.toNat := by
  induction u using Nat.strongRecOn with
  | _ u ih =>
    rw [decs_form u]
    by_cases hu : u < 10
    · rw [if_pos hu]
      exact ⟨_, _, rfl, by rw [UInt8.toNat_ofNat']; omega⟩
    · rw [if_neg hu]
      obtain ⟨c, r, h1, h2⟩ := ih (u / 10) (by omega)
      exact ⟨c, r ++ _, by rw [h1]; rfl, h2⟩
theorem atoi_neg (D : List UInt8) (u : Nat) (h : Lib.parseMag D = .ok u) (hu : u ≤ 9223372036854775808) : Lib.atoiAll (45 :: D) = .ok (-(u : Int)) := by
  have e45 : (45 : UInt8).toNat = 45 := rfl
  unfold Lib.atoiAll
  dsimp only
  rw [if_pos (Or.inr e45), h]
  dsimp only
  rw [if_neg (fun e => e.1 e45), if_neg (fun e => by omega), if_pos e45]
theorem atoi_pos (c : UInt8) (r : List UInt8) (u : Nat) (hc : 48 ≤ c.toNat) (h : Lib.parseMag (c :: r) = .ok u) (hu : u < 9223372036854775808) : Lib.atoiAll (c :: r) = .ok (u : Int) := by
  have h45 : ¬ c.toNat = 45 := by omega
  unfold Lib.atoiAll
  dsimp only
  rw [if_neg (by omega), h]
  dsimp only
  rw [if_neg (fun e => by omega), if_neg (fun e => h45 e.1), if_neg h45]
theorem atoi_itoa (n : Int) (h : -9223372036854775808 ≤ n ∧ n ≤ 9223372036854775807) : Lib.atoiAll (Lib.itoa n) = .ok n := by
  unfold Lib.itoa
  split
  · rename_i hn
    obtain ⟨c, r, e, _⟩ := dec_first n.natAbs
    have hp := dec_parse n.natAbs (by omega)
    have hm : Lib.parseMag (Lib.decDigits n.natAbs) = .ok n.natAbs := by unfold Lib.parseMag; rw [if_neg (by rw [e]; simp)]; exact hp
    have := atoi_neg _ _ hm (by omega)
    rw [this]
    congr 1
    omega
  · rename_i hn
    obtain ⟨c, r, e, hc⟩ := dec_first n.toNat
    have hp := dec_parse n.toNat (by omega)
    have hm : Lib.parseMag (Lib.decDigits n.toNat) = .ok n.toNat := by unfold Lib.parseMag; rw [if_neg (by rw [e]; simp)]; exact hp
    rw [e] at hm ⊢
    have := atoi_pos _ _ _ hc hm (by omega)
    rw [this]
    congr 1
    omega

/-- A word as a number, if it is just as one is written. -/
def numL (x : List UInt8) : Option Int :=
  match Lib.atoiAll x with
  | .ok n => if Lib.itoa n = x then some n else none
  | _ => none
theorem numL_itoa (n : Int) (h : -9223372036854775808 ≤ n ∧ n ≤ 9223372036854775807) : numL (Lib.itoa n) = some n := by simp [numL, atoi_itoa n h]

/-- A sign of a number at base 16. -/
def hexD (c : Nat) : Option Nat :=
  if 48 ≤ c ∧ c ≤ 57 then some (c - 48) else if 97 ≤ c ∧ c ≤ 102 then some (c - 87) else if 65 ≤ c ∧ c ≤ 70 then some (c - 55) else none
def hexA (a : Nat) : List UInt8 → Option Nat
  | [] => some a
  | c :: r => match hexD c.toNat with
    | some d => if 4294967296 ≤ a * 16 + d then none else hexA (a * 16 + d) r
    | none => none
/-- A word as the bits of a number with a point, if it is just as one is written. -/
def bitsL (x : List UInt8) : Option Nat :=
  if x = [] then none else match hexA 0 x with
  | some u => if hexL u = x then some u else none
  | none => none
theorem hexA_app (l m : List UInt8) (a v : Nat) (h : hexA a l = some v) : hexA a (l ++ m) = hexA v m := by
  induction l generalizing a with
  | nil =>
    simp only [hexA] at h
    injection h with h
    simp [h]
  | cons c r ih =>
    simp only [hexA] at h
    simp only [List.cons_append, hexA]
    split at h
    · split at h
      · cases h
      · rename_i h2
        rw [if_neg h2]
        exact ih _ h
    · cases h
theorem hexA_lt (l : List UInt8) (a v : Nat) (ha : a < 4294967296) (h : hexA a l = some v) : v < 4294967296 := by
  induction l generalizing a with
  | nil =>
    simp only [hexA] at h
    injection h with h
    omega
  | cons c r ih =>
    simp only [hexA] at h
    split at h
    · split at h
      · cases h
      · exact ih _ (by omega) h
    · cases h
theorem hexD_hexc : ∀ d : Fin 16, hexD (hexc d.val).toNat = some d.val := by decide
theorem hexs_form (u : Nat) : hexL u = (if u < 16 then [] else hexL (u / 16)) ++ [hexc (u % 16)] := by
  by_cases h : u < 16
  · rw [hexL_one h, if_pos h, Nat.mod_eq_of_lt h]; rfl
  · rw [hexL_more h, if_neg h]
theorem hex_parse (u : Nat) (h : u < 4294967296) : hexA 0 (hexL u) = some u := by
  induction u using Nat.strongRecOn with
  | _ u ih =>
    have key : hexA (u / 16) [hexc (u % 16)] = some u := by
      have e := hexD_hexc ⟨u % 16, Nat.mod_lt _ (by decide)⟩
      simp only at e
      simp only [hexA, e]
      rw [if_neg (by omega)]
      congr 1
      omega
    rw [hexs_form u]
    by_cases hu : u < 16
    · rw [if_pos hu, List.nil_append]
      rw [show u / 16 = 0 by omega] at key
      exact key
    · rw [if_neg hu, hexA_app _ _ _ _ (ih (u / 16) (by omega) (by omega))]
      exact key
theorem bitsL_hex (u : Nat) (h : u < 4294967296) : bitsL (hexL u) = some u := by
  have hne : hexL u ≠ [] := by rw [hexs_form]; simp
  simp [bitsL, hne, hex_parse u h]

/-! A reader. -/
structure Rd where
  rest : List UInt8
  over : Bool
  broken : Bool
def Rd.bad (r : Rd) : Rd := ⟨r.rest, r.over, true⟩
def Rd.word (r : Rd) : List UInt8 × Rd :=
  if r.over = true then ([], ⟨r.rest, true, true⟩) else ((cutL 32 r.rest).1, ⟨(cutL 32 r.rest).2.1, !(cutL 32 r.rest).2.2, r.broken⟩)
def Rd.int (r : Rd) (lo hi : Int) : Int × Rd :=
  match numL r.word.1 with
  | some n => if lo ≤ n ∧ n ≤ hi then (n, r.word.2) else (0, r.word.2.bad)
  | none => (0, r.word.2.bad)
def Rd.any (r : Rd) : Int × Rd := r.int (-9223372036854775808) 9223372036854775807
def Rd.flt (r : Rd) : Nat × Rd :=
  match bitsL r.word.1 with
  | some u => (u, r.word.2)
  | none => (0, r.word.2.bad)
def Rd.cmd (r : Rd) : Cmd × Rd :=
  if r.any.1 = 1 then (⟨1, r.any.2.any.1, r.any.2.any.2.any.1, r.any.2.any.2.any.2.flt.1, r.any.2.any.2.any.2.flt.2.flt.1, 0⟩, r.any.2.any.2.any.2.flt.2.flt.2)
  else if r.any.1 = 2 then (⟨2, r.any.2.any.1, 0, r.any.2.any.2.flt.1, r.any.2.any.2.flt.2.flt.1, 0⟩, r.any.2.any.2.flt.2.flt.2)
  else if r.any.1 = 3 then (⟨3, r.any.2.any.1, 0, 0, 0, r.any.2.any.2.any.1⟩, r.any.2.any.2.any.2)
  else if r.any.1 = 4 then (⟨4, r.any.2.any.1, 0, 0, 0, 0⟩, r.any.2.any.2)
  else (⟨r.any.1, 0, 0, 0, 0, 0⟩, r.any.2)
def Rd.cmds (r : Rd) : Nat → List Cmd × Rd
  | 0 => ([], r)
  | k + 1 => ((r.cmds k).1 ++ [(r.cmds k).2.cmd.1], (r.cmds k).2.cmd.2)
def Rd.ent (r : Rd) : Mob × Rd :=
  (⟨r.any.1, r.any.2.any.1, r.any.2.any.2.flt.1, r.any.2.any.2.flt.2.flt.1, r.any.2.any.2.flt.2.flt.2.flt.1, r.any.2.any.2.flt.2.flt.2.flt.2.flt.1, r.any.2.any.2.flt.2.flt.2.flt.2.flt.2.any.1⟩,
    r.any.2.any.2.flt.2.flt.2.flt.2.flt.2.any.2)
def Rd.ents (r : Rd) : Nat → List Mob × Rd
  | 0 => ([], r)
  | k + 1 => ((r.ents k).1 ++ [(r.ents k).2.ent.1], (r.ents k).2.ent.2)
def Rd.cmdL (r : Rd) : List Cmd × Rd := (r.int 0 64).2.cmds (r.int 0 64).1.toNat
def Rd.entL (r : Rd) : List Mob × Rd := (r.int 0 32).2.ents (r.int 0 32).1.toNat
def Rd.done (r : Rd) : Bool := r.over && !r.broken
def Rd.of (l : List UInt8) : Rd := ⟨l, false, false⟩

/-- What a file tells. -/
structure Mt where
  ev : Nat
  cmds : List (List Cmd)
  whole : List (List Mob)
open Classical in
noncomputable def Mt.add (m : Mt) (l : List UInt8) : Option Mt :=
  if 500 ≤ m.cmds.length then none
  else if (m.cmds.length + 1) % m.ev = 0 then
    if worldB ((m.cmds.length : Int) + 1) (Rd.of l).cmdL.2.entL.1 = true ∧ (Rd.of l).cmdL.2.entL.2.done = true then some ⟨m.ev, m.cmds ++ [(Rd.of l).cmdL.1], m.whole ++ [(Rd.of l).cmdL.2.entL.1]⟩ else none
  else if (Rd.of l).cmdL.2.done = true then some ⟨m.ev, m.cmds ++ [(Rd.of l).cmdL.1], m.whole⟩ else none
noncomputable def Mt.adds (m : Mt) : List (List UInt8) → Option Mt
  | [] => some m
  | l :: r => match m.add l with
    | some m' => m'.adds r
    | none => none
/-- The lines that have their end. -/
def linesL (a : List UInt8) : List UInt8 → List (List UInt8)
  | [] => []
  | x :: r => if x = 10 then a :: linesL [] r else linesL (a ++ [x]) r
def encoreL : List UInt8 := [101, 110, 99, 111, 114, 101]
def everyL (l : List UInt8) : Option Nat :=
  if (Rd.of l).word.1 = encoreL ∧ ((Rd.of l).word.2.int 1 64).2.done = true then some ((Rd.of l).word.2.int 1 64).1.toNat else none
noncomputable def matchL (s : List UInt8) : Option Mt :=
  match linesL [] s with
  | [] => none
  | f :: r => match everyL f with
    | some ev => (Mt.mk ev [] [[]]).adds r
    | none => none

/-- The world at a tick. -/
noncomputable def fromM (css : List (List Cmd)) (b : Nat) (L : List Mob) : Nat → List Mob
  | 0 => L
  | k + 1 => stepL (css.getD (b + k) []) (fromM css b L k)
noncomputable def Mt.at (m : Mt) (t : Nat) : List Mob := fromM m.cmds (t / m.ev * m.ev) (m.whole.getD (t / m.ev) []) (t % m.ev)

/-- A match that can be played. -/
structure Mt.Ok (m : Mt) : Prop where
  ev : 1 ≤ m.ev ∧ m.ev ≤ 64
  len : m.cmds.length ≤ 500
  cmds : ∀ cs ∈ m.cmds, cs.length ≤ 64
  count : m.whole.length = m.cmds.length / m.ev + 1
  good : ∀ k (h : k < m.whole.length), worldB ((k * m.ev : Nat) : Int) m.whole[k] = true
theorem int_bounds (r : Rd) (lo hi : Int) (h : lo ≤ 0 ∧ 0 ≤ hi) : lo ≤ (r.int lo hi).1 ∧ (r.int lo hi).1 ≤ hi := by
  unfold Rd.int
  split
  · split
    · assumption
    · exact h
  · exact h
theorem cmds_length (r : Rd) (k : Nat) : (r.cmds k).1.length = k := by
  induction k with
  | zero => rfl
  | succ n ih => simp [Rd.cmds, ih]
theorem ents_length (r : Rd) (k : Nat) : (r.ents k).1.length = k := by
  induction k with
  | zero => rfl
  | succ n ih => simp [Rd.ents, ih]
theorem cmdL_short (r : Rd) : r.cmdL.1.length ≤ 64 := by
  have := int_bounds r 0 64 (by omega)
  unfold Rd.cmdL
  rw [cmds_length]
  omega
theorem Mt.add_ok {m m' : Mt} {l : List UInt8} (h : m.Ok) (ha : m.add l = some m') : m'.Ok ∧ m'.ev = m.ev ∧ m'.cmds.length = m.cmds.length + 1 := by
  have hev := h.ev
  unfold Mt.add at ha
  split at ha
  · cases ha
  · rename_i hl
    have hdiv : ∀ q, m.cmds.length / m.ev = q → (m.cmds.length + 1) / m.ev = if (m.cmds.length + 1) % m.ev = 0 then q + 1 else q := by
      intro q hq
      rw [Nat.succ_div]
      simp only [Nat.dvd_iff_mod_eq_zero, hq]
      split <;> rfl
    split at ha
    · rename_i h0
      split at ha
      · rename_i hw
        injection ha with ha
        subst ha
        refine ⟨⟨h.ev, by simp; omega, ?_, ?_, ?_⟩, rfl, by simp⟩
        · intro cs hc
          rcases List.mem_append.1 hc with hc | hc
          · exact h.cmds cs hc
          · simp only [List.mem_cons, List.not_mem_nil, or_false] at hc
            subst hc
            exact cmdL_short _
        · simp only [List.length_append, List.length_cons, List.length_nil, Nat.zero_add]
          rw [hdiv _ rfl, if_pos h0, h.count]
        · intro k hk
          simp only [List.length_append, List.length_cons, List.length_nil, Nat.zero_add] at hk
          by_cases hk' : k < m.whole.length
          · simp only [List.getElem_append_left hk']
            exact h.good k hk'
          · obtain rfl : k = m.whole.length := by omega
            simp only [List.getElem_append_right (Nat.le_refl _), Nat.sub_self, List.getElem_cons_zero]
            rw [show ((m.whole.length * m.ev : Nat) : Int) = (m.cmds.length : Int) + 1 from ?_]
            · exact hw.1
            · have := Nat.div_add_mod (m.cmds.length + 1) m.ev
              rw [h0, hdiv _ rfl, if_pos h0, Nat.mul_comm] at this
              rw [h.count]
              omega
      · cases ha
    · rename_i h0
      split at ha
      · injection ha with ha
        subst ha
        refine ⟨⟨h.ev, by simp; omega, ?_, ?_, h.good⟩, rfl, by simp⟩
        · intro cs hc
          rcases List.mem_append.1 hc with hc | hc
          · exact h.cmds cs hc
          · simp only [List.mem_cons, List.not_mem_nil, or_false] at hc
            subst hc
            exact cmdL_short _
        · simp only [List.length_append, List.length_cons, List.length_nil, Nat.zero_add]
          rw [hdiv _ rfl, if_neg h0, h.count]
      · cases ha
end Go.Proofs.YtlfmfhmbkpnjbaaGreatDoor

namespace Go.Proofs.YtlfmfhmbkpnjbaaGreatDoor
open Go.RowKit

/-- The library's tables, and its two errors. -/
structure Errs (w : World) : Prop where
  tabs : Tabs w
  syn : ∃ te pe, w.cell? ⟨2, 0, none⟩ = some (.iface te pe)
  rng : ∃ te pe, w.cell? ⟨3, 0, none⟩ = some (.iface te pe)
theorem Errs.keep {w w' : World} {S : Nat → Prop} (h : Errs w) (k : Kept S w w') (h1 : ¬ S 6) (h2 : ¬ S 4) (h3 : ¬ S 2) (h4 : ¬ S 3) : Errs w' := by
  obtain ⟨te, pe, hs⟩ := h.syn
  obtain ⟨tr, pr, hr⟩ := h.rng
  exact ⟨h.tabs.keep k h1 h2, ⟨te, pe, by rw [cell_keep k (World.block_lt_of_cell? w _ hs) h3]; exact hs⟩, ⟨tr, pr, by rw [cell_keep k (World.block_lt_of_cell? w _ hr) h4]; exact hr⟩⟩
theorem Errs.calm {w w' : World} (h : Errs w) (k : Kept (fun _ => False) w w') : Errs w' := h.keep k (fun e => e) (fun e => e) (fun e => e) (fun e => e)

/-- A text of some bytes. -/
abbrev baL (l : List UInt8) : ByteArray := ⟨l.toArray⟩
theorem baL_size (l : List UInt8) : (baL l).size = l.length := by show l.toArray.size = _; simp
theorem baL_list (l : List UInt8) : (baL l).data.toList = l := by simp
theorem baL_inj {a b : List UInt8} (h : baL a = baL b) : a = b := by
  have := congrArg (fun x : ByteArray => x.data.toList) h
  simpa using this
theorem baL_beq (a b : List UInt8) : ((baL a).toList == (baL b).toList) = decide (a = b) := by
  rw [ByteArray.toList_eq, ByteArray.toList_eq]
  by_cases h : a = b <;> simp [h]

set_option maxHeartbeats 1000000 in
set_option maxRecDepth 100000 in
/-- Where a sign stands. -/
theorem index1_c (s : ByteArray) (c : UInt8) (w : World) :
    Calls Tryz.prog 105 #[.string s, .string ⟨#[c]⟩] w fun e w' => e = .returned (.int .i64 (Lib.indexByte s.data.toList c)) ∧ w' = w := by
  have hz : ((⟨#[c]⟩ : ByteArray).size : Int) = 1 := rfl
  have hcc : ((c.toNat : Int).toNat.toUInt8) = c := by simp
  by_cases hs : (⟨#[c]⟩ : ByteArray) = s
  · subst hs
    have he : Lib.indexByte (⟨#[c]⟩ : ByteArray).data.toList c = 0 := by simp [Lib.indexByte]
    rw [he]
    go_enter Tryz.func105, Tryz.ntmps105
    go_wp2_with fail
    go_ret
    exact ⟨rfl, rfl⟩
  · have hb : ([c] == s.toList) = false := by
      rw [beq_eq_false_iff_ne]
      intro e
      apply hs
      apply bytes_inj
      rw [← e]
      simp [ByteArray.toList_eq]
    go_enter Tryz.func105, Tryz.ntmps105
    go_wp2_with fail
    refine (Tryz.stringslite_IndexByte s c.toNat w).mono ?_
    rintro e w' ⟨rfl, rfl⟩
    rw [hcc]
    go_wp2
    go_ret
    exact ⟨rfl, rfl⟩

set_option maxHeartbeats 1000000 in
set_option maxRecDepth 100000 in
/-- strings.Cut at one sign. -/
theorem cut0_c (s : List UInt8) (c : UInt8) (w : World) (hl : (s.length : Int) ≤ 4611686018427387904) :
    Calls Tryz.prog 76 #[.string (baL s), .string ⟨#[c]⟩] w fun e w' => e = .returned (.tuple #[.string (baL (cutL c s).1), .string (baL (cutL c s).2.1), .bool (cutL c s).2.2]) ∧ Kept (fun _ => False) w w' := by
  have hz : ((⟨#[c]⟩ : ByteArray).size : Int) = 1 := rfl
  have hsz := baL_size s
  rcases cutL_index c s with ⟨h1, h2⟩ | ⟨i, h1, h2, h3⟩
  · rw [h2]
    go_enter Tryz.func76, Tryz.ntmps76
    go_wp2_with fail
    refine (index1_c (baL s) c w).mono ?_
    rintro e w' ⟨rfl, rfl⟩
    rw [baL_list, h1]
    go_wp2
    go_ret3
    exact ⟨rfl, Kept.refl _ _⟩
  · have e1 : baL (s.take i) = (baL s).extract 0 i := by rw [Lib.extract_eq]; simp
    have e2 : baL (s.drop (i + 1)) = (baL s).extract (i + 1) (baL s).size := by
      rw [Lib.extract_eq, baL_list, List.take_of_length_le (by rw [List.length_drop, hsz]; exact Nat.le_refl _)]
    rw [h3]
    simp only [e1, e2]
    have c1 : (0 : Int) ≤ (i : Int) := by omega
    have c2 : (i : Int) ≤ ((baL s).size : Int) := by rw [hsz]; omega
    have c3 : (0 : Int) ≤ (i : Int) + 1 := by omega
    have c4 : (i : Int) + 1 ≤ ((baL s).size : Int) := by rw [hsz]; omega
    have HH := hide h1
    have HS := hide hsz
    clear e1 e2 h1 h3 hsz
    generalize hS : baL s = S at *
    go_enter Tryz.func76, Tryz.ntmps76
    go_wp2_with fail
    refine (index1_c S c w).mono ?_
    rintro e w' ⟨rfl, rfl⟩
    rw [show S.data.toList = s from by rw [← hS], HH.out]
    go_wp2
    go_quiet (fail)
    go_wp2
    go_ret3
    exact ⟨rfl, Kept.drewN _ _⟩

set_option maxHeartbeats 1000000 in
set_option maxRecDepth 100000 in
theorem cut1_c (s : List UInt8) (c : UInt8) (w : World) (hl : (s.length : Int) ≤ 4611686018427387904) :
    Calls Tryz.prog 47 #[.string (baL s), .string ⟨#[c]⟩] w fun e w' => e = .returned (.tuple #[.string (baL (cutL c s).1), .string (baL (cutL c s).2.1), .bool (cutL c s).2.2]) ∧ Kept (fun _ => False) w w' := by
  go_enter Tryz.func47, Tryz.ntmps47
  go_wp2_with fail
  refine (cut0_c s c w hl).mono ?_
  rintro e w1 ⟨rfl, k1⟩
  have K1 := hide k1
  clear k1
  go_wp2
  go_ret3
  exact ⟨rfl, K1.out⟩
end Go.Proofs.YtlfmfhmbkpnjbaaGreatDoor

namespace Go.Proofs.YtlfmfhmbkpnjbaaGreatDoor.laidP
open Go.ChangeShapes Go.WideShapes Go.ChangeAt Go.RowKit Go.Deep
set_option linter.unusedVariables false
set_option maxRecDepth 100000

theorem own : ownKnob Tryz.prog.godebug = none := by kernel_rfl
theorem laidOut : laidOutB Tryz.prog = true := by kernel_rfl
theorem cellsL : Tryz.prog.cellsOf 26 = 1 := by kernel_rfl

theorem inner {H : Type} {enc : TypeId × Value → H} {W : World} {spare : Nat → Bool} {held : Bool} {n : Nat} {cs : List Value} {x : DataW H × List MemPlace} (h : DataW.trod enc Tryz.prog W 0 spare held n 26 cs = some x) :
    ∃ p c, ∃ zs : List Int, cs = [.slice p zs.length c] ∧ ((zs.length : Nat) : Int) ≤ 9223372036854775807 ∧ RZ W p zs := by
  rcases open_ints Tryz.underlying26 Tryz.underlying3 (by kernel_rfl) h with ⟨hcs, _⟩ | ⟨x, l, c, zs, hcs, _, hl, hm, hz, _, hcell, hwz⟩
  · exact ⟨none, 0, [], hcs, by decide, fun e => absurd rfl e⟩
  · have hz' : l ≤ zs.length := by rw [hz]; split <;> omega
    have hlen : (zs.take l).length = l := by rw [List.length_take]; omega
    refine ⟨some x, c, zs.take l, by rw [hlen]; exact hcs, by rw [hlen]; unfold maxLen at hm; omega, fun hne => ?_⟩
    have hpos : 0 < l := by
      by_cases e : 0 < l
      · exact e
      · exact absurd (List.eq_nil_of_length_eq_zero (by rw [hlen]; omega)) hne
    obtain ⟨b, off, spot⟩ := x
    have h0 := hcell 0 (by omega)
    have e : (⟨b, off, spot⟩ : Addr).add 0 = ⟨b, off, spot⟩ := by simp [Addr.add]
    rw [e] at h0
    obtain rfl := World.cell?_spot h0
    refine ⟨b, off, rfl, World.block_lt_of_cell? (w := W) (a := ⟨b, off, none⟩) h0, fun j z hj => ?_⟩
    have hjl : j < l := by
      have := (List.getElem?_eq_some_iff.1 hj).1
      omega
    have hj' := hcell j (by omega)
    rw [addr_add2] at hj'
    have hzj : zs.getD j 0 = z := by
      rw [List.getElem?_take, if_pos hjl] at hj
      simp [List.getD, hj]
    rw [hzj] at hj'
    refine ⟨?_, hj'⟩
    have h6 := range_i64 hwz j
    have h7 : zs[j]?.getD 0 = z := hzj
    rw [h7] at h6
    exact h6

theorem lists_at {W : World} {b off : Nat} (n : Nat) (h : ∀ j, j < n → ∃ p c, ∃ zs : List Int, W.cell? ⟨b, off + j, none⟩ = some (.slice p zs.length c) ∧ ((zs.length : Nat) : Int) ≤ 9223372036854775807 ∧ RZ W p zs) :
    ∃ zss : List (List Int), zss.length = n ∧ ∀ j zs, zss[j]? = some zs → ∃ p c, W.cell? ⟨b, off + j, none⟩ = some (.slice p zs.length c) ∧ ((zs.length : Nat) : Int) ≤ 9223372036854775807 ∧ RZ W p zs := by
  induction n with
  | zero => exact ⟨[], rfl, fun j zs hj => by simp at hj⟩
  | succ m ih =>
    obtain ⟨zss, hl, hr⟩ := ih (fun j hj => h j (by omega))
    obtain ⟨p, c, zs, h1, h2, h3⟩ := h m (by omega)
    refine ⟨zss ++ [zs], by simp [hl], fun j ys hj => ?_⟩
    by_cases hlt : j < zss.length
    · rw [List.getElem?_append_left hlt] at hj
      exact hr j ys hj
    · have hjl := (List.getElem?_eq_some_iff.1 hj).1
      have hjm : j = m := by simp at hjl; omega
      subst hjm
      rw [List.getElem?_append_right (by omega), show j - zss.length = 0 from by omega] at hj
      obtain rfl : zs = ys := by simpa using hj
      exact ⟨p, c, h1, h2, h3⟩

theorem open_lists {H : Type} {enc : TypeId × Value → H} {W : World} {a0 : Option Addr} {len0 cap0 : Nat} {d0 : DataW H} {p0 : List MemPlace} (h0 : DataW.Trod enc Tryz.prog W 0 (fun _ => true) true 25 (.slice a0 len0 cap0) d0 p0) :
    ∃ zss : List (List Int), zss.length = len0 ∧ ((len0 : Nat) : Int) ≤ 9223372036854775807 ∧ RTZ W a0 zss := by
  obtain ⟨fuel, hf⟩ := h0
  rcases open_slice Tryz.underlying25 hf with ⟨hcs, _⟩ | ⟨a, len, cap, m, n, D, Pl, hcs, _, hl, hcm, hmm, hx, hel⟩
  · simp [Value.cells] at hcs
    obtain ⟨rfl, rfl, rfl⟩ := hcs
    exact ⟨[], rfl, by decide, fun e => absurd rfl e⟩
  · simp [Value.cells] at hcs
    obtain ⟨rfl, rfl, rfl⟩ := hcs
    rw [cellsL] at hel
    have hlm : len0 ≤ m := by rw [hmm]; split <;> omega
    have cell : ∀ j, j < len0 → ∃ p c, ∃ zs : List Int, W.cell? (a.add j) = some (.slice p zs.length c) ∧ ((zs.length : Nat) : Int) ≤ 9223372036854775807 ∧ RZ W p zs := by
      intro j hj
      obtain ⟨cs', h1, h2⟩ := hel j (by omega)
      obtain ⟨p, c, zs, rfl, q1, q2⟩ := inner h2
      have h3 := (World.cells?_some h1).2.2 0 (by omega)
      rw [Nat.mul_one] at h3
      have e : (a.add j).add 0 = a.add j := by simp [Addr.add]
      rw [e] at h3
      exact ⟨p, c, zs, h3, q1, q2⟩
    by_cases hpos : 0 < len0
    · obtain ⟨b, off, spot⟩ := a
      obtain ⟨p, c, zs, h3, _⟩ := cell 0 hpos
      have e : (⟨b, off, spot⟩ : Addr).add 0 = ⟨b, off, spot⟩ := by simp [Addr.add]
      rw [e] at h3
      obtain rfl := World.cell?_spot h3
      obtain ⟨zss, hz1, hz2⟩ := lists_at (W := W) (b := b) (off := off) len0 (fun j hj => by
        obtain ⟨p, c, zs, h4, h5, h6⟩ := cell j hj
        rw [addr_add2] at h4
        exact ⟨p, c, zs, h4, h5, h6⟩)
      exact ⟨zss, hz1, by unfold maxLen at hcm; omega, fun _ => ⟨b, off, rfl, World.block_lt_of_cell? (w := W) (a := ⟨b, off, none⟩) h3, hz2⟩⟩
    · exact ⟨[], by simp; omega, by omega, fun e => absurd rfl e⟩

theorem open_list {H : Type} {enc : TypeId × Value → H} {W : World} {a0 : Option Addr} {len0 cap0 : Nat} {d0 : DataW H} {p0 : List MemPlace} (h0 : DataW.Trod enc Tryz.prog W 0 (fun _ => true) true 26 (.slice a0 len0 cap0) d0 p0) :
    ∃ zs : List Int, zs.length = len0 ∧ ((len0 : Nat) : Int) ≤ 9223372036854775807 ∧ RZ W a0 zs := by
  obtain ⟨fuel, hf⟩ := h0
  obtain ⟨p, c, zs, hcs, h1, h2⟩ := inner hf
  simp [Value.cells] at hcs
  obtain ⟨rfl, rfl, rfl⟩ := hcs
  exact ⟨zs, rfl, h1, h2⟩

theorem bytesI : Tryz.prog.bytesOf 3 = 8 := by kernel_rfl
theorem open_sized {H : Type} {enc : TypeId × Value → H} {W : World} {a0 : Option Addr} {len0 cap0 : Nat} {d0 : DataW H} {p0 : List MemPlace} (h0 : DataW.Trod enc Tryz.prog W 0 (fun _ => true) true 26 (.slice a0 len0 cap0) d0 p0) :
    len0 = 0 ∨ ∃ el sp, d0 = .slice el sp ∧ len0 ≤ el.length := by
  obtain ⟨fuel, hf⟩ := h0
  rcases open_ints Tryz.underlying26 Tryz.underlying3 (by kernel_rfl) hf with ⟨hcs, _⟩ | ⟨x, l, c, zs, hcs, _, hl, hm, hz, hx, _, _⟩
  · simp [Value.cells] at hcs
    exact Or.inl hcs.2.1
  · simp [Value.cells] at hcs
    obtain ⟨rfl, rfl, rfl⟩ := hcs
    refine Or.inr ⟨_, _, (Prod.mk.inj hx).1, ?_⟩
    have : len0 ≤ zs.length := by rw [hz]; split <;> omega
    simp [lits]
    omega

/-- What is laid. -/
def laid5 : List (String × DataW Unit) := [("math/bits.deBruijn32tab", Rows.laid_math_bits_deBruijn32tab), ("math/bits.deBruijn64tab", Rows.laid_math_bits_deBruijn64tab), ("internal/strconv.uint64pow10", Rows.laid_internal_strconv_uint64pow10), ("strconv.ErrRange", Rows.laid_strconv_ErrRange), ("strconv.ErrSyntax", Rows.laid_strconv_ErrSyntax)]

theorem door_met0 (os : Os) (args : Array Value) : laidMet Tryz.prog laid5 ((World.doorLaid Tryz.prog 4000 os).forCall (fun _ _ => 0) ⟨#[], args, []⟩).memory :=
  laidMet_of_run' 8 (by kernel_rfl) (by kernel_rfl)
theorem door_met (os : Os) (args : Array Value) : laidMetH Tryz.prog laid5 ((World.doorLaid Tryz.prog 4000 os).forCall (fun _ _ => 0) ⟨#[], args, []⟩).memory := by
  rw [MakeChecks.laidMetH_plain _ _ _ (by kernel_rfl)]
  exact door_met0 os args

theorem star : "*" ++ "errors.errorString" = "*errors.errorString" := by decide
theorem rowE (u : TypeId) (h : Tryz.prog.typeName? 3 u = some "*errors.errorString") : u = 227 :=
  typeName_ptr_named (nm := "errors.errorString") (by rw [star]; kernel_rfl) (by kernel_rfl) (by decide) u (by rw [star]; exact h)
theorem gR : Tryz.prog.globalNamed "strconv.ErrRange" = some 3 := by kernel_rfl
theorem gS : Tryz.prog.globalNamed "strconv.ErrSyntax" = some 2 := by kernel_rfl
theorem gRT : (Tryz.prog.globals[3]?).map (·.type) = some 100 := by kernel_rfl
theorem gST : (Tryz.prog.globals[2]?).map (·.type) = some 100 := by kernel_rfl
theorem cellsE : Tryz.prog.cellsOf 229 = 1 := by kernel_rfl
theorem cellsS : Tryz.prog.cellsOf 9 = 1 := by kernel_rfl

theorem of_laid {W : World} (h : laidMetH Tryz.prog laid5 W) : Errs W := by
  rw [MakeChecks.laidMetH_plain _ _ _ (by kernel_rfl)] at h
  have h2 := h.tail
  have h3 := h2.tail
  have h4 := h3.tail
  have h5 := h4.tail
  refine ⟨⟨?_, ?_⟩, ?_, ?_⟩
  · have t := Lib.tabIs_of_head (k := .u8) (zs := Lib.deBruijn64tab.map (fun n : Nat => (n : Int))) (g := 6) (t := 232) (e := 5) (n := 64) (by kernel_rfl) (by kernel_rfl) Tryz.underlying232 Tryz.underlying5 (by kernel_rfl) (by kernel_rfl) (h2 : laidMet Tryz.prog (("math/bits.deBruijn64tab", Lib.tabData .u8 (Lib.deBruijn64tab.map (fun n : Nat => (n : Int)))) :: _) W)
    have := t.cell (g := 6) (by kernel_rfl) 15 (by decide)
    exact this
  · exact Lib.tabIs_of_head (k := .u64) (zs := Lib.pow10Tab) (g := 4) (t := 223) (e := 189) (n := 20) (by kernel_rfl) (by kernel_rfl) Tryz.underlying223 Tryz.underlying189 (by kernel_rfl) (by kernel_rfl) (h3 : laidMet Tryz.prog (("internal/strconv.uint64pow10", Lib.tabData .u64 Lib.pow10Tab) :: _) W)
  · obtain ⟨a, s, hv, _, _, _⟩ := laid_sentinel h5 gS gST Tryz.underlying100 rowE Tryz.underlying227 Tryz.underlying229 rfl rfl Tryz.underlying9 cellsE cellsS
    exact ⟨_, _, by simpa using World.var?_cell gS hv 0⟩
  · obtain ⟨a, s, hv, _, _, _⟩ := laid_sentinel h4 gR gRT Tryz.underlying100 rowE Tryz.underlying227 Tryz.underlying229 rfl rfl Tryz.underlying9 cellsE cellsS
    exact ⟨_, _, by simpa using World.var?_cell gR hv 0⟩
end Go.Proofs.YtlfmfhmbkpnjbaaGreatDoor.laidP

namespace Go.Proofs.YtlfmfhmbkpnjbaaGreatDoor.recordsP
open Go.ChangeShapes Go.WideShapes Go.ChangeAt Go.RowKit Go.Deep
open openoP laidP
set_option linter.unusedVariables false
set_option maxRecDepth 100000

theorem contract (H : Type) (enc : TypeId × Value → H) (W : World) (base : Nat) (args : Array Value) (ds gs : List (DataW H)) (before : List MemPlace)
    (hval : ∀ (j : Nat) t v, Tryz.f3.params[j]? = some t → args[j]? = some v → Value.okWide Tryz.prog W .any base t v)
    (hW : DataW.Whole enc Tryz.prog Tryz.f3.params.toList Rows.recordsSpec.vars false W args.toList ds gs before) (hk : Rows.uptoSmall H (ds ++ gs) = true) (hL : laidMetH Tryz.prog laid5 W) :
    Calls Tryz.prog 3 args W fun e W' => ∃ v, e = .returned v ∧ Rows.recordsSpec.post enc Tryz.prog Tryz.f3 false true false false W args v W' := by
  have hW' := hW
  obtain ⟨p, q, hA0, hV, rfl, hfz, hnd⟩ := hW
  have hA : DataW.TrodAll enc Tryz.prog W 0 (fun _ => true) true Tryz.f3.params.toList args.toList ds p := hA0
  rw [Tryz.params3] at hA hval
  obtain ⟨v0, vs0, d0, ds0, p0, q0, hargs, rfl, rfl, h0, r0⟩ := trodAll_cons hA
  obtain ⟨rfl, rfl, rfl⟩ := trodAll_nil r0
  obtain rfl : args = #[v0] := by cases args; simp_all
  obtain ⟨rfl, rfl⟩ := trodVars_none hV
  have k0 := h0
  have lt0 : ∀ x ∈ p0, x.block < W.heap.size := by obtain ⟨m, hm⟩ := k0; exact DataW.trod_lt m _ _ _ hm
  clear hA0
  simp only [List.append_nil] at hk
  have hbulk : Rows.uptoBulkAll [d0] ≤ 1048576 := of_decide_eq_true hk
  simp only [Rows.uptoBulkAll] at hbulk
  obtain ⟨a1, len1, cap1, rfl⟩ := okWide_slice Tryz.underlying22 (hval 0 22 v0 rfl rfl)
  obtain ⟨hn1, hRO⟩ := open_ops h0 (by omega)
  refine (records_walk a1 len1 cap1 W hn1 (of_laid hL).tabs hRO).mono fun e W' ⟨he, bel⟩ => ?_
  subst he
  exact ⟨_, rfl, _, _, _, [], _, [], hW', trodAll_mk1 (shut_bool Tryz.underlying4 _), (trodAll_cons_mk (Below.trod laidOut (by kernel_rfl) (of_decide_eq_true (by kernel_rfl)) k0 bel lt0) trodAll_mk0), rfl, bel.frame _, fun h => by cases h⟩

theorem reads (os : Os) {H : Type} (enc : TypeId × Value → H) : ∃ places, DataW.whole enc Tryz.prog ((World.doorLaid Tryz.prog 4000 os).forCall (fun _ _ => 0) ⟨#[], #[.slice none 0 0], []⟩).memory Tryz.f3.params.toList Rows.recordsSpec.vars false #[Value.slice none 0 0].toList 8 = some ([.nil], [], places) :=
  ⟨[], by kernel_rfl⟩

theorem lifted (os : Os) (started : os.Started) (H : Type) (enc : TypeId × Value → H) (F : Stop.Interp) :
    ReturnsInHanded {} Tryz.checked os 3 .any ((Rows.OpenSpec.upto Rows.recordsSpec).preRow enc Tryz.prog Tryz.f3 Rows.recordsUptoRow.domain false Rows.recordsUptoRow.laid) (((Rows.OpenSpec.upto Rows.recordsSpec).at F).post enc Tryz.prog Tryz.f3 false true false false) := by
  obtain ⟨places, hx⟩ := reads os enc
  refine returnsInHanded_of_row (C := Tryz.checked) (s := Rows.OpenSpec.upto Rows.recordsSpec) own started (by kernel_rfl) Tryz.func3
    (witness_row_at (enc := enc) (C := Tryz.checked) false (World.doorLaid Tryz.prog 4000 os) #[.slice none 0 0] rfl (by kernel_rfl) (by kernel_rfl) (by kernel_rfl)
      (OpenSpec.preRow_of_cond 8 hx (by kernel_rfl) (fun k hk => by cases hk; kernel_rfl) (by kernel_rfl) (door_met0 os _))) ?_
  intro W base args ds gs before hval hW _ hcond _ hL _ _
  exact contract H enc W base args ds gs before hval hW (hcond _ rfl) hL

theorem over : Rows.RecordsUptoSaid :=
  OpenClaim.holds_of_cond 3 Tryz.f3 rfl rfl rfl rfl rfl rfl rfl ⟨rfl, rfl, rfl, rfl, rfl⟩ rfl rfl rfl rfl rfl (by kernel_rfl) Tryz.func3 (by kernel_rfl)
    (of_decide_eq_true (by kernel_rfl)) (by unfold Func.isWrapper; first | (rw [if_pos (by decide +kernel)]; kernel_rfl) | (rw [if_neg (by decide +kernel)]; exact ⟨rfl, rfl⟩))
    (fun os started H enc _ F => by rw [OpenClaim.pre_eq_preRow]; exact lifted os started H enc F)
end Go.Proofs.YtlfmfhmbkpnjbaaGreatDoor.recordsP

namespace Go.Proofs.YtlfmfhmbkpnjbaaGreatDoor
theorem records_holds : Rows.RecordsUptoCardSaid :=
  Claim7.holds_tied_plain_at .later [] [.data, .data, .data, .sentinel, .sentinel] true (true, "de327b41a66542c32e6ac8a13bc9f5b17f69e4109b6199f7c0cc9202a2eeede6") true
    recordsP.over (fun _ h => by cases h) (by kernel_rfl) (fun _ h => by cases h) recordsUpto_row_tie rfl ⟨rfl, rfl⟩ (by kernel_rfl) rfl
    (fun f fn hf hfn => by
      obtain rfl : f = 3 := Option.some.inj ((show Tryz.prog.funcNamed "encore/encorelaw.Records" = some 3 by kernel_rfl).symm.trans hf) |>.symm
      obtain rfl : fn = Tryz.f3 := (Option.some.inj (Tryz.func3.symm.trans hfn)).symm
      exact ⟨by kernel_rfl, fun j t ht => by
        rw [Tryz.params3] at ht
        have hm : t ∈ [22] := by simpa using Array.mem_of_getElem? ht
        have hall : ([22].all fun u => !Tryz.prog.wantsStandIn u) = true := by kernel_rfl
        exact (show Tryz.prog.wantsStandIn t = false by simpa using List.all_eq_true.1 hall t hm)⟩)
    (by kernel_rfl)
#print axioms records_holds
end Go.Proofs.YtlfmfhmbkpnjbaaGreatDoor
