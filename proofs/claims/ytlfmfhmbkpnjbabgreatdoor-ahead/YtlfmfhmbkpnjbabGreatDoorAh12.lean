import Derived.Test.YtlfmfhmbkpnjbabGreatDoorAh10
import Derived.Test.YtlfmfhmbkpnjbabGreatDoorAh11
import Derived.Lib.AtoiAll
import Derived.Lib.Bytealg
import Derived.Test.YtlfmfhmbkpnjbabGreatDoorAh9
import Derived.Test.YtlfmfhmbkpnjbabGreatDoorAh1
import Derived.Test.YtlfmfhmbkpnjbabGreatDoorRows
namespace Go.Proofs.YtlfmfhmbkpnjbabGreatDoor
open Go.RowKit

/-- A text, cut at the first of a sign. -/
def cutL (c : UInt8) : List UInt8 → List UInt8 × List UInt8 × Bool
  | [] => ([], [], false)
  | x :: r => if x = c then ([], r, true) else (x :: (cutL c r).1, (cutL c r).2.1, (cutL c r).2.2)
theorem cutL_hit (c : UInt8) (a b : List UInt8) (h : c ∉ a) : cutL c (a ++ c :: b) = (a, b, true) := by
  induction a with
  | nil => simp [cutL]
  | cons x r ih =>
    have hx : ¬ x = c := fun e => h (by simp [e])
    have := ih (fun e => h (by simp [e]))
    simp only [List.cons_append, cutL, if_neg hx, this]
theorem cutL_miss (c : UInt8) (a : List UInt8) (h : c ∉ a) : cutL c a = (a, [], false) := by
  induction a with
  | nil => rfl
  | cons x r ih =>
    have hx : ¬ x = c := fun e => h (by simp [e])
    have := ih (fun e => h (by simp [e]))
    simp only [cutL, if_neg hx, this]
theorem cutL_short (c : UInt8) (s : List UInt8) : (cutL c s).1.length ≤ s.length ∧ (cutL c s).2.1.length ≤ s.length ∧ ((cutL c s).2.2 = true → (cutL c s).2.1.length < s.length) := by
  induction s with
  | nil => simp [cutL]
  | cons x r ih =>
    by_cases h : x = c
    · simp [cutL, h]
    · simp only [cutL, if_neg h, List.length_cons]
      refine ⟨by omega, by omega, fun e => ?_⟩
      have := ih.2.2 e
      omega
theorem cutL_index (c : UInt8) (s : List UInt8) : (Lib.indexByte s c = -1 ∧ cutL c s = (s, [], false)) ∨ ∃ i : Nat, Lib.indexByte s c = (i : Int) ∧ i < s.length ∧ cutL c s = (s.take i, s.drop (i + 1), true) := by
  induction s with
  | nil => exact Or.inl ⟨rfl, rfl⟩
  | cons x r ih =>
    by_cases h : x = c
    · refine Or.inr ⟨0, ?_, by simp, by simp [cutL, h]⟩
      simp [Lib.indexByte, h]
    · rcases ih with ⟨h1, h2⟩ | ⟨i, h1, h2, h3⟩
      · refine Or.inl ⟨?_, by simp [cutL, h, h2]⟩
        simp [Lib.indexByte, h, h1]
      · refine Or.inr ⟨i + 1, ?_, by simp; omega, by simp [cutL, h, h3]⟩
        have hb : (x == c) = false := by simp [h]
        have hi : ((i : Int) == -1) = false := by simp
        simp [Lib.indexByte, hb, h1, hi]

/-! Numbers. -/
theorem parse_app (l m : List UInt8) (a v : Nat) (h : Lib.parseUint10 a l = .ok v) : Lib.parseUint10 a (l ++ m) = Lib.parseUint10 v m := by
  induction l generalizing a with
  | nil =>
    simp only [Lib.parseUint10] at h
    injection h with h
    simp [h]
  | cons c r ih =>
    simp only [Lib.parseUint10] at h
    simp only [List.cons_append, Lib.parseUint10]
    split at h
    · rename_i h1
      rw [if_pos h1]
      split at h
      · cases h
      · rename_i h2
        rw [if_neg h2]
        split at h
        · cases h
        · rename_i h3
          rw [if_neg h3]
          exact ih _ h
    · cases h
theorem decs_form (u : Nat) : Lib.decDigits u = (if u < 10 then [] else Lib.decDigits (u / 10)) ++ [UInt8.ofNat (48 + u % 10)] := by
  by_cases h : u < 10
  · rw [Lib.decDigits, dif_pos h, if_pos h, Nat.mod_eq_of_lt h]; rfl
  · rw [Lib.decDigits, dif_neg h, if_neg h]
theorem dec_parse (u : Nat) (h : u < 18446744073709551616) : Lib.parseUint10 0 (Lib.decDigits u) = .ok u := by
  induction u using Nat.strongRecOn with
  | _ u ih =>
    have key : Lib.parseUint10 (u / 10) [UInt8.ofNat (48 + u % 10)] = .ok u := by
      have e : (UInt8.ofNat (48 + u % 10)).toNat = 48 + u % 10 := by rw [UInt8.toNat_ofNat']; omega
      simp only [Lib.parseUint10, e]
      rw [if_pos (by omega), if_neg (by omega), if_neg (by omega)]
      congr 1
      omega
    rw [decs_form u]
    by_cases hu : u < 10
    · rw [if_pos hu, List.nil_append]
      rw [show u / 10 = 0 by omega] at key
      exact key
    · rw [if_neg hu, parse_app _ _ _ _ (ih (u / 10) (by omega) (by omega))]
      exact key
theorem dec_first (u : Nat) : ∃ c r, Lib.decDigits u = c :: r ∧ 48 ≤ c.toNat := by
  induction u using Nat.strongRecOn with
  | _ u ih =>
    rw [decs_form u]
    by_cases hu : u < 10
    · rw [if_pos hu]
      exact ⟨_, _, rfl, by rw [UInt8.toNat_ofNat']; omega⟩
    · rw [if_neg hu]
      obtain ⟨c, r, h1, h2⟩ := ih (u / 10) (by omega)
      exact ⟨c, r ++ _, by rw [h1]; rfl, h2⟩
theorem atoi_neg (D : List UInt8) (u : Nat) (h : Lib.parseMag D = .ok u) (hu : u ≤ 9223372036854775808) : Lib.atoiAll (45 :: D) = .ok (-(u : Int)) := by
  have e45 : (45 : UInt8).toNat = 45 := rfl
  unfold Lib.atoiAll
  dsimp only
  rw [if_pos (Or.inr e45), h]
  dsimp only
  rw [if_neg (fun e => e.1 e45), if_neg (fun e => by omega), if_pos e45]
theorem atoi_pos (c : UInt8) (r : List UInt8) (u : Nat) (hc : 48 ≤ c.toNat) (h : Lib.parseMag (c :: r) = .ok u) (hu : u < 9223372036854775808) : Lib.atoiAll (c :: r) = .ok (u : Int) := by
  have h45 : ¬ c.toNat = 45 := by omega
  unfold Lib.atoiAll
  dsimp only
  rw [if_neg (by omega), h]
  dsimp only
  rw [if_neg (fun e => by omega), if_neg (fun e => h45 e.1), if_neg h45]
theorem atoi_itoa (n : Int) (h : -9223372036854775808 ≤ n ∧ n ≤ 9223372036854775807) : Lib.atoiAll (Lib.itoa n) = .ok n := by
  unfold Lib.itoa
  split
  · rename_i hn
    obtain ⟨c, r, e, _⟩ := dec_first n.natAbs
    have hp := dec_parse n.natAbs (by omega)
    have hm : Lib.parseMag (Lib.decDigits n.natAbs) = .ok n.natAbs := by unfold Lib.parseMag; rw [if_neg (by rw [e]; simp)]; exact hp
    have := atoi_neg _ _ hm (by omega)
    rw [this]
    congr 1
    omega
  · rename_i hn
    obtain ⟨c, r, e, hc⟩ := dec_first n.toNat
    have hp := dec_parse n.toNat (by omega)
    have hm : Lib.parseMag (Lib.decDigits n.toNat) = .ok n.toNat := by unfold Lib.parseMag; rw [if_neg (by rw [e]; simp)]; exact hp
    rw [e] at hm ⊢
    have := atoi_pos _ _ _ hc hm (by omega)
    rw [this]
    congr 1
    omega

/-- A word as a number, if it is just as one is written. -/
def numL (x : List UInt8) : Option Int :=
  match Lib.atoiAll x with
  | .ok n => if Lib.itoa n = x then some n else none
  | _ => none
theorem numL_itoa (n : Int) (h : -9223372036854775808 ≤ n ∧ n ≤ 9223372036854775807) : numL (Lib.itoa n) = some n := by simp [numL, atoi_itoa n h]

/-- A sign of a number at base 16. -/
def hexD (c : Nat) : Option Nat :=
  if 48 ≤ c ∧ c ≤ 57 then some (c - 48) else if 97 ≤ c ∧ c ≤ 102 then some (c - 87) else if 65 ≤ c ∧ c ≤ 70 then some (c - 55) else none
def hexA (a : Nat) : List UInt8 → Option Nat
  | [] => some a
  | c :: r => match hexD c.toNat with
    | some d => if 4294967296 ≤ a * 16 + d then none else hexA (a * 16 + d) r
    | none => none
/-- A word as the bits of a number with a point, if it is just as one is written. -/
def bitsL (x : List UInt8) : Option Nat :=
  if x = [] then none else match hexA 0 x with
  | some u => if hexL u = x then some u else none
  | none => none
theorem hexA_app (l m : List UInt8) (a v : Nat) (h : hexA a l = some v) : hexA a (l ++ m) = hexA v m := by
  induction l generalizing a with
  | nil =>
    simp only [hexA] at h
    injection h with h
    simp [h]
  | cons c r ih =>
    simp only [hexA] at h
    simp only [List.cons_append, hexA]
    split at h
    · split at h
      · cases h
      · rename_i h2
        rw [if_neg h2]
        exact ih _ h
    · cases h
theorem hexA_lt (l : List UInt8) (a v : Nat) (ha : a < 4294967296) (h : hexA a l = some v) : v < 4294967296 := by
  induction l generalizing a with
  | nil =>
    simp only [hexA] at h
    injection h with h
    omega
  | cons c r ih =>
    simp only [hexA] at h
    split at h
    · split at h
      · cases h
      · exact ih _ (by omega) h
    · cases h
theorem hexD_hexc : ∀ d : Fin 16, hexD (hexc d.val).toNat = some d.val := by decide
theorem hexs_form (u : Nat) : hexL u = (if u < 16 then [] else hexL (u / 16)) ++ [hexc (u % 16)] := by
  by_cases h : u < 16
  · rw [hexL_one h, if_pos h, Nat.mod_eq_of_lt h]; rfl
  · rw [hexL_more h, if_neg h]
theorem hex_parse (u : Nat) (h : u < 4294967296) : hexA 0 (hexL u) = some u := by
  induction u using Nat.strongRecOn with
  | _ u ih =>
    have key : hexA (u / 16) [hexc (u % 16)] = some u := by
      have e := hexD_hexc ⟨u % 16, Nat.mod_lt _ (by decide)⟩
      simp only at e
      simp only [hexA, e]
      rw [if_neg (by omega)]
      congr 1
      omega
    rw [hexs_form u]
    by_cases hu : u < 16
    · rw [if_pos hu, List.nil_append]
      rw [show u / 16 = 0 by omega] at key
      exact key
    · rw [if_neg hu, hexA_app _ _ _ _ (ih (u / 16) (by omega) (by omega))]
      exact key
theorem bitsL_hex (u : Nat) (h : u < 4294967296) : bitsL (hexL u) = some u := by
  have hne : hexL u ≠ [] := by rw [hexs_form]; simp
  simp [bitsL, hne, hex_parse u h]

/-! A reader. -/
structure Rd where
  rest : List UInt8
  over : Bool
  broken : Bool
def Rd.bad (r : Rd) : Rd := ⟨r.rest, r.over, true⟩
def Rd.word (r : Rd) : List UInt8 × Rd :=
  if r.over = true then ([], ⟨r.rest, true, true⟩) else ((cutL 32 r.rest).1, ⟨(cutL 32 r.rest).2.1, !(cutL 32 r.rest).2.2, r.broken⟩)
def Rd.int (r : Rd) (lo hi : Int) : Int × Rd :=
  match numL r.word.1 with
  | some n => if lo ≤ n ∧ n ≤ hi then (n, r.word.2) else (0, r.word.2.bad)
  | none => (0, r.word.2.bad)
def Rd.any (r : Rd) : Int × Rd := r.int (-9223372036854775808) 9223372036854775807
def Rd.flt (r : Rd) : Nat × Rd :=
  match bitsL r.word.1 with
  | some u => (u, r.word.2)
  | none => (0, r.word.2.bad)
def Rd.cmd (r : Rd) : Cmd × Rd :=
  if r.any.1 = 1 then (⟨1, r.any.2.any.1, r.any.2.any.2.any.1, r.any.2.any.2.any.2.flt.1, r.any.2.any.2.any.2.flt.2.flt.1, 0⟩, r.any.2.any.2.any.2.flt.2.flt.2)
  else if r.any.1 = 2 then (⟨2, r.any.2.any.1, 0, r.any.2.any.2.flt.1, r.any.2.any.2.flt.2.flt.1, 0⟩, r.any.2.any.2.flt.2.flt.2)
  else if r.any.1 = 3 then (⟨3, r.any.2.any.1, 0, 0, 0, r.any.2.any.2.any.1⟩, r.any.2.any.2.any.2)
  else if r.any.1 = 4 then (⟨4, r.any.2.any.1, 0, 0, 0, 0⟩, r.any.2.any.2)
  else (⟨r.any.1, 0, 0, 0, 0, 0⟩, r.any.2)
def Rd.cmds (r : Rd) : Nat → List Cmd × Rd
  | 0 => ([], r)
  | k + 1 => ((r.cmds k).1 ++ [(r.cmds k).2.cmd.1], (r.cmds k).2.cmd.2)
def Rd.ent (r : Rd) : Mob × Rd :=
  (⟨r.any.1, r.any.2.any.1, r.any.2.any.2.flt.1, r.any.2.any.2.flt.2.flt.1, r.any.2.any.2.flt.2.flt.2.flt.1, r.any.2.any.2.flt.2.flt.2.flt.2.flt.1, r.any.2.any.2.flt.2.flt.2.flt.2.flt.2.any.1⟩,
    r.any.2.any.2.flt.2.flt.2.flt.2.flt.2.any.2)
def Rd.ents (r : Rd) : Nat → List Mob × Rd
  | 0 => ([], r)
  | k + 1 => ((r.ents k).1 ++ [(r.ents k).2.ent.1], (r.ents k).2.ent.2)
def Rd.cmdL (r : Rd) : List Cmd × Rd := (r.int 0 64).2.cmds (r.int 0 64).1.toNat
def Rd.entL (r : Rd) : List Mob × Rd := (r.int 0 32).2.ents (r.int 0 32).1.toNat
def Rd.done (r : Rd) : Bool := r.over && !r.broken
def Rd.of (l : List UInt8) : Rd := ⟨l, false, false⟩

/-- What a file tells. -/
structure Mt where
  ev : Nat
  cmds : List (List Cmd)
  whole : List (List Mob)
open Classical in
noncomputable def Mt.add (m : Mt) (l : List UInt8) : Option Mt :=
  if 500 ≤ m.cmds.length then none
  else if (m.cmds.length + 1) % m.ev = 0 then
    if worldB ((m.cmds.length : Int) + 1) (Rd.of l).cmdL.2.entL.1 = true ∧ (Rd.of l).cmdL.2.entL.2.done = true then some ⟨m.ev, m.cmds ++ [(Rd.of l).cmdL.1], m.whole ++ [(Rd.of l).cmdL.2.entL.1]⟩ else none
  else if (Rd.of l).cmdL.2.done = true then some ⟨m.ev, m.cmds ++ [(Rd.of l).cmdL.1], m.whole⟩ else none
noncomputable def Mt.adds (m : Mt) : List (List UInt8) → Option Mt
  | [] => some m
  | l :: r => match m.add l with
    | some m' => m'.adds r
    | none => none
/-- The lines that have their end. -/
def linesL (a : List UInt8) : List UInt8 → List (List UInt8)
  | [] => []
  | x :: r => if x = 10 then a :: linesL [] r else linesL (a ++ [x]) r
def encoreL : List UInt8 := [101, 110, 99, 111, 114, 101]
def everyL (l : List UInt8) : Option Nat :=
  if (Rd.of l).word.1 = encoreL ∧ ((Rd.of l).word.2.int 1 64).2.done = true then some ((Rd.of l).word.2.int 1 64).1.toNat else none
noncomputable def matchL (s : List UInt8) : Option Mt :=
  match linesL [] s with
  | [] => none
  | f :: r => match everyL f with
    | some ev => (Mt.mk ev [] [[]]).adds r
    | none => none

/-- The world at a tick. -/
noncomputable def fromM (css : List (List Cmd)) (b : Nat) (L : List Mob) : Nat → List Mob
  | 0 => L
  | k + 1 => stepL (css.getD (b + k) []) (fromM css b L k)
noncomputable def Mt.at (m : Mt) (t : Nat) : List Mob := fromM m.cmds (t / m.ev * m.ev) (m.whole.getD (t / m.ev) []) (t % m.ev)

/-- A match that can be played. -/
structure Mt.Ok (m : Mt) : Prop where
  ev : 1 ≤ m.ev ∧ m.ev ≤ 64
  len : m.cmds.length ≤ 500
  cmds : ∀ cs ∈ m.cmds, cs.length ≤ 64
  count : m.whole.length = m.cmds.length / m.ev + 1
  good : ∀ k (h : k < m.whole.length), worldB ((k * m.ev : Nat) : Int) m.whole[k] = true
theorem int_bounds (r : Rd) (lo hi : Int) (h : lo ≤ 0 ∧ 0 ≤ hi) : lo ≤ (r.int lo hi).1 ∧ (r.int lo hi).1 ≤ hi := by
  unfold Rd.int
  split
  · split
    · assumption
    · exact h
  · exact h
theorem cmds_length (r : Rd) (k : Nat) : (r.cmds k).1.length = k := by
  induction k with
  | zero => rfl
  | succ n ih => simp [Rd.cmds, ih]
theorem ents_length (r : Rd) (k : Nat) : (r.ents k).1.length = k := by
  induction k with
  | zero => rfl
  | succ n ih => simp [Rd.ents, ih]
theorem cmdL_short (r : Rd) : r.cmdL.1.length ≤ 64 := by
  have := int_bounds r 0 64 (by omega)
  unfold Rd.cmdL
  rw [cmds_length]
  omega
theorem Mt.add_ok {m m' : Mt} {l : List UInt8} (h : m.Ok) (ha : m.add l = some m') : m'.Ok ∧ m'.ev = m.ev ∧ m'.cmds.length = m.cmds.length + 1 := by
  have hev := h.ev
  unfold Mt.add at ha
  split at ha
  · cases ha
  · rename_i hl
    have hdiv : ∀ q, m.cmds.length / m.ev = q → (m.cmds.length + 1) / m.ev = if (m.cmds.length + 1) % m.ev = 0 then q + 1 else q := by
      intro q hq
      rw [Nat.succ_div]
      simp only [Nat.dvd_iff_mod_eq_zero, hq]
      split <;> rfl
    split at ha
    · rename_i h0
      split at ha
      · rename_i hw
        injection ha with ha
        subst ha
        refine ⟨⟨h.ev, by simp; omega, ?_, ?_, ?_⟩, rfl, by simp⟩
        · intro cs hc
          rcases List.mem_append.1 hc with hc | hc
          · exact h.cmds cs hc
          · simp only [List.mem_cons, List.not_mem_nil, or_false] at hc
            subst hc
            exact cmdL_short _
        · simp only [List.length_append, List.length_cons, List.length_nil, Nat.zero_add]
          rw [hdiv _ rfl, if_pos h0, h.count]
        · intro k hk
          simp only [List.length_append, List.length_cons, List.length_nil, Nat.zero_add] at hk
          by_cases hk' : k < m.whole.length
          · simp only [List.getElem_append_left hk']
            exact h.good k hk'
          · obtain rfl : k = m.whole.length := by omega
            simp only [List.getElem_append_right (Nat.le_refl _), Nat.sub_self, List.getElem_cons_zero]
            rw [show ((m.whole.length * m.ev : Nat) : Int) = (m.cmds.length : Int) + 1 from ?_]
            · exact hw.1
            · have := Nat.div_add_mod (m.cmds.length + 1) m.ev
              rw [h0, hdiv _ rfl, if_pos h0, Nat.mul_comm] at this
              rw [h.count]
              omega
      · cases ha
    · rename_i h0
      split at ha
      · injection ha with ha
        subst ha
        refine ⟨⟨h.ev, by simp; omega, ?_, ?_, h.good⟩, rfl, by simp⟩
        · intro cs hc
          rcases List.mem_append.1 hc with hc | hc
          · exact h.cmds cs hc
          · simp only [List.mem_cons, List.not_mem_nil, or_false] at hc
            subst hc
            exact cmdL_short _
        · simp only [List.length_append, List.length_cons, List.length_nil, Nat.zero_add]
          rw [hdiv _ rfl, if_neg h0, h.count]
      · cases ha
end Go.Proofs.YtlfmfhmbkpnjbabGreatDoor

namespace Go.Proofs.YtlfmfhmbkpnjbabGreatDoor
open Go.RowKit

/-- The library's tables, and its two errors. -/
structure Errs (w : World) : Prop where
  tabs : Tabs w
  syn : ∃ te pe, w.cell? ⟨2, 0, none⟩ = some (.iface te pe)
  rng : ∃ te pe, w.cell? ⟨3, 0, none⟩ = some (.iface te pe)
theorem Errs.keep {w w' : World} {S : Nat → Prop} (h : Errs w) (k : Kept S w w') (h1 : ¬ S 6) (h2 : ¬ S 4) (h3 : ¬ S 2) (h4 : ¬ S 3) : Errs w' := by
  obtain ⟨te, pe, hs⟩ := h.syn
  obtain ⟨tr, pr, hr⟩ := h.rng
  exact ⟨h.tabs.keep k h1 h2, ⟨te, pe, by rw [cell_keep k (World.block_lt_of_cell? w _ hs) h3]; exact hs⟩, ⟨tr, pr, by rw [cell_keep k (World.block_lt_of_cell? w _ hr) h4]; exact hr⟩⟩
theorem Errs.calm {w w' : World} (h : Errs w) (k : Kept (fun _ => False) w w') : Errs w' := h.keep k (fun e => e) (fun e => e) (fun e => e) (fun e => e)

/-- A text of some bytes. -/
abbrev baL (l : List UInt8) : ByteArray := ⟨l.toArray⟩
theorem baL_size (l : List UInt8) : (baL l).size = l.length := by show l.toArray.size = _; simp
theorem baL_list (l : List UInt8) : (baL l).data.toList = l := by simp
theorem baL_inj {a b : List UInt8} (h : baL a = baL b) : a = b := by
  have := congrArg (fun x : ByteArray => x.data.toList) h
  simpa using this
theorem baL_beq (a b : List UInt8) : ((baL a).toList == (baL b).toList) = decide (a = b) := by
  rw [ByteArray.toList_eq, ByteArray.toList_eq]
  by_cases h : a = b <;> simp [h]

set_option maxHeartbeats 1000000 in
set_option maxRecDepth 100000 in
/-- Where a sign stands. -/
theorem index1_c (s : ByteArray) (c : UInt8) (w : World) :
    Calls Tryz.prog 69 #[.string s, .string ⟨#[c]⟩] w fun e w' => e = .returned (.int .i64 (Lib.indexByte s.data.toList c)) ∧ w' = w := by
  have hz : ((⟨#[c]⟩ : ByteArray).size : Int) = 1 := rfl
  have hcc : ((c.toNat : Int).toNat.toUInt8) = c := by simp
  by_cases hs : (⟨#[c]⟩ : ByteArray) = s
  · subst hs
    have he : Lib.indexByte (⟨#[c]⟩ : ByteArray).data.toList c = 0 := by simp [Lib.indexByte]
    rw [he]
    go_enter Tryz.func69, Tryz.ntmps69
    go_wp2_with fail
    go_ret
    exact ⟨rfl, rfl⟩
  · have hb : ([c] == s.toList) = false := by
      rw [beq_eq_false_iff_ne]
      intro e
      apply hs
      apply bytes_inj
      rw [← e]
      simp [ByteArray.toList_eq]
    go_enter Tryz.func69, Tryz.ntmps69
    go_wp2_with fail
    refine (Tryz.stringslite_IndexByte s c.toNat w).mono ?_
    rintro e w' ⟨rfl, rfl⟩
    rw [hcc]
    go_wp2
    go_ret
    exact ⟨rfl, rfl⟩

set_option maxHeartbeats 1000000 in
set_option maxRecDepth 100000 in
/-- strings.Cut at one sign. -/
theorem cut0_c (s : List UInt8) (c : UInt8) (w : World) (hl : (s.length : Int) ≤ 4611686018427387904) :
    Calls Tryz.prog 45 #[.string (baL s), .string ⟨#[c]⟩] w fun e w' => e = .returned (.tuple #[.string (baL (cutL c s).1), .string (baL (cutL c s).2.1), .bool (cutL c s).2.2]) ∧ Kept (fun _ => False) w w' := by
  have hz : ((⟨#[c]⟩ : ByteArray).size : Int) = 1 := rfl
  have hsz := baL_size s
  rcases cutL_index c s with ⟨h1, h2⟩ | ⟨i, h1, h2, h3⟩
  · rw [h2]
    go_enter Tryz.func45, Tryz.ntmps45
    go_wp2_with fail
    refine (index1_c (baL s) c w).mono ?_
    rintro e w' ⟨rfl, rfl⟩
    rw [baL_list, h1]
    go_wp2
    go_ret3
    exact ⟨rfl, Kept.refl _ _⟩
  · have e1 : baL (s.take i) = (baL s).extract 0 i := by rw [Lib.extract_eq]; simp
    have e2 : baL (s.drop (i + 1)) = (baL s).extract (i + 1) (baL s).size := by
      rw [Lib.extract_eq, baL_list, List.take_of_length_le (by rw [List.length_drop, hsz]; exact Nat.le_refl _)]
    rw [h3]
    simp only [e1, e2]
    have c1 : (0 : Int) ≤ (i : Int) := by omega
    have c2 : (i : Int) ≤ ((baL s).size : Int) := by rw [hsz]; omega
    have c3 : (0 : Int) ≤ (i : Int) + 1 := by omega
    have c4 : (i : Int) + 1 ≤ ((baL s).size : Int) := by rw [hsz]; omega
    have HH := hide h1
    have HS := hide hsz
    clear e1 e2 h1 h3 hsz
    generalize hS : baL s = S at *
    go_enter Tryz.func45, Tryz.ntmps45
    go_wp2_with fail
    refine (index1_c S c w).mono ?_
    rintro e w' ⟨rfl, rfl⟩
    rw [show S.data.toList = s from by rw [← hS], HH.out]
    go_wp2
    go_quiet (fail)
    go_wp2
    go_ret3
    exact ⟨rfl, Kept.drewN _ _⟩

set_option maxHeartbeats 1000000 in
set_option maxRecDepth 100000 in
theorem cut1_c (s : List UInt8) (c : UInt8) (w : World) (hl : (s.length : Int) ≤ 4611686018427387904) :
    Calls Tryz.prog 23 #[.string (baL s), .string ⟨#[c]⟩] w fun e w' => e = .returned (.tuple #[.string (baL (cutL c s).1), .string (baL (cutL c s).2.1), .bool (cutL c s).2.2]) ∧ Kept (fun _ => False) w w' := by
  go_enter Tryz.func23, Tryz.ntmps23
  go_wp2_with fail
  refine (cut0_c s c w hl).mono ?_
  rintro e w1 ⟨rfl, k1⟩
  have K1 := hide k1
  clear k1
  go_wp2
  go_ret3
  exact ⟨rfl, K1.out⟩
end Go.Proofs.YtlfmfhmbkpnjbabGreatDoor

namespace Go.Proofs.YtlfmfhmbkpnjbabGreatDoor
open Go.RowKit

/-- A world as the cache keeps it: its tick, the list's place, length and room. -/
structure Wv where
  t : Int
  p : Option Addr
  n : Nat
  cap : Nat
def Wv.sl (v : Wv) : Value := .slice v.p v.n v.cap
abbrev Ew := Int × Wv

/-- The cells of a list of entries, three each. -/
def flat3 : List Ew → List Value
  | [] => []
  | p :: r => .int .i64 p.1 :: .int .i64 p.2.t :: p.2.sl :: flat3 r

theorem flat3_length (L : List Ew) : (flat3 L).length = L.length * 3 := by
  induction L with
  | nil => rfl
  | cons p r ih => simp only [flat3, List.length_cons, ih]; omega

theorem flat3_append (L M : List Ew) : flat3 (L ++ M) = flat3 L ++ flat3 M := by
  induction L with
  | nil => rfl
  | cons p r ih => simp [flat3, ih]

theorem flat3_take (L : List Ew) (n : Nat) : (flat3 L).take (n * 3) = flat3 (L.take n) := by
  induction L generalizing n with
  | nil => simp [flat3]
  | cons p r ih =>
    cases n with
    | zero => simp [flat3]
    | succ m => rw [show (m + 1) * 3 = m * 3 + 1 + 1 + 1 from by omega]; simp [flat3, ih]

theorem flat3_drop (L : List Ew) (n : Nat) : (flat3 L).drop (n * 3) = flat3 (L.drop n) := by
  induction L generalizing n with
  | nil => simp [flat3]
  | cons p r ih =>
    cases n with
    | zero => simp
    | succ m => rw [show (m + 1) * 3 = m * 3 + 1 + 1 + 1 from by omega]; simp [flat3, ih]

theorem flat3_get (L : List Ew) (j : Nat) (h : j < L.length) : (flat3 L)[j * 3]? = some (.int .i64 L[j].1) ∧ (flat3 L)[j * 3 + 1]? = some (.int .i64 L[j].2.t) ∧ (flat3 L)[j * 3 + 2]? = some L[j].2.sl := by
  induction L generalizing j with
  | nil => simp at h
  | cons p r ih =>
    cases j with
    | zero => simp [flat3]
    | succ m =>
      have := ih m (by simpa using h)
      rw [show (m + 1) * 3 = m * 3 + 1 + 1 + 1 from by omega]
      simpa [flat3, Nat.add_assoc] using this

theorem flat3_one (L : List Ew) : ∀ u ∈ flat3 L, u.oneCell' = true := by
  induction L with
  | nil => simp [flat3]
  | cons p r ih =>
    intro u hu
    simp only [flat3, List.mem_cons] at hu
    rcases hu with rfl | rfl | rfl | h
    · rfl
    · rfl
    · rfl
    · exact ih u h

/-- The cache of worlds in memory. -/
def CacheAt3 (w : World) (c : Nat) (cap : Int) (v : Value) (n : Nat) (xs : List Value) : Prop :=
  w.heap[c]? = some (.cells #[.int .i64 cap, v] 77 (0, 0)) ∧ w.ownsRow 0 105 3 v n xs

theorem CacheAt3.ne {w : World} {c : Nat} {cap : Int} {v : Value} {n : Nat} {xs : List Value} (h : CacheAt3 w c cap v n xs) : v.ownBlock ≠ some c := by
  intro e
  rcases h.2.2 with ⟨rfl, _⟩ | ⟨g, cp, cur, rfl, _, hh, _⟩
  · cases e
  · obtain rfl : g = c := by simpa [Value.ownBlock] using e
    have := h.1.symm.trans hh
    simp at this

theorem new_three (w0 : World) (a b d : Value) (T : TypeId) (m : Nat) (hm : m = w0.heap.size) : ∀ j u, [a, b, d][j]? = some u → (w0.alloc (.cells #[a, b, d] T)).cell? ((⟨m, 0, none⟩ : Addr).add j) = some u := by
  subst hm
  intro j u hu
  rw [addr_add, cell_block (heap_alloc_new w0 _)]
  simpa using hu

theorem three_cells {w : World} {c : Nat} {a b d : Value} {T : TypeId} (h : w.heap[c]? = some (.cells #[a, b, d] T (0, 0))) :
    w.cell? ⟨c, 0, none⟩ = some a ∧ w.cell? ⟨c, 1, none⟩ = some b ∧ w.cell? ⟨c, 2, none⟩ = some d ∧ w.frozen? ⟨c, 0, none⟩ = false ∧ w.frozen? ⟨c, 1, none⟩ = false ∧ w.frozen? ⟨c, 2, none⟩ = false := by
  simp [World.cell?, World.frozen?, h]

theorem grow_fin3 {w w1 : World} {nq : Nat} {o : Obj} {c : Nat} {cap : Int} {v : Value} {g cp' n' : Nat} {xs' : List Value} (hb : w.heap[c]? = some (.cells #[.int .i64 cap, v] 77 (0, 0))) (hne : v.ownBlock ≠ some c)
    (hgrow : ((w.drewN nq).alloc o).grownBy w1 v.ownBlock) (hown : w1.ownsRow 0 105 3 (.slice (some ⟨g, 0, none⟩) n' cp') n' xs') (hg : v.ownBlock = some g ∨ w.heap.size + 1 ≤ g) :
    CacheAt3 (w1.setCell ⟨c, 1, none⟩ (.slice (some ⟨g, 0, none⟩) n' cp')) c cap (.slice (some ⟨g, 0, none⟩) n' cp') n' xs' ∧
      Kept (fun k => k = c ∨ v.ownBlock = some k) w (w1.setCell ⟨c, 1, none⟩ (.slice (some ⟨g, 0, none⟩) n' cp')) ∧
      (v.ownBlock = some g ∨ w.heap.size ≤ g) := by
  have hc := heap_lt hb
  have hgc : g ≠ c := by
    rcases hg with h | h
    · intro e; exact hne (by rw [h, e])
    · omega
  have hg' : v.ownBlock = some g ∨ w.heap.size ≤ g := by
    rcases hg with h | h
    · exact Or.inl h
    · right; omega
  refine ⟨⟨two_set (grow_at hb hne hgrow) _, owns_block hown ?_⟩, ?_, hg'⟩
  · intro g' e
    simp only [Value.ownBlock, Option.some.injEq] at e
    subst e
    exact Below.heap_setCell _ _ _ _ hgc
  · refine ((Kept.drewN w nq).join (Kept.alloc _ o) (R := fun _ => False) (fun _ _ h => h) (fun _ _ h => h)).join ((Kept.of_grown hgrow).join (Kept.setCell w1 _ _) (R := fun k => k = c ∨ v.ownBlock = some k) (fun _ _ h => Or.inr h.symm) (fun _ _ h => Or.inl h)) (fun _ _ h => h.elim) (fun _ _ h => h)

theorem use_facts3 {w w1 : World} {c g : Nat} {x v a b d : Value} {cs : List Value} (hb : w.heap[c]? = some (.cells #[x, v] 77 (0, 0))) (hne : g ≠ c) (hg : g < w.heap.size) (h2 : 3 ≤ cs.length)
    (hg1 : w1.heap[g]? = some (.cells cs.toArray 105 (0, 0))) (hk : Kept (fun k => k = g) (w.alloc (.cells #[a, b, d] 105)).drew w1) :
    w1.cell? ⟨c, 1, none⟩ = some v ∧ w1.cell? ⟨w.heap.size, 0, none⟩ = some a ∧ w1.cell? ⟨w.heap.size, 1, none⟩ = some b ∧ w1.cell? ⟨w.heap.size, 2, none⟩ = some d ∧
      w1.cell? ⟨g, 0, none⟩ = some (cs.getD 0 undef) ∧ w1.cell? ⟨g, 1, none⟩ = some (cs.getD 1 undef) ∧ w1.cell? ⟨g, 2, none⟩ = some (cs.getD 2 undef) ∧ w1.frozen? ⟨g, 0, none⟩ = false ∧ w1.frozen? ⟨g, 1, none⟩ = false ∧ w1.frozen? ⟨g, 2, none⟩ = false := by
  have hc := heap_lt hb
  have e1 : w1.heap[c]? = some (.cells #[x, v] 77 (0, 0)) := by
    rw [hk.block c (by show c < (w.alloc _).heap.size; simp; omega) (fun e => hne e.symm)]
    exact (Below.heap_alloc w _ c hc).trans hb
  have e2 : w1.heap[w.heap.size]? = some (.cells #[a, b, d] 105 (0, 0)) := by
    rw [hk.block _ (by show _ < (w.alloc _).heap.size; simp) (by omega)]
    exact heap_alloc_new w _
  refine ⟨by rw [cell_block e1]; rfl, by rw [cell_block e2]; rfl, by rw [cell_block e2]; rfl, by rw [cell_block e2]; rfl, ?_, ?_, ?_, by simp [World.frozen?, hg1], by simp [World.frozen?, hg1], by simp [World.frozen?, hg1]⟩
  · rw [cell_block hg1]; simp [List.getD, show 0 < cs.length by omega]
  · rw [cell_block hg1]; simp [List.getD, show 1 < cs.length by omega]
  · rw [cell_block hg1]; simp [List.getD, show 2 < cs.length by omega]

theorem touch_cells3 (L : List Ew) (p : Nat) (e : Ew) (h : p < L.length) (cur : List Value) (htk : cur.take (L.length * 3) = flat3 L) (hc : L.length * 3 ≤ cur.length) :
    ((((splice cur 3 (flat3 (L.take p))).set 0 (.int .i64 e.1)).set 1 (.int .i64 e.2.t)).set 2 e.2.sl).take (L.length * 3) = flat3 (touch L p e) ∧
    ((((splice cur 3 (flat3 (L.take p))).set 0 (.int .i64 e.1)).set 1 (.int .i64 e.2.t)).set 2 e.2.sl).length = cur.length := by
  have e1 : cur = flat3 L ++ cur.drop (L.length * 3) := by rw [← htk, List.take_append_drop]
  have hl : (flat3 (L.take p)).length = p * 3 := by rw [flat3_length, List.length_take]; congr 1; omega
  have e2 : cur.drop (3 + (flat3 (L.take p)).length) = flat3 (L.drop (p + 1)) ++ cur.drop (L.length * 3) := by
    rw [hl, show 3 + p * 3 = (p + 1) * 3 from by omega]
    conv => lhs; rw [e1]
    rw [List.drop_append_of_le_length (by rw [flat3_length]; omega), flat3_drop]
  have e3 : (((splice cur 3 (flat3 (L.take p))).set 0 (.int .i64 e.1)).set 1 (.int .i64 e.2.t)).set 2 e.2.sl = flat3 (touch L p e) ++ cur.drop (L.length * 3) := by
    unfold splice
    rw [e2]
    match cur, hc with
    | [], hc => simp at hc; omega
    | [_], hc => simp at hc; omega
    | [_, _], hc => simp at hc; omega
    | a :: b :: d :: r, _ => simp [touch, flat3, flat3_append]
  rw [e3]
  have e4 : (flat3 (touch L p e)).length = L.length * 3 := by rw [flat3_length, touch_length L p e h]
  constructor
  · rw [← e4]; exact List.take_left
  · rw [List.length_append, e4, List.length_drop]; omega

theorem use_fin3 {w w1 w2 : World} {c g cp : Nat} {cap : Int} (L : List Ew) (p : Nat) (k : Int) (v : Wv) (hp : p < L.length) (cur : List Value)
    (hcp : L.length ≤ cp) (hcm : cp ≤ maxLen) (hsz : cur.length = cp * 3) (htk : cur.take (L.length * 3) = flat3 L)
    (hb : w.heap[c]? = some (.cells #[.int .i64 cap, .slice (some ⟨g, 0, none⟩) L.length cp] 77 (0, 0))) (hne : g ≠ c) (_hg : g < w.heap.size)
    (hg1 : w1.heap[g]? = some (.cells (splice cur 3 (flat3 (L.take p))).toArray 105 (0, 0))) (hk : Kept (fun k => k = g) (w.alloc (.cells #[.int .i64 k, .int .i64 v.t, v.sl] 105)).drew w1)
    (h1 : w2.heap = (((w1.setCell ⟨g, 0, none⟩ (.int .i64 k)).setCell ⟨g, 1, none⟩ (.int .i64 v.t)).setCell ⟨g, 2, none⟩ v.sl).heap) (h2 : w2.os = w1.os) (h3 : w2.tape = w1.tape) (h4 : w2.output = w1.output) :
    CacheAt3 w2 c cap (.slice (some ⟨g, 0, none⟩) L.length cp) L.length (flat3 (touch L p (k, v))) ∧ Kept (fun k => k = g) w w2 := by
  have hc := heap_lt hb
  obtain ⟨t1, t2⟩ := touch_cells3 L p (k, v) hp cur htk (by omega)
  have e0 : (((w1.setCell ⟨g, 0, none⟩ (.int .i64 k)).setCell ⟨g, 1, none⟩ (.int .i64 v.t)).setCell ⟨g, 2, none⟩ v.sl) = w1.setRow g ((((splice cur 3 (flat3 (L.take p))).set 0 (.int .i64 k)).set 1 (.int .i64 v.t)).set 2 v.sl).toArray := by
    rw [setCell_eq_setRow w1 g 0 _ 105 (0, 0) _ hg1, setCell_eq_setRow _ g 1 _ 105 (0, 0) _ (setRow_heap w1 g _ _ 105 (0, 0) hg1), setRow_setRow, setCell_eq_setRow _ g 2 _ 105 (0, 0) _ (setRow_heap w1 g _ _ 105 (0, 0) hg1), setRow_setRow]
    congr 1
    apply Array.ext'
    simp
  rw [e0] at h1
  have e2 : w2.heap[g]? = some (.cells ((((splice cur 3 (flat3 (L.take p))).set 0 (.int .i64 k)).set 1 (.int .i64 v.t)).set 2 v.sl).toArray 105 (0, 0)) := by
    rw [h1]; exact setRow_heap w1 g _ _ 105 (0, 0) hg1
  have eo : ∀ j, j ≠ g → w2.heap[j]? = w1.heap[j]? := fun j hj => by rw [h1]; exact setRow_other w1 g j _ hj
  refine ⟨⟨?_, ?_, Or.inr ⟨g, cp, _, rfl, Nat.zero_le _, e2, hcp, hcm, ?_, ?_⟩⟩, ?_⟩
  · rw [eo c (fun e => hne e.symm), hk.block c (by show c < (w.alloc _).heap.size; simp; omega) (fun e => hne e.symm)]
    exact (Below.heap_alloc w _ c hc).trans hb
  · rw [flat3_length, touch_length L p (k, v) hp]
  · rw [List.size_toArray, t2, hsz]
  · exact t1
  · refine ⟨h2.trans hk.os, h3.trans hk.tape, h4.trans hk.output, ?_, ?_⟩
    · have := hk.size
      have q : ((w.alloc (Obj.cells #[.int .i64 k, .int .i64 v.t, v.sl] 105)).drew).heap.size = w.heap.size + 1 := by show (w.alloc _).heap.size = _; simp
      rw [h1]; simp; omega
    · intro j hj hn
      rw [eo j hn, hk.block j (by show j < (w.alloc _).heap.size; simp; omega) hn]
      exact Below.heap_alloc w _ j hj

theorem CacheAt3.keep {w w' : World} {c : Nat} {cap : Int} {v : Value} {n : Nat} {xs : List Value} {S : Nat → Prop} (h : CacheAt3 w c cap v n xs) (hk : Kept S w w') (hS : ∀ j, Foot c v j → ¬ S j) : CacheAt3 w' c cap v n xs :=
  ⟨by rw [hk.block c (heap_lt h.1) (hS c (Or.inl rfl))]; exact h.1, owns_block h.2 (fun g hg => hk.block g (owns_lt h.2 g hg) (hS g (Or.inr hg)))⟩

theorem CacheAt3.lt {w : World} {c : Nat} {cap : Int} {v : Value} {n : Nat} {xs : List Value} (h : CacheAt3 w c cap v n xs) : ∀ j, Foot c v j → j < w.heap.size := by
  intro j hj
  rcases hj with rfl | hj
  · exact heap_lt h.1
  · exact owns_lt h.2 j hj
end Go.Proofs.YtlfmfhmbkpnjbabGreatDoor
