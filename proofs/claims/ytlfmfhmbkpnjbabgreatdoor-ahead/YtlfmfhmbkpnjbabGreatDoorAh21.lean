import Derived.Test.YtlfmfhmbkpnjbabGreatDoorAh12
import Derived.Test.YtlfmfhmbkpnjbabGreatDoorAh20
import Derived.RangeFuncNested
import Derived.RangeFuncBound
import Derived.RangeFuncCalls
import Derived.RangeFuncLeaves
import Derived.Shelf.Abstract
import Derived.Shelf.RegionOpen
import Derived.WalkKit
import Derived.OwnWalkIn
import Derived.TacticsInMore
import Derived.LoopNIn
import Derived.LoopIn
import Derived.RegionIn
import Derived.Test.YtlfmfhmbkpnjbabGreatDoorAh17
namespace Go.Proofs.YtlfmfhmbkpnjbabGreatDoor
open Go.RowKit

/-- A reader that stands ahead of some words. -/
def rdOf : List (List UInt8) → Rd
  | [] => ⟨[], true, false⟩
  | x :: r => ⟨Lib.join (x :: r) [32], false, false⟩
theorem word_rd (x : List UInt8) (r : List (List UInt8)) (h : (32 : UInt8) ∉ x) : (rdOf (x :: r)).word = (x, rdOf r) := by
  cases r with
  | nil =>
    unfold rdOf Rd.word
    simp only [Lib.join_one, cutL_miss 32 x h]
    rfl
  | cons y r =>
    unfold rdOf Rd.word
    simp only [join_two, cutL_hit 32 x _ h]
    rfl
theorem int_rd (n lo hi : Int) (r : List (List UInt8)) (h : -9223372036854775808 ≤ n ∧ n ≤ 9223372036854775807) (hl : lo ≤ n ∧ n ≤ hi) : (rdOf (Lib.itoa n :: r)).int lo hi = (n, rdOf r) := by
  have hc : (32 : UInt8) ∉ Lib.itoa n := (itoaW_clean n).1
  unfold Rd.int
  rw [word_rd _ _ hc]
  simp only [numL_itoa n h, hl, and_self, if_true]
theorem any_rd (n : Int) (r : List (List UInt8)) (h : -9223372036854775808 ≤ n ∧ n ≤ 9223372036854775807) : (rdOf (Lib.itoa n :: r)).any = (n, rdOf r) := int_rd n _ _ r h h
theorem flt_rd (u : Nat) (r : List (List UInt8)) (h : u < 4294967296) : (rdOf (hexL u :: r)).flt = (u, rdOf r) := by
  have hc : (32 : UInt8) ∉ hexL u := by
    intro hm
    have := hex_chars u _ hm
    exact absurd this (by decide)
  unfold Rd.flt
  rw [word_rd _ _ hc]
  simp only [bitsL_hex u h]

def listsOf (xs : List ByteArray) : List (List UInt8) := xs.map (·.data.toList)
theorem lists_itoa (n : Int) : (itoaW n).data.toList = Lib.itoa n := by simp [itoaW]
theorem lists_hex (u : Nat) (h : u < 4294967296) : (hexW u).data.toList = hexL u := by simp [hexW, Nat.mod_eq_of_lt (show u < 18446744073709551616 by omega)]

/-- A command as far as its kind uses it. -/
def normC (c : Cmd) : Cmd :=
  if c.kind = 1 then ⟨1, c.id, c.team, c.x, c.y, 0⟩ else if c.kind = 2 then ⟨2, c.id, 0, c.x, c.y, 0⟩ else if c.kind = 3 then ⟨3, c.id, 0, 0, 0, c.n⟩ else if c.kind = 4 then ⟨4, c.id, 0, 0, 0, 0⟩ else ⟨c.kind, 0, 0, 0, 0, 0⟩
theorem normC_do (c : Cmd) (L : List Mob) : doM L (normC c) = doM L c := by
  unfold normC doM
  by_cases h1 : c.kind = 1
  · simp [h1]
  · by_cases h2 : c.kind = 2
    · simp [h2]
    · by_cases h3 : c.kind = 3
      · simp [h3]
      · by_cases h4 : c.kind = 4
        · simp [h4]
        · simp [h1, h2, h3, h4]
theorem normC_step (cs : List Cmd) (L : List Mob) : stepL (cs.map normC) L = stepL cs L := by
  have : ∀ (cs : List Cmd) (L : List Mob), (cs.map normC).foldl doM L = cs.foldl doM L := by
    intro cs
    induction cs with
    | nil => intro L; rfl
    | cons c r ih => intro L; simp only [List.map_cons, List.foldl_cons, normC_do, ih]
  unfold stepL
  rw [this]

structure F32M (m : Mob) : Prop where
  x : m.x < 4294967296
  y : m.y < 4294967296
  vx : m.vx < 4294967296
  vy : m.vy < 4294967296

theorem cmd_rd (c : Cmd) (r : List (List UInt8)) (hI : IntC c) (hF : F32C c) : (rdOf (listsOf (cmdW c) ++ r)).cmd = (normC c, rdOf r) := by
  have hi := hI.id
  have ht := hI.team
  have hn := hI.n
  have hk := hI.kind
  unfold cmdW normC
  by_cases h1 : c.kind = 1
  · simp only [h1, if_true, listsOf, List.map_cons, List.map_nil, List.cons_append, List.nil_append, lists_itoa, lists_hex _ hF.x, lists_hex _ hF.y]
    unfold Rd.cmd
    simp only [any_rd 1 _ (by omega), any_rd _ _ hi, any_rd _ _ ht, flt_rd _ _ hF.x, flt_rd _ _ hF.y, if_true]
  · by_cases h2 : c.kind = 2
    · simp only [h2, if_true, listsOf, List.map_cons, List.map_nil, List.cons_append, List.nil_append, lists_itoa, lists_hex _ hF.x, lists_hex _ hF.y, show ¬ ((2 : Int) = 1) by decide, if_false]
      unfold Rd.cmd
      simp only [any_rd 2 _ (by omega), any_rd _ _ hi, flt_rd _ _ hF.x, flt_rd _ _ hF.y, if_true, show ¬ ((2 : Int) = 1) by decide, if_false]
    · by_cases h3 : c.kind = 3
      · simp only [h3, if_true, listsOf, List.map_cons, List.map_nil, List.cons_append, List.nil_append, lists_itoa, show ¬ ((3 : Int) = 1) by decide, show ¬ ((3 : Int) = 2) by decide, if_false]
        unfold Rd.cmd
        simp only [any_rd 3 _ (by omega), any_rd _ _ hi, any_rd _ _ hn, if_true, show ¬ ((3 : Int) = 1) by decide, show ¬ ((3 : Int) = 2) by decide, if_false]
      · by_cases h4 : c.kind = 4
        · simp only [h4, if_true, listsOf, List.map_cons, List.map_nil, List.cons_append, List.nil_append, lists_itoa, show ¬ ((4 : Int) = 1) by decide, show ¬ ((4 : Int) = 2) by decide, show ¬ ((4 : Int) = 3) by decide, if_false]
          unfold Rd.cmd
          simp only [any_rd 4 _ (by omega), any_rd _ _ hi, if_true, show ¬ ((4 : Int) = 1) by decide, show ¬ ((4 : Int) = 2) by decide, show ¬ ((4 : Int) = 3) by decide, if_false]
        · simp only [h1, h2, h3, h4, listsOf, List.map_cons, List.map_nil, List.cons_append, List.nil_append, lists_itoa, if_false]
          unfold Rd.cmd
          simp only [any_rd _ _ hk, h1, h2, h3, h4, if_false]
theorem cmds_rd (cs : List Cmd) (r : List (List UInt8)) (k : Nat) (hk : k ≤ cs.length) (hI : ∀ c ∈ cs, IntC c) (hF : ∀ c ∈ cs, F32C c) :
    (rdOf (listsOf (cs.flatMap cmdW) ++ r)).cmds k = ((cs.take k).map normC, rdOf (listsOf ((cs.drop k).flatMap cmdW) ++ r)) := by
  induction k with
  | zero => simp [Rd.cmds]
  | succ n ih =>
    have hn : n < cs.length := by omega
    simp only [Rd.cmds, ih (by omega)]
    have e : listsOf ((cs.drop n).flatMap cmdW) ++ r = listsOf (cmdW cs[n]) ++ (listsOf ((cs.drop (n + 1)).flatMap cmdW) ++ r) := by
      rw [List.drop_eq_getElem_cons hn, List.flatMap_cons]
      simp only [listsOf, List.map_append, List.append_assoc]
    rw [e, cmd_rd _ _ (hI _ (List.getElem_mem hn)) (hF _ (List.getElem_mem hn))]
    simp only [Prod.mk.injEq, and_true]
    rw [List.take_succ_eq_append_getElem hn, List.map_append]
    rfl
theorem cmdL_rd (cs : List Cmd) (r : List (List UInt8)) (hl : cs.length ≤ 64) (hI : ∀ c ∈ cs, IntC c) (hF : ∀ c ∈ cs, F32C c) : (rdOf (listsOf (headW cs) ++ r)).cmdL = (cs.map normC, rdOf r) := by
  have e : listsOf (headW cs) ++ r = Lib.itoa cs.length :: (listsOf (cs.flatMap cmdW) ++ r) := by simp [headW, listsOf, lists_itoa]
  unfold Rd.cmdL
  rw [e, int_rd cs.length 0 64 _ (by omega) (by omega)]
  have := cmds_rd cs r cs.length (Nat.le_refl _) hI hF
  simpa [listsOf] using this
theorem ent_rd (m : Mob) (r : List (List UInt8)) (hI : IntM m) (hF : F32M m) : (rdOf (listsOf (entW m) ++ r)).ent = (m, rdOf r) := by
  simp only [entW, listsOf, List.map_cons, List.map_nil, List.cons_append, List.nil_append, lists_itoa, lists_hex _ hF.x, lists_hex _ hF.y, lists_hex _ hF.vx, lists_hex _ hF.vy]
  unfold Rd.ent
  simp only [any_rd _ _ hI.id, any_rd _ _ hI.team, any_rd _ _ hI.health, flt_rd _ _ hF.x, flt_rd _ _ hF.y, flt_rd _ _ hF.vx, flt_rd _ _ hF.vy]
theorem ents_rd (L : List Mob) (r : List (List UInt8)) (k : Nat) (hk : k ≤ L.length) (hI : ∀ m ∈ L, IntM m) (hF : ∀ m ∈ L, F32M m) :
    (rdOf (listsOf (L.flatMap entW) ++ r)).ents k = (L.take k, rdOf (listsOf ((L.drop k).flatMap entW) ++ r)) := by
  induction k with
  | zero => simp [Rd.ents]
  | succ n ih =>
    have hn : n < L.length := by omega
    simp only [Rd.ents, ih (by omega)]
    have e : listsOf ((L.drop n).flatMap entW) ++ r = listsOf (entW L[n]) ++ (listsOf ((L.drop (n + 1)).flatMap entW) ++ r) := by
      rw [List.drop_eq_getElem_cons hn, List.flatMap_cons]
      simp only [listsOf, List.map_append, List.append_assoc]
    rw [e, ent_rd _ _ (hI _ (List.getElem_mem hn)) (hF _ (List.getElem_mem hn))]
    simp only [Prod.mk.injEq, and_true]
    exact (List.take_succ_eq_append_getElem hn).symm
theorem entL_rd (L : List Mob) (hl : L.length ≤ 32) (hI : ∀ m ∈ L, IntM m) (hF : ∀ m ∈ L, F32M m) : (rdOf (listsOf (itoaW L.length :: L.flatMap entW))).entL = (L, rdOf []) := by
  have e : listsOf (itoaW L.length :: L.flatMap entW) = Lib.itoa L.length :: (listsOf (L.flatMap entW) ++ []) := by simp [listsOf, lists_itoa]
  unfold Rd.entL
  rw [e, int_rd L.length 0 32 _ (by omega) (by omega)]
  have := ents_rd L [] L.length (Nat.le_refl _) hI hF
  simpa [listsOf] using this

/-- A line without its end. -/
def bodyL (xs : List ByteArray) : List UInt8 := Lib.join (listsOf xs) [32]
theorem body_line (xs : List ByteArray) : lineL xs = bodyL xs ++ [10] := rfl
theorem of_body (xs : List ByteArray) (h : xs ≠ []) : Rd.of (bodyL xs) = rdOf (listsOf xs) := by
  cases xs with
  | nil => exact absurd rfl h
  | cons x r => rfl
theorem body_clean (xs : List ByteArray) (h : ∀ x ∈ xs, Clean x) : (10 : UInt8) ∉ bodyL xs :=
  join_end _ (fun z hz => by obtain ⟨x, hm, rfl⟩ := List.mem_map.1 hz; exact (h x hm).2)

/-- The line of a tick goes on with its match. -/
theorem add_tick (m : Mt) (cs : List Cmd) (L : List Mob) (hlen : m.cmds.length < 500) (hl : cs.length ≤ 64) (hI : ∀ c ∈ cs, IntC c) (hF : ∀ c ∈ cs, F32C c)
    (hw : worldB ((m.cmds.length : Int) + 1) L = true) (hIM : ∀ x ∈ L, IntM x) (hFM : ∀ x ∈ L, F32M x) :
    m.add (bodyL (tickW cs ((m.cmds.length : Int) + 1) L m.ev)) = some ⟨m.ev, m.cmds ++ [cs.map normC], if (m.cmds.length + 1) % m.ev = 0 then m.whole ++ [L] else m.whole⟩ := by
  have h32 : L.length ≤ 32 := (worldB_fine hw).2.2.short
  have hm0 : ((m.cmds.length : Int) + 1) % (m.ev : Int) = (((m.cmds.length + 1) % m.ev : Nat) : Int) := by rw [Int.natCast_emod]; rfl
  have hmod : (((m.cmds.length : Int) + 1) % (m.ev : Int) = 0) ↔ (m.cmds.length + 1) % m.ev = 0 := by rw [hm0]; omega
  have ho := of_body (tickW cs ((m.cmds.length : Int) + 1) L m.ev) (by simp [tickW, headW])
  unfold Mt.add
  rw [if_neg (by omega), ho]
  by_cases h0 : (m.cmds.length + 1) % m.ev = 0
  · have e : listsOf (tickW cs ((m.cmds.length : Int) + 1) L m.ev) = listsOf (headW cs) ++ listsOf (itoaW L.length :: L.flatMap entW) := by
      unfold tickW
      rw [if_pos (hmod.2 h0)]
      simp [listsOf]
    rw [e, cmdL_rd cs _ hl hI hF]
    simp only [if_pos h0]
    rw [entL_rd L h32 hIM hFM]
    simp only [hw, true_and]
    rw [if_pos (show (rdOf []).done = true from rfl)]
  · have e : listsOf (tickW cs ((m.cmds.length : Int) + 1) L m.ev) = listsOf (headW cs) ++ [] := by
      unfold tickW
      rw [if_neg (fun q => h0 (hmod.1 q))]
      simp [listsOf]
    rw [e, cmdL_rd cs _ hl hI hF]
    simp only [if_neg h0]
    rw [if_pos (show (rdOf []).done = true from rfl)]
theorem every_first (ev : Nat) (h : 1 ≤ ev ∧ ev ≤ 64) : everyL (bodyL (firstW ev)) = some ev := by
  have ho := of_body (firstW ev) (by simp [firstW])
  have e : listsOf (firstW ev) = encoreL :: [Lib.itoa ev] := by simp [listsOf, firstW, lists_itoa, encoreL]
  unfold everyL
  rw [ho, e, word_rd _ _ (by decide), int_rd ev 1 64 _ (by omega) (by omega)]
  rw [if_pos ⟨rfl, rfl⟩]
  simp

theorem linesL_skip (a b : List UInt8) (acc : List UInt8) (h : (10 : UInt8) ∉ a) : linesL acc (a ++ 10 :: b) = (acc ++ a) :: linesL [] b := by
  induction a generalizing acc with
  | nil => simp [linesL]
  | cons x r ih =>
    have hx : ¬ x = 10 := fun e => h (by simp [e])
    simp only [List.cons_append, linesL, if_neg hx]
    rw [ih _ (fun e => h (by simp [e]))]
    simp
theorem linesL_none (a acc : List UInt8) (h : (10 : UInt8) ∉ a) : linesL acc a = [] := by
  induction a generalizing acc with
  | nil => rfl
  | cons x r ih =>
    have hx : ¬ x = 10 := fun e => h (by simp [e])
    simp only [linesL, if_neg hx]
    exact ih _ (fun e => h (by simp [e]))
theorem linesL_flat (ls : List (List ByteArray)) (t : List UInt8) (h : ∀ l ∈ ls, ∀ x ∈ l, Clean x) (ht : (10 : UInt8) ∉ t) : linesL [] (ls.flatMap lineL ++ t) = ls.map bodyL := by
  induction ls with
  | nil => simpa using linesL_none t [] ht
  | cons l r ih =>
    simp only [List.flatMap_cons, body_line, List.append_assoc, List.map_cons]
    rw [show bodyL l ++ ([10] ++ (List.flatMap lineL r ++ t)) = bodyL l ++ 10 :: (List.flatMap lineL r ++ t) from rfl, linesL_skip _ _ _ (body_clean l (h l (by simp)))]
    rw [ih (fun l hl => h l (by simp [hl]))]
    rfl

/-! Numbers with a point are words of 32 bits. -/
theorem word_lt (neg : Bool) (r : Nat) (h : r < 2147483648) : Ieee.single.word neg r < 4294967296 := by
  unfold Ieee.Format.word
  rw [sign_single]
  split <;> omega
theorem write_lt (d : Ieee.Datum) : Ieee.single.write d < 4294967296 := by
  have hi := inf_single
  cases d with
  | number s m e =>
    show Ieee.single.nearest s m e < _
    unfold Ieee.Format.nearest
    dsimp only
    split
    · exact word_lt _ _ (by omega)
    · refine word_lt _ _ (Nat.lt_of_le_of_lt (Nat.min_le_right ..) (by omega))
  | infinity s => exact word_lt _ _ (by omega)
  | nan s f =>
    show Ieee.single.word s (Ieee.single.infRung + f % Ieee.single.binade) < _
    have hb := bin_single
    have := Nat.mod_lt f (show 0 < Ieee.single.binade by omega)
    exact word_lt _ _ (by omega)
theorem fadd_lt (x y : Nat) : fadd x y < 4294967296 := by
  unfold fadd Ieee.Format.add
  cases (Ieee.Datum.sum (Ieee.single.read x) (Ieee.single.read y)) with
  | none => simp
  | some d => exact write_lt d
theorem fmul_lt (x y : Nat) : fmul x y < 4294967296 := by
  unfold fmul Ieee.Format.mul
  cases (Ieee.Datum.product (Ieee.single.read x) (Ieee.single.read y)) with
  | none => simp
  | some d => exact write_lt d
theorem moved_lt (x v : Nat) : (movedF x v).1 < 4294967296 ∧ (movedF x v).2 < 4294967296 := by
  unfold movedF
  split
  · exact ⟨show (3296329728 : Nat) < 4294967296 by decide, fmul_lt _ _⟩
  · split
    · exact ⟨show (1148846080 : Nat) < 4294967296 by decide, fmul_lt _ _⟩
    · exact ⟨fadd_lt _ _, fmul_lt _ _⟩
theorem doM_f32 (L : List Mob) (c : Cmd) (h : ∀ m ∈ L, F32M m) (hc : F32C c) : ∀ m ∈ doM L c, F32M m := by
  intro m hm
  unfold doM at hm
  have hset : ∀ (f : Mob → Mob) (i : Nat), (∀ m, F32M m → F32M (f m)) → m ∈ setAt L i f → F32M m := by
    intro f i hf hm
    unfold setAt at hm
    split at hm
    · rename_i x hx
      rcases List.mem_or_eq_of_mem_set hm with hm | rfl
      · exact h m hm
      · exact hf x (h x (List.mem_of_getElem? hx))
    · exact h m hm
  split at hm
  · split at hm
    · rcases List.mem_append.1 hm with hm | hm
      · exact h m (List.mem_of_mem_take hm)
      · rcases List.mem_cons.1 hm with rfl | hm
        · exact ⟨hc.x, hc.y, show (0 : Nat) < 4294967296 by decide, show (0 : Nat) < 4294967296 by decide⟩
        · exact h m (List.mem_of_mem_drop hm)
    · exact h m hm
  · split at hm
    · split at hm
      · refine hset _ _ ?_ hm
        exact fun m hm => ⟨hm.x, hm.y, fadd_lt _ _, fadd_lt _ _⟩
      · exact h m hm
    · split at hm
      · split at hm
        · refine hset _ _ ?_ hm
          exact fun m hm => ⟨hm.x, hm.y, hm.vx, hm.vy⟩
        · exact h m hm
      · split at hm
        · split at hm
          · rcases List.mem_append.1 hm with hm | hm
            · exact h m (List.mem_of_mem_take hm)
            · exact h m (List.mem_of_mem_drop hm)
          · exact h m hm
        · exact h m hm
theorem stepL_f32 (cs : List Cmd) (L : List Mob) (h : ∀ m ∈ L, F32M m) (hc : ∀ c ∈ cs, F32C c) : ∀ m ∈ stepL cs L, F32M m := by
  have hf : ∀ (cs : List Cmd) (L : List Mob), (∀ m ∈ L, F32M m) → (∀ c ∈ cs, F32C c) → ∀ m ∈ cs.foldl doM L, F32M m := by
    intro cs
    induction cs with
    | nil => intro L h _; exact h
    | cons c r ih => intro L h hc; exact ih _ (doM_f32 L c h (hc c (by simp))) (fun x hx => hc x (by simp [hx]))
  intro m hm
  unfold stepL at hm
  obtain ⟨x, hx, rfl⟩ := List.mem_map.1 hm
  have := hf cs L h hc x (List.mem_filter.1 hx).1
  exact ⟨(moved_lt _ _).1, (moved_lt _ _).1, (moved_lt _ _).2, (moved_lt _ _).2⟩

/-- What the file of a match tells. -/
noncomputable def recM (ev : Nat) (css : List (List Cmd)) (k : Nat) : Mt := ⟨ev, (List.range k).map (fun j => (css.getD j []).map normC), (List.range (k / ev + 1)).map (fun q => mobsAt css (q * ev))⟩
theorem adds_app (m : Mt) (a b : List (List UInt8)) : m.adds (a ++ b) = match m.adds a with | some m' => m'.adds b | none => none := by
  induction a generalizing m with
  | nil => rfl
  | cons x r ih =>
    simp only [List.cons_append, Mt.adds]
    cases m.add x with
    | none => rfl
    | some m' => exact ih m'
/-- Commands that can be written down. -/
structure CsOk (css : List (List Cmd)) : Prop where
  few : ∀ j, (css.getD j []).length ≤ 64
  int : ∀ j, ∀ c ∈ css.getD j [], IntC c
  f32 : ∀ j, ∀ c ∈ css.getD j [], F32C c
theorem mobs_f32 (css : List (List Cmd)) (h : CsOk css) (k : Nat) : ∀ m ∈ mobsAt css k, F32M m := by
  induction k with
  | zero => intro m hm; cases hm
  | succ n ih => exact stepL_f32 _ _ ih (h.f32 n)
theorem recM_len (ev : Nat) (css : List (List Cmd)) (k : Nat) : (recM ev css k).cmds.length = k := by simp [recM]
theorem mobsAt_world5 (css : List (List Cmd)) (k : Nat) (hk : k ≤ 500) : worldB (k : Int) (mobsAt css k) = true := by
  induction k with
  | zero => exact worldB_true 0 [] ⟨by decide, by decide⟩ (fun j hj _ => absurd hj (Nat.not_lt_zero _))
  | succ n ih =>
    have := worldB_next (css.getD n []) (ih (by omega)) (by omega)
    rw [show ((n + 1 : Nat) : Int) = (n : Int) + 1 from rfl]
    exact this
theorem recM_add (ev : Nat) (css : List (List Cmd)) (k : Nat) (hk : k < 500) (h : CsOk css) :
    (recM ev css k).add (bodyL (tickW (css.getD k []) ((k : Int) + 1) (mobsAt css (k + 1)) ev)) = some (recM ev css (k + 1)) := by
  have hw := mobsAt_world5 css (k + 1) (by omega)
  have hl := recM_len ev css k
  have := add_tick (recM ev css k) (css.getD k []) (mobsAt css (k + 1)) (by omega) (h.few k) (h.int k) (h.f32 k) (by rw [hl]; exact hw) (mob_int hw) (mobs_f32 css h (k + 1))
  rw [hl] at this
  refine this.trans (congrArg some ?_)
  unfold recM
  simp only [Mt.mk.injEq, true_and]
  refine ⟨by simp [List.range_succ], ?_⟩
  have hd : (k + 1) / ev = if (k + 1) % ev = 0 then k / ev + 1 else k / ev := by
    rw [Nat.succ_div]
    simp only [Nat.dvd_iff_mod_eq_zero]
    split <;> rfl
  by_cases h0 : (k + 1) % ev = 0
  · rw [if_pos h0]
    rw [if_pos h0] at hd
    have hm := Nat.div_add_mod (k + 1) ev
    rw [h0, hd, Nat.mul_comm] at hm
    rw [hd, List.range_succ (n := k / ev + 1), List.map_append]
    simp only [List.map_cons, List.map_nil]
    rw [show (k / ev + 1) * ev = k + 1 by omega]
  · rw [if_neg h0]
    rw [if_neg h0] at hd
    rw [hd]
theorem recM_adds (ev : Nat) (css : List (List Cmd)) (k : Nat) (hk : k ≤ 500) (h : CsOk css) :
    (Mt.mk ev [] [[]]).adds ((linesAt ev css k).map bodyL) = some (recM ev css k) := by
  induction k with
  | zero =>
    simp only [linesAt, List.range_zero, List.map_nil, Mt.adds]
    congr 1
    unfold recM
    simp [show (0 : Nat) / ev = 0 by simp, mobsAt]
  | succ n ih =>
    have e : linesAt ev css (n + 1) = linesAt ev css n ++ [tickW (css.getD n []) ((n : Int) + 1) (mobsAt css (n + 1)) ev] := by simp [linesAt, List.range_succ]
    rw [e, List.map_append, adds_app, ih (by omega)]
    simp only [List.map_cons, List.map_nil, Mt.adds]
    rw [recM_add ev css n (by omega) h]
theorem lines_clean (ev : Int) (css : List (List Cmd)) (k : Nat) : ∀ l ∈ linesAt ev css k, ∀ x ∈ l, Clean x := by
  intro l hl
  simp only [linesAt, List.mem_map] at hl
  obtain ⟨j, _, rfl⟩ := hl
  exact tickW_clean _ _ _ _
theorem first_clean (ev : Int) : ∀ x ∈ firstW ev, Clean x := by
  intro x hx
  simp only [firstW, List.mem_cons, List.not_mem_nil, or_false] at hx
  rcases hx with rfl | rfl
  · exact ⟨by decide, by decide⟩
  · exact itoaW_clean _
/-- The file of a match, and something behind it that has no end. -/
theorem matchL_file (ev : Nat) (css : List (List Cmd)) (k : Nat) (t : List UInt8) (he : 1 ≤ ev ∧ ev ≤ 64) (hk : k ≤ 500) (h : CsOk css) (ht : (10 : UInt8) ∉ t) :
    matchL (fileAt ev css k ++ t) = some (recM ev css k) := by
  have e : fileAt ev css k ++ t = (firstW ev :: linesAt ev css k).flatMap lineL ++ t := by rw [fileAt_lines]; simp
  unfold matchL
  rw [e, linesL_flat _ t ?_ ht]
  · simp only [List.map_cons, every_first ev he]
    exact recM_adds ev css k hk h
  · intro l hl
    rcases List.mem_cons.1 hl with rfl | hl
    · exact first_clean _
    · exact lines_clean _ _ _ l hl
/-- A text that is shorter than the first line. -/
theorem matchL_short (ev : Nat) (css : List (List Cmd)) (k n : Nat) (h : n < (fileAt ev css 0).length) : matchL ((fileAt ev css k).take n) = none := by
  have e : (fileAt ev css k).take n = (bodyL (firstW ev)).take n := by
    have h1 : fileAt ev css 0 = bodyL (firstW ev) ++ [10] := rfl
    rw [h1] at h
    simp only [List.length_append, List.length_cons, List.length_nil] at h
    rw [fileAt_lines, body_line, List.append_assoc, List.take_append_of_le_length (by omega)]
  have hc : (10 : UInt8) ∉ (bodyL (firstW ev)).take n := fun hm => body_clean _ (first_clean _) (List.mem_of_mem_take hm)
  unfold matchL
  rw [e, linesL_none _ _ hc]
/-- A cut file: as many ticks as lie in it wholly. -/
theorem file_cut (ev : Int) (css : List (List Cmd)) (k j n : Nat) (hj : j ≤ k) (h1 : (fileAt ev css j).length ≤ n) (h2 : j = k ∨ n < (fileAt ev css (j + 1)).length) :
    ∃ t, (fileAt ev css k).take n = fileAt ev css j ++ t ∧ (10 : UInt8) ∉ t := by
  have pre : ∀ d, ∃ r, fileAt ev css (j + d) = fileAt ev css j ++ r := by
    intro d
    induction d with
    | zero => exact ⟨[], by simp⟩
    | succ d ih =>
      obtain ⟨r, hr⟩ := ih
      exact ⟨r ++ lineL (tickW (css.getD (j + d) []) (((j + d : Nat) : Int) + 1) (mobsAt css (j + d + 1)) ev), by show fileAt ev css (j + d) ++ _ = _; rw [hr]; simp⟩
  rcases h2 with rfl | h2
  · exact ⟨[], by rw [List.take_of_length_le h1]; simp, by simp⟩
  · by_cases hjk : j = k
    · subst hjk
      exact ⟨[], by rw [List.take_of_length_le h1]; simp, by simp⟩
    · have pre1 : ∃ r, fileAt ev css k = fileAt ev css (j + 1) ++ r := by
        have : ∀ d, ∃ r, fileAt ev css (j + 1 + d) = fileAt ev css (j + 1) ++ r := by
          intro d
          induction d with
          | zero => exact ⟨[], by simp⟩
          | succ d ih =>
            obtain ⟨r, hr⟩ := ih
            exact ⟨r ++ lineL (tickW (css.getD (j + 1 + d) []) (((j + 1 + d : Nat) : Int) + 1) (mobsAt css (j + 1 + d + 1)) ev), by show fileAt ev css (j + 1 + d) ++ _ = _; rw [hr]; simp⟩
        have := this (k - (j + 1))
        rwa [show j + 1 + (k - (j + 1)) = k by omega] at this
      obtain ⟨r, hr⟩ := pre1
      refine ⟨(bodyL (tickW (css.getD j []) ((j : Int) + 1) (mobsAt css (j + 1)) ev)).take (n - (fileAt ev css j).length), ?_, ?_⟩
      · have h3 : fileAt ev css (j + 1) = fileAt ev css j ++ (bodyL (tickW (css.getD j []) ((j : Int) + 1) (mobsAt css (j + 1)) ev) ++ [10]) := rfl
        rw [h3] at h2
        simp only [List.length_append, List.length_cons, List.length_nil] at h2
        rw [hr, h3, List.append_assoc, List.append_assoc, List.take_append, List.take_of_length_le h1]
        congr 1
        rw [List.take_append_of_le_length (by omega)]
      · exact fun hm => body_clean _ (tickW_clean _ _ _ _) (List.mem_of_mem_take hm)
/-- The player of a file shows what was recorded. -/
theorem recM_at (ev : Nat) (css : List (List Cmd)) (k t : Nat) (ht : t ≤ k) : (recM ev css k).at t = mobsAt css t := by
  have hq : t / ev ≤ k / ev := Nat.div_le_div_right ht
  have hw : (recM ev css k).whole.getD (t / ev) [] = mobsAt css (t / ev * ev) := by
    unfold recM
    simp [List.getD, show t / ev < k / ev + 1 by omega]
  have key : ∀ d, t / ev * ev + d ≤ t → fromM (recM ev css k).cmds (t / ev * ev) (mobsAt css (t / ev * ev)) d = mobsAt css (t / ev * ev + d) := by
    intro d
    induction d with
    | zero => intro _; rfl
    | succ d ih =>
      intro hd
      have e2 : mobsAt css (t / ev * ev + (d + 1)) = stepL (css.getD (t / ev * ev + d) []) (mobsAt css (t / ev * ev + d)) := rfl
      rw [e2]
      show stepL _ (fromM _ _ _ d) = _
      rw [ih (by omega)]
      have : (recM ev css k).cmds.getD (t / ev * ev + d) [] = (css.getD (t / ev * ev + d) []).map normC := by
        unfold recM
        have hlt : t / ev * ev + d < k := by omega
        simp [List.getD, hlt]
      rw [this, normC_step]
  have hm := Nat.div_add_mod t ev
  unfold Mt.at
  show fromM _ (t / ev * ev) _ (t % ev) = _
  rw [show (recM ev css k).ev = ev from rfl, hw, key (t % ev) (by rw [Nat.mul_comm]; omega)]
  congr 1
  rw [Nat.mul_comm]
  omega
end Go.Proofs.YtlfmfhmbkpnjbabGreatDoor

namespace Go.Proofs.YtlfmfhmbkpnjbabGreatDoor
open Go.RowKit Go.Shelf
attribute [local go_sem] Oper.semAt_some

/-- A text all of whose lines have their end. -/
def EndsN (s : List UInt8) : Prop := s = [] ∨ ∃ t, s = t ++ [10]
theorem ends_cut (s : List UInt8) (h : EndsN s) (h0 : s ≠ []) : ∃ x t, s = x ++ 10 :: t ∧ (10 : UInt8) ∉ x ∧ EndsN t ∧ linesL [] s = x :: linesL [] t ∧ Lib.indexByte s 10 = (x.length : Int) := by
  have hm : (10 : UInt8) ∈ s := by
    rcases h with h | ⟨t, rfl⟩
    · exact absurd h h0
    · simp
  rcases cutL_index 10 s with ⟨_, h2⟩ | ⟨i, h1, h2, h3⟩
  · exfalso
    have key : ∀ l : List UInt8, (10 : UInt8) ∈ l → (cutL 10 l).2.2 = true := by
      intro l
      induction l with
      | nil => intro h; cases h
      | cons x r ih =>
        intro h
        by_cases hx : x = 10
        · simp [cutL, hx]
        · rcases List.mem_cons.1 h with h | h
          · exact absurd h.symm hx
          · simp [cutL, hx, ih h]
    have := key s hm
    rw [h2] at this
    simp at this
  · have hn : (10 : UInt8) ∉ s.take i := by
      have key : ∀ (l : List UInt8), (10 : UInt8) ∉ (cutL 10 l).1 := by
        intro l
        induction l with
        | nil => simp [cutL]
        | cons x r ih =>
          by_cases hx : x = 10
          · simp [cutL, hx]
          · simp only [cutL, if_neg hx, List.mem_cons, not_or]
            exact ⟨fun e => hx e.symm, ih⟩
      have := key s
      rw [h3] at this
      exact this
    have hsp : s = s.take i ++ 10 :: s.drop (i + 1) := by
      have key : ∀ (l : List UInt8), (cutL 10 l).2.2 = true → l = (cutL 10 l).1 ++ 10 :: (cutL 10 l).2.1 := by
        intro l
        induction l with
        | nil => intro h; simp [cutL] at h
        | cons x r ih =>
          intro h
          by_cases hx : x = 10
          · simp [cutL, hx]
          · simp only [cutL, if_neg hx] at h ⊢
            rw [List.cons_append, ← ih h]
      have := key s (by rw [h3])
      rw [h3] at this
      exact this
    refine ⟨s.take i, s.drop (i + 1), hsp, hn, ?_, ?_, ?_⟩
    · rcases h with h | ⟨t, ht⟩
      · exact absurd h h0
      · by_cases hd : s.drop (i + 1) = []
        · exact Or.inl hd
        · right
          refine ⟨(s.drop (i + 1)).dropLast, ?_⟩
          have h5 := List.dropLast_concat_getLast hd
          have h6 : (s.drop (i + 1)).getLast hd = 10 := by
            rw [List.getLast_drop]
            simp [ht]
          rw [h6] at h5
          exact h5.symm
    · conv => lhs; rw [hsp]
      rw [linesL_skip _ _ _ hn]
      simp
    · rw [h1, List.length_take, Nat.min_eq_left (by omega)]

theorem typ_unset {w : World} {b o : Nat} {u : Value} {j : Nat} {T : TypeId} (h : typ (w.setCell ⟨b, o, none⟩ u).drew j T) : typ w j T := by
  obtain ⟨c, fr, h⟩ := h
  have h' : (w.setCell ⟨b, o, none⟩ u).heap[j]? = some (.cells c T fr) := h
  unfold World.setCell at h'
  simp only [Array.getElem?_modify] at h'
  split at h'
  · cases hw : w.heap[j]? with
    | none => simp [hw] at h'
    | some ob =>
      rw [hw] at h'
      cases ob with
      | cells cs T' f' =>
        simp only [Option.map_some, Option.some.injEq, Obj.cells.injEq] at h'
        exact ⟨cs, f', by rw [hw, h'.2.1]⟩
      | _ => simp at h'
  · exact ⟨c, fr, h'⟩

def leftS (B : Nat) (W : World) : Nat := match W.cell? ⟨B, 0, none⟩ with
  | some (.string s) => s.size
  | _ => 0
theorem leftS_eq {B : Nat} {W : World} {s : List UInt8} (h : W.cell? ⟨B, 0, none⟩ = some (.string (baL s))) : leftS B W = s.length := by
  unfold leftS
  rw [h]
  exact baL_size s

set_option maxHeartbeats 1000000 in
set_option maxRecDepth 100000 in
theorem lines1_in (n : Nat) (hn : 1 ≤ n) (l Bs : Nat) (J Jx : List (List UInt8) → World → Prop)
    (hJ : ∀ pre W W', J pre W → Kept (fun k => k = Bs) W W' → (∀ T, typ W' Bs T → typ W Bs T) → J pre W')
    (hY : ∀ pre x W, J pre W → (x ++ [10]).length ≤ 140737488355328 → YieldAt Fence.wide (n - 1) Tryz.prog l #[.string (baL (x ++ [10]))] W fun e W' =>
      (e = .returned (.bool true) ∧ J (pre ++ [x]) W' ∧ W'.cell? ⟨Bs, 0, none⟩ = W.cell? ⟨Bs, 0, none⟩ ∧ W'.frozen? ⟨Bs, 0, none⟩ = W.frozen? ⟨Bs, 0, none⟩) ∨ (e = .returned (.bool false) ∧ Jx (pre ++ [x]) W'))
    (W : World) (s : List UInt8) (hs : EndsN s) (hl : s.length ≤ 140737488355328) (hB : W.cell? ⟨Bs, 0, none⟩ = some (.string (baL s)) ∧ W.frozen? ⟨Bs, 0, none⟩ = false) (h0 : J [] W) :
    CallsIn Fence.wide n Tryz.prog 49 #[.func (.yield l) #[] #[], .pointer (some ⟨Bs, 0, none⟩)] W fun e W' => (∃ v, e = .returned v) ∧
      (J (linesL [] s) W' ∨ ∃ pre rest, linesL [] s = pre ++ rest ∧ Jx pre W') := by
  refine callsIn_of_wp Tryz.func49 rfl trivial ?_
  simp only [Tryz.ntmps49, List.size_toArray, List.length_cons, List.length_nil, Nat.reduceAdd, Nat.reduceSub, Array.replicate_succ, Array.replicate_zero, List.push_toArray, List.append_toArray, List.nil_append, List.cons_append]
  gi_wp2
  gi_loopw [] (fun wr => ∃ (pre : List (List UInt8)) (t : List UInt8), EndsN t ∧ t.length ≤ 140737488355328 ∧ linesL [] s = pre ++ linesL [] t ∧ wr.cell? ⟨Bs, 0, none⟩ = some (.string (baL t)) ∧ wr.frozen? ⟨Bs, 0, none⟩ = false ∧ J pre wr)
    (fun wr => leftS Bs wr)
  case atStart => exact ⟨[], s, hs, hl, rfl, hB.1, hB.2, h0⟩
  case round =>
    obtain ⟨pre, t, ht, htl, hsp, hc, hf, hj⟩ := hrel
    by_cases h0 : t = []
    · subst h0
      gi_wp2
      go_end0
      exact ⟨⟨_, rfl⟩, .inl (by rw [hsp]; simpa [linesL] using hj)⟩
    · obtain ⟨x, t', rfl, hx, ht', hlt, hix⟩ := ends_cut t ht h0
      have hsz : ((baL (x ++ 10 :: t')).size : Int) = (x.length : Int) + 1 + (t'.length : Int) := by rw [baL_size]; simp; omega
      have hpos : (0 : Int) < ((baL (x ++ 10 :: t')).size : Int) := by omega
      have hle : (x.length : Int) + 1 ≤ ((baL (x ++ 10 :: t')).size : Int) := by omega
      have hE1 : baL (x ++ [10]) = (baL (x ++ 10 :: t')).extract 0 (x.length + 1) := by
        rw [Lib.extract_eq, baL_list, List.drop_zero, show x ++ 10 :: t' = (x ++ [10]) ++ t' by simp, List.take_left' (by simp)]
      have hE2 : baL t' = (baL (x ++ 10 :: t')).extract (x.length + 1) (baL (x ++ 10 :: t')).size := by
        rw [Lib.extract_eq, baL_list, List.take_of_length_le (by rw [List.length_drop, baL_size]; exact Nat.le_refl _)]
        simp
      have hxl : (x.length : Int) ≤ 140737488355328 := by simp at htl; omega
      have HC := hide hc
      have hIx := hide hix
      have HSP := hide hsp
      have HLT := hide hlt
      have HTL := hide htl
      have HE := hide (And.intro hE1 hE2)
      obtain ⟨S, hS⟩ : ∃ S, baL (x ++ 10 :: t') = S := ⟨_, rfl⟩
      rw [hS] at hsz hpos hle hc
      have HS := hide hS
      clear hix hsp hlt htl hE1 hE2 hS
      gi_wp2_with (first
        | (refine ⟨trivial, ?_⟩; gi_at_call 50; refine (callsIn_wide.2 (Tryz.strings_IndexByte S 10 _)).mono ?_; rintro e wr ⟨rfl, rfl⟩; rw [← HS.out, baL_list, show ((10 : Int).toNat.toUInt8) = 10 from rfl, hIx.out]))
      have c1 : (0 : Int) ≤ (x.length : Int) + 1 := by omega
      gi_region
      have e1 : S.extract 0 (x.length + 1) = baL (x ++ [10]) := by rw [← HS.out]; exact HE.out.1.symm
      have e2 : S.extract (x.length + 1) S.size = baL t' := by rw [← HS.out]; exact HE.out.2.symm
      obtain ⟨W2, hW2⟩ : ∃ W2, (wr.setCell ⟨Bs, 0, none⟩ (.string (S.extract (x.length + 1) S.size))).drew = W2 := ⟨_, rfl⟩
      have hk2 : Kept (fun k => k = Bs) wr W2 := by
        rw [← hW2]
        exact (Kept.setCell wr ⟨Bs, 0, none⟩ _).join (Kept.drew _) (fun _ _ e => e) (fun _ _ e => e.elim)
      have htp2 : ∀ T, typ W2 Bs T → typ wr Bs T := by
        intro T ht
        rw [← hW2] at ht
        exact typ_unset ht
      have hc2 : W2.cell? ⟨Bs, 0, none⟩ = some (.string (baL t')) := by
        rw [← hW2, ← e2]
        exact World.cell?_setCell_same' wr _ _ (by rw [hc]; rfl)
      have hf2 : W2.frozen? ⟨Bs, 0, none⟩ = false := by
        rw [← hW2]
        exact (World.frozen?_setCell wr _ _ _).trans hf
      obtain ⟨fn, tmps, assign, body, hy, hR⟩ := hY pre x W2 (hJ pre wr W2 hj hk2 htp2) (by have := HTL.out; simp at this ⊢; omega)
      rw [e1]
      rw [hW2]
      clear hc hf hk2 hW2 hj e1 e2 htp2
      gi_wp2
      refine hR.mono ?_
      rintro e W3 (⟨rfl, hJ3, hc3, hf3⟩ | ⟨rfl, hJx3⟩)
      · have hc4 := hc3.trans hc2
        have hf4 := hf3.trans hf2
        clear hc3 hf3 hc2 hf2
        gi_wp2
        go_roundw
        case rel => exact ⟨pre ++ [x], t', ht', by have := HTL.out; simp at this; omega, by rw [HSP.out, HLT.out]; simp, hc4, hf4, hJ3⟩
        case measure =>
          rw [leftS_eq hc4, leftS_eq HC.out]
          simp
          omega
      · gi_wp2
        refine bodyPost_ret (results_none rfl _ _ _) rfl ?_
        exact ⟨⟨_, rfl⟩, .inr ⟨pre ++ [x], linesL [] t', by rw [HSP.out, HLT.out]; simp, hJx3⟩⟩
end Go.Proofs.YtlfmfhmbkpnjbabGreatDoor
