import Derived.Test.YtlfmfhmbkpnjbaaGreatDoorAl24
import Derived.Test.YtlfmfhmbkpnjbaaGreatDoorAl26
import Derived.Test.YtlfmfhmbkpnjbaaGreatDoorAl22
namespace Go.Proofs.YtlfmfhmbkpnjbaaGreatDoor
open Go.RowKit

/-- A reader that stands ahead of some words. -/
def rdOf : List (List UInt8) → Rd
  | [] => ⟨[], true, false⟩
  | x :: r => ⟨Lib.join (x :: r) [32], false, false⟩
theorem word_rd (x : List UInt8) (r : List (List UInt8)) (h : (32 : UInt8) ∉ x) : (rdOf (x :: r)).word = (x, rdOf r) := by
  cases r with
  | nil =>
    unfold rdOf Rd.word
    simp only [Lib.join_one, cutL_miss 32 x h]
    rfl
  | cons y r =>
    unfold rdOf Rd.word
    simp only [join_two, cutL_hit 32 x _ h]
    rfl
theorem int_rd (n lo hi : Int) (r : List (List UInt8)) (h : -9223372036854775808 ≤ n ∧ n ≤ 9223372036854775807) (hl : lo ≤ n ∧ n ≤ hi) : (rdOf (Lib.itoa n :: r)).int lo hi = (n, rdOf r) := by
  have hc : (32 : UInt8) ∉ Lib.itoa n := (itoaW_clean n).1
  unfold Rd.int
  rw [word_rd _ _ hc]
  simp only [numL_itoa n h, hl, and_self, if_true]
theorem any_rd (n : Int) (r : List (List UInt8)) (h : -9223372036854775808 ≤ n ∧ n ≤ 9223372036854775807) : (rdOf (Lib.itoa n :: r)).any = (n, rdOf r) := int_rd n _ _ r h h
theorem flt_rd (u : Nat) (r : List (List UInt8)) (h : u < 4294967296) : (rdOf (hexL u :: r)).flt = (u, rdOf r) := by
  have hc : (32 : UInt8) ∉ hexL u := by
    intro hm
    have := hex_chars u _ hm
    exact absurd this (by decide)
  unfold Rd.flt
  rw [word_rd _ _ hc]
  simp only [bitsL_hex u h]

def listsOf (xs : List ByteArray) : List (List UInt8) := xs.map (·.data.toList)
theorem lists_itoa (n : Int) : (itoaW n).data.toList = Lib.itoa n := by simp [itoaW]
theorem lists_hex (u : Nat) (h : u < 4294967296) : (hexW u).data.toList = hexL u := by simp [hexW, Nat.mod_eq_of_lt (show u < 18446744073709551616 by omega)]

/-- A command as far as its kind uses it. -/
def normC (c : Cmd) : Cmd :=
  if c.kind = 1 then ⟨1, c.id, c.team, c.x, c.y, 0⟩ else if c.kind = 2 then ⟨2, c.id, 0, c.x, c.y, 0⟩ else if c.kind = 3 then ⟨3, c.id, 0, 0, 0, c.n⟩ else if c.kind = 4 then ⟨4, c.id, 0, 0, 0, 0⟩ else ⟨c.kind, 0, 0, 0, 0, 0⟩
theorem normC_do (c : Cmd) (L : List Mob) : doM L (normC c) = doM L c := by
  unfold normC doM
  by_cases h1 : c.kind = 1
  · simp [h1]
  · by_cases h2 : c.kind = 2
    · simp [h2]
    · by_cases h3 : c.kind = 3
      · simp [h3]
      · by_cases h4 : c.kind = 4
        · simp [h4]
        · simp [h1, h2, h3, h4]
theorem normC_step (cs : List Cmd) (L : List Mob) : stepL (cs.map normC) L = stepL cs L := by
  have : ∀ (cs : List Cmd) (L : List Mob), (cs.map normC).foldl doM L = cs.foldl doM L := by
    intro cs
    induction cs with
    | nil => intro L; rfl
    | cons c r ih => intro L; simp only [List.map_cons, List.foldl_cons, normC_do, ih]
  unfold stepL
  rw [this]

structure F32M (m : Mob) : Prop where
  x : m.x < 4294967296
  y : m.y < 4294967296
  vx : m.vx < 4294967296
  vy : m.vy < 4294967296

theorem cmd_rd (c : Cmd) (r : List (List UInt8)) (hI : IntC c) (hF : F32C c) : (rdOf (listsOf (cmdW c) ++ r)).cmd = (normC c, rdOf r) := by
  have hi := hI.id
  have ht := hI.team
  have hn := hI.n
  have hk := hI.kind
  unfold cmdW normC
  by_cases h1 : c.kind = 1
  · simp only [h1, if_true, listsOf, List.map_cons, List.map_nil, List.cons_append, List.nil_append, lists_itoa, lists_hex _ hF.x, lists_hex _ hF.y]
    unfold Rd.cmd
    simp only [any_rd 1 _ (by omega), any_rd _ _ hi, any_rd _ _ ht, flt_rd _ _ hF.x, flt_rd _ _ hF.y, if_true]
  · by_cases h2 : c.kind = 2
    · simp only [h2, if_true, listsOf, List.map_cons, List.map_nil, List.cons_append, List.nil_append, lists_itoa, lists_hex _ hF.x, lists_hex _ hF.y, show ¬ ((2 : Int) = 1) by decide, if_false]
      unfold Rd.cmd
      simp only [any_rd 2 _ (by omega), any_rd _ _ hi, flt_rd _ _ hF.x, flt_rd _ _ hF.y, if_true, show ¬ ((2 : Int) = 1) by decide, if_false]
    · by_cases h3 : c.kind = 3
      · simp only [h3, if_true, listsOf, List.map_cons, List.map_nil, List.cons_append, List.nil_append, lists_itoa, show ¬ ((3 : Int) = 1) by decide, show ¬ ((3 : Int) = 2) by decide, if_false]
        unfold Rd.cmd
        simp only [any_rd 3 _ (by omega), any_rd _ _ hi, any_rd _ _ hn, if_true, show ¬ ((3 : Int) = 1) by decide, show ¬ ((3 : Int) = 2) by decide, if_false]
      · by_cases h4 : c.kind = 4
        · simp only [h4, if_true, listsOf, List.map_cons, List.map_nil, List.cons_append, List.nil_append, lists_itoa, show ¬ ((4 : Int) = 1) by decide, show ¬ ((4 : Int) = 2) by decide, show ¬ ((4 : Int) = 3) by decide, if_false]
          unfold Rd.cmd
          simp only [any_rd 4 _ (by omega), any_rd _ _ hi, if_true, show ¬ ((4 : Int) = 1) by decide, show ¬ ((4 : Int) = 2) by decide, show ¬ ((4 : Int) = 3) by decide, if_false]
        · simp only [h1, h2, h3, h4, listsOf, List.map_cons, List.map_nil, List.cons_append, List.nil_append, lists_itoa, if_false]
          unfold Rd.cmd
          simp only [any_rd _ _ hk, h1, h2, h3, h4, if_false]
theorem cmds_rd (cs : List Cmd) (r : List (List UInt8)) (k : Nat) (hk : k ≤ cs.length) (hI : ∀ c ∈ cs, IntC c) (hF : ∀ c ∈ cs, F32C c) :
    (rdOf (listsOf (cs.flatMap cmdW) ++ r)).cmds k = ((cs.take k).map normC, rdOf (listsOf ((cs.drop k).flatMap cmdW) ++ r)) := by
  induction k with
  | zero => simp [Rd.cmds]
  | succ n ih =>
    have hn : n < cs.length := by omega
    simp only [Rd.cmds, ih (by omega)]
    have e : listsOf ((cs.drop n).flatMap cmdW) ++ r = listsOf (cmdW cs[n]) ++ (listsOf ((cs.drop (n + 1)).flatMap cmdW) ++ r) := by
      rw [List.drop_eq_getElem_cons hn, List.flatMap_cons]
      simp only [listsOf, List.map_append, List.append_assoc]
    rw [e, cmd_rd _ _ (hI _ (List.getElem_mem hn)) (hF _ (List.getElem_mem hn))]
    simp only [Prod.mk.injEq, and_true]
    rw [List.take_succ_eq_append_getElem hn, List.map_append]
    rfl
theorem cmdL_rd (cs : List Cmd) (r : List (List UInt8)) (hl : cs.length ≤ 64) (hI : ∀ c ∈ cs, IntC c) (hF : ∀ c ∈ cs, F32C c) : (rdOf (listsOf (headW cs) ++ r)).cmdL = (cs.map normC, rdOf r) := by
  have e : listsOf (headW cs) ++ r = Lib.itoa cs.length :: (listsOf (cs.flatMap cmdW) ++ r) := by simp [headW, listsOf, lists_itoa]
  unfold Rd.cmdL
  rw [e, int_rd cs.length 0 64 _ (by omega) (by omega)]
  have := cmds_rd cs r cs.length (Nat.le_refl _) hI hF
  simpa [listsOf] using this
theorem ent_rd (m : Mob) (r : List (List UInt8)) (hI : IntM m) (hF : F32M m) : (rdOf (listsOf (entW m) ++ r)).ent = (m, rdOf r) := by
  simp only [entW, listsOf, List.map_cons, List.map_nil, List.cons_append, List.nil_append, lists_itoa, lists_hex _ hF.x, lists_hex _ hF.y, lists_hex _ hF.vx, lists_hex _ hF.vy]
  unfold Rd.ent
  simp only [any_rd _ _ hI.id, any_rd _ _ hI.team, any_rd _ _ hI.health, flt_rd _ _ hF.x, flt_rd _ _ hF.y, flt_rd _ _ hF.vx, flt_rd _ _ hF.vy]
theorem ents_rd (L : List Mob) (r : List (List UInt8)) (k : Nat) (hk : k ≤ L.length) (hI : ∀ m ∈ L, IntM m) (hF : ∀ m ∈ L, F32M m) :
    (rdOf (listsOf (L.flatMap entW) ++ r)).ents k = (L.take k, rdOf (listsOf ((L.drop k).flatMap entW) ++ r)) := by
  induction k with
  | zero => simp [Rd.ents]
  | succ n ih =>
    have hn : n < L.length := by omega
    simp only [Rd.ents, ih (by omega)]
    have e : listsOf ((L.drop n).flatMap entW) ++ r = listsOf (entW L[n]) ++ (listsOf ((L.drop (n + 1)).flatMap entW) ++ r) := by
      rw [List.drop_eq_getElem_cons hn, List.flatMap_cons]
      simp only [listsOf, List.map_append, List.append_assoc]
    rw [e, ent_rd _ _ (hI _ (List.getElem_mem hn)) (hF _ (List.getElem_mem hn))]
    simp only [Prod.mk.injEq, and_true]
    exact (List.take_succ_eq_append_getElem hn).symm
theorem entL_rd (L : List Mob) (hl : L.length ≤ 32) (hI : ∀ m ∈ L, IntM m) (hF : ∀ m ∈ L, F32M m) : (rdOf (listsOf (itoaW L.length :: L.flatMap entW))).entL = (L, rdOf []) := by
  have e : listsOf (itoaW L.length :: L.flatMap entW) = Lib.itoa L.length :: (listsOf (L.flatMap entW) ++ []) := by simp [listsOf, lists_itoa]
  unfold Rd.entL
  rw [e, int_rd L.length 0 32 _ (by omega) (by omega)]
  have := ents_rd L [] L.length (Nat.le_refl _) hI hF
  simpa [listsOf] using this

/-- A line without its end. -/
def bodyL (xs : List ByteArray) : List UInt8 := Lib.join (listsOf xs) [32]
theorem body_line (xs : List ByteArray) : lineL xs = bodyL xs ++ [10] := rfl
theorem of_body (xs : List ByteArray) (h : xs ≠ []) : Rd.of (bodyL xs) = rdOf (listsOf xs) := by
  cases xs with
  | nil => exact absurd rfl h
  | cons x r => rfl
theorem body_clean (xs : List ByteArray) (h : ∀ x ∈ xs, Clean x) : (10 : UInt8) ∉ bodyL xs :=
  join_end _ (fun z hz => by obtain ⟨x, hm, rfl⟩ := List.mem_map.1 hz; exact (h x hm).2)

/-- The line of a tick goes on with its match. -/
theorem add_tick (m : Mt) (cs : List Cmd) (L : List Mob) (hlen : m.cmds.length < 500) (hl : cs.length ≤ 64) (hI : ∀ c ∈ cs, IntC c) (hF : ∀ c ∈ cs, F32C c)
    (hw : worldB ((m.cmds.length : Int) + 1) L = true) (hIM : ∀ x ∈ L, IntM x) (hFM : ∀ x ∈ L, F32M x) :
    m.add (bodyL (tickW cs ((m.cmds.length : Int) + 1) L m.ev)) = some ⟨m.ev, m.cmds ++ [cs.map normC], if (m.cmds.length + 1) % m.ev = 0 then m.whole ++ [L] else m.whole⟩ := by
  have h32 : L.length ≤ 32 := (worldB_fine hw).2.2.short
  have hm0 : ((m.cmds.length : Int) + 1) % (m.ev : Int) = (((m.cmds.length + 1) % m.ev : Nat) : Int) := by rw [Int.natCast_emod]; rfl
  have hmod : (((m.cmds.length : Int) + 1) % (m.ev : Int) = 0) ↔ (m.cmds.length + 1) % m.ev = 0 := by rw [hm0]; omega
  have ho := of_body (tickW cs ((m.cmds.length : Int) + 1) L m.ev) (by simp [tickW, headW])
  unfold Mt.add
  rw [if_neg (by omega), ho]
  by_cases h0 : (m.cmds.length + 1) % m.ev = 0
  · have e : listsOf (tickW cs ((m.cmds.length : Int) + 1) L m.ev) = listsOf (headW cs) ++ listsOf (itoaW L.length :: L.flatMap entW) := by
      unfold tickW
      rw [if_pos (hmod.2 h0)]
      simp [listsOf]
    rw [e, cmdL_rd cs _ hl hI hF]
    simp only [if_pos h0]
    rw [entL_rd L h32 hIM hFM]
    simp only [hw, true_and]
    rw [if_pos (show (rdOf []).done = true from rfl)]
  · have e : listsOf (tickW cs ((m.cmds.length : Int) + 1) L m.ev) = listsOf (headW cs) ++ [] := by
      unfold tickW
      rw [if_neg (fun q => h0 (hmod.1 q))]
      simp [listsOf]
    rw [e, cmdL_rd cs _ hl hI hF]
    simp only [if_neg h0]
    rw [if_pos (show (rdOf []).done = true from rfl)]
theorem every_first (ev : Nat) (h : 1 ≤ ev ∧ ev ≤ 64) : everyL (bodyL (firstW ev)) = some ev := by
  have ho := of_body (firstW ev) (by simp [firstW])
  have e : listsOf (firstW ev) = encoreL :: [Lib.itoa ev] := by simp [listsOf, firstW, lists_itoa, encoreL]
  unfold everyL
  rw [ho, e, word_rd _ _ (by decide), int_rd ev 1 64 _ (by omega) (by omega)]
  rw [if_pos ⟨rfl, rfl⟩]
  simp

theorem linesL_skip (a b : List UInt8) (acc : List UInt8) (h : (10 : UInt8) ∉ a) : linesL acc (a ++ 10 :: b) = (acc ++ a) :: linesL [] b := by
  induction a generalizing acc with
  | nil => simp [linesL]
  | cons x r ih =>
    have hx : ¬ x = 10 := fun e => h (by simp [e])
    simp only [List.cons_append, linesL, if_neg hx]
    rw [ih _ (fun e => h (by simp [e]))]
    simp
theorem linesL_none (a acc : List UInt8) (h : (10 : UInt8) ∉ a) : linesL acc a = [] := by
  induction a generalizing acc with
  | nil => rfl
  | cons x r ih =>
    have hx : ¬ x = 10 := fun e => h (by simp [e])
    simp only [linesL, if_neg hx]
    exact ih _ (fun e => h (by simp [e]))
theorem linesL_flat (ls : List (List ByteArray)) (t : List UInt8) (h : ∀ l ∈ ls, ∀ x ∈ l, Clean x) (ht : (10 : UInt8) ∉ t) : linesL [] (ls.flatMap lineL ++ t) = ls.map bodyL := by
  induction ls with
  | nil => simpa using linesL_none t [] ht
  | cons l r ih =>
    simp only [List.flatMap_cons, body_line, List.append_assoc, List.map_cons]
    rw [show bodyL l ++ ([10] ++ (List.flatMap lineL r ++ t)) = bodyL l ++ 10 :: (List.flatMap lineL r ++ t) from rfl, linesL_skip _ _ _ (body_clean l (h l (by simp)))]
    rw [ih (fun l hl => h l (by simp [hl]))]
    rfl

/-! Numbers with a point are words of 32 bits. -/
theorem word_lt (neg : Bool) (r : Nat) (h : r < 2147483648) : Ieee.single.word neg r < 4294967296 := by
  unfold Ieee.Format.word
  rw [sign_single]
  split <;> omega
theorem write_lt (d : Ieee.Datum) : Ieee.single.write d < 4294967296 := by
  have hi := inf_single
  cases d with
  | number s m e =>
    show Ieee.single.nearest s m e < _
    unfold Ieee.Format.nearest
    dsimp only
    split
    · exact word_lt _ _ (by omega)
    · refine word_lt _ _ (Nat.lt_of_le_of_lt (Nat.min_le_right ..) (by omega))
  | infinity s => exact word_lt _ _ (by omega)
  | nan s f =>
    show Ieee.single.word s (Ieee.single.infRung + f % Ieee.single.binade) < _
    have hb := bin_single
    have := Nat.mod_lt f (show 0 < Ieee.single.binade by omega)
    exact word_lt _ _ (by omega)
theorem fadd_lt (x y : Nat) : fadd x y < 4294967296 := by
  unfold fadd Ieee.Format.add
  cases (Ieee.Datum.sum (Ieee.single.read x) (Ieee.single.read y)) with
  | none => simp
  | some d => exact write_lt d
theorem fmul_lt (x y : Nat) : fmul x y < 4294967296 := by
  unfold fmul Ieee.Format.mul
  cases (Ieee.Datum.product (Ieee.single.read x) (Ieee.single.read y)) with
  | none => simp
  | some d => exact write_lt d
theorem moved_lt (x v : Nat) : (movedF x v).1 < 4294967296 ∧ (movedF x v).2 < 4294967296 := by
  unfold movedF
  split
  · exact ⟨show (3296329728 : Nat) < 4294967296 by decide, fmul_lt _ _⟩
  · split
    · exact ⟨show (1148846080 : Nat) < 4294967296 by decide, fmul_lt _ _⟩
    · exact ⟨fadd_lt _ _, fmul_lt _ _⟩
theorem doM_f32 (L : List Mob) (c : Cmd) (h : ∀ m ∈ L, F32M m) (hc : F32C c) : ∀ m ∈ doM L c, F32M m := by
  intro m hm
  unfold doM at hm
  have hset : ∀ (f : Mob → Mob) (i : Nat), (∀ m, F32M m → F32M (f m)) → m ∈ setAt L i f → F32M m := by
    intro f i hf hm
    unfold setAt at hm
    split at hm
    · rename_i x hx
      rcases List.mem_or_eq_of_mem_set hm with hm | rfl
      · exact h m hm
      · exact hf x (h x (List.mem_of_getElem? hx))
    · exact h m hm
  split at hm
  · split at hm
    · rcases List.mem_append.1 hm with hm | hm
      · exact h m (List.mem_of_mem_take hm)
      · rcases List.mem_cons.1 hm with rfl | hm
        · exact ⟨hc.x, hc.y, show (0 : Nat) < 4294967296 by decide, show (0 : Nat) < 4294967296 by decide⟩
        · exact h m (List.mem_of_mem_drop hm)
    · exact h m hm
  · split at hm
    · split at hm
      · refine hset _ _ ?_ hm
        exact fun m hm => ⟨hm.x, hm.y, fadd_lt _ _, fadd_lt _ _⟩
      · exact h m hm
    · split at hm
      · split at hm
        · refine hset _ _ ?_ hm
          exact fun m hm => ⟨hm.x, hm.y, hm.vx, hm.vy⟩
        · exact h m hm
      · split at hm
        · split at hm
          · rcases List.mem_append.1 hm with hm | hm
            · exact h m (List.mem_of_mem_take hm)
            · exact h m (List.mem_of_mem_drop hm)
          · exact h m hm
        · exact h m hm
theorem stepL_f32 (cs : List Cmd) (L : List Mob) (h : ∀ m ∈ L, F32M m) (hc : ∀ c ∈ cs, F32C c) : ∀ m ∈ stepL cs L, F32M m := by
  have hf : ∀ (cs : List Cmd) (L : List Mob), (∀ m ∈ L, F32M m) → (∀ c ∈ cs, F32C c) → ∀ m ∈ cs.foldl doM L, F32M m := by
    intro cs
    induction cs with
    | nil => intro L h _; exact h
    | cons c r ih => intro L h hc; exact ih _ (doM_f32 L c h (hc c (by simp))) (fun x hx => hc x (by simp [hx]))
  intro m hm
  unfold stepL at hm
  obtain ⟨x, hx, rfl⟩ := List.mem_map.1 hm
  have := hf cs L h hc x (List.mem_filter.1 hx).1
  exact ⟨(moved_lt _ _).1, (moved_lt _ _).1, (moved_lt _ _).2, (moved_lt _ _).2⟩

/-- What the file of a match tells. -/
noncomputable def recM (ev : Nat) (css : List (List Cmd)) (k : Nat) : Mt := ⟨ev, (List.range k).map (fun j => (css.getD j []).map normC), (List.range (k / ev + 1)).map (fun q => mobsAt css (q * ev))⟩
theorem adds_app (m : Mt) (a b : List (List UInt8)) : m.adds (a ++ b) = match m.adds a with | some m' => m'.adds b | none => none := by
  induction a generalizing m with
  | nil => rfl
  | cons x r ih =>
    simp only [List.cons_append, Mt.adds]
    cases m.add x with
    | none => rfl
    | some m' => exact ih m'
/-- Commands that can be written down. -/
structure CsOk (css : List (List Cmd)) : Prop where
  few : ∀ j, (css.getD j []).length ≤ 64
  int : ∀ j, ∀ c ∈ css.getD j [], IntC c
  f32 : ∀ j, ∀ c ∈ css.getD j [], F32C c
theorem mobs_f32 (css : List (List Cmd)) (h : CsOk css) (k : Nat) : ∀ m ∈ mobsAt css k, F32M m := by
  induction k with
  | zero => intro m hm; cases hm
  | succ n ih => exact stepL_f32 _ _ ih (h.f32 n)
theorem recM_len (ev : Nat) (css : List (List Cmd)) (k : Nat) : (recM ev css k).cmds.length = k := by simp [recM]
theorem mobsAt_world5 (css : List (List Cmd)) (k : Nat) (hk : k ≤ 500) : worldB (k : Int) (mobsAt css k) = true := by
  induction k with
  | zero => exact worldB_true 0 [] ⟨by decide, by decide⟩ (fun j hj _ => absurd hj (Nat.not_lt_zero _))
  | succ n ih =>
    have := worldB_next (css.getD n []) (ih (by omega)) (by omega)
    rw [show ((n + 1 : Nat) : Int) = (n : Int) + 1 from rfl]
    exact this
theorem recM_add (ev : Nat) (css : List (List Cmd)) (k : Nat) (hk : k < 500) (h : CsOk css) :
    (recM ev css k).add (bodyL (tickW (css.getD k []) ((k : Int) + 1) (mobsAt css (k + 1)) ev)) = some (recM ev css (k + 1)) := by
  have hw := mobsAt_world5 css (k + 1) (by omega)
  have hl := recM_len ev css k
  have := add_tick (recM ev css k) (css.getD k []) (mobsAt css (k + 1)) (by omega) (h.few k) (h.int k) (h.f32 k) (by rw [hl]; exact hw) (mob_int hw) (mobs_f32 css h (k + 1))
  rw [hl] at this
  refine this.trans (congrArg some ?_)
  unfold recM
  simp only [Mt.mk.injEq, true_and]
  refine ⟨by simp [List.range_succ], ?_⟩
  have hd : (k + 1) / ev = if (k + 1) % ev = 0 then k / ev + 1 else k / ev := by
    rw [Nat.succ_div]
    simp only [Nat.dvd_iff_mod_eq_zero]
    split <;> rfl
  by_cases h0 : (k + 1) % ev = 0
  · rw [if_pos h0]
    rw [if_pos h0] at hd
    have hm := Nat.div_add_mod (k + 1) ev
    rw [h0, hd, Nat.mul_comm] at hm
    rw [hd, List.range_succ (n := k / ev + 1), List.map_append]
    simp only [List.map_cons, List.map_nil]
    rw [show (k / ev + 1) * ev = k + 1 by omega]
  · rw [if_neg h0]
    rw [if_neg h0] at hd
    rw [hd]
theorem recM_adds (ev : Nat) (css : List (List Cmd)) (k : Nat) (hk : k ≤ 500) (h : CsOk css) :
    (Mt.mk ev [] [[]]).adds ((linesAt ev css k).map bodyL) = some (recM ev css k) := by
  induction k with
  | zero =>
    simp only [linesAt, List.range_zero, List.map_nil, Mt.adds]
    congr 1
    unfold recM
    simp [show (0 : Nat) / ev = 0 by simp, mobsAt]
  | succ n ih =>
    have e : linesAt ev css (n + 1) = linesAt ev css n ++ [tickW (css.getD n []) ((n : Int) + 1) (mobsAt css (n + 1)) ev] := by simp [linesAt, List.range_succ]
    rw [e, List.map_append, adds_app, ih (by omega)]
    simp only [List.map_cons, List.map_nil, Mt.adds]
    rw [recM_add ev css n (by omega) h]
theorem lines_clean (ev : Int) (css : List (List Cmd)) (k : Nat) : ∀ l ∈ linesAt ev css k, ∀ x ∈ l, Clean x := by
  intro l hl
  simp only [linesAt, List.mem_map] at hl
  obtain ⟨j, _, rfl⟩ := hl
  exact tickW_clean _ _ _ _
theorem first_clean (ev : Int) : ∀ x ∈ firstW ev, Clean x := by
  intro x hx
  simp only [firstW, List.mem_cons, List.not_mem_nil, or_false] at hx
  rcases hx with rfl | rfl
  · exact ⟨by decide, by decide⟩
  · exact itoaW_clean _
/-- The file of a match, and something behind it that has no end. -/
theorem matchL_file (ev : Nat) (css : List (List Cmd)) (k : Nat) (t : List UInt8) (he : 1 ≤ ev ∧ ev ≤ 64) (hk : k ≤ 500) (h : CsOk css) (ht : (10 : UInt8) ∉ t) :
    matchL (fileAt ev css k ++ t) = some (recM ev css k) := by
  have e : fileAt ev css k ++ t = (firstW ev :: linesAt ev css k).flatMap lineL ++ t := by rw [fileAt_lines]; simp
  unfold matchL
  rw [e, linesL_flat _ t ?_ ht]
  · simp only [List.map_cons, every_first ev he]
    exact recM_adds ev css k hk h
  · intro l hl
    rcases List.mem_cons.1 hl with rfl | hl
    · exact first_clean _
    · exact lines_clean _ _ _ l hl
/-- A text that is shorter than the first line. -/
theorem matchL_short (ev : Nat) (css : List (List Cmd)) (k n : Nat) (h : n < (fileAt ev css 0).length) : matchL ((fileAt ev css k).take n) = none := by
  have e : (fileAt ev css k).take n = (bodyL (firstW ev)).take n := by
    have h1 : fileAt ev css 0 = bodyL (firstW ev) ++ [10] := rfl
    rw [h1] at h
    simp only [List.length_append, List.length_cons, List.length_nil] at h
    rw [fileAt_lines, body_line, List.append_assoc, List.take_append_of_le_length (by omega)]
  have hc : (10 : UInt8) ∉ (bodyL (firstW ev)).take n := fun hm => body_clean _ (first_clean _) (List.mem_of_mem_take hm)
  unfold matchL
  rw [e, linesL_none _ _ hc]
/-- A cut file: as many ticks as lie in it wholly. -/
theorem file_cut (ev : Int) (css : List (List Cmd)) (k j n : Nat) (hj : j ≤ k) (h1 : (fileAt ev css j).length ≤ n) (h2 : j = k ∨ n < (fileAt ev css (j + 1)).length) :
    ∃ t, (fileAt ev css k).take n = fileAt ev css j ++ t ∧ (10 : UInt8) ∉ t := by
  have pre : ∀ d, ∃ r, fileAt ev css (j + d) = fileAt ev css j ++ r := by
    intro d
    induction d with
    | zero => exact ⟨[], by simp⟩
    | succ d ih =>
      obtain ⟨r, hr⟩ := ih
      exact ⟨r ++ lineL (tickW (css.getD (j + d) []) (((j + d : Nat) : Int) + 1) (mobsAt css (j + d + 1)) ev), by show fileAt ev css (j + d) ++ _ = _; rw [hr]; simp⟩
  rcases h2 with rfl | h2
  · exact ⟨[], by rw [List.take_of_length_le h1]; simp, by simp⟩
  · by_cases hjk : j = k
    · subst hjk
      exact ⟨[], by rw [List.take_of_length_le h1]; simp, by simp⟩
    · have pre1 : ∃ r, fileAt ev css k = fileAt ev css (j + 1) ++ r := by
        have : ∀ d, ∃ r, fileAt ev css (j + 1 + d) = fileAt ev css (j + 1) ++ r := by
          intro d
          induction d with
          | zero => exact ⟨[], by simp⟩
          | succ d ih =>
            obtain ⟨r, hr⟩ := ih
            exact ⟨r ++ lineL (tickW (css.getD (j + 1 + d) []) (((j + 1 + d : Nat) : Int) + 1) (mobsAt css (j + 1 + d + 1)) ev), by show fileAt ev css (j + 1 + d) ++ _ = _; rw [hr]; simp⟩
        have := this (k - (j + 1))
        rwa [show j + 1 + (k - (j + 1)) = k by omega] at this
      obtain ⟨r, hr⟩ := pre1
      refine ⟨(bodyL (tickW (css.getD j []) ((j : Int) + 1) (mobsAt css (j + 1)) ev)).take (n - (fileAt ev css j).length), ?_, ?_⟩
      · have h3 : fileAt ev css (j + 1) = fileAt ev css j ++ (bodyL (tickW (css.getD j []) ((j : Int) + 1) (mobsAt css (j + 1)) ev) ++ [10]) := rfl
        rw [h3] at h2
        simp only [List.length_append, List.length_cons, List.length_nil] at h2
        rw [hr, h3, List.append_assoc, List.append_assoc, List.take_append, List.take_of_length_le h1]
        congr 1
        rw [List.take_append_of_le_length (by omega)]
      · exact fun hm => body_clean _ (tickW_clean _ _ _ _) (List.mem_of_mem_take hm)
/-- The player of a file shows what was recorded. -/
theorem recM_at (ev : Nat) (css : List (List Cmd)) (k t : Nat) (ht : t ≤ k) : (recM ev css k).at t = mobsAt css t := by
  have hq : t / ev ≤ k / ev := Nat.div_le_div_right ht
  have hw : (recM ev css k).whole.getD (t / ev) [] = mobsAt css (t / ev * ev) := by
    unfold recM
    simp [List.getD, show t / ev < k / ev + 1 by omega]
  have key : ∀ d, t / ev * ev + d ≤ t → fromM (recM ev css k).cmds (t / ev * ev) (mobsAt css (t / ev * ev)) d = mobsAt css (t / ev * ev + d) := by
    intro d
    induction d with
    | zero => intro _; rfl
    | succ d ih =>
      intro hd
      have e2 : mobsAt css (t / ev * ev + (d + 1)) = stepL (css.getD (t / ev * ev + d) []) (mobsAt css (t / ev * ev + d)) := rfl
      rw [e2]
      show stepL _ (fromM _ _ _ d) = _
      rw [ih (by omega)]
      have : (recM ev css k).cmds.getD (t / ev * ev + d) [] = (css.getD (t / ev * ev + d) []).map normC := by
        unfold recM
        have hlt : t / ev * ev + d < k := by omega
        simp [List.getD, hlt]
      rw [this, normC_step]
  have hm := Nat.div_add_mod t ev
  unfold Mt.at
  show fromM _ (t / ev * ev) _ (t % ev) = _
  rw [show (recM ev css k).ev = ev from rfl, hw, key (t % ev) (by rw [Nat.mul_comm]; omega)]
  congr 1
  rw [Nat.mul_comm]
  omega
end Go.Proofs.YtlfmfhmbkpnjbaaGreatDoor

namespace Go.Proofs.YtlfmfhmbkpnjbaaGreatDoor
open Go.RowKit

/-- A match, and what was done with it. -/
structure Hist (d : MD) (css : List (List Cmd)) : Prop where
  s : d.s = fileAt d.ev css css.length
  len : d.ws.length = css.length + 1
  mob : ∀ j (h : j < d.ws.length), d.ws[j].t = (j : Int) ∧ d.ws[j].L = mobsAt css j
  st : ∀ j (h : j < d.ys.length), d.ys[j] = (fileAt d.ev css j).length
  ok : CsOk css

theorem getD_app (css : List (List Cmd)) (cs : List Cmd) (j : Nat) (h : j < css.length) : (css ++ [cs]).getD j [] = css.getD j [] := by
  simp [List.getD, List.getElem?_append_left h]
theorem getD_last (css : List (List Cmd)) (cs : List Cmd) : (css ++ [cs]).getD css.length [] = cs := by simp [List.getD]
theorem mobsAt_app (css : List (List Cmd)) (cs : List Cmd) (j : Nat) (h : j ≤ css.length) : mobsAt (css ++ [cs]) j = mobsAt css j := by
  induction j with
  | zero => rfl
  | succ n ih =>
    show stepL ((css ++ [cs]).getD n []) (mobsAt (css ++ [cs]) n) = stepL (css.getD n []) (mobsAt css n)
    rw [ih (by omega), getD_app css cs n (by omega)]
theorem fileAt_app (ev : Int) (css : List (List Cmd)) (cs : List Cmd) (j : Nat) (h : j ≤ css.length) : fileAt ev (css ++ [cs]) j = fileAt ev css j := by
  induction j with
  | zero => rfl
  | succ n ih =>
    show fileAt ev (css ++ [cs]) n ++ lineL (tickW ((css ++ [cs]).getD n []) ((n : Int) + 1) (mobsAt (css ++ [cs]) (n + 1)) ev) = fileAt ev css n ++ lineL (tickW (css.getD n []) ((n : Int) + 1) (mobsAt css (n + 1)) ev)
    rw [ih (by omega), getD_app css cs n (by omega), mobsAt_app css cs (n + 1) h]
theorem CsOk.app {css : List (List Cmd)} {cs : List Cmd} (h : CsOk css) (h1 : cs.length ≤ 64) (h2 : ∀ c ∈ cs, IntC c) (h3 : ∀ c ∈ cs, F32C c) : CsOk (css ++ [cs]) := by
  have key : ∀ j, (css ++ [cs]).getD j [] = css.getD j [] ∨ (css ++ [cs]).getD j [] = cs ∨ (css ++ [cs]).getD j [] = [] := by
    intro j
    by_cases h0 : j < css.length
    · exact Or.inl (getD_app css cs j h0)
    · by_cases h1 : j = css.length
      · subst h1; exact Or.inr (Or.inl (getD_last css cs))
      · exact Or.inr (Or.inr (by simp [List.getD, List.getElem?_eq_none (show (css ++ [cs]).length ≤ j by simp; omega)]))
  refine ⟨fun j => ?_, fun j c hc => ?_, fun j c hc => ?_⟩
  · rcases key j with e | e | e <;> rw [e]
    · exact h.few j
    · exact h1
    · exact Nat.zero_le _
  · rcases key j with e | e | e <;> rw [e] at hc
    · exact h.int j c hc
    · exact h2 c hc
    · cases hc
  · rcases key j with e | e | e <;> rw [e] at hc
    · exact h.f32 j c hc
    · exact h3 c hc
    · cases hc
theorem cs_nil : CsOk [] := ⟨fun j => by simp, fun j c hc => by simp at hc, fun j c hc => by simp at hc⟩

/-- Where it stands. -/
theorem Hist.now {w : World} {d : MD} {css : List (List Cmd)} (h : Hist d css) (o : d.Ok w) : d.now.t = (css.length : Int) ∧ d.now.L = mobsAt css css.length ∧ css.length ≤ 500 := by
  have h1 := o.len
  have h2 := h.len
  obtain ⟨r, x, hws, hxt, hxL⟩ := o.last
  have hl : r.length = css.length := by rw [hws] at h2; simp at h2; exact h2
  obtain ⟨m1, m2⟩ := h.mob r.length (by omega)
  have hx : d.ws[r.length]'(by omega) = x := by simp [hws]
  rw [hx] at m1 m2
  have h5 := (worldB_fine o.nowOk.good).2.1
  refine ⟨by omega, by rw [← hxL, m2, hl], by omega⟩
/-- It has grown. -/
theorem Hist.grew {w : World} {d d' : MD} {css : List (List Cmd)} {cs : List Cmd} (h : Hist d css) (o : d.Ok w) (g : Grew d d' cs) (h2 : ∀ c ∈ cs, IntC c) (h3 : ∀ c ∈ cs, F32C c) : (∃ css', Hist d' css') ∧ d.ws.length ≤ d'.ws.length := by
  obtain ⟨n1, n2, n3⟩ := h.now o
  rcases g.or with ⟨he, hs, hw, hy⟩ | ⟨he, y, hw, ht, hL, hs, hy⟩
  · refine ⟨⟨css, ?_, ?_, ?_, ?_, h.ok⟩, by rw [hw]; exact Nat.le_refl _⟩
    · rw [hs, g.ev]; exact h.s
    · rw [hw]; exact h.len
    · intro j hj
      simp only [hw]
      exact h.mob j (by rw [hw] at hj; exact hj)
    · intro j hj
      simp only [hy, g.ev]
      exact h.st j (by rw [hy] at hj; exact hj)
  · have hS : stepR d.now.t d.now.L cs = ⟨d.now.t + 1, stepL cs d.now.L, 0⟩ ∧ cs.length ≤ 64 := by
      unfold stepR at he ⊢
      rw [if_neg (by rw [o.nowOk.good]; decide)] at he ⊢
      split at he
      · exact absurd he (by decide)
      · rename_i h5
        rw [if_neg h5]
        split at he
        · exact absurd he (by decide)
        · rename_i h6
          rw [if_neg h6]
          exact ⟨rfl, by omega⟩
    obtain ⟨hS, h64⟩ := hS
    rw [hS] at ht hL hs
    have e1 : mobsAt (css ++ [cs]) (css.length + 1) = stepL cs (mobsAt css css.length) := by
      show stepL ((css ++ [cs]).getD css.length []) (mobsAt (css ++ [cs]) css.length) = _
      rw [getD_last, mobsAt_app css cs _ (Nat.le_refl _)]
    have e2 : fileAt d.ev (css ++ [cs]) (css.length + 1) = d'.s := by
      show fileAt d.ev (css ++ [cs]) css.length ++ lineL (tickW ((css ++ [cs]).getD css.length []) ((css.length : Int) + 1) (mobsAt (css ++ [cs]) (css.length + 1)) d.ev) = _
      rw [getD_last, fileAt_app _ css cs _ (Nat.le_refl _), e1, hs, h.s, n1, n2]
    have hl := h.len
    have hyl := o.ylen
    refine ⟨⟨css ++ [cs], ?_, ?_, ?_, ?_, h.ok.app h64 h2 h3⟩, by rw [hw]; simp⟩
    · rw [g.ev, List.length_append]; exact e2.symm
    · rw [hw]; simp [hl]
    · intro j hj
      have hj' : j < d.ws.length + 1 := by rw [hw] at hj; simpa using hj
      by_cases hlt : j < d.ws.length
      · have e : d'.ws[j] = d.ws[j] := by simp only [hw]; rw [List.getElem_append_left hlt]
        rw [e, mobsAt_app css cs j (by omega)]
        exact h.mob j hlt
      · obtain rfl : j = d.ws.length := by omega
        have e : d'.ws[d.ws.length]'hj = y := by simp only [hw]; rw [List.getElem_append_right (Nat.le_refl _)]; simp
        rw [e, ht, hL, n1, n2, hl, e1]
        exact ⟨by simp, rfl⟩
    · intro j hj
      have hj' : j < d.ys.length + 1 := by rw [hy] at hj; simpa using hj
      rw [g.ev]
      by_cases hlt : j < d.ys.length
      · have e : d'.ys[j] = d.ys[j] := by simp only [hy]; rw [List.getElem_append_left hlt]
        rw [e, fileAt_app _ css cs j (by omega)]
        exact h.st j hlt
      · obtain rfl : j = d.ys.length := by omega
        have e : d'.ys[d.ys.length]'hj = d'.s.length := by simp only [hy]; rw [List.getElem_append_right (Nat.le_refl _)]; simp
        rw [e, ← e2, hyl, hl]
/-- A cut file. -/
theorem Hist.cut {w : World} {d : MD} {css : List (List Cmd)} (h : Hist d css) (o : d.Ok w) (n M : Nat) (hM : M < d.ys.length) (h1 : d.ys[M] ≤ n) (h2 : ∀ j (hj : j < d.ys.length), M < j → n < d.ys[j]) :
    ∃ ev : Nat, matchL (d.s.take n) = some (recM ev css M) := by
  have hev := o.every
  have hyl := o.ylen
  have hl := h.len
  obtain ⟨-, -, h5⟩ := h.now o
  obtain ⟨ev, hev'⟩ : ∃ ev : Nat, d.ev = (ev : Int) := ⟨d.ev.toNat, by omega⟩
  refine ⟨ev, ?_⟩
  rw [h.st M hM] at h1
  obtain ⟨t, ht, hc⟩ := file_cut d.ev css css.length M n (by omega) h1 (by
    by_cases e : M = css.length
    · exact Or.inl e
    · have := h2 (M + 1) (by omega) (by omega)
      rw [h.st (M + 1) (by omega)] at this
      exact Or.inr this)
  rw [h.s, ht, hev']
  exact matchL_file ev css M t (by omega) (by omega) h.ok hc
theorem Hist.cut0 {w : World} {d : MD} {css : List (List Cmd)} (h : Hist d css) (o : d.Ok w) (n : Nat) (h0 : 0 < d.ys.length) (h1 : n < d.ys[0]) : matchL (d.s.take n) = none := by
  have hev := o.every
  obtain ⟨ev, hev'⟩ : ∃ ev : Nat, d.ev = (ev : Int) := ⟨d.ev.toNat, by omega⟩
  rw [h.st 0 h0, hev'] at h1
  rw [h.s, hev']
  exact matchL_short ev css css.length n h1
end Go.Proofs.YtlfmfhmbkpnjbaaGreatDoor
