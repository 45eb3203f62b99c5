import Derived.Test.YtlfmfhmbkpnjbabGreatDoorPy3
import Derived.Lib.Overlaps
namespace Go.Proofs.YtlfmfhmbkpnjbabGreatDoor
open Go.RowKit

def cmpI (x y : Int) : Int := if x < y then -1 else if y < x then 1 else 0

theorem isNaN_c (x : Int) (w : World) : Calls Tryz.prog 104 #[.int .i64 x] w fun e w' => e = .returned (.bool false) ∧ w' = w := by
  have h : (x != x) = false := by simp
  go_enter Tryz.func104, Tryz.ntmps104
  go_wp2
  go_ret
  exact ⟨rfl, rfl⟩

set_option maxHeartbeats 400000 in
theorem compare_c (x y : Int) (w : World) : Calls Tryz.prog 86 #[.int .i64 x, .int .i64 y] w fun e w' => e = .returned (.int .i64 (cmpI x y)) ∧ w' = w := by
  by_cases h1 : x < y
  · have H : Hid (cmpI x y = -1) := by show cmpI x y = -1; simp [cmpI, h1]
    go_enter Tryz.func86, Tryz.ntmps86
    go_wp2_with fail
    refine (isNaN_c _ _).mono ?_
    rintro e w' ⟨rfl, rfl⟩
    go_wp2_with fail
    refine (isNaN_c _ _).mono ?_
    rintro e w' ⟨rfl, rfl⟩
    go_wp2
    go_ret
    exact ⟨ret1 (by rw [H.out]; rfl), rfl⟩
  · by_cases h2 : y < x
    · have H : Hid (cmpI x y = 1) := by show cmpI x y = 1; simp [cmpI, h1, h2]
      go_enter Tryz.func86, Tryz.ntmps86
      go_wp2_with fail
      refine (isNaN_c _ _).mono ?_
      rintro e w' ⟨rfl, rfl⟩
      go_wp2_with fail
      refine (isNaN_c _ _).mono ?_
      rintro e w' ⟨rfl, rfl⟩
      go_wp2
      go_ret
      exact ⟨ret1 (by rw [H.out]; rfl), rfl⟩
    · have H : Hid (cmpI x y = 0) := by show cmpI x y = 0; simp [cmpI, h1, h2]
      go_enter Tryz.func86, Tryz.ntmps86
      go_wp2_with fail
      refine (isNaN_c _ _).mono ?_
      rintro e w' ⟨rfl, rfl⟩
      go_wp2_with fail
      refine (isNaN_c _ _).mono ?_
      rintro e w' ⟨rfl, rfl⟩
      go_wp2
      go_ret
      exact ⟨ret1 (by rw [H.out]; rfl), rfl⟩

set_option maxHeartbeats 400000 in
theorem byId_c (m : Mob) (id : Int) (w : World) : Calls Tryz.prog 85 #[.agg #[.int .i64 m.id, .int .i64 m.team, .float .f32 m.x, .float .f32 m.y, .float .f32 m.vx, .float .f32 m.vy, .int .i64 m.health], .int .i64 id] w fun e w' => e = .returned (.int .i64 (cmpI m.id id)) ∧ Kept (fun _ => False) w w' := by
  go_enter Tryz.func85, Tryz.ntmps85
  go_wp2_with fail
  refine (compare_c _ _ _).mono ?_
  rintro e w' ⟨rfl, rfl⟩
  go_wp2
  go_ret
  exact ⟨rfl, Kept.alloc w _⟩

/-- The IDs rise. -/
def Rises (L : List Mob) : Prop := ∀ i j (hi : i < L.length) (hj : j < L.length), i < j → L[i].id < L[j].id

theorem OkTo.rises {L : List Mob} (h : OkTo L L.length) : Rises L := by
  intro i j hi hj hij
  induction j with
  | zero => omega
  | succ k ih =>
    have h1 := (h (k + 1) hj hj).2 k (by omega) rfl
    by_cases e : i = k
    · subst e; exact h1
    · have := ih (by omega) (by omega); omega

/-- Where the entity of an ID stands, or would stand. -/
def findI : List Mob → Int → Nat
  | [], _ => 0
  | m :: r, id => if m.id < id then findI r id + 1 else 0

theorem findI_is (L : List Mob) (id : Int) (a : Nat) (ha : a ≤ L.length) (h1 : ∀ j (h : j < L.length), j < a → L[j].id < id) (h2 : ∀ (h : a < L.length), ¬ L[a].id < id) : findI L id = a := by
  induction L generalizing a with
  | nil => simp at ha; simp [findI, ha]
  | cons m r ih =>
    cases a with
    | zero => have := h2 (by simp); simp at this; simp [findI]; omega
    | succ k =>
      have h0 := h1 0 (by simp) (by omega)
      simp at h0
      simp only [findI, h0, if_true]
      rw [ih k (by simpa using ha) (fun j h hj => by have := h1 (j + 1) (by simpa using h) (by omega); simpa using this) (fun h => by have := h2 (by simpa using h); simpa using this)]

open Classical in
noncomputable def findB (L : List Mob) (id : Int) : Bool := decide (∃ h : findI L id < L.length, L[findI L id].id = id)
theorem findB_true {L : List Mob} {id : Int} (a : Nat) (ha : findI L id = a) (hl : a < L.length) (h : L[a].id = id) : findB L id = true := by
  subst ha; simp only [findB, decide_eq_true_eq]; exact ⟨hl, h⟩
theorem findB_ne {L : List Mob} {id : Int} (a : Nat) (ha : findI L id = a) (hl : a < L.length) (h : L[a].id ≠ id) : findB L id = false := by
  subst ha; simp only [findB, decide_eq_false_iff_not]; rintro ⟨_, e⟩; exact h e
theorem findB_out {L : List Mob} {id : Int} (h : L.length ≤ findI L id) : findB L id = false := by
  simp only [findB, decide_eq_false_iff_not]; rintro ⟨h', _⟩; omega

theorem cmp_lt {x y : Int} (h : x < y) : cmpI x y = -1 := by simp [cmpI, h]
theorem cmp_eq {x y : Int} (h : x = y) : cmpI x y = 0 := by simp [cmpI, h]
theorem cmp_gt {x y : Int} (h : y < x) : cmpI x y = 1 := by simp [cmpI, h, show ¬ x < y by omega]

set_option maxHeartbeats 2000000 in
set_option maxRecDepth 100000 in
theorem search_c (p : Option Addr) (cap : Nat) (id : Int) (L : List Mob) (w : World) (hl : (L.length : Int) ≤ 4611686018427387903) (hr : Rises L) (h : Reads w p L) :
    Calls Tryz.prog 84 #[.slice p L.length cap, .int .i64 id, .func (.func 85) #[] #[]] w fun e w' => e = .returned (.tuple #[.int .i64 (findI L id), .bool (findB L id)]) ∧ Kept (fun _ => False) w w' := by
  have HR := hide h
  have HS := hide hr
  clear h hr
  go_enter Tryz.func84, Tryz.ntmps84
  go_wp2
  go_loopw [9, 10] (fun a b wr => ∃ i j : Nat, i ≤ j ∧ j ≤ L.length ∧ a = .int .i64 i ∧ b = .int .i64 j ∧ Hid (∀ q (h : q < L.length), q < i → L[q].id < id) ∧ Hid (∀ (h : j < L.length), id ≤ L[j].id) ∧ Hid (Kept (fun _ => False) w wr)) (fun a b _ => (intOf b).toNat - (intOf a).toNat)
  case atStart => exact ⟨0, L.length, Nat.zero_le _, Nat.le_refl _, rfl, rfl, (fun _ _ h => absurd h (Nat.not_lt_zero _)), (fun h => absurd h (Nat.lt_irrefl _)), Kept.refl _ _⟩
  case round =>
    obtain ⟨i, j, hij, hjl, rfl, rfl, HI, HJ, HK⟩ := hrel
    by_cases hlt : i < j
    · obtain ⟨q, hq, hq1, hq2⟩ : ∃ q : Nat, ((i : Int) + (j : Int)) / 2 = (q : Int) ∧ i ≤ q ∧ q < j := ⟨(i + j) / 2, by omega, by omega, by omega⟩
      have hql : q < L.length := by omega
      obtain ⟨b, off, rfl, hb, c0, c1, c2, c3, c4, c5, c6⟩ := (HR.out.calm HK.out).at q hql
      have hb1 : (0 : Int) ≤ (q : Int) := by omega
      have hb2 : (q : Int) < (L.length : Int) := by omega
      by_cases hc : L[q].id < id
      · have hcm := cmp_lt hc
        have HI' : Hid (∀ k (h : k < L.length), k < q + 1 → L[k].id < id) := fun k h hk => by
          by_cases e : k = q
          · subst e; exact hc
          · have := HS.out k q h hql (by omega); omega
        clear hc
        go_wp2_with fail
        refine (byId_c L[q] id _).mono ?_
        rw [hcm]
        rintro e w1 ⟨rfl, q1⟩
        have HK1 := hide (HK.out.calm2 q1)
        clear q1 c0 c1 c2 c3 c4 c5 c6 hcm
        go_wp2
        go_roundw
        case rel => exact ⟨q + 1, j, by omega, by omega, by go_num, rfl, HI', HJ, HK1⟩
        case measure => simp [intOf]; omega
      · have hcm : (cmpI L[q].id id < 0) = False := by
          unfold cmpI
          rw [if_neg hc]
          split <;> simp
        have HJ' : Hid (∀ (h : q < L.length), id ≤ L[q].id) := fun _ => by omega
        clear hc
        have hcn : ¬ cmpI L[q].id id < 0 := by rw [hcm]; exact fun e => e
        generalize hgen : cmpI L[q].id id = cc at *
        have HG := hide hgen
        clear hgen hcm
        go_wp2_with fail
        refine (byId_c L[q] id _).mono ?_
        rw [HG.out]
        rintro e w1 ⟨rfl, q1⟩
        have HK1 := hide (HK.out.calm2 q1)
        clear q1 c0 c1 c2 c3 c4 c5 c6
        go_wp2
        go_roundw
        case rel => exact ⟨i, q, by omega, by omega, rfl, rfl, HI, HJ', HK1⟩
        case measure => simp [intOf]; omega
    · obtain rfl : i = j := by omega
      have HF : Hid (findI L id = i) := findI_is L id i hjl HI.out (fun h => by have := HJ.out h; omega)
      by_cases hil : i < L.length
      · obtain ⟨b, off, rfl, hb, c0, c1, c2, c3, c4, c5, c6⟩ := (HR.out.calm HK.out).at i hil
        have hb1 : (0 : Int) ≤ (i : Int) := by omega
        have hb2 : (i : Int) < (L.length : Int) := by omega
        by_cases he : L[i].id = id
        · have HB : Hid (findB L id = true) := findB_true i HF.out hil he
          have hcm := cmp_eq he
          clear he
          go_wp2_with fail
          refine (byId_c L[i] id _).mono ?_
          rw [hcm]
          rintro e w1 ⟨rfl, q1⟩
          have HK1 := hide (HK.out.calm2 q1)
          clear q1 c0 c1 c2 c3 c4 c5 c6 hcm
          go_wp2
          go_ret2
          exact ⟨ret2 (by rw [HF.out]; rfl) (by rw [HB.out]; rfl), HK1.out⟩
        · have HB : Hid (findB L id = false) := findB_ne i HF.out hil he
          have hcm := cmp_gt (show id < L[i].id by have := HJ.out hil; omega)
          clear he
          go_wp2_with fail
          refine (byId_c L[i] id _).mono ?_
          rw [hcm]
          rintro e w1 ⟨rfl, q1⟩
          have HK1 := hide (HK.out.calm2 q1)
          clear q1 c0 c1 c2 c3 c4 c5 c6 hcm
          go_wp2
          go_ret2
          exact ⟨ret2 (by rw [HF.out]; rfl) (by rw [HB.out]; rfl), HK1.out⟩
      · have HB : Hid (findB L id = false) := findB_out (by rw [HF.out]; omega)
        go_wp2
        go_ret2
        exact ⟨ret2 (by rw [HF.out]; rfl) (by rw [HB.out]; rfl), HK.out⟩

theorem find_c (p : Option Addr) (cap : Nat) (id : Int) (L : List Mob) (w : World) (hl : (L.length : Int) ≤ 4611686018427387903) (hr : Rises L) (h : Reads w p L) :
    Calls Tryz.prog 62 #[.slice p L.length cap, .int .i64 id] w fun e w' => e = .returned (.tuple #[.int .i64 (findI L id), .bool (findB L id)]) ∧ Kept (fun _ => False) w w' := by
  have HR := hide h
  have HS := hide hr
  clear h hr
  go_enter Tryz.func62, Tryz.ntmps62
  go_wp2_with fail
  refine (search_c p cap id L _ hl HS.out HR.out).mono ?_
  rintro e w1 ⟨rfl, q1⟩
  have HK1 := hide q1
  clear q1
  go_wp2
  go_ret2
  exact ⟨rfl, HK1.out⟩
end Go.Proofs.YtlfmfhmbkpnjbabGreatDoor

namespace Go.Proofs.YtlfmfhmbkpnjbabGreatDoor
open Go.RowKit

/-- The program's own row of entities: room for 32, at a block of its own. -/
structure EntAt (w : World) (g : Nat) (L : List Mob) (cur : List Value) : Prop where
  blk : w.heap[g]? = some (.cells cur.toArray 63 (0, 0))
  len : cur.length = 224
  row : cur.take (L.length * 7) = rowM L
  short : L.length ≤ 32

theorem EntAt.split {w : World} {g : Nat} {L : List Mob} {cur : List Value} (h : EntAt w g L cur) : cur = rowM L ++ cur.drop (L.length * 7) := by
  rw [← h.row, List.take_append_drop]

theorem EntAt.cellAt {w : World} {g : Nat} {L : List Mob} {cur : List Value} (h : EntAt w g L cur) (j : Nat) (u : Value) (hu : (rowM L)[j]? = some u) : w.cell? ⟨g, j, none⟩ = some u := by
  rw [cell_block h.blk]
  have hj := (List.getElem?_eq_some_iff.1 hu).1
  rw [h.split]
  simp [List.getElem?_append_left hj, hu]

theorem EntAt.reads {w : World} {g : Nat} {L : List Mob} {cur : List Value} (h : EntAt w g L cur) : Reads w (some ⟨g, 0, none⟩) L :=
  fun _ => ⟨g, 0, rfl, heap_lt h.blk, fun j u hu => by rw [Nat.zero_add]; exact h.cellAt j u hu⟩

theorem EntAt.at {w : World} {g : Nat} {L : List Mob} {cur : List Value} (h : EntAt w g L cur) (i : Nat) (hi : i < L.length) :
    w.cell? ⟨g, i * 7, none⟩ = some (.int .i64 L[i].id) ∧ w.cell? ⟨g, i * 7 + 1, none⟩ = some (.int .i64 L[i].team) ∧ w.cell? ⟨g, i * 7 + 2, none⟩ = some (.float .f32 L[i].x) ∧ w.cell? ⟨g, i * 7 + 3, none⟩ = some (.float .f32 L[i].y) ∧
    w.cell? ⟨g, i * 7 + 4, none⟩ = some (.float .f32 L[i].vx) ∧ w.cell? ⟨g, i * 7 + 5, none⟩ = some (.float .f32 L[i].vy) ∧ w.cell? ⟨g, i * 7 + 6, none⟩ = some (.int .i64 L[i].health) := by
  obtain ⟨r0, r1, r2, r3, r4, r5, r6⟩ := rowM_get L i hi
  exact ⟨h.cellAt _ _ r0, h.cellAt _ _ r1, h.cellAt _ _ r2, h.cellAt _ _ r3, h.cellAt _ _ r4, h.cellAt _ _ r5, h.cellAt _ _ r6⟩

theorem EntAt.warm {w : World} {g : Nat} {L : List Mob} {cur : List Value} (h : EntAt w g L cur) (j : Nat) : w.frozen? ⟨g, j, none⟩ = false := by simp [World.frozen?, h.blk]

theorem EntAt.keep {w w' : World} {S : Nat → Prop} {g : Nat} {L : List Mob} {cur : List Value} (h : EntAt w g L cur) (hk : Kept S w w') (hS : ¬ S g) : EntAt w' g L cur :=
  ⟨by rw [hk.block g (heap_lt h.blk) hS]; exact h.blk, h.len, h.row, h.short⟩
theorem EntAt.calm {w w' : World} {g : Nat} {L : List Mob} {cur : List Value} (h : EntAt w g L cur) (hk : Kept (fun _ => False) w w') : EntAt w' g L cur := h.keep hk (fun e => e)

/-- The cells' order in a row. -/
theorem rowM_set (L : List Mob) (i : Nat) (m : Mob) (h : i < L.length) : rowM (L.set i m) = (rowM L).take (i * 7) ++ (rowM [m] ++ (rowM L).drop (i * 7 + 7)) := by
  rw [rowM_take, show i * 7 + 7 = (i + 1) * 7 from by omega, rowM_drop, ← rowM_append, ← rowM_append]
  congr 1
  rw [List.set_eq_take_append_cons_drop]
  simp [h]

theorem set_split {α : Type} (X : List α) (a k : Nat) (u : α) (h : a + k < X.length) : X.set (a + k) u = X.take a ++ ((X.drop a).set k u) := by
  conv => lhs; rw [← List.take_append_drop a X]
  rw [List.set_append_right _ _ (by simp; omega)]
  congr 1
  congr 1
  simp; omega

theorem rowM_drop7 (L : List Mob) (i : Nat) (h : i < L.length) : (rowM L).drop (i * 7) = rowM [L[i]] ++ (rowM L).drop (i * 7 + 7) := by
  rw [rowM_drop, show i * 7 + 7 = (i + 1) * 7 from by omega, rowM_drop, ← rowM_append]
  congr 1
  rw [List.drop_eq_getElem_cons h]
  rfl

theorem setx (L : List Mob) (i : Nat) (h : i < L.length) (v : Nat) : (rowM L).set (i * 7 + 2) (.float .f32 v) = rowM (L.set i { L[i] with x := v }) := by
  rw [set_split _ _ _ _ (by rw [rowM_length]; omega), rowM_drop7 L i h, rowM_set L i _ h]; rfl
theorem sety (L : List Mob) (i : Nat) (h : i < L.length) (v : Nat) : (rowM L).set (i * 7 + 3) (.float .f32 v) = rowM (L.set i { L[i] with y := v }) := by
  rw [set_split _ _ _ _ (by rw [rowM_length]; omega), rowM_drop7 L i h, rowM_set L i _ h]; rfl
theorem setvx (L : List Mob) (i : Nat) (h : i < L.length) (v : Nat) : (rowM L).set (i * 7 + 4) (.float .f32 v) = rowM (L.set i { L[i] with vx := v }) := by
  rw [set_split _ _ _ _ (by rw [rowM_length]; omega), rowM_drop7 L i h, rowM_set L i _ h]; rfl
theorem setvy (L : List Mob) (i : Nat) (h : i < L.length) (v : Nat) : (rowM L).set (i * 7 + 5) (.float .f32 v) = rowM (L.set i { L[i] with vy := v }) := by
  rw [set_split _ _ _ _ (by rw [rowM_length]; omega), rowM_drop7 L i h, rowM_set L i _ h]; rfl
theorem sethealth (L : List Mob) (i : Nat) (h : i < L.length) (v : Int) : (rowM L).set (i * 7 + 6) (.int .i64 v) = rowM (L.set i { L[i] with health := v }) := by
  rw [set_split _ _ _ _ (by rw [rowM_length]; omega), rowM_drop7 L i h, rowM_set L i _ h]; rfl

/-- One cell is written. -/
theorem EntAt.store {w : World} {g : Nat} {L L' : List Mob} {cur : List Value} (h : EntAt w g L cur) (j : Nat) (u : Value) (hl : L'.length = L.length) (hr : (rowM L).set j u = rowM L') :
    EntAt (w.setCell ⟨g, j, none⟩ u) g L' (cur.set j u) := by
  refine ⟨?_, by simpa using h.len, ?_, by rw [hl]; exact h.short⟩
  · rw [setCell_eq_setRow w g j _ 63 (0, 0) u h.blk]
    have := setRow_heap w g cur.toArray (cur.toArray.setIfInBounds j u) 63 (0, 0) h.blk
    simpa using this
  · rw [hl, ← hr, ← h.row, List.take_set]

/-- append within the room, as one step of a region that draws its order, and else. -/
theorem run_append_here {P : Program} (w : World) (t ty e : TypeId) (i : TypeInfo) (size : Nat) (ht : P.underlying t = some (.slice e)) (hi : P.info? e = some i) (hsz : i.size = size)
    (g n cap : Nat) (cur : List Value) (hg : w.heap[g]? = some (.cells cur.toArray e (0, 0))) (ad : Addr) (m c : Nat) (news : List Value) (hl : news.length = m * size)
    (hnews : ∀ j u, news[j]? = some u → w.cell? (ad.add j) = some u) (h1 : ∀ u ∈ news, u.oneCell' = true) (hroom : n + m ≤ cap) (hfit : n * size + news.length ≤ cur.length) :
    (Builtin.append_ #[t, t] ty #[.slice (some ⟨g, 0, none⟩) n cap, .slice (some ad) m c]).run P w = .ok (.slice (some ⟨g, 0, none⟩) (n + m) cap) (w.setRow g (splice cur (n * size) news).toArray) := by
  subst hsz
  have := run_append_room w (P := P) t ty e i ht hi g n cap cur.toArray hg ad m c news hl hnews h1 hroom (by simpa using hfit)
  simpa [splice] using this

theorem step_append_here {P : Program} {ops : Array Oper} {o : Oper} {a : Act} {w : World} {K : Act → World → Prop} {Q : Exit → Act → World → Prop} {E : Prop} (hgd : o.guard = none) (s x : Operand) (t : TypeId)
    (ho : o.op = .call { callee := .builtin .append, args := #[s, x], argTypes := #[t, t] }) (e : TypeId) (i : TypeInfo) (size : Nat) (ht : P.underlying t = some (.slice e)) (hi : P.info? e = some i) (hsz : i.size = size)
    (g n cap : Nat) (cur : List Value) (hg : w.heap[g]? = some (.cells cur.toArray e (0, 0))) (hs : a.eval s = .slice (some ⟨g, 0, none⟩) n cap) (ad : Addr) (m c : Nat) (hx : a.eval x = .slice (some ad) m c) (news : List Value) (hl : news.length = m * size)
    (hnews : ∀ j u, news[j]? = some u → w.cell? (ad.add j) = some u) (h1 : ∀ u ∈ news, u.oneCell' = true) (hroom : n + m ≤ cap) (hfit : n * size + news.length ≤ cur.length)
    (h : ∀ w', Hid (w'.heap[g]? = some (.cells (splice cur (n * size) news).toArray e (0, 0))) → Hid (Kept (fun k => k = g) w w') → K (a.put o.dst (.slice (some ⟨g, 0, none⟩) (n + m) cap)) w') :
    if Region.wanted o (yielded ops a.tmps) = true then Oper.wp P o a w K Q else E := by
  have hw : Region.wanted o (yielded ops a.tmps) = true := by simp [Region.wanted, hgd]
  rw [if_pos hw]
  have hrun := run_append_here (P := P) w t o.type e i size ht hi hsz g n cap cur hg ad m c news hl hnews h1 hroom hfit
  unfold Oper.wp
  simp [execOp, ho, resolve, invoke, builtin, hs, hx, hrun, Result.andThen]
  exact h _ (show _ = _ from setRow_heap w g _ _ e _ hg) (Kept.setRow w g _)

theorem wpList_append_here {P : Program} (w : World) {ops : Array Oper} {rest : List Oper} {o : Oper} {a : Act} {Q : Exit → Act → World → Prop} (hgd : o.guard = none) (s x : Operand) (t : TypeId)
    (ho : o.op = .call { callee := .builtin .append, args := #[s, x], argTypes := #[t, t] }) (e : TypeId) (i : TypeInfo) (size : Nat) (ht : P.underlying t = some (.slice e)) (hi : P.info? e = some i) (hsz : i.size = size)
    (g n cap : Nat) (cur : List Value) (hg : w.heap[g]? = some (.cells cur.toArray e (0, 0))) (hs : a.eval s = .slice (some ⟨g, 0, none⟩) n cap) (ad : Addr) (m c : Nat) (hx : a.eval x = .slice (some ad) m c) (news : List Value) (hl : news.length = m * size)
    (hnews : ∀ j u, news[j]? = some u → w.cell? (ad.add j) = some u) (h1 : ∀ u ∈ news, u.oneCell' = true) (hroom : n + m ≤ cap) (hfit : n * size + news.length ≤ cur.length)
    (h : ∀ w', Hid (w'.heap[g]? = some (.cells (splice cur (n * size) news).toArray e (0, 0))) → Hid (Kept (fun k => k = g) w w') → wpList P ops Q rest (a.put o.dst (.slice (some ⟨g, 0, none⟩) (n + m) cap)) w') :
    wpList P ops Q (o :: rest) a w := by
  refine wpList_plain hgd fun K hK => ?_
  have hrun := run_append_here (P := P) w t o.type e i size ht hi hsz g n cap cur hg ad m c news hl hnews h1 hroom hfit
  unfold Oper.wp
  simp [execOp, ho, resolve, invoke, builtin, hs, hx, hrun, Result.andThen]
  exact hK _ _ (h _ (show _ = _ from setRow_heap w g _ _ e _ hg) (Kept.setRow w g _))

/-- copy into a block of one's own. -/
theorem wpList_copy_here {P : Program} (w : World) {ops : Array Oper} {rest : List Oper} {o : Oper} {a : Act} {Q : Exit → Act → World → Prop} (hgd : o.guard = none) (d s : Operand) (dT sT : TypeId)
    (ho : o.op = .call { callee := .builtin .copy, args := #[d, s], argTypes := #[dT, sT] }) (elem : TypeId) (size : Nat) (hu : P.underlying dT = some (.slice elem)) (hsz : (P.info? elem).map (·.size) = some size)
    (g off dLen dCap : Nat) (ad : Addr) (sLen sCap : Nat) (hd : a.eval d = .slice (some ⟨g, off, none⟩) dLen dCap) (hs : a.eval s = .slice (some ad) sLen sCap)
    (cur : List Value) (t : TypeId) (hg : w.heap[g]? = some (.cells cur.toArray t (0, 0))) (n : Nat) (hn : Nat.min sLen dLen = n) (cs : List Value) (hcs : cs.length = n * size)
    (hsrc : ∀ j v, cs[j]? = some v → w.cell? (ad.add j) = some v) (hfit : off + cs.length ≤ cur.length) (h1 : ∀ v ∈ cs, v.oneCell' = true)
    (h : ∀ w', Hid (w'.heap[g]? = some (.cells (splice cur off cs).toArray t (0, 0))) → Hid (Kept (fun k => k = g) w w') → wpList P ops Q rest (a.put o.dst (goInt n)) w') :
    wpList P ops Q (o :: rest) a w := by
  refine wpList_plain hgd fun K hK => ?_
  have hrun := run_copy_size (P := P) w dT sT o.type elem size g off dLen dCap ad sLen sCap cur.toArray t n cs hu hsz hg hn hcs hsrc (by simpa using hfit) h1
  unfold Oper.wp
  simp [execOp, ho, resolve, invoke, builtin, hd, hs, hrun, Result.andThen]
  exact hK _ _ (h _ (show _ = _ by simpa [splice] using setRow_heap w g _ _ t _ hg) (Kept.setRow w g _))

theorem zeroCells_len (z : Array Value) (n : Nat) : (Builtin.zeroCells z n).toList.length = n * z.size := by
  simp [Builtin.zeroCells]
theorem zeroCells_one (z : Array Value) (n : Nat) (h : ∀ j (_ : j < z.size), z[j]!.oneCell' = true) (hz : 0 < z.size) : ∀ v ∈ (Builtin.zeroCells z n).toList, v.oneCell' = true := by
  intro v hv
  simp only [Builtin.zeroCells, Array.toList_map, List.mem_map] at hv
  obtain ⟨j, _, rfl⟩ := hv
  exact h _ (Nat.mod_lt _ hz)

/-- clear of a piece of a block of one's own: what stands ahead of it is as it was. -/
theorem wpList_clear_here {P : Program} (w : World) {ops : Array Oper} {rest : List Oper} {o : Oper} {a : Act} {Q : Exit → Act → World → Prop} (hgd : o.guard = none) (s : Operand) (t : TypeId)
    (ho : o.op = .call { callee := .builtin .clear, args := #[s], argTypes := #[t] }) (e : TypeId) (i : TypeInfo) (z : Value) (ht : P.underlying t = some (.slice e)) (hi : P.info? e = some i) (hz : i.zero = some z)
    (hz1 : ∀ j (_ : j < z.cells.size), z.cells[j]!.oneCell' = true) (hz0 : 0 < z.cells.size)
    (g off n c : Nat) (hs : a.eval s = .slice (some ⟨g, off, none⟩) n c) (cur : List Value) (te : TypeId) (hg : w.heap[g]? = some (.cells cur.toArray te (0, 0))) (hfit : off + n * z.cells.size ≤ cur.length)
    (h : ∀ (w' : World) (cur' : List Value), Hid (w'.heap[g]? = some (.cells cur'.toArray te (0, 0))) → Hid (cur'.length = cur.length ∧ cur'.take off = cur.take off) → Hid (Kept (fun k => k = g) w w') → wpList P ops Q rest (a.put o.dst (.tuple #[])) w') :
    wpList P ops Q (o :: rest) a w := by
  refine wpList_plain hgd fun K hK => ?_
  cases n with
  | zero =>
    have hrun : (Builtin.clear_ #[t] o.type #[.slice (some ⟨g, off, none⟩) 0 c]).run P w = .ok (.tuple #[]) w := by simp [Builtin.clear_, run_underlying ht]
    unfold Oper.wp
    simp [execOp, ho, resolve, invoke, builtin, hs, hrun, Result.andThen]
    exact hK _ _ (h w cur hg ⟨rfl, rfl⟩ (Kept.refl _ _))
  | succ m =>
    have hzv : ∀ w, (zeroValue e).run P w = .ok z w := fun w => by simp [zeroValue, typeInfo, hi, hz]
    have hst := run_storeCells_at P g off te (Builtin.zeroCells z.cells (m + 1)).toList 0 cur.toArray w hg (by rw [zeroCells_len]; simpa using hfit) (zeroCells_one z.cells (m + 1) hz1 hz0)
    have hrun : (Builtin.clear_ #[t] o.type #[.slice (some ⟨g, off, none⟩) (m + 1) c]).run P w = .ok (.tuple #[]) (w.setRow g (splice cur off (Builtin.zeroCells z.cells (m + 1)).toList).toArray) := by
      have hst' : (storeCells ⟨g, off, none⟩ (Builtin.zeroCells z.cells (m + 1)).toList).run P w = .ok () (w.setRow g (splice cur off (Builtin.zeroCells z.cells (m + 1)).toList).toArray) := by simpa [splice] using hst
      simp [Builtin.clear_, run_underlying ht, hzv, hst']
    unfold Oper.wp
    simp [execOp, ho, resolve, invoke, builtin, hs, hrun, Result.andThen]
    refine hK _ _ (h _ _ (show _ = _ from setRow_heap w g _ _ te _ hg) ⟨?_, ?_⟩ (Kept.setRow w g _))
    · unfold splice
      have := zeroCells_len z.cells (m + 1)
      simp only [List.length_append, List.length_take, List.length_drop, this]
      omega
    · unfold splice
      rw [List.take_append_of_le_length (by rw [List.length_take]; omega), List.take_take, Nat.min_self]

theorem info_mob : (Tryz.prog.info? 63).map (fun i => (i.zero, i.size, i.bytes)) = some (some (.agg #[.int .i64 0, .int .i64 0, .float .f32 0, .float .f32 0, .float .f32 0, .float .f32 0, .int .i64 0]), 7, 40) := by kernel_rfl
theorem size_mob : (Tryz.prog.info? 63).map (·.size) = some 7 := by kernel_rfl

/-- The model's own entry for slices.overlaps, at two blocks. -/
theorem overlaps_run (w : World) (v g o k lb cb : Nat) (cv cg : List Value) (hv : w.heap[v]? = some (.cells cv.toArray 63 (0, 0))) (hg : w.heap[g]? = some (.cells cg.toArray 63 (0, 0))) (hne : v ≠ g) (hcg : cg.length ≠ 0) (kc : Nat) :
    (callFunc 87 #[.slice (some ⟨v, 0, none⟩) k kc, .slice (some ⟨g, o, none⟩) lb cb]).run Tryz.prog w = .ok (.value (.bool false)) w := by
  rw [run_callFunc_extern Tryz.func87 (by kernel_rfl) (by kernel_rfl) (by kernel_rfl) (e := Extern.SlicesOverlaps.overlaps #[32, 32] #[4]) (by kernel_rfl),
    Lib.run_overlaps_apart w 32 4 63 Tryz.underlying32 7 (fun w => by
      obtain ⟨i0, hi, _, hz1, _⟩ := info_parts info_mob
      simp [sizeOf, typeInfo, hi, hz1]) ⟨v, 0, none⟩ ⟨g, o, none⟩ k kc lb cb hne 63 63 cv.length cg.length (by simp [World.shape?, hv]) (by simp [World.shape?, hg]) hcg (by simp [World.frozen?, hv]) (by simp [World.frozen?, hv])]
  rfl

end Go.Proofs.YtlfmfhmbkpnjbabGreatDoor

namespace Go.Proofs.YtlfmfhmbkpnjbabGreatDoor
open Go.RowKit

theorem addr_add2 (g o j : Nat) : (⟨g, o, none⟩ : Addr).add j = ⟨g, o + j, none⟩ := by unfold Addr.add; split <;> simp_all

theorem ins_row (L : List Mob) (cur : List Value) (i : Nat) (m : Mob) (hi : i ≤ L.length) (hc : cur.length = 224) (hs : L.length < 32) (hr : cur.take (L.length * 7) = rowM L) :
    splice (splice cur ((i + 1) * 7) (rowM (L.drop i))) (i * 7) (rowM [m]) = rowM (L.take i ++ m :: L.drop i) ++ cur.drop ((L.length + 1) * 7) := by
  have hd : (rowM (L.drop i)).length = (L.length - i) * 7 := by rw [rowM_length, List.length_drop]
  have h7 : (rowM [m]).length = 7 := rfl
  have e1 : (i + 1) * 7 + (rowM (L.drop i)).length = (L.length + 1) * 7 := by rw [hd]; omega
  have e2 : cur.take (i * 7) = rowM (L.take i) := by
    rw [← rowM_take, ← hr, List.take_take]; congr 1; omega
  have e3 : splice cur ((i + 1) * 7) (rowM (L.drop i)) = cur.take ((i + 1) * 7) ++ (rowM (L.drop i) ++ cur.drop ((L.length + 1) * 7)) := by unfold splice; rw [e1]
  rw [e3]
  unfold splice
  rw [h7, List.take_append_of_le_length (by rw [List.length_take]; omega), List.take_take, show min (i * 7) ((i + 1) * 7) = i * 7 from by omega, e2]
  rw [show i * 7 + 7 = (cur.take ((i + 1) * 7)).length from by rw [List.length_take]; omega, List.drop_left]
  rw [show L.take i ++ m :: L.drop i = L.take i ++ ([m] ++ L.drop i) from rfl, rowM_append, rowM_append]
  simp

theorem insert_mem {w2 : World} {g : Nat} {L : List Mob} {cur : List Value} {i : Nat} {m : Mob} (hi : i ≤ L.length) (hs : L.length < 32) (hc : cur.length = 224) (hr : cur.take (L.length * 7) = rowM L)
    (h2 : w2.heap[g]? = some (.cells (splice (splice cur ((i + 1) * 7) (rowM (L.drop i))) (i * 7) (rowM [m])).toArray 63 (0, 0))) : ∃ cur', EntAt w2 g (L.take i ++ m :: L.drop i) cur' := by
  rw [ins_row L cur i m hi hc hs hr] at h2
  have hl : (L.take i ++ m :: L.drop i).length = L.length + 1 := by simp; omega
  refine ⟨_, h2, ?_, ?_, by rw [hl]; omega⟩
  · rw [List.length_append, rowM_length, hl, List.length_drop, hc]; omega
  · rw [← rowM_length, List.take_left]

set_option maxHeartbeats 1000000 in
set_option maxRecDepth 100000 in
theorem insert_end (g v : Nat) (m : Mob) (L : List Mob) (cur : List Value) (w : World) (hs : L.length < 32) (h : EntAt w g L cur) (hv : w.heap[v]? = some (.cells (rowM [m]).toArray 63 (0, 0))) :
    Calls Tryz.prog 63 #[.slice (some ⟨g, 0, none⟩) L.length 32, .int .i64 L.length, .slice (some ⟨v, 0, none⟩) 1 1] w fun e w' =>
      e = .returned (.slice (some ⟨g, 0, none⟩) (L.length + 1) 32) ∧ (∃ cur', EntAt w' g (L ++ [m]) cur') ∧ Kept (fun k => k = g) w w' := by
  obtain ⟨i0, hi, hz0, hz1, hz2⟩ := info_parts info_mob
  have H := hide h
  have HV := hide hv
  clear h hv
  have hbe : ((L.length : Int) == (L.length : Int)) = true := by simp
  go_enter Tryz.func63, Tryz.ntmps63
  go_wp2_with (at_builtin; refine wpList_append_here _ rfl (.tmp 23) (.tmp 24) 32 rfl 63 i0 7 Tryz.underlying32 hi hz1 g L.length 32 cur H.out.blk rfl ⟨v, 0, none⟩ 1 1 rfl (rowM [m]) rfl ?c1 (rowM_one [m]) ?c2 ?c3 ?_)
  case c1 => intro j u hu; rw [addr_add, cell_block HV.out]; simpa using hu
  case c2 => omega
  case c3 => rw [H.out.len]; have : (rowM [m]).length = 7 := rfl; omega
  intro w1 HG HK
  go_wp2
  go_ret
  refine ⟨rfl, ⟨splice cur (L.length * 7) (rowM [m]), HG.out, ?_, ?_, by simp; omega⟩, HK.out⟩
  · have : (rowM [m]).length = 7 := rfl
    rw [length_splice _ _ _ (by rw [H.out.len, this]; omega), H.out.len]
  · unfold splice
    rw [H.out.row, rowM_append, ← List.append_assoc, show (L ++ [m]).length * 7 = (rowM L ++ rowM [m]).length from by rw [← rowM_append, rowM_length], List.take_left]

set_option maxHeartbeats 2000000 in
set_option maxRecDepth 100000 in
theorem insert_mid (g v i : Nat) (m : Mob) (L : List Mob) (cur : List Value) (w : World) (hs : L.length < 32) (hil : i < L.length) (hne : v ≠ g) (h : EntAt w g L cur) (hv : w.heap[v]? = some (.cells (rowM [m]).toArray 63 (0, 0))) :
    Calls Tryz.prog 63 #[.slice (some ⟨g, 0, none⟩) L.length 32, .int .i64 i, .slice (some ⟨v, 0, none⟩) 1 1] w fun e w' =>
      e = .returned (.slice (some ⟨g, 0, none⟩) (L.length + 1) 32) ∧ (∃ cur', EntAt w' g (L.take i ++ m :: L.drop i) cur') ∧ Kept (fun k => k = g) w w' := by
  have hov := fun o lb cb => overlaps_run w v g o 1 lb cb _ _ hv h.blk hne (by rw [h.len]; decide) 1
  have S1 : Hid (w.drew.heap[g]? = some (.cells cur.toArray 63 (0, 0))) := h.blk
  have S2 : Hid (∀ j u, (rowM (L.drop i))[j]? = some u → w.drew.cell? ((⟨g, i * 7, none⟩ : Addr).add j) = some u) := fun j u hu => by
    rw [addr_add2]
    exact h.cellAt (i * 7 + j) u (by rw [← List.getElem?_drop, rowM_drop]; exact hu)
  have S3 : Hid ((rowM (L.drop i)).length = (L.length - i) * 7) := by show _ = _; rw [rowM_length, List.length_drop]
  have S4 : Hid ((i + 1) * 7 + (rowM (L.drop i)).length ≤ cur.length) := by show _ ≤ _; rw [S3.out, h.len]; omega
  have S5 : Hid (∀ u ∈ rowM (L.drop i), u.oneCell' = true) := rowM_one _
  have S6 : Hid (Nat.min (L.length + 1 - i) (L.length + 1 - (i + 1)) = L.length - i) := by show min _ _ = _; omega
  have S7 : Hid ((splice cur ((i + 1) * 7) (rowM (L.drop i))).length = 224) := by show _ = _; rw [length_splice _ _ _ S4.out, h.len]
  have H := hide h
  have HV := hide hv
  have HN := hide hne
  clear h hv hne
  have hbe : ((i : Int) == (L.length : Int)) = false := by simp; omega
  have a1 : IntKind.i64.wrap ((i : Int) + 1) = (i : Int) + 1 := wrap_id _ (by omega)
  have a2 : (0 : Int) ≤ (i : Int) + 1 := by omega
  have a3 : (i : Int) + 1 ≤ (L.length : Int) + 1 := by omega
  have a4 : ((i : Int) + 1).toNat = i + 1 := by omega
  have a5 : (i : Int) ≤ (L.length : Int) + 1 := by omega
  have a6 : ¬ (32 : Nat) = i := by omega
  have a8 : ¬ i = 31 := by omega
  have a7 : ¬ (32 : Nat) - i = 0 := by omega
  go_enter Tryz.func63, Tryz.ntmps63
  go_wp2
  clear hov
  go_region_law (refine step_copy_mine rfl (.tmp 73) (.tmp 76) 32 32 rfl 63 7 Tryz.underlying32 size_mob (some ⟨g, (i + 1) * 7, none⟩) (some ⟨g, i * 7, none⟩) (L.length + 1 - (i + 1)) (32 - (i + 1)) (L.length + 1 - i) (32 - i) (by simp [Act.eval, Act.put]) (by simp [Act.eval, Act.put]) g ((i + 1) * 7) cur 63 S1.out (L.length - i) S6.out (rowM (L.drop i)) S3.out (fun _ => ⟨rfl, _, rfl, S2.out⟩) S4.out S5.out ?_; intro w1 HG1 HK1)
  have HV1 : Hid (w1.heap[v]? = some (.cells (rowM [m]).toArray 63 (0, 0))) := by
    show _ = _
    rw [HK1.out.block v (heap_lt HV.out) HN.out]; exact HV.out
  have S8 : Hid (∀ j u, (rowM [m])[j]? = some u → w1.cell? ((⟨v, 0, none⟩ : Addr).add j) = some u) := fun j u hu => by rw [addr_add, cell_block HV1.out]; simpa using hu
  have S9 : Hid (i * 7 + (rowM [m]).length ≤ (splice cur ((i + 1) * 7) (rowM (L.drop i))).length) := by show _ ≤ _; rw [S7.out]; have : (rowM [m]).length = 7 := rfl; omega
  have S10 : Hid (Nat.min 1 (L.length + 1 - i) = 1) := by show min _ _ = _; omega
  go_wp2_with (refine wpList_copy_here _ rfl (.tmp 80) (.tmp 81) 32 32 rfl 63 7 Tryz.underlying32 size_mob g (i * 7) (L.length + 1 - i) (32 - i) ⟨v, 0, none⟩ 1 1 (by simp [Act.eval]) (by simp [Act.eval]) (splice cur ((i + 1) * 7) (rowM (L.drop i))) 63 HG1.out 1 S10.out (rowM [m]) rfl S8.out S9.out (rowM_one [m]) ?_)
  intro w2 HG2 HK2
  go_wp2
  go_ret
  exact ⟨rfl, insert_mem (by omega) hs H.out.len H.out.row HG2.out, ((Kept.drew w).join HK1.out (R := fun k => k = g) (fun _ _ e => e.elim) (fun _ _ e => e)).join HK2.out (fun _ _ e => e) (fun _ _ e => e)⟩

/-- slices.Insert of one entity. -/
theorem insert_c (g v i : Nat) (m : Mob) (L : List Mob) (cur : List Value) (w : World) (hs : L.length < 32) (hil : i ≤ L.length) (hne : v ≠ g) (h : EntAt w g L cur) (hv : w.heap[v]? = some (.cells (rowM [m]).toArray 63 (0, 0))) :
    Calls Tryz.prog 63 #[.slice (some ⟨g, 0, none⟩) L.length 32, .int .i64 i, .slice (some ⟨v, 0, none⟩) 1 1] w fun e w' =>
      e = .returned (.slice (some ⟨g, 0, none⟩) (L.length + 1) 32) ∧ (∃ cur', EntAt w' g (L.take i ++ m :: L.drop i) cur') ∧ Kept (fun k => k = g) w w' := by
  by_cases e : i = L.length
  · subst e
    rw [List.take_length, List.drop_length]
    exact insert_end g v m L cur w hs h hv
  · exact insert_mid g v i m L cur w hs (by omega) hne h hv
end Go.Proofs.YtlfmfhmbkpnjbabGreatDoor
