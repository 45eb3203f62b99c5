import Derived.Test.YtlfmfhmbkpnjbabGreatDoorPy2
namespace Go.Proofs.YtlfmfhmbkpnjbabGreatDoor
open Go.RowKit

/-- A list of entities that is read. -/
def Reads (w : World) (p : Option Addr) (L : List Mob) : Prop :=
  L ≠ [] → ∃ b off, p = some ⟨b, off, none⟩ ∧ b < w.heap.size ∧ ∀ j u, (rowM L)[j]? = some u → w.cell? ⟨b, off + j, none⟩ = some u

theorem cell_keep {w w' : World} {S : Nat → Prop} (hk : Kept S w w') {b o : Nat} (hb : b < w.heap.size) (hS : ¬ S b) : w'.cell? ⟨b, o, none⟩ = w.cell? ⟨b, o, none⟩ := by
  unfold World.cell?; rw [hk.block b hb hS]

theorem Reads.keep {w w' : World} {S : Nat → Prop} {p : Option Addr} {L : List Mob} (h : Reads w p L) (hk : Kept S w w') (hS : ∀ b off, p = some ⟨b, off, none⟩ → ¬ S b) : Reads w' p L := by
  intro hne
  obtain ⟨b, off, hp, hb, hc⟩ := h hne
  refine ⟨b, off, hp, Nat.lt_of_lt_of_le hb hk.size, fun j u hu => ?_⟩
  rw [cell_keep hk hb (hS b off hp)]; exact hc j u hu

theorem Reads.calm {w w' : World} {p : Option Addr} {L : List Mob} (h : Reads w p L) (hk : Kept (fun _ => False) w w') : Reads w' p L := h.keep hk (fun _ _ _ e => e)

theorem Reads.at {w : World} {p : Option Addr} {L : List Mob} (h : Reads w p L) (i : Nat) (hi : i < L.length) : ∃ b off, p = some ⟨b, off, none⟩ ∧ b < w.heap.size ∧
    w.cell? ⟨b, off + i * 7, none⟩ = some (.int .i64 L[i].id) ∧ w.cell? ⟨b, off + i * 7 + 1, none⟩ = some (.int .i64 L[i].team) ∧ w.cell? ⟨b, off + i * 7 + 2, none⟩ = some (.float .f32 L[i].x) ∧ w.cell? ⟨b, off + i * 7 + 3, none⟩ = some (.float .f32 L[i].y) ∧
    w.cell? ⟨b, off + i * 7 + 4, none⟩ = some (.float .f32 L[i].vx) ∧ w.cell? ⟨b, off + i * 7 + 5, none⟩ = some (.float .f32 L[i].vy) ∧ w.cell? ⟨b, off + i * 7 + 6, none⟩ = some (.int .i64 L[i].health) := by
  obtain ⟨b, off, hp, hb, hc⟩ := h (by intro e; simp [e] at hi)
  obtain ⟨r0, r1, r2, r3, r4, r5, r6⟩ := rowM_get L i hi
  exact ⟨b, off, hp, hb, hc _ _ r0, hc _ _ r1, hc _ _ r2, hc _ _ r3, hc _ _ r4, hc _ _ r5, hc _ _ r6⟩

/-- The first entities of a list are as they must be. -/
def OkTo (L : List Mob) (n : Nat) : Prop := ∀ j (h : j < L.length), j < n → mobB L[j] = true ∧ ∀ k (_ : k < L.length), k + 1 = j → L[k].id < L[j].id
open Classical in
noncomputable def worldB (t : Int) (L : List Mob) : Bool := decide (0 ≤ t ∧ t ≤ 500 ∧ OkTo L L.length)

theorem OkTo.succ {L : List Mob} {i : Nat} (h : OkTo L i) (hi : i < L.length) (h1 : mobB L[i] = true) (h2 : ∀ k (_ : k < L.length), k + 1 = i → L[k].id < L[i].id) : OkTo L (i + 1) := by
  intro j hj hlt
  by_cases e : j = i
  · subst e; exact ⟨h1, h2⟩
  · exact h j hj (by omega)

theorem worldB_tick (t : Int) (L : List Mob) (h : ¬ (0 ≤ t ∧ t ≤ 500)) : worldB t L = false := by
  simp only [worldB, decide_eq_false_iff_not]; exact fun q => h ⟨q.1, q.2.1⟩
theorem worldB_mob (t : Int) (L : List Mob) (i : Nat) (hi : i < L.length) (h : mobB L[i] = false) : worldB t L = false := by
  simp only [worldB, decide_eq_false_iff_not]; intro q; have := (q.2.2 i hi hi).1; rw [h] at this; cases this
theorem worldB_rise (t : Int) (L : List Mob) (i : Nat) (hi : i + 1 < L.length) (h : ¬ L[i].id < L[i+1].id) : worldB t L = false := by
  simp only [worldB, decide_eq_false_iff_not]; intro q; exact h ((q.2.2 (i+1) hi hi).2 i (by omega) rfl)
theorem worldB_true (t : Int) (L : List Mob) (h : 0 ≤ t ∧ t ≤ 500) (hk : OkTo L L.length) : worldB t L = true := by
  simp only [worldB, decide_eq_true_eq]; exact ⟨h.1, h.2, hk⟩

/-- The law's row for a float that is stored. -/
theorem store_float (P : Program) (a : Addr) (x : Nat) (w : World) : (store a (.float .f32 x)).run P w = stored P w a (.float .f32 x) .plain := run_store P w a _ .plain rfl

theorem seven_cells {w : World} {c : Nat} {a b d e f g k : Value} {T : TypeId} (h : w.heap[c]? = some (.cells #[a, b, d, e, f, g, k] T (0, 0))) : w.cell? ⟨c, 0, none⟩ = some a ∧ w.cell? ⟨c, 1, none⟩ = some b ∧ w.cell? ⟨c, 2, none⟩ = some d ∧ w.cell? ⟨c, 3, none⟩ = some e ∧ w.cell? ⟨c, 4, none⟩ = some f ∧ w.cell? ⟨c, 5, none⟩ = some g ∧ w.cell? ⟨c, 6, none⟩ = some k := by
  refine ⟨?_, ?_, ?_, ?_, ?_, ?_, ?_⟩ <;> rw [cell_block h] <;> rfl

theorem Kept.calm2 {a b c : World} (h : Kept (fun _ => False) a b) (k : Kept (fun _ => False) b c) : Kept (fun _ => False) a c := h.join k (fun _ _ e => e) (fun _ _ e => e)

set_option maxHeartbeats 2000000 in
set_option maxRecDepth 100000 in
theorem isWorld_c (t : Int) (p : Option Addr) (cap : Nat) (L : List Mob) (w : World) (hl : (L.length : Int) ≤ 9223372036854775806) (h : Reads w p L) :
    Calls Tryz.prog 33 #[.agg #[.int .i64 t, .slice p L.length cap]] w fun e w' => e = .returned (.bool (worldB t L)) ∧ Kept (fun _ => False) w w' := by
  by_cases h0 : t < 0
  · have H : Hid (worldB t L = false) := worldB_tick t L (by omega)
    go_enter Tryz.func33, Tryz.ntmps33
    go_wp2
    go_ret
    exact ⟨ret1 (by rw [H.out]; rfl), Kept.alloc w _⟩
  by_cases h1 : 500 < t
  · have H : Hid (worldB t L = false) := worldB_tick t L (by omega)
    go_enter Tryz.func33, Tryz.ntmps33
    go_wp2
    go_ret
    exact ⟨ret1 (by rw [H.out]; rfl), Kept.alloc w _⟩
  have hsf := store_float Tryz.prog
  have HT : Hid (0 ≤ t ∧ t ≤ 500) := ⟨by omega, by omega⟩
  have HR := hide h
  clear h
  have HB : Hid ((w.alloc (.cells #[.int .i64 t, .slice p L.length cap] 34)).heap[w.heap.size]? = some (.cells #[.int .i64 t, .slice p L.length cap] 34 (0, 0))) := heap_alloc_new w _
  go_enter Tryz.func33, Tryz.ntmps33
  go_wp2
  go_loopw [16] (fun t' wr => ∃ i : Nat, i ≤ L.length ∧ t' = .int .i64 i ∧ Hid (OkTo L i) ∧ Hid (Kept (fun _ => False) (w.alloc (.cells #[.int .i64 t, .slice p L.length cap] 34)) wr)) (fun t _ => L.length - (intOf t).toNat)
  case atStart => exact ⟨0, Nat.zero_le _, rfl, (fun _ _ h => absurd h (Nat.not_lt_zero _)), Kept.refl _ _⟩
  case round =>
    obtain ⟨i, hil, rfl, HO, HK⟩ := hrel
    have HKW : Hid (Kept (fun _ => False) w wr) := (Kept.alloc w _).calm2 HK.out
    have HBX : Hid (wr.heap[w.heap.size]? = some (.cells #[.int .i64 t, .slice p L.length cap] 34 (0, 0))) := by show _ = _; rw [HK.out.block _ (heap_lt HB.out) (fun e => e)]; exact HB.out
    clear HB
    by_cases hlt : i < L.length
    · obtain ⟨b, off, rfl, hb, c0, c1, c2, c3, c4, c5, c6⟩ := (HR.out.calm HKW.out).at i hlt
      cases hm : mobB L[i]
      · skip
        have H : Hid (worldB t L = false) := worldB_mob t L i hlt hm
        go_wp2
        have HA : Hid ((wr.alloc (.cells #[.int .i64 L[i].id, .int .i64 L[i].team, .float .f32 L[i].x, .float .f32 L[i].y, .float .f32 L[i].vx, .float .f32 L[i].vy, .int .i64 L[i].health] 63)).heap[wr.heap.size]? = some (.cells #[.int .i64 L[i].id, .int .i64 L[i].team, .float .f32 L[i].x, .float .f32 L[i].y, .float .f32 L[i].vx, .float .f32 L[i].vy, .int .i64 L[i].health] 63 (0, 0))) := heap_alloc_new wr _
        obtain ⟨o0, o1, o2, o3, o4, o5, o6⟩ := seven_cells HA.out
        have KA : Hid (Kept (fun _ => False) wr (wr.alloc (.cells #[.int .i64 L[i].id, .int .i64 L[i].team, .float .f32 L[i].x, .float .f32 L[i].y, .float .f32 L[i].vx, .float .f32 L[i].vy, .int .i64 L[i].health] 63))) := Kept.alloc wr _
        generalize hwa : wr.alloc (.cells #[.int .i64 L[i].id, .int .i64 L[i].team, .float .f32 L[i].x, .float .f32 L[i].y, .float .f32 L[i].vx, .float .f32 L[i].vy, .int .i64 L[i].health] 63) = wa at *
        clear hwa
        clear c0 c1 c2 c3 c4 c5 c6 HBX HR
        refine wp_region_held_drew (S := fun w' => w'.cell? ⟨wr.heap.size, 0, none⟩ = some (.int .i64 L[i].id) ∧ w'.cell? ⟨wr.heap.size, 1, none⟩ = some (.int .i64 L[i].team) ∧ w'.cell? ⟨wr.heap.size, 2, none⟩ = some (.float .f32 L[i].x) ∧ w'.cell? ⟨wr.heap.size, 3, none⟩ = some (.float .f32 L[i].y) ∧ w'.cell? ⟨wr.heap.size, 4, none⟩ = some (.float .f32 L[i].vx) ∧ w'.cell? ⟨wr.heap.size, 5, none⟩ = some (.float .f32 L[i].vy) ∧ w'.cell? ⟨wr.heap.size, 6, none⟩ = some (.int .i64 L[i].health)) (by kernel_rfl) ?_ (fun hHeld => ?_)
        · (try dsimp only); go_keep
        refine wpAnyH_take (i := 0) (oi := { dst := some 21, op := Op.load 63 (Operand.tmp 4), type := 63, pos := "bounds.go:41", after := #[], guard := none }) (v := ?_) rfl (by kernel_rfl) (by kernel_rfl) (by kernel_rfl) (fun _ _ _ h => h) (Or.inl ⟨by rfl, ?_⟩) (by assumption) ?_
        rotate_left
        · (intro w hSw; (try dsimp only at hSw); go_simp; (try with_reducible rfl))
        try simp only [Act.put]
        try simp only [List.setIfInBounds_toArray]
        try simp only [List.set_cons_succ, List.set_cons_zero]
        refine wpAnyH_ready (rs := [1]) (by kernel_rfl) (by simp) ?_
        refine AllReadyH.cons (o := { dst := some 22, op := Op.call { callee := Callee.value (Operand.func 61), args := #[Operand.tmp 21], argTypes := #[63] }, type := 4, pos := "bounds.go:41", after := #[{ on := 0, ground := Ground.data }], guard := none }) rfl (fun K hK => ?_) AllReadyH.nil
        go_simp
        (go_at_call 61; refine (isEntity_c L[i] _).mono ?_; rintro e w1 ⟨rfl, q1⟩; have K1 := hide ((Kept.drew wa).calm2 q1); clear q1; obtain ⟨e0, e1, e2, e3, e4, e5, e6⟩ := seven_cells (show w1.heap[wr.heap.size]? = some (.cells #[.int .i64 L[i].id, .int .i64 L[i].team, .float .f32 L[i].x, .float .f32 L[i].y, .float .f32 L[i].vx, .float .f32 L[i].vy, .int .i64 L[i].health] 63 (0, 0)) by rw [K1.out.block _ (heap_lt HA.out) (fun e => e)]; exact HA.out))
        go_wp2_with fail
        refine hK.out _ _ ?_ (fun hHeld => ?_)
        · (try dsimp only); go_keep
        clear hK K
        try simp only [Act.put]
        try simp only [List.setIfInBounds_toArray]
        try simp only [List.set_cons_succ, List.set_cons_zero]
        refine wpAnyH_take (i := 2) (oi := { dst := some 23, op := Op.unOp UnOp.not 4 (Operand.tmp 22), type := 4, pos := "bounds.go:41", after := #[{ on := 1, ground := Ground.data }], guard := none }) (v := ?_) rfl (by kernel_rfl) (by kernel_rfl) (by kernel_rfl) (fun _ _ _ h => h) (Or.inl ⟨by rfl, ?_⟩) (by assumption) ?_
        rotate_left
        · (intro w hSw; (try dsimp only at hSw); go_simp; (try with_reducible rfl))
        try simp only [Act.put]
        try simp only [List.setIfInBounds_toArray]
        try simp only [List.set_cons_succ, List.set_cons_zero]
        refine wpAnyH_take (i := 3) (oi := { dst := some 24, op := Op.move (Operand.tmp 23), type := 4, pos := "bounds.go:41", after := #[{ on := 2, ground := Ground.data }, { on := 1, ground := Ground.chain }], guard := none }) (v := ?_) rfl (by kernel_rfl) (by kernel_rfl) (by kernel_rfl) (fun _ _ _ h => h) (Or.inl ⟨by rfl, ?_⟩) (by assumption) ?_
        rotate_left
        · (intro w hSw; (try dsimp only at hSw); go_simp; (try with_reducible rfl))
        try simp only [Act.put]
        try simp only [List.setIfInBounds_toArray]
        try simp only [List.set_cons_succ, List.set_cons_zero]
        refine wpAnyH_take (i := 4) (oi := { dst := some 25, op := Op.move (Operand.tmp 3), type := 3, pos := "bounds.go:41", after := #[{ on := 3, ground := Ground.guard }], guard := some (3, false) }) rfl (by kernel_rfl) (by kernel_rfl) (by kernel_rfl) (fun _ _ _ h => h) (Or.inr ⟨by rfl, rfl⟩) (by assumption) ?_
        try simp only [Act.put]
        try simp only [List.setIfInBounds_toArray]
        try simp only [List.set_cons_succ, List.set_cons_zero]
        refine wpAnyH_take (i := 5) (oi := { dst := some 26, op := Op.binOp BinOp.gtr 3 (Operand.tmp 25) (Operand.const (Value.int IntKind.i64 0)) 3, type := 4, pos := "bounds.go:41", after := #[{ on := 4, ground := Ground.data }, { on := 3, ground := Ground.guard }], guard := some (3, false) }) rfl (by kernel_rfl) (by kernel_rfl) (by kernel_rfl) (fun _ _ _ h => h) (Or.inr ⟨by rfl, rfl⟩) (by assumption) ?_
        try simp only [Act.put]
        try simp only [List.setIfInBounds_toArray]
        try simp only [List.set_cons_succ, List.set_cons_zero]
        refine wpAnyH_take (i := 6) (oi := { dst := some 27, op := Op.move (Operand.tmp 26), type := 4, pos := "bounds.go:41", after := #[{ on := 5, ground := Ground.data }, { on := 3, ground := Ground.chain }, { on := 3, ground := Ground.guard }], guard := some (3, false) }) rfl (by kernel_rfl) (by kernel_rfl) (by kernel_rfl) (fun _ _ _ h => h) (Or.inr ⟨by rfl, rfl⟩) (by assumption) ?_
        try simp only [Act.put]
        try simp only [List.setIfInBounds_toArray]
        try simp only [List.set_cons_succ, List.set_cons_zero]
        refine wpAnyH_take (i := 7) (oi := { dst := some 28, op := Op.fieldAddr 63 (Operand.tmp 4) 0, type := 0, pos := "bounds.go:41", after := #[{ on := 6, ground := Ground.guard }], guard := some (6, true) }) rfl (by kernel_rfl) (by kernel_rfl) (by kernel_rfl) (fun _ _ _ h => h) (Or.inr ⟨by rfl, rfl⟩) (by assumption) ?_
        try simp only [Act.put]
        try simp only [List.setIfInBounds_toArray]
        try simp only [List.set_cons_succ, List.set_cons_zero]
        refine wpAnyH_take (i := 8) (oi := { dst := some 29, op := Op.load 3 (Operand.tmp 28), type := 3, pos := "bounds.go:41", after := #[{ on := 7, ground := Ground.data }, { on := 6, ground := Ground.guard }], guard := some (6, true) }) rfl (by kernel_rfl) (by kernel_rfl) (by kernel_rfl) (fun _ _ _ h => h) (Or.inr ⟨by rfl, rfl⟩) (by assumption) ?_
        try simp only [Act.put]
        try simp only [List.setIfInBounds_toArray]
        try simp only [List.set_cons_succ, List.set_cons_zero]
        refine wpAnyH_take (i := 9) (oi := { dst := some 30, op := Op.fieldAddr 34 (Operand.tmp 1) 1, type := 0, pos := "bounds.go:41", after := #[{ on := 6, ground := Ground.guard }], guard := some (6, true) }) rfl (by kernel_rfl) (by kernel_rfl) (by kernel_rfl) (fun _ _ _ h => h) (Or.inr ⟨by rfl, rfl⟩) (by assumption) ?_
        try simp only [Act.put]
        try simp only [List.setIfInBounds_toArray]
        try simp only [List.set_cons_succ, List.set_cons_zero]
        refine wpAnyH_take (i := 10) (oi := { dst := some 31, op := Op.load 32 (Operand.tmp 30), type := 32, pos := "bounds.go:41", after := #[{ on := 9, ground := Ground.data }, { on := 6, ground := Ground.guard }], guard := some (6, true) }) rfl (by kernel_rfl) (by kernel_rfl) (by kernel_rfl) (fun _ _ _ h => h) (Or.inr ⟨by rfl, rfl⟩) (by assumption) ?_
        try simp only [Act.put]
        try simp only [List.setIfInBounds_toArray]
        try simp only [List.set_cons_succ, List.set_cons_zero]
        refine wpAnyH_take (i := 11) (oi := { dst := some 32, op := Op.move (Operand.tmp 3), type := 3, pos := "bounds.go:41", after := #[{ on := 6, ground := Ground.guard }], guard := some (6, true) }) rfl (by kernel_rfl) (by kernel_rfl) (by kernel_rfl) (fun _ _ _ h => h) (Or.inr ⟨by rfl, rfl⟩) (by assumption) ?_
        try simp only [Act.put]
        try simp only [List.setIfInBounds_toArray]
        try simp only [List.set_cons_succ, List.set_cons_zero]
        refine wpAnyH_take (i := 12) (oi := { dst := some 33, op := Op.binOp BinOp.sub 3 (Operand.tmp 32) (Operand.const (Value.int IntKind.i64 1)) 3, type := 3, pos := "bounds.go:41", after := #[{ on := 11, ground := Ground.data }, { on := 6, ground := Ground.guard }], guard := some (6, true) }) rfl (by kernel_rfl) (by kernel_rfl) (by kernel_rfl) (fun _ _ _ h => h) (Or.inr ⟨by rfl, rfl⟩) (by assumption) ?_
        try simp only [Act.put]
        try simp only [List.setIfInBounds_toArray]
        try simp only [List.set_cons_succ, List.set_cons_zero]
        refine wpAnyH_take (i := 13) (oi := { dst := some 34, op := Op.indexAddr 32 (Operand.tmp 31) (Operand.tmp 33), type := 0, pos := "bounds.go:41", after := #[{ on := 10, ground := Ground.data }, { on := 12, ground := Ground.data }, { on := 6, ground := Ground.guard }], guard := some (6, true) }) rfl (by kernel_rfl) (by kernel_rfl) (by kernel_rfl) (fun _ _ _ h => h) (Or.inr ⟨by rfl, rfl⟩) (by assumption) ?_
        try simp only [Act.put]
        try simp only [List.setIfInBounds_toArray]
        try simp only [List.set_cons_succ, List.set_cons_zero]
        refine wpAnyH_take (i := 14) (oi := { dst := some 35, op := Op.fieldAddr 63 (Operand.tmp 34) 0, type := 0, pos := "bounds.go:41", after := #[{ on := 13, ground := Ground.data }, { on := 6, ground := Ground.guard }], guard := some (6, true) }) rfl (by kernel_rfl) (by kernel_rfl) (by kernel_rfl) (fun _ _ _ h => h) (Or.inr ⟨by rfl, rfl⟩) (by assumption) ?_
        try simp only [Act.put]
        try simp only [List.setIfInBounds_toArray]
        try simp only [List.set_cons_succ, List.set_cons_zero]
        refine wpAnyH_take (i := 15) (oi := { dst := some 36, op := Op.load 3 (Operand.tmp 35), type := 3, pos := "bounds.go:41", after := #[{ on := 14, ground := Ground.data }, { on := 6, ground := Ground.guard }], guard := some (6, true) }) rfl (by kernel_rfl) (by kernel_rfl) (by kernel_rfl) (fun _ _ _ h => h) (Or.inr ⟨by rfl, rfl⟩) (by assumption) ?_
        try simp only [Act.put]
        try simp only [List.setIfInBounds_toArray]
        try simp only [List.set_cons_succ, List.set_cons_zero]
        refine wpAnyH_take (i := 16) (oi := { dst := some 37, op := Op.binOp BinOp.leq 3 (Operand.tmp 29) (Operand.tmp 36) 3, type := 4, pos := "bounds.go:41", after := #[{ on := 8, ground := Ground.data }, { on := 15, ground := Ground.data }, { on := 6, ground := Ground.guard }], guard := some (6, true) }) rfl (by kernel_rfl) (by kernel_rfl) (by kernel_rfl) (fun _ _ _ h => h) (Or.inr ⟨by rfl, rfl⟩) (by assumption) ?_
        try simp only [Act.put]
        try simp only [List.setIfInBounds_toArray]
        try simp only [List.set_cons_succ, List.set_cons_zero]
        refine wpAnyH_take (i := 17) (oi := { dst := some 38, op := Op.pick (Operand.tmp 27) (Operand.tmp 37) (Operand.const (Value.bool false)), type := 4, pos := "bounds.go:41", after := #[{ on := 6, ground := Ground.data }, { on := 16, ground := Ground.data }, { on := 3, ground := Ground.guard }], guard := some (3, false) }) rfl (by kernel_rfl) (by kernel_rfl) (by kernel_rfl) (fun _ _ _ h => h) (Or.inr ⟨by rfl, rfl⟩) (by assumption) ?_
        try simp only [Act.put]
        try simp only [List.setIfInBounds_toArray]
        try simp only [List.set_cons_succ, List.set_cons_zero]
        refine wpAnyH_take (i := 18) (oi := { dst := some 39, op := Op.pick (Operand.tmp 24) (Operand.const (Value.bool true)) (Operand.tmp 38), type := 4, pos := "bounds.go:41", after := #[{ on := 3, ground := Ground.data }, { on := 17, ground := Ground.data }], guard := none }) (v := ?_) rfl (by kernel_rfl) (by kernel_rfl) (by kernel_rfl) (fun _ _ _ h => h) (Or.inl ⟨by rfl, ?_⟩) (by assumption) ?_
        rotate_left
        · (intro w hSw; (try dsimp only at hSw); go_simp; (try with_reducible rfl))
        try simp only [Act.put]
        try simp only [List.setIfInBounds_toArray]
        try simp only [List.set_cons_succ, List.set_cons_zero]
        refine wpAnyH_done (by kernel_rfl) ?_ _
        go_wp2
        go_ret
        exact ⟨ret1 (by rw [H.out]; rfl), (HKW.out.calm2 KA.out).calm2 K1.out⟩
      · cases i with
        | zero =>
          have HO1 : Hid (OkTo L 1) := OkTo.succ HO.out hlt hm (fun k _ e => absurd e (by omega))
          rw [show off + 0 * 7 = off from by omega] at c0 c1 c2 c3 c4 c5 c6
          go_wp2
          have HA : Hid ((wr.alloc (.cells #[.int .i64 L[0].id, .int .i64 L[0].team, .float .f32 L[0].x, .float .f32 L[0].y, .float .f32 L[0].vx, .float .f32 L[0].vy, .int .i64 L[0].health] 63)).heap[wr.heap.size]? = some (.cells #[.int .i64 L[0].id, .int .i64 L[0].team, .float .f32 L[0].x, .float .f32 L[0].y, .float .f32 L[0].vx, .float .f32 L[0].vy, .int .i64 L[0].health] 63 (0, 0))) := heap_alloc_new wr _
          obtain ⟨o0, o1, o2, o3, o4, o5, o6⟩ := seven_cells HA.out
          have KA : Hid (Kept (fun _ => False) wr (wr.alloc (.cells #[.int .i64 L[0].id, .int .i64 L[0].team, .float .f32 L[0].x, .float .f32 L[0].y, .float .f32 L[0].vx, .float .f32 L[0].vy, .int .i64 L[0].health] 63))) := Kept.alloc wr _
          generalize hwa : wr.alloc (.cells #[.int .i64 L[0].id, .int .i64 L[0].team, .float .f32 L[0].x, .float .f32 L[0].y, .float .f32 L[0].vx, .float .f32 L[0].vy, .int .i64 L[0].health] 63) = wa at *
          clear hwa
          clear c0 c1 c2 c3 c4 c5 c6 HBX HR
          refine wp_region_held_drew (S := fun w' => w'.cell? ⟨wr.heap.size, 0, none⟩ = some (.int .i64 L[0].id) ∧ w'.cell? ⟨wr.heap.size, 1, none⟩ = some (.int .i64 L[0].team) ∧ w'.cell? ⟨wr.heap.size, 2, none⟩ = some (.float .f32 L[0].x) ∧ w'.cell? ⟨wr.heap.size, 3, none⟩ = some (.float .f32 L[0].y) ∧ w'.cell? ⟨wr.heap.size, 4, none⟩ = some (.float .f32 L[0].vx) ∧ w'.cell? ⟨wr.heap.size, 5, none⟩ = some (.float .f32 L[0].vy) ∧ w'.cell? ⟨wr.heap.size, 6, none⟩ = some (.int .i64 L[0].health)) (by kernel_rfl) ?_ (fun hHeld => ?_)
          · (try dsimp only); go_keep
          refine wpAnyH_take (i := 0) (oi := { dst := some 21, op := Op.load 63 (Operand.tmp 4), type := 63, pos := "bounds.go:41", after := #[], guard := none }) (v := ?_) rfl (by kernel_rfl) (by kernel_rfl) (by kernel_rfl) (fun _ _ _ h => h) (Or.inl ⟨by rfl, ?_⟩) (by assumption) ?_
          rotate_left
          · (intro w hSw; (try dsimp only at hSw); go_simp; (try with_reducible rfl))
          try simp only [Act.put]
          try simp only [List.setIfInBounds_toArray]
          try simp only [List.set_cons_succ, List.set_cons_zero]
          refine wpAnyH_ready (rs := [1]) (by kernel_rfl) (by simp) ?_
          refine AllReadyH.cons (o := { dst := some 22, op := Op.call { callee := Callee.value (Operand.func 61), args := #[Operand.tmp 21], argTypes := #[63] }, type := 4, pos := "bounds.go:41", after := #[{ on := 0, ground := Ground.data }], guard := none }) rfl (fun K hK => ?_) AllReadyH.nil
          go_simp
          (go_at_call 61; refine (isEntity_c L[0] _).mono ?_; rintro e w1 ⟨rfl, q1⟩; have K1 := hide ((Kept.drew wa).calm2 q1); clear q1; obtain ⟨e0, e1, e2, e3, e4, e5, e6⟩ := seven_cells (show w1.heap[wr.heap.size]? = some (.cells #[.int .i64 L[0].id, .int .i64 L[0].team, .float .f32 L[0].x, .float .f32 L[0].y, .float .f32 L[0].vx, .float .f32 L[0].vy, .int .i64 L[0].health] 63 (0, 0)) by rw [K1.out.block _ (heap_lt HA.out) (fun e => e)]; exact HA.out))
          go_wp2_with fail
          refine hK.out _ _ ?_ (fun hHeld => ?_)
          · (try dsimp only); go_keep
          clear hK K
          try simp only [Act.put]
          try simp only [List.setIfInBounds_toArray]
          try simp only [List.set_cons_succ, List.set_cons_zero]
          refine wpAnyH_take (i := 2) (oi := { dst := some 23, op := Op.unOp UnOp.not 4 (Operand.tmp 22), type := 4, pos := "bounds.go:41", after := #[{ on := 1, ground := Ground.data }], guard := none }) (v := ?_) rfl (by kernel_rfl) (by kernel_rfl) (by kernel_rfl) (fun _ _ _ h => h) (Or.inl ⟨by rfl, ?_⟩) (by assumption) ?_
          rotate_left
          · (intro w hSw; (try dsimp only at hSw); go_simp; (try with_reducible rfl))
          try simp only [Act.put]
          try simp only [List.setIfInBounds_toArray]
          try simp only [List.set_cons_succ, List.set_cons_zero]
          refine wpAnyH_take (i := 3) (oi := { dst := some 24, op := Op.move (Operand.tmp 23), type := 4, pos := "bounds.go:41", after := #[{ on := 2, ground := Ground.data }, { on := 1, ground := Ground.chain }], guard := none }) (v := ?_) rfl (by kernel_rfl) (by kernel_rfl) (by kernel_rfl) (fun _ _ _ h => h) (Or.inl ⟨by rfl, ?_⟩) (by assumption) ?_
          rotate_left
          · (intro w hSw; (try dsimp only at hSw); go_simp; (try with_reducible rfl))
          try simp only [Act.put]
          try simp only [List.setIfInBounds_toArray]
          try simp only [List.set_cons_succ, List.set_cons_zero]
          refine wpAnyH_take (i := 4) (oi := { dst := some 25, op := Op.move (Operand.tmp 3), type := 3, pos := "bounds.go:41", after := #[{ on := 3, ground := Ground.guard }], guard := some (3, false) }) (v := ?_) rfl (by kernel_rfl) (by kernel_rfl) (by kernel_rfl) (fun _ _ _ h => h) (Or.inl ⟨by rfl, ?_⟩) (by assumption) ?_
          rotate_left
          · (intro w hSw; (try dsimp only at hSw); go_simp; (try with_reducible rfl))
          try simp only [Act.put]
          try simp only [List.setIfInBounds_toArray]
          try simp only [List.set_cons_succ, List.set_cons_zero]
          refine wpAnyH_take (i := 5) (oi := { dst := some 26, op := Op.binOp BinOp.gtr 3 (Operand.tmp 25) (Operand.const (Value.int IntKind.i64 0)) 3, type := 4, pos := "bounds.go:41", after := #[{ on := 4, ground := Ground.data }, { on := 3, ground := Ground.guard }], guard := some (3, false) }) (v := ?_) rfl (by kernel_rfl) (by kernel_rfl) (by kernel_rfl) (fun _ _ _ h => h) (Or.inl ⟨by rfl, ?_⟩) (by assumption) ?_
          rotate_left
          · (intro w hSw; (try dsimp only at hSw); go_simp; (try with_reducible rfl))
          try simp only [Act.put]
          try simp only [List.setIfInBounds_toArray]
          try simp only [List.set_cons_succ, List.set_cons_zero]
          refine wpAnyH_take (i := 6) (oi := { dst := some 27, op := Op.move (Operand.tmp 26), type := 4, pos := "bounds.go:41", after := #[{ on := 5, ground := Ground.data }, { on := 3, ground := Ground.chain }, { on := 3, ground := Ground.guard }], guard := some (3, false) }) (v := ?_) rfl (by kernel_rfl) (by kernel_rfl) (by kernel_rfl) (fun _ _ _ h => h) (Or.inl ⟨by rfl, ?_⟩) (by assumption) ?_
          rotate_left
          · (intro w hSw; (try dsimp only at hSw); go_simp; (try with_reducible rfl))
          try simp only [Act.put]
          try simp only [List.setIfInBounds_toArray]
          try simp only [List.set_cons_succ, List.set_cons_zero]
          refine wpAnyH_take (i := 7) (oi := { dst := some 28, op := Op.fieldAddr 63 (Operand.tmp 4) 0, type := 0, pos := "bounds.go:41", after := #[{ on := 6, ground := Ground.guard }], guard := some (6, true) }) rfl (by kernel_rfl) (by kernel_rfl) (by kernel_rfl) (fun _ _ _ h => h) (Or.inr ⟨by rfl, rfl⟩) (by assumption) ?_
          try simp only [Act.put]
          try simp only [List.setIfInBounds_toArray]
          try simp only [List.set_cons_succ, List.set_cons_zero]
          refine wpAnyH_take (i := 8) (oi := { dst := some 29, op := Op.load 3 (Operand.tmp 28), type := 3, pos := "bounds.go:41", after := #[{ on := 7, ground := Ground.data }, { on := 6, ground := Ground.guard }], guard := some (6, true) }) rfl (by kernel_rfl) (by kernel_rfl) (by kernel_rfl) (fun _ _ _ h => h) (Or.inr ⟨by rfl, rfl⟩) (by assumption) ?_
          try simp only [Act.put]
          try simp only [List.setIfInBounds_toArray]
          try simp only [List.set_cons_succ, List.set_cons_zero]
          refine wpAnyH_take (i := 9) (oi := { dst := some 30, op := Op.fieldAddr 34 (Operand.tmp 1) 1, type := 0, pos := "bounds.go:41", after := #[{ on := 6, ground := Ground.guard }], guard := some (6, true) }) rfl (by kernel_rfl) (by kernel_rfl) (by kernel_rfl) (fun _ _ _ h => h) (Or.inr ⟨by rfl, rfl⟩) (by assumption) ?_
          try simp only [Act.put]
          try simp only [List.setIfInBounds_toArray]
          try simp only [List.set_cons_succ, List.set_cons_zero]
          refine wpAnyH_take (i := 10) (oi := { dst := some 31, op := Op.load 32 (Operand.tmp 30), type := 32, pos := "bounds.go:41", after := #[{ on := 9, ground := Ground.data }, { on := 6, ground := Ground.guard }], guard := some (6, true) }) rfl (by kernel_rfl) (by kernel_rfl) (by kernel_rfl) (fun _ _ _ h => h) (Or.inr ⟨by rfl, rfl⟩) (by assumption) ?_
          try simp only [Act.put]
          try simp only [List.setIfInBounds_toArray]
          try simp only [List.set_cons_succ, List.set_cons_zero]
          refine wpAnyH_take (i := 11) (oi := { dst := some 32, op := Op.move (Operand.tmp 3), type := 3, pos := "bounds.go:41", after := #[{ on := 6, ground := Ground.guard }], guard := some (6, true) }) rfl (by kernel_rfl) (by kernel_rfl) (by kernel_rfl) (fun _ _ _ h => h) (Or.inr ⟨by rfl, rfl⟩) (by assumption) ?_
          try simp only [Act.put]
          try simp only [List.setIfInBounds_toArray]
          try simp only [List.set_cons_succ, List.set_cons_zero]
          refine wpAnyH_take (i := 12) (oi := { dst := some 33, op := Op.binOp BinOp.sub 3 (Operand.tmp 32) (Operand.const (Value.int IntKind.i64 1)) 3, type := 3, pos := "bounds.go:41", after := #[{ on := 11, ground := Ground.data }, { on := 6, ground := Ground.guard }], guard := some (6, true) }) rfl (by kernel_rfl) (by kernel_rfl) (by kernel_rfl) (fun _ _ _ h => h) (Or.inr ⟨by rfl, rfl⟩) (by assumption) ?_
          try simp only [Act.put]
          try simp only [List.setIfInBounds_toArray]
          try simp only [List.set_cons_succ, List.set_cons_zero]
          refine wpAnyH_take (i := 13) (oi := { dst := some 34, op := Op.indexAddr 32 (Operand.tmp 31) (Operand.tmp 33), type := 0, pos := "bounds.go:41", after := #[{ on := 10, ground := Ground.data }, { on := 12, ground := Ground.data }, { on := 6, ground := Ground.guard }], guard := some (6, true) }) rfl (by kernel_rfl) (by kernel_rfl) (by kernel_rfl) (fun _ _ _ h => h) (Or.inr ⟨by rfl, rfl⟩) (by assumption) ?_
          try simp only [Act.put]
          try simp only [List.setIfInBounds_toArray]
          try simp only [List.set_cons_succ, List.set_cons_zero]
          refine wpAnyH_take (i := 14) (oi := { dst := some 35, op := Op.fieldAddr 63 (Operand.tmp 34) 0, type := 0, pos := "bounds.go:41", after := #[{ on := 13, ground := Ground.data }, { on := 6, ground := Ground.guard }], guard := some (6, true) }) rfl (by kernel_rfl) (by kernel_rfl) (by kernel_rfl) (fun _ _ _ h => h) (Or.inr ⟨by rfl, rfl⟩) (by assumption) ?_
          try simp only [Act.put]
          try simp only [List.setIfInBounds_toArray]
          try simp only [List.set_cons_succ, List.set_cons_zero]
          refine wpAnyH_take (i := 15) (oi := { dst := some 36, op := Op.load 3 (Operand.tmp 35), type := 3, pos := "bounds.go:41", after := #[{ on := 14, ground := Ground.data }, { on := 6, ground := Ground.guard }], guard := some (6, true) }) rfl (by kernel_rfl) (by kernel_rfl) (by kernel_rfl) (fun _ _ _ h => h) (Or.inr ⟨by rfl, rfl⟩) (by assumption) ?_
          try simp only [Act.put]
          try simp only [List.setIfInBounds_toArray]
          try simp only [List.set_cons_succ, List.set_cons_zero]
          refine wpAnyH_take (i := 16) (oi := { dst := some 37, op := Op.binOp BinOp.leq 3 (Operand.tmp 29) (Operand.tmp 36) 3, type := 4, pos := "bounds.go:41", after := #[{ on := 8, ground := Ground.data }, { on := 15, ground := Ground.data }, { on := 6, ground := Ground.guard }], guard := some (6, true) }) rfl (by kernel_rfl) (by kernel_rfl) (by kernel_rfl) (fun _ _ _ h => h) (Or.inr ⟨by rfl, rfl⟩) (by assumption) ?_
          try simp only [Act.put]
          try simp only [List.setIfInBounds_toArray]
          try simp only [List.set_cons_succ, List.set_cons_zero]
          refine wpAnyH_take (i := 17) (oi := { dst := some 38, op := Op.pick (Operand.tmp 27) (Operand.tmp 37) (Operand.const (Value.bool false)), type := 4, pos := "bounds.go:41", after := #[{ on := 6, ground := Ground.data }, { on := 16, ground := Ground.data }, { on := 3, ground := Ground.guard }], guard := some (3, false) }) (v := ?_) rfl (by kernel_rfl) (by kernel_rfl) (by kernel_rfl) (fun _ _ _ h => h) (Or.inl ⟨by rfl, ?_⟩) (by assumption) ?_
          rotate_left
          · (intro w hSw; (try dsimp only at hSw); go_simp; (try with_reducible rfl))
          try simp only [Act.put]
          try simp only [List.setIfInBounds_toArray]
          try simp only [List.set_cons_succ, List.set_cons_zero]
          refine wpAnyH_take (i := 18) (oi := { dst := some 39, op := Op.pick (Operand.tmp 24) (Operand.const (Value.bool true)) (Operand.tmp 38), type := 4, pos := "bounds.go:41", after := #[{ on := 3, ground := Ground.data }, { on := 17, ground := Ground.data }], guard := none }) (v := ?_) rfl (by kernel_rfl) (by kernel_rfl) (by kernel_rfl) (fun _ _ _ h => h) (Or.inl ⟨by rfl, ?_⟩) (by assumption) ?_
          rotate_left
          · (intro w hSw; (try dsimp only at hSw); go_simp; (try with_reducible rfl))
          try simp only [Act.put]
          try simp only [List.setIfInBounds_toArray]
          try simp only [List.set_cons_succ, List.set_cons_zero]
          refine wpAnyH_done (by kernel_rfl) ?_ _
          go_wp2
          go_roundw
          case rel => exact ⟨1, by omega, rfl, HO1, (HK.out.calm2 KA.out).calm2 K1.out⟩
          case measure => simp [intOf]; omega
        | succ k =>
          obtain ⟨b', off', hbb, _, p0, _⟩ := (HR.out.calm HKW.out).at k (by omega)
          obtain ⟨rfl, rfl⟩ : b = b' ∧ off = off' := by simp at hbb; exact ⟨hbb.1, hbb.2⟩
          have hx0 : IntKind.i64.wrap (k : Int) = (k : Int) := wrap_id _ (by omega)
          have hx1 : (0 : Int) ≤ (k : Int) := by omega
          have hx2 : (k : Int) < (L.length : Int) := by omega
          by_cases hr : L[k].id < L[k + 1].id
          · have HO1 : Hid (OkTo L (k + 2)) := OkTo.succ HO.out hlt hm (fun j _ e => by obtain rfl : k = j := (by omega); exact hr)
            go_wp2
            have HA : Hid ((wr.alloc (.cells #[.int .i64 L[k + 1].id, .int .i64 L[k + 1].team, .float .f32 L[k + 1].x, .float .f32 L[k + 1].y, .float .f32 L[k + 1].vx, .float .f32 L[k + 1].vy, .int .i64 L[k + 1].health] 63)).heap[wr.heap.size]? = some (.cells #[.int .i64 L[k + 1].id, .int .i64 L[k + 1].team, .float .f32 L[k + 1].x, .float .f32 L[k + 1].y, .float .f32 L[k + 1].vx, .float .f32 L[k + 1].vy, .int .i64 L[k + 1].health] 63 (0, 0))) := heap_alloc_new wr _
            obtain ⟨o0, o1, o2, o3, o4, o5, o6⟩ := seven_cells HA.out
            have KA : Hid (Kept (fun _ => False) wr (wr.alloc (.cells #[.int .i64 L[k + 1].id, .int .i64 L[k + 1].team, .float .f32 L[k + 1].x, .float .f32 L[k + 1].y, .float .f32 L[k + 1].vx, .float .f32 L[k + 1].vy, .int .i64 L[k + 1].health] 63))) := Kept.alloc wr _
            have hbw : w.heap.size < (wr.alloc (.cells #[.int .i64 L[k + 1].id, .int .i64 L[k + 1].team, .float .f32 L[k + 1].x, .float .f32 L[k + 1].y, .float .f32 L[k + 1].vx, .float .f32 L[k + 1].vy, .int .i64 L[k + 1].health] 63)).heap.size := by have := heap_lt HBX.out; simp; omega
            have hba : b < (wr.alloc (.cells #[.int .i64 L[k + 1].id, .int .i64 L[k + 1].team, .float .f32 L[k + 1].x, .float .f32 L[k + 1].y, .float .f32 L[k + 1].vx, .float .f32 L[k + 1].vy, .int .i64 L[k + 1].health] 63)).heap.size := by simp; omega
            have f1 : (wr.alloc (.cells #[.int .i64 L[k + 1].id, .int .i64 L[k + 1].team, .float .f32 L[k + 1].x, .float .f32 L[k + 1].y, .float .f32 L[k + 1].vx, .float .f32 L[k + 1].vy, .int .i64 L[k + 1].health] 63)).cell? ⟨w.heap.size, 1, none⟩ = some (.slice (some ⟨b, off, none⟩) L.length cap) := by rw [cell_keep KA.out (heap_lt HBX.out) (fun e => e)]; exact (two_cells HBX.out).2.1
            have f2 : (wr.alloc (.cells #[.int .i64 L[k + 1].id, .int .i64 L[k + 1].team, .float .f32 L[k + 1].x, .float .f32 L[k + 1].y, .float .f32 L[k + 1].vx, .float .f32 L[k + 1].vy, .int .i64 L[k + 1].health] 63)).cell? ⟨b, off + k * 7, none⟩ = some (.int .i64 L[k].id) := by rw [cell_keep KA.out hb (fun e => e)]; exact p0
            generalize hwa : wr.alloc (.cells #[.int .i64 L[k + 1].id, .int .i64 L[k + 1].team, .float .f32 L[k + 1].x, .float .f32 L[k + 1].y, .float .f32 L[k + 1].vx, .float .f32 L[k + 1].vy, .int .i64 L[k + 1].health] 63) = wa at *
            clear hwa
            clear c0 c1 c2 c3 c4 c5 c6 HBX HR p0
            refine wp_region_held_drew (S := fun w' => w'.cell? ⟨wr.heap.size, 0, none⟩ = some (.int .i64 L[k + 1].id) ∧ w'.cell? ⟨wr.heap.size, 1, none⟩ = some (.int .i64 L[k + 1].team) ∧ w'.cell? ⟨wr.heap.size, 2, none⟩ = some (.float .f32 L[k + 1].x) ∧ w'.cell? ⟨wr.heap.size, 3, none⟩ = some (.float .f32 L[k + 1].y) ∧ w'.cell? ⟨wr.heap.size, 4, none⟩ = some (.float .f32 L[k + 1].vx) ∧ w'.cell? ⟨wr.heap.size, 5, none⟩ = some (.float .f32 L[k + 1].vy) ∧ w'.cell? ⟨wr.heap.size, 6, none⟩ = some (.int .i64 L[k + 1].health) ∧ w'.cell? ⟨w.heap.size, 1, none⟩ = some (.slice (some ⟨b, off, none⟩) L.length cap) ∧ w'.cell? ⟨b, off + k * 7, none⟩ = some (.int .i64 L[k].id)) (by kernel_rfl) ?_ (fun hHeld => ?_)
            · (try dsimp only); go_keep
            refine wpAnyH_take (i := 0) (oi := { dst := some 21, op := Op.load 63 (Operand.tmp 4), type := 63, pos := "bounds.go:41", after := #[], guard := none }) (v := ?_) rfl (by kernel_rfl) (by kernel_rfl) (by kernel_rfl) (fun _ _ _ h => h) (Or.inl ⟨by rfl, ?_⟩) (by assumption) ?_
            rotate_left
            · (intro w hSw; (try dsimp only at hSw); go_simp; (try with_reducible rfl))
            try simp only [Act.put]
            try simp only [List.setIfInBounds_toArray]
            try simp only [List.set_cons_succ, List.set_cons_zero]
            refine wpAnyH_ready (rs := [1]) (by kernel_rfl) (by simp) ?_
            refine AllReadyH.cons (o := { dst := some 22, op := Op.call { callee := Callee.value (Operand.func 61), args := #[Operand.tmp 21], argTypes := #[63] }, type := 4, pos := "bounds.go:41", after := #[{ on := 0, ground := Ground.data }], guard := none }) rfl (fun K hK => ?_) AllReadyH.nil
            go_simp
            (go_at_call 61; refine (isEntity_c L[k + 1] _).mono ?_; rintro e w1 ⟨rfl, q1⟩; have K1 := hide ((Kept.drew wa).calm2 q1); clear q1; obtain ⟨e0, e1, e2, e3, e4, e5, e6⟩ := seven_cells (show w1.heap[wr.heap.size]? = some (.cells #[.int .i64 L[k + 1].id, .int .i64 L[k + 1].team, .float .f32 L[k + 1].x, .float .f32 L[k + 1].y, .float .f32 L[k + 1].vx, .float .f32 L[k + 1].vy, .int .i64 L[k + 1].health] 63 (0, 0)) by rw [K1.out.block _ (heap_lt HA.out) (fun e => e)]; exact HA.out); have g1 := (cell_keep K1.out (o := 1) hbw (fun e => e)).trans f1; have g2 := (cell_keep K1.out (o := off + k * 7) hba (fun e => e)).trans f2)
            go_wp2_with fail
            refine hK.out _ _ ?_ (fun hHeld => ?_)
            · (try dsimp only); go_keep
            clear hK K
            try simp only [Act.put]
            try simp only [List.setIfInBounds_toArray]
            try simp only [List.set_cons_succ, List.set_cons_zero]
            refine wpAnyH_take (i := 2) (oi := { dst := some 23, op := Op.unOp UnOp.not 4 (Operand.tmp 22), type := 4, pos := "bounds.go:41", after := #[{ on := 1, ground := Ground.data }], guard := none }) (v := ?_) rfl (by kernel_rfl) (by kernel_rfl) (by kernel_rfl) (fun _ _ _ h => h) (Or.inl ⟨by rfl, ?_⟩) (by assumption) ?_
            rotate_left
            · (intro w hSw; (try dsimp only at hSw); go_simp; (try with_reducible rfl))
            try simp only [Act.put]
            try simp only [List.setIfInBounds_toArray]
            try simp only [List.set_cons_succ, List.set_cons_zero]
            refine wpAnyH_take (i := 3) (oi := { dst := some 24, op := Op.move (Operand.tmp 23), type := 4, pos := "bounds.go:41", after := #[{ on := 2, ground := Ground.data }, { on := 1, ground := Ground.chain }], guard := none }) (v := ?_) rfl (by kernel_rfl) (by kernel_rfl) (by kernel_rfl) (fun _ _ _ h => h) (Or.inl ⟨by rfl, ?_⟩) (by assumption) ?_
            rotate_left
            · (intro w hSw; (try dsimp only at hSw); go_simp; (try with_reducible rfl))
            try simp only [Act.put]
            try simp only [List.setIfInBounds_toArray]
            try simp only [List.set_cons_succ, List.set_cons_zero]
            refine wpAnyH_take (i := 4) (oi := { dst := some 25, op := Op.move (Operand.tmp 3), type := 3, pos := "bounds.go:41", after := #[{ on := 3, ground := Ground.guard }], guard := some (3, false) }) (v := ?_) rfl (by kernel_rfl) (by kernel_rfl) (by kernel_rfl) (fun _ _ _ h => h) (Or.inl ⟨by rfl, ?_⟩) (by assumption) ?_
            rotate_left
            · (intro w hSw; (try dsimp only at hSw); go_simp; (try with_reducible rfl))
            try simp only [Act.put]
            try simp only [List.setIfInBounds_toArray]
            try simp only [List.set_cons_succ, List.set_cons_zero]
            refine wpAnyH_take (i := 5) (oi := { dst := some 26, op := Op.binOp BinOp.gtr 3 (Operand.tmp 25) (Operand.const (Value.int IntKind.i64 0)) 3, type := 4, pos := "bounds.go:41", after := #[{ on := 4, ground := Ground.data }, { on := 3, ground := Ground.guard }], guard := some (3, false) }) (v := ?_) rfl (by kernel_rfl) (by kernel_rfl) (by kernel_rfl) (fun _ _ _ h => h) (Or.inl ⟨by rfl, ?_⟩) (by assumption) ?_
            rotate_left
            · (intro w hSw; (try dsimp only at hSw); go_simp; (try with_reducible rfl))
            try simp only [Act.put]
            try simp only [List.setIfInBounds_toArray]
            try simp only [List.set_cons_succ, List.set_cons_zero]
            refine wpAnyH_take (i := 6) (oi := { dst := some 27, op := Op.move (Operand.tmp 26), type := 4, pos := "bounds.go:41", after := #[{ on := 5, ground := Ground.data }, { on := 3, ground := Ground.chain }, { on := 3, ground := Ground.guard }], guard := some (3, false) }) (v := ?_) rfl (by kernel_rfl) (by kernel_rfl) (by kernel_rfl) (fun _ _ _ h => h) (Or.inl ⟨by rfl, ?_⟩) (by assumption) ?_
            rotate_left
            · (intro w hSw; (try dsimp only at hSw); go_simp; (try with_reducible rfl))
            try simp only [Act.put]
            try simp only [List.setIfInBounds_toArray]
            try simp only [List.set_cons_succ, List.set_cons_zero]
            refine wpAnyH_take (i := 7) (oi := { dst := some 28, op := Op.fieldAddr 63 (Operand.tmp 4) 0, type := 0, pos := "bounds.go:41", after := #[{ on := 6, ground := Ground.guard }], guard := some (6, true) }) (v := ?_) rfl (by kernel_rfl) (by kernel_rfl) (by kernel_rfl) (fun _ _ _ h => h) (Or.inl ⟨by rfl, ?_⟩) (by assumption) ?_
            rotate_left
            · (intro w hSw; (try dsimp only at hSw); go_simp; (try with_reducible rfl))
            try simp only [Act.put]
            try simp only [List.setIfInBounds_toArray]
            try simp only [List.set_cons_succ, List.set_cons_zero]
            refine wpAnyH_take (i := 8) (oi := { dst := some 29, op := Op.load 3 (Operand.tmp 28), type := 3, pos := "bounds.go:41", after := #[{ on := 7, ground := Ground.data }, { on := 6, ground := Ground.guard }], guard := some (6, true) }) (v := ?_) rfl (by kernel_rfl) (by kernel_rfl) (by kernel_rfl) (fun _ _ _ h => h) (Or.inl ⟨by rfl, ?_⟩) (by assumption) ?_
            rotate_left
            · (intro w hSw; (try dsimp only at hSw); go_simp; (try with_reducible rfl))
            try simp only [Act.put]
            try simp only [List.setIfInBounds_toArray]
            try simp only [List.set_cons_succ, List.set_cons_zero]
            refine wpAnyH_take (i := 9) (oi := { dst := some 30, op := Op.fieldAddr 34 (Operand.tmp 1) 1, type := 0, pos := "bounds.go:41", after := #[{ on := 6, ground := Ground.guard }], guard := some (6, true) }) (v := ?_) rfl (by kernel_rfl) (by kernel_rfl) (by kernel_rfl) (fun _ _ _ h => h) (Or.inl ⟨by rfl, ?_⟩) (by assumption) ?_
            rotate_left
            · (intro w hSw; (try dsimp only at hSw); go_simp; (try with_reducible rfl))
            try simp only [Act.put]
            try simp only [List.setIfInBounds_toArray]
            try simp only [List.set_cons_succ, List.set_cons_zero]
            refine wpAnyH_take (i := 10) (oi := { dst := some 31, op := Op.load 32 (Operand.tmp 30), type := 32, pos := "bounds.go:41", after := #[{ on := 9, ground := Ground.data }, { on := 6, ground := Ground.guard }], guard := some (6, true) }) (v := ?_) rfl (by kernel_rfl) (by kernel_rfl) (by kernel_rfl) (fun _ _ _ h => h) (Or.inl ⟨by rfl, ?_⟩) (by assumption) ?_
            rotate_left
            · (intro w hSw; (try dsimp only at hSw); go_simp; (try with_reducible rfl))
            try simp only [Act.put]
            try simp only [List.setIfInBounds_toArray]
            try simp only [List.set_cons_succ, List.set_cons_zero]
            refine wpAnyH_take (i := 11) (oi := { dst := some 32, op := Op.move (Operand.tmp 3), type := 3, pos := "bounds.go:41", after := #[{ on := 6, ground := Ground.guard }], guard := some (6, true) }) (v := ?_) rfl (by kernel_rfl) (by kernel_rfl) (by kernel_rfl) (fun _ _ _ h => h) (Or.inl ⟨by rfl, ?_⟩) (by assumption) ?_
            rotate_left
            · (intro w hSw; (try dsimp only at hSw); go_simp; (try with_reducible rfl))
            try simp only [Act.put]
            try simp only [List.setIfInBounds_toArray]
            try simp only [List.set_cons_succ, List.set_cons_zero]
            refine wpAnyH_take (i := 12) (oi := { dst := some 33, op := Op.binOp BinOp.sub 3 (Operand.tmp 32) (Operand.const (Value.int IntKind.i64 1)) 3, type := 3, pos := "bounds.go:41", after := #[{ on := 11, ground := Ground.data }, { on := 6, ground := Ground.guard }], guard := some (6, true) }) (v := ?_) rfl (by kernel_rfl) (by kernel_rfl) (by kernel_rfl) (fun _ _ _ h => h) (Or.inl ⟨by rfl, ?_⟩) (by assumption) ?_
            rotate_left
            · (intro w hSw; (try dsimp only at hSw); go_simp; (try with_reducible rfl))
            try simp only [Act.put]
            try simp only [List.setIfInBounds_toArray]
            try simp only [List.set_cons_succ, List.set_cons_zero]
            refine wpAnyH_take (i := 13) (oi := { dst := some 34, op := Op.indexAddr 32 (Operand.tmp 31) (Operand.tmp 33), type := 0, pos := "bounds.go:41", after := #[{ on := 10, ground := Ground.data }, { on := 12, ground := Ground.data }, { on := 6, ground := Ground.guard }], guard := some (6, true) }) (v := ?_) rfl (by kernel_rfl) (by kernel_rfl) (by kernel_rfl) (fun _ _ _ h => h) (Or.inl ⟨by rfl, ?_⟩) (by assumption) ?_
            rotate_left
            · (intro w hSw; (try dsimp only at hSw); go_simp; (try with_reducible rfl))
            try simp only [Act.put]
            try simp only [List.setIfInBounds_toArray]
            try simp only [List.set_cons_succ, List.set_cons_zero]
            refine wpAnyH_take (i := 14) (oi := { dst := some 35, op := Op.fieldAddr 63 (Operand.tmp 34) 0, type := 0, pos := "bounds.go:41", after := #[{ on := 13, ground := Ground.data }, { on := 6, ground := Ground.guard }], guard := some (6, true) }) (v := ?_) rfl (by kernel_rfl) (by kernel_rfl) (by kernel_rfl) (fun _ _ _ h => h) (Or.inl ⟨by rfl, ?_⟩) (by assumption) ?_
            rotate_left
            · (intro w hSw; (try dsimp only at hSw); go_simp; (try with_reducible rfl))
            try simp only [Act.put]
            try simp only [List.setIfInBounds_toArray]
            try simp only [List.set_cons_succ, List.set_cons_zero]
            refine wpAnyH_take (i := 15) (oi := { dst := some 36, op := Op.load 3 (Operand.tmp 35), type := 3, pos := "bounds.go:41", after := #[{ on := 14, ground := Ground.data }, { on := 6, ground := Ground.guard }], guard := some (6, true) }) (v := ?_) rfl (by kernel_rfl) (by kernel_rfl) (by kernel_rfl) (fun _ _ _ h => h) (Or.inl ⟨by rfl, ?_⟩) (by assumption) ?_
            rotate_left
            · (intro w hSw; (try dsimp only at hSw); go_simp; (try with_reducible rfl))
            try simp only [Act.put]
            try simp only [List.setIfInBounds_toArray]
            try simp only [List.set_cons_succ, List.set_cons_zero]
            refine wpAnyH_take (i := 16) (oi := { dst := some 37, op := Op.binOp BinOp.leq 3 (Operand.tmp 29) (Operand.tmp 36) 3, type := 4, pos := "bounds.go:41", after := #[{ on := 8, ground := Ground.data }, { on := 15, ground := Ground.data }, { on := 6, ground := Ground.guard }], guard := some (6, true) }) (v := ?_) rfl (by kernel_rfl) (by kernel_rfl) (by kernel_rfl) (fun _ _ _ h => h) (Or.inl ⟨by rfl, ?_⟩) (by assumption) ?_
            rotate_left
            · (intro w hSw; (try dsimp only at hSw); go_simp; (try with_reducible rfl))
            try simp only [Act.put]
            try simp only [List.setIfInBounds_toArray]
            try simp only [List.set_cons_succ, List.set_cons_zero]
            refine wpAnyH_take (i := 17) (oi := { dst := some 38, op := Op.pick (Operand.tmp 27) (Operand.tmp 37) (Operand.const (Value.bool false)), type := 4, pos := "bounds.go:41", after := #[{ on := 6, ground := Ground.data }, { on := 16, ground := Ground.data }, { on := 3, ground := Ground.guard }], guard := some (3, false) }) (v := ?_) rfl (by kernel_rfl) (by kernel_rfl) (by kernel_rfl) (fun _ _ _ h => h) (Or.inl ⟨by rfl, ?_⟩) (by assumption) ?_
            rotate_left
            · (intro w hSw; (try dsimp only at hSw); go_simp; (try with_reducible rfl))
            try simp only [Act.put]
            try simp only [List.setIfInBounds_toArray]
            try simp only [List.set_cons_succ, List.set_cons_zero]
            refine wpAnyH_take (i := 18) (oi := { dst := some 39, op := Op.pick (Operand.tmp 24) (Operand.const (Value.bool true)) (Operand.tmp 38), type := 4, pos := "bounds.go:41", after := #[{ on := 3, ground := Ground.data }, { on := 17, ground := Ground.data }], guard := none }) (v := ?_) rfl (by kernel_rfl) (by kernel_rfl) (by kernel_rfl) (fun _ _ _ h => h) (Or.inl ⟨by rfl, ?_⟩) (by assumption) ?_
            rotate_left
            · (intro w hSw; (try dsimp only at hSw); go_simp; (try with_reducible rfl))
            try simp only [Act.put]
            try simp only [List.setIfInBounds_toArray]
            try simp only [List.set_cons_succ, List.set_cons_zero]
            refine wpAnyH_done (by kernel_rfl) ?_ _
            go_wp2
            go_roundw
            case rel => exact ⟨k + 2, by omega, by go_num, HO1, (HK.out.calm2 KA.out).calm2 K1.out⟩
            case measure => simp [intOf]; omega
          · have H : Hid (worldB t L = false) := worldB_rise t L k hlt hr
            go_wp2
            have HA : Hid ((wr.alloc (.cells #[.int .i64 L[k + 1].id, .int .i64 L[k + 1].team, .float .f32 L[k + 1].x, .float .f32 L[k + 1].y, .float .f32 L[k + 1].vx, .float .f32 L[k + 1].vy, .int .i64 L[k + 1].health] 63)).heap[wr.heap.size]? = some (.cells #[.int .i64 L[k + 1].id, .int .i64 L[k + 1].team, .float .f32 L[k + 1].x, .float .f32 L[k + 1].y, .float .f32 L[k + 1].vx, .float .f32 L[k + 1].vy, .int .i64 L[k + 1].health] 63 (0, 0))) := heap_alloc_new wr _
            obtain ⟨o0, o1, o2, o3, o4, o5, o6⟩ := seven_cells HA.out
            have KA : Hid (Kept (fun _ => False) wr (wr.alloc (.cells #[.int .i64 L[k + 1].id, .int .i64 L[k + 1].team, .float .f32 L[k + 1].x, .float .f32 L[k + 1].y, .float .f32 L[k + 1].vx, .float .f32 L[k + 1].vy, .int .i64 L[k + 1].health] 63))) := Kept.alloc wr _
            have hbw : w.heap.size < (wr.alloc (.cells #[.int .i64 L[k + 1].id, .int .i64 L[k + 1].team, .float .f32 L[k + 1].x, .float .f32 L[k + 1].y, .float .f32 L[k + 1].vx, .float .f32 L[k + 1].vy, .int .i64 L[k + 1].health] 63)).heap.size := by have := heap_lt HBX.out; simp; omega
            have hba : b < (wr.alloc (.cells #[.int .i64 L[k + 1].id, .int .i64 L[k + 1].team, .float .f32 L[k + 1].x, .float .f32 L[k + 1].y, .float .f32 L[k + 1].vx, .float .f32 L[k + 1].vy, .int .i64 L[k + 1].health] 63)).heap.size := by simp; omega
            have f1 : (wr.alloc (.cells #[.int .i64 L[k + 1].id, .int .i64 L[k + 1].team, .float .f32 L[k + 1].x, .float .f32 L[k + 1].y, .float .f32 L[k + 1].vx, .float .f32 L[k + 1].vy, .int .i64 L[k + 1].health] 63)).cell? ⟨w.heap.size, 1, none⟩ = some (.slice (some ⟨b, off, none⟩) L.length cap) := by rw [cell_keep KA.out (heap_lt HBX.out) (fun e => e)]; exact (two_cells HBX.out).2.1
            have f2 : (wr.alloc (.cells #[.int .i64 L[k + 1].id, .int .i64 L[k + 1].team, .float .f32 L[k + 1].x, .float .f32 L[k + 1].y, .float .f32 L[k + 1].vx, .float .f32 L[k + 1].vy, .int .i64 L[k + 1].health] 63)).cell? ⟨b, off + k * 7, none⟩ = some (.int .i64 L[k].id) := by rw [cell_keep KA.out hb (fun e => e)]; exact p0
            generalize hwa : wr.alloc (.cells #[.int .i64 L[k + 1].id, .int .i64 L[k + 1].team, .float .f32 L[k + 1].x, .float .f32 L[k + 1].y, .float .f32 L[k + 1].vx, .float .f32 L[k + 1].vy, .int .i64 L[k + 1].health] 63) = wa at *
            clear hwa
            clear c0 c1 c2 c3 c4 c5 c6 HBX HR p0
            refine wp_region_held_drew (S := fun w' => w'.cell? ⟨wr.heap.size, 0, none⟩ = some (.int .i64 L[k + 1].id) ∧ w'.cell? ⟨wr.heap.size, 1, none⟩ = some (.int .i64 L[k + 1].team) ∧ w'.cell? ⟨wr.heap.size, 2, none⟩ = some (.float .f32 L[k + 1].x) ∧ w'.cell? ⟨wr.heap.size, 3, none⟩ = some (.float .f32 L[k + 1].y) ∧ w'.cell? ⟨wr.heap.size, 4, none⟩ = some (.float .f32 L[k + 1].vx) ∧ w'.cell? ⟨wr.heap.size, 5, none⟩ = some (.float .f32 L[k + 1].vy) ∧ w'.cell? ⟨wr.heap.size, 6, none⟩ = some (.int .i64 L[k + 1].health) ∧ w'.cell? ⟨w.heap.size, 1, none⟩ = some (.slice (some ⟨b, off, none⟩) L.length cap) ∧ w'.cell? ⟨b, off + k * 7, none⟩ = some (.int .i64 L[k].id)) (by kernel_rfl) ?_ (fun hHeld => ?_)
            · (try dsimp only); go_keep
            refine wpAnyH_take (i := 0) (oi := { dst := some 21, op := Op.load 63 (Operand.tmp 4), type := 63, pos := "bounds.go:41", after := #[], guard := none }) (v := ?_) rfl (by kernel_rfl) (by kernel_rfl) (by kernel_rfl) (fun _ _ _ h => h) (Or.inl ⟨by rfl, ?_⟩) (by assumption) ?_
            rotate_left
            · (intro w hSw; (try dsimp only at hSw); go_simp; (try with_reducible rfl))
            try simp only [Act.put]
            try simp only [List.setIfInBounds_toArray]
            try simp only [List.set_cons_succ, List.set_cons_zero]
            refine wpAnyH_ready (rs := [1]) (by kernel_rfl) (by simp) ?_
            refine AllReadyH.cons (o := { dst := some 22, op := Op.call { callee := Callee.value (Operand.func 61), args := #[Operand.tmp 21], argTypes := #[63] }, type := 4, pos := "bounds.go:41", after := #[{ on := 0, ground := Ground.data }], guard := none }) rfl (fun K hK => ?_) AllReadyH.nil
            go_simp
            (go_at_call 61; refine (isEntity_c L[k + 1] _).mono ?_; rintro e w1 ⟨rfl, q1⟩; have K1 := hide ((Kept.drew wa).calm2 q1); clear q1; obtain ⟨e0, e1, e2, e3, e4, e5, e6⟩ := seven_cells (show w1.heap[wr.heap.size]? = some (.cells #[.int .i64 L[k + 1].id, .int .i64 L[k + 1].team, .float .f32 L[k + 1].x, .float .f32 L[k + 1].y, .float .f32 L[k + 1].vx, .float .f32 L[k + 1].vy, .int .i64 L[k + 1].health] 63 (0, 0)) by rw [K1.out.block _ (heap_lt HA.out) (fun e => e)]; exact HA.out); have g1 := (cell_keep K1.out (o := 1) hbw (fun e => e)).trans f1; have g2 := (cell_keep K1.out (o := off + k * 7) hba (fun e => e)).trans f2)
            go_wp2_with fail
            refine hK.out _ _ ?_ (fun hHeld => ?_)
            · (try dsimp only); go_keep
            clear hK K
            try simp only [Act.put]
            try simp only [List.setIfInBounds_toArray]
            try simp only [List.set_cons_succ, List.set_cons_zero]
            refine wpAnyH_take (i := 2) (oi := { dst := some 23, op := Op.unOp UnOp.not 4 (Operand.tmp 22), type := 4, pos := "bounds.go:41", after := #[{ on := 1, ground := Ground.data }], guard := none }) (v := ?_) rfl (by kernel_rfl) (by kernel_rfl) (by kernel_rfl) (fun _ _ _ h => h) (Or.inl ⟨by rfl, ?_⟩) (by assumption) ?_
            rotate_left
            · (intro w hSw; (try dsimp only at hSw); go_simp; (try with_reducible rfl))
            try simp only [Act.put]
            try simp only [List.setIfInBounds_toArray]
            try simp only [List.set_cons_succ, List.set_cons_zero]
            refine wpAnyH_take (i := 3) (oi := { dst := some 24, op := Op.move (Operand.tmp 23), type := 4, pos := "bounds.go:41", after := #[{ on := 2, ground := Ground.data }, { on := 1, ground := Ground.chain }], guard := none }) (v := ?_) rfl (by kernel_rfl) (by kernel_rfl) (by kernel_rfl) (fun _ _ _ h => h) (Or.inl ⟨by rfl, ?_⟩) (by assumption) ?_
            rotate_left
            · (intro w hSw; (try dsimp only at hSw); go_simp; (try with_reducible rfl))
            try simp only [Act.put]
            try simp only [List.setIfInBounds_toArray]
            try simp only [List.set_cons_succ, List.set_cons_zero]
            refine wpAnyH_take (i := 4) (oi := { dst := some 25, op := Op.move (Operand.tmp 3), type := 3, pos := "bounds.go:41", after := #[{ on := 3, ground := Ground.guard }], guard := some (3, false) }) (v := ?_) rfl (by kernel_rfl) (by kernel_rfl) (by kernel_rfl) (fun _ _ _ h => h) (Or.inl ⟨by rfl, ?_⟩) (by assumption) ?_
            rotate_left
            · (intro w hSw; (try dsimp only at hSw); go_simp; (try with_reducible rfl))
            try simp only [Act.put]
            try simp only [List.setIfInBounds_toArray]
            try simp only [List.set_cons_succ, List.set_cons_zero]
            refine wpAnyH_take (i := 5) (oi := { dst := some 26, op := Op.binOp BinOp.gtr 3 (Operand.tmp 25) (Operand.const (Value.int IntKind.i64 0)) 3, type := 4, pos := "bounds.go:41", after := #[{ on := 4, ground := Ground.data }, { on := 3, ground := Ground.guard }], guard := some (3, false) }) (v := ?_) rfl (by kernel_rfl) (by kernel_rfl) (by kernel_rfl) (fun _ _ _ h => h) (Or.inl ⟨by rfl, ?_⟩) (by assumption) ?_
            rotate_left
            · (intro w hSw; (try dsimp only at hSw); go_simp; (try with_reducible rfl))
            try simp only [Act.put]
            try simp only [List.setIfInBounds_toArray]
            try simp only [List.set_cons_succ, List.set_cons_zero]
            refine wpAnyH_take (i := 6) (oi := { dst := some 27, op := Op.move (Operand.tmp 26), type := 4, pos := "bounds.go:41", after := #[{ on := 5, ground := Ground.data }, { on := 3, ground := Ground.chain }, { on := 3, ground := Ground.guard }], guard := some (3, false) }) (v := ?_) rfl (by kernel_rfl) (by kernel_rfl) (by kernel_rfl) (fun _ _ _ h => h) (Or.inl ⟨by rfl, ?_⟩) (by assumption) ?_
            rotate_left
            · (intro w hSw; (try dsimp only at hSw); go_simp; (try with_reducible rfl))
            try simp only [Act.put]
            try simp only [List.setIfInBounds_toArray]
            try simp only [List.set_cons_succ, List.set_cons_zero]
            refine wpAnyH_take (i := 7) (oi := { dst := some 28, op := Op.fieldAddr 63 (Operand.tmp 4) 0, type := 0, pos := "bounds.go:41", after := #[{ on := 6, ground := Ground.guard }], guard := some (6, true) }) (v := ?_) rfl (by kernel_rfl) (by kernel_rfl) (by kernel_rfl) (fun _ _ _ h => h) (Or.inl ⟨by rfl, ?_⟩) (by assumption) ?_
            rotate_left
            · (intro w hSw; (try dsimp only at hSw); go_simp; (try with_reducible rfl))
            try simp only [Act.put]
            try simp only [List.setIfInBounds_toArray]
            try simp only [List.set_cons_succ, List.set_cons_zero]
            refine wpAnyH_take (i := 8) (oi := { dst := some 29, op := Op.load 3 (Operand.tmp 28), type := 3, pos := "bounds.go:41", after := #[{ on := 7, ground := Ground.data }, { on := 6, ground := Ground.guard }], guard := some (6, true) }) (v := ?_) rfl (by kernel_rfl) (by kernel_rfl) (by kernel_rfl) (fun _ _ _ h => h) (Or.inl ⟨by rfl, ?_⟩) (by assumption) ?_
            rotate_left
            · (intro w hSw; (try dsimp only at hSw); go_simp; (try with_reducible rfl))
            try simp only [Act.put]
            try simp only [List.setIfInBounds_toArray]
            try simp only [List.set_cons_succ, List.set_cons_zero]
            refine wpAnyH_take (i := 9) (oi := { dst := some 30, op := Op.fieldAddr 34 (Operand.tmp 1) 1, type := 0, pos := "bounds.go:41", after := #[{ on := 6, ground := Ground.guard }], guard := some (6, true) }) (v := ?_) rfl (by kernel_rfl) (by kernel_rfl) (by kernel_rfl) (fun _ _ _ h => h) (Or.inl ⟨by rfl, ?_⟩) (by assumption) ?_
            rotate_left
            · (intro w hSw; (try dsimp only at hSw); go_simp; (try with_reducible rfl))
            try simp only [Act.put]
            try simp only [List.setIfInBounds_toArray]
            try simp only [List.set_cons_succ, List.set_cons_zero]
            refine wpAnyH_take (i := 10) (oi := { dst := some 31, op := Op.load 32 (Operand.tmp 30), type := 32, pos := "bounds.go:41", after := #[{ on := 9, ground := Ground.data }, { on := 6, ground := Ground.guard }], guard := some (6, true) }) (v := ?_) rfl (by kernel_rfl) (by kernel_rfl) (by kernel_rfl) (fun _ _ _ h => h) (Or.inl ⟨by rfl, ?_⟩) (by assumption) ?_
            rotate_left
            · (intro w hSw; (try dsimp only at hSw); go_simp; (try with_reducible rfl))
            try simp only [Act.put]
            try simp only [List.setIfInBounds_toArray]
            try simp only [List.set_cons_succ, List.set_cons_zero]
            refine wpAnyH_take (i := 11) (oi := { dst := some 32, op := Op.move (Operand.tmp 3), type := 3, pos := "bounds.go:41", after := #[{ on := 6, ground := Ground.guard }], guard := some (6, true) }) (v := ?_) rfl (by kernel_rfl) (by kernel_rfl) (by kernel_rfl) (fun _ _ _ h => h) (Or.inl ⟨by rfl, ?_⟩) (by assumption) ?_
            rotate_left
            · (intro w hSw; (try dsimp only at hSw); go_simp; (try with_reducible rfl))
            try simp only [Act.put]
            try simp only [List.setIfInBounds_toArray]
            try simp only [List.set_cons_succ, List.set_cons_zero]
            refine wpAnyH_take (i := 12) (oi := { dst := some 33, op := Op.binOp BinOp.sub 3 (Operand.tmp 32) (Operand.const (Value.int IntKind.i64 1)) 3, type := 3, pos := "bounds.go:41", after := #[{ on := 11, ground := Ground.data }, { on := 6, ground := Ground.guard }], guard := some (6, true) }) (v := ?_) rfl (by kernel_rfl) (by kernel_rfl) (by kernel_rfl) (fun _ _ _ h => h) (Or.inl ⟨by rfl, ?_⟩) (by assumption) ?_
            rotate_left
            · (intro w hSw; (try dsimp only at hSw); go_simp; (try with_reducible rfl))
            try simp only [Act.put]
            try simp only [List.setIfInBounds_toArray]
            try simp only [List.set_cons_succ, List.set_cons_zero]
            refine wpAnyH_take (i := 13) (oi := { dst := some 34, op := Op.indexAddr 32 (Operand.tmp 31) (Operand.tmp 33), type := 0, pos := "bounds.go:41", after := #[{ on := 10, ground := Ground.data }, { on := 12, ground := Ground.data }, { on := 6, ground := Ground.guard }], guard := some (6, true) }) (v := ?_) rfl (by kernel_rfl) (by kernel_rfl) (by kernel_rfl) (fun _ _ _ h => h) (Or.inl ⟨by rfl, ?_⟩) (by assumption) ?_
            rotate_left
            · (intro w hSw; (try dsimp only at hSw); go_simp; (try with_reducible rfl))
            try simp only [Act.put]
            try simp only [List.setIfInBounds_toArray]
            try simp only [List.set_cons_succ, List.set_cons_zero]
            refine wpAnyH_take (i := 14) (oi := { dst := some 35, op := Op.fieldAddr 63 (Operand.tmp 34) 0, type := 0, pos := "bounds.go:41", after := #[{ on := 13, ground := Ground.data }, { on := 6, ground := Ground.guard }], guard := some (6, true) }) (v := ?_) rfl (by kernel_rfl) (by kernel_rfl) (by kernel_rfl) (fun _ _ _ h => h) (Or.inl ⟨by rfl, ?_⟩) (by assumption) ?_
            rotate_left
            · (intro w hSw; (try dsimp only at hSw); go_simp; (try with_reducible rfl))
            try simp only [Act.put]
            try simp only [List.setIfInBounds_toArray]
            try simp only [List.set_cons_succ, List.set_cons_zero]
            refine wpAnyH_take (i := 15) (oi := { dst := some 36, op := Op.load 3 (Operand.tmp 35), type := 3, pos := "bounds.go:41", after := #[{ on := 14, ground := Ground.data }, { on := 6, ground := Ground.guard }], guard := some (6, true) }) (v := ?_) rfl (by kernel_rfl) (by kernel_rfl) (by kernel_rfl) (fun _ _ _ h => h) (Or.inl ⟨by rfl, ?_⟩) (by assumption) ?_
            rotate_left
            · (intro w hSw; (try dsimp only at hSw); go_simp; (try with_reducible rfl))
            try simp only [Act.put]
            try simp only [List.setIfInBounds_toArray]
            try simp only [List.set_cons_succ, List.set_cons_zero]
            refine wpAnyH_take (i := 16) (oi := { dst := some 37, op := Op.binOp BinOp.leq 3 (Operand.tmp 29) (Operand.tmp 36) 3, type := 4, pos := "bounds.go:41", after := #[{ on := 8, ground := Ground.data }, { on := 15, ground := Ground.data }, { on := 6, ground := Ground.guard }], guard := some (6, true) }) (v := ?_) rfl (by kernel_rfl) (by kernel_rfl) (by kernel_rfl) (fun _ _ _ h => h) (Or.inl ⟨by rfl, ?_⟩) (by assumption) ?_
            rotate_left
            · (intro w hSw; (try dsimp only at hSw); go_simp; (try with_reducible rfl))
            try simp only [Act.put]
            try simp only [List.setIfInBounds_toArray]
            try simp only [List.set_cons_succ, List.set_cons_zero]
            refine wpAnyH_take (i := 17) (oi := { dst := some 38, op := Op.pick (Operand.tmp 27) (Operand.tmp 37) (Operand.const (Value.bool false)), type := 4, pos := "bounds.go:41", after := #[{ on := 6, ground := Ground.data }, { on := 16, ground := Ground.data }, { on := 3, ground := Ground.guard }], guard := some (3, false) }) (v := ?_) rfl (by kernel_rfl) (by kernel_rfl) (by kernel_rfl) (fun _ _ _ h => h) (Or.inl ⟨by rfl, ?_⟩) (by assumption) ?_
            rotate_left
            · (intro w hSw; (try dsimp only at hSw); go_simp; (try with_reducible rfl))
            try simp only [Act.put]
            try simp only [List.setIfInBounds_toArray]
            try simp only [List.set_cons_succ, List.set_cons_zero]
            refine wpAnyH_take (i := 18) (oi := { dst := some 39, op := Op.pick (Operand.tmp 24) (Operand.const (Value.bool true)) (Operand.tmp 38), type := 4, pos := "bounds.go:41", after := #[{ on := 3, ground := Ground.data }, { on := 17, ground := Ground.data }], guard := none }) (v := ?_) rfl (by kernel_rfl) (by kernel_rfl) (by kernel_rfl) (fun _ _ _ h => h) (Or.inl ⟨by rfl, ?_⟩) (by assumption) ?_
            rotate_left
            · (intro w hSw; (try dsimp only at hSw); go_simp; (try with_reducible rfl))
            try simp only [Act.put]
            try simp only [List.setIfInBounds_toArray]
            try simp only [List.set_cons_succ, List.set_cons_zero]
            refine wpAnyH_done (by kernel_rfl) ?_ _
            go_wp2
            go_ret
            exact ⟨ret1 (by rw [H.out]; rfl), (HKW.out.calm2 KA.out).calm2 K1.out⟩
    · have H : Hid (worldB t L = true) := worldB_true t L HT.out (fun j hj _ => HO.out j hj (by omega))
      go_wp2
      go_ret
      exact ⟨ret1 (by rw [H.out]; rfl), HKW.out⟩
end Go.Proofs.YtlfmfhmbkpnjbabGreatDoor
