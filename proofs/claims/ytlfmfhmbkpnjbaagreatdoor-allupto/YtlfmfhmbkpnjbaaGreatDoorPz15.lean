import Derived.Test.YtlfmfhmbkpnjbaaGreatDoorPz13
import Derived.Test.YtlfmfhmbkpnjbaaGreatDoorPz7
import Derived.Test.YtlfmfhmbkpnjbaaGreatDoorPz9
namespace Go.Proofs.YtlfmfhmbkpnjbaaGreatDoor
open Go.RowKit

theorem Kept.of_below {w w' : World} (h : Below w.heap.size w w') : Kept (fun _ => False) w w' := ⟨h.os, h.tape, h.output, h.size, fun k hk _ => h.block k hk⟩
theorem Kept.grow (w : World) (os : Array Obj) : Kept (fun _ => False) w (Go.Sort.grow w os) := ⟨rfl, rfl, rfl, by simp [Go.Sort.grow], fun k hk _ => by simp only [Go.Sort.grow]; exact Array.getElem?_append_left hk⟩

/-- The library's tables that are asked. -/
structure Tabs (w : World) : Prop where
  four : Tab4 w
  pow : Lib.TabIs Tryz.prog w "internal/strconv.uint64pow10" .u64 Lib.pow10Tab
theorem pow_named : Tryz.prog.globalNamed "internal/strconv.uint64pow10" = some 4 := by kernel_rfl
theorem Tabs.keep {w w' : World} {S : Nat → Prop} (h : Tabs w) (k : Kept S w w') (h1 : ¬ S 6) (h2 : ¬ S 4) : Tabs w' := by
  have hp : ∃ cs T fz, w.heap[4]? = some (.cells cs T fz) := by
    have := h.pow
    unfold Lib.TabIs World.var? at this
    rw [pow_named] at this
    simp only [Option.bind_some] at this
    split at this
    · rename_i cs a b e; exact ⟨cs, a, b, e⟩
    · cases this
  obtain ⟨cs, T, fz, hc⟩ := hp
  refine ⟨?_, ?_⟩
  · show _ = _
    rw [cell_keep k (World.block_lt_of_cell? w ⟨6, 15, none⟩ h.four) h1]; exact h.four
  · have := h.pow
    unfold Lib.TabIs World.var? at this ⊢
    rw [pow_named] at this ⊢
    simp only [Option.bind_some] at this ⊢
    rw [k.block _ (heap_lt hc) h2]; exact this
theorem Tabs.pow_lt {w : World} (h : Tabs w) : 4 < w.heap.size := by
  have := h.pow
  unfold Lib.TabIs World.var? at this
  rw [pow_named] at this
  simp only [Option.bind_some] at this
  split at this
  · rename_i cs a b e; exact heap_lt e
  · cases this
theorem Tabs.calm {w w' : World} (h : Tabs w) (k : Kept (fun _ => False) w w') : Tabs w' := h.keep k (fun e => e) (fun e => e)

/-- Words. -/
def itoaW (n : Int) : ByteArray := ⟨(Lib.itoa n).toArray⟩
def hexW (x : Nat) : ByteArray := ⟨(hexL (x % 18446744073709551616)).toArray⟩

set_option maxHeartbeats 1000000 in
set_option maxRecDepth 100000 in
theorem intWord_c (n : Int) (w : World) (h0 : -9223372036854775808 ≤ n ∧ n ≤ 9223372036854775807) (h : Tabs w) :
    Calls Tryz.prog 64 #[.int .i64 n] w fun e w' => e = .returned (.string (itoaW n)) ∧ Kept (fun _ => False) w w' := by
  go_enter Tryz.func64, Tryz.ntmps64
  go_wp2_with fail
  refine (Tryz.strconv_Itoa n h0.1 h0.2 w h.pow).mono ?_
  rintro e w1 ⟨rfl, k, os, rfl⟩
  have K1 := hide ((Kept.drewN w k).calm2 (Kept.grow (w.drewN k) os))
  generalize Go.Sort.grow (w.drewN k) os = w1 at *
  go_wp2
  go_ret
  exact ⟨rfl, K1.out⟩

theorem hexWord_c (x : Nat) (w : World) (h : Tabs w) :
    Calls Tryz.prog 95 #[.float .f32 x] w fun e w' => e = .returned (.string (hexW x)) ∧ Kept (fun _ => False) w w' := floatWord_c x w h.four

def rowS (l : List ByteArray) : List Value := l.map Value.string
/-- Words that stand in a block of their own. -/
def HasW (w : World) (g : Nat) (l : List ByteArray) : Prop := w.heap[g]? = some (.cells (rowS l).toArray 9 (0, 0))

/-- The words of a command. -/
def cmdW (c : Cmd) : List ByteArray :=
  if c.kind = 1 then [itoaW c.kind, itoaW c.id, itoaW c.team, hexW c.x, hexW c.y]
  else if c.kind = 2 then [itoaW c.kind, itoaW c.id, hexW c.x, hexW c.y]
  else if c.kind = 3 then [itoaW c.kind, itoaW c.id, itoaW c.n]
  else if c.kind = 4 then [itoaW c.kind, itoaW c.id]
  else [itoaW c.kind]

/-- A command whose numbers are ints. -/
structure IntC (c : Cmd) : Prop where
  kind : -9223372036854775808 ≤ c.kind ∧ c.kind ≤ 9223372036854775807
  id : -9223372036854775808 ≤ c.id ∧ c.id ≤ 9223372036854775807
  team : -9223372036854775808 ≤ c.team ∧ c.team ≤ 9223372036854775807
  n : -9223372036854775808 ≤ c.n ∧ c.n ≤ 9223372036854775807
/-- Its numbers with a point are words of 32 bits. -/
structure F32C (c : Cmd) : Prop where
  x : c.x < 4294967296
  y : c.y < 4294967296


set_option maxHeartbeats 2000000 in
set_option maxRecDepth 100000 in
theorem cmdW_c (c : Cmd) (w : World) (hI : IntC c) (h : Tabs w) :
    Calls Tryz.prog 66 #[.agg #[.int .i64 c.kind, .int .i64 c.id, .int .i64 c.team, .float .f32 c.x, .float .f32 c.y, .int .i64 c.n]] w fun e w' =>
      ∃ g, e = .returned (.slice (some ⟨g, 0, none⟩) (cmdW c).length (cmdW c).length) ∧ w.heap.size ≤ g ∧ HasW w' g (cmdW c) ∧ Kept (fun _ => False) w w' := by
  have HT := hide h
  have HI := hide hI
  clear h hI
  have K0 := hide (Kept.alloc w (.cells #[.int .i64 c.kind, .int .i64 c.id, .int .i64 c.team, .float .f32 c.x, .float .f32 c.y, .int .i64 c.n] 57))
  have HN := hide (heap_alloc_new w (.cells #[.int .i64 c.kind, .int .i64 c.id, .int .i64 c.team, .float .f32 c.x, .float .f32 c.y, .int .i64 c.n] 57))
  go_enter Tryz.func66, Tryz.ntmps66
  go_wp2
  generalize w.alloc (.cells #[.int .i64 c.kind, .int .i64 c.id, .int .i64 c.team, .float .f32 c.x, .float .f32 c.y, .int .i64 c.n] 57) = wa at *
  have hb := heap_lt HN.out
  have CE : Hid (∀ w', Kept (fun _ => False) wa w' → w'.cell? ⟨w.heap.size, 0, none⟩ = some (.int .i64 c.kind) ∧ w'.cell? ⟨w.heap.size, 1, none⟩ = some (.int .i64 c.id) ∧ w'.cell? ⟨w.heap.size, 2, none⟩ = some (.int .i64 c.team) ∧ w'.cell? ⟨w.heap.size, 3, none⟩ = some (.float .f32 c.x) ∧ w'.cell? ⟨w.heap.size, 4, none⟩ = some (.float .f32 c.y) ∧ w'.cell? ⟨w.heap.size, 5, none⟩ = some (.int .i64 c.n)) := fun w' hk => six_cells (show w'.heap[w.heap.size]? = some _ by rw [hk.block _ hb (fun e => e)]; exact HN.out)
  obtain ⟨s0, s1, s2, s3, s4, s5⟩ := CE.out wa (Kept.refl _ _)
  go_region_held3 (fun w' => w'.cell? ⟨w.heap.size, 0, none⟩ = some (.int .i64 c.kind) ∧ w'.cell? ⟨w.heap.size, 1, none⟩ = some (.int .i64 c.id)) (go_keep)
    (first
      | (go_at_call 64; refine (intWord_c c.kind _ HI.out.kind (HT.out.calm (K0.out.calm2 (Kept.drew wa)))).mono ?_; rintro e w1 ⟨rfl, qw1⟩; have Kw1 := hide ((Kept.drew wa).calm2 qw1); clear qw1; obtain ⟨w1a, w1b, w1c, w1d, w1e, w1f⟩ := CE.out w1 Kw1.out)
      | (go_at_call 64; refine (intWord_c c.id _ HI.out.id (HT.out.calm (K0.out.calm2 Kw1.out))).mono ?_; rintro e w2 ⟨rfl, qw2⟩; have Kw2 := hide (Kw1.out.calm2 qw2); clear qw2; obtain ⟨w2a, w2b, w2c, w2d, w2e, w2f⟩ := CE.out w2 Kw2.out))
  clear s0 s1 s2 s3 s4 s5
  clear w1a w1b w1c w1d w1e w1f
  have hs2 := Kw2.out.size
  have hs0 := K0.out.size
  by_cases h1 : c.kind = 1
  · have e1 : (c.kind == 1) = true := by simp [h1]
    have HW : Hid (cmdW c = [itoaW c.kind, itoaW c.id, itoaW c.team, hexW c.x, hexW c.y]) := by show _ = _; unfold cmdW; rw [if_pos h1]
    clear h1
    go_wp2
    go_region_held3 (fun w' => w'.cell? ⟨w.heap.size, 2, none⟩ = some (.int .i64 c.team) ∧ w'.cell? ⟨w.heap.size, 3, none⟩ = some (.float .f32 c.x) ∧ w'.cell? ⟨w.heap.size, 4, none⟩ = some (.float .f32 c.y)) (go_keep)
      (first
      | (go_at_call 64; refine (intWord_c c.team _ HI.out.team (HT.out.calm (K0.out.calm2 (Kw2.out.calm2 (Kept.drew w2))))).mono ?_; rintro e w3 ⟨rfl, qw3⟩; have Kw3 := hide ((Kw2.out.calm2 (Kept.drew w2)).calm2 qw3); clear qw3; obtain ⟨w3a, w3b, w3c, w3d, w3e, w3f⟩ := CE.out w3 Kw3.out)
      | (go_at_call 95; refine (hexWord_c c.x _ (HT.out.calm (K0.out.calm2 Kw3.out))).mono ?_; rintro e w4 ⟨rfl, qw4⟩; have Kw4 := hide (Kw3.out.calm2 qw4); clear qw4; obtain ⟨w4a, w4b, w4c, w4d, w4e, w4f⟩ := CE.out w4 Kw4.out)
      | (go_at_call 95; refine (hexWord_c c.y _ (HT.out.calm (K0.out.calm2 Kw4.out))).mono ?_; rintro e w5 ⟨rfl, qw5⟩; have Kw5 := hide (Kw4.out.calm2 qw5); clear qw5; obtain ⟨w5a, w5b, w5c, w5d, w5e, w5f⟩ := CE.out w5 Kw5.out))
    clear w2a w2b w2c w2d w2e w2f w3a w3b w3c w3d w3e w3f w4a w4b w4c w4d w4e w4f w5a w5b w5c w5d w5e w5f
    have hs5 := Kw5.out.size
    go_wp2
    go_ret
    rw [HW.out]
    exact ⟨w5.heap.size, rfl, by omega, heap_alloc_new w5 _, (K0.out.calm2 Kw5.out).calm2 (Kept.alloc w5 _)⟩
  · have e1 : (c.kind == 1) = false := by simp [h1]
    by_cases h2 : c.kind = 2
    · have e2 : (c.kind == 2) = true := by simp [h2]
      have HW : Hid (cmdW c = [itoaW c.kind, itoaW c.id, hexW c.x, hexW c.y]) := by show _ = _; unfold cmdW; rw [if_neg h1, if_pos h2]
      clear h1 h2
      go_wp2
      go_region_held3 (fun w' => w'.cell? ⟨w.heap.size, 3, none⟩ = some (.float .f32 c.x) ∧ w'.cell? ⟨w.heap.size, 4, none⟩ = some (.float .f32 c.y)) (go_keep)
        (first
      | (go_at_call 95; refine (hexWord_c c.x _ (HT.out.calm (K0.out.calm2 (Kw2.out.calm2 (Kept.drew w2))))).mono ?_; rintro e w3 ⟨rfl, qw3⟩; have Kw3 := hide ((Kw2.out.calm2 (Kept.drew w2)).calm2 qw3); clear qw3; obtain ⟨w3a, w3b, w3c, w3d, w3e, w3f⟩ := CE.out w3 Kw3.out)
      | (go_at_call 95; refine (hexWord_c c.y _ (HT.out.calm (K0.out.calm2 Kw3.out))).mono ?_; rintro e w4 ⟨rfl, qw4⟩; have Kw4 := hide (Kw3.out.calm2 qw4); clear qw4; obtain ⟨w4a, w4b, w4c, w4d, w4e, w4f⟩ := CE.out w4 Kw4.out))
      clear w2a w2b w2c w2d w2e w2f w3a w3b w3c w3d w3e w3f w4a w4b w4c w4d w4e w4f
      have hs5 := Kw4.out.size
      go_wp2
      go_ret
      rw [HW.out]
      exact ⟨w4.heap.size, rfl, by omega, heap_alloc_new w4 _, (K0.out.calm2 Kw4.out).calm2 (Kept.alloc w4 _)⟩
    · have e2 : (c.kind == 2) = false := by simp [h2]
      by_cases h3 : c.kind = 3
      · have e3 : (c.kind == 3) = true := by simp [h3]
        have HW : Hid (cmdW c = [itoaW c.kind, itoaW c.id, itoaW c.n]) := by show _ = _; unfold cmdW; rw [if_neg h1, if_neg h2, if_pos h3]
        clear h1 h2 h3
        go_wp2_with fail
        refine (intWord_c c.n w2 HI.out.n (HT.out.calm (K0.out.calm2 Kw2.out))).mono ?_
        rintro e w3 ⟨rfl, q3⟩
        have K3 := hide (Kw2.out.calm2 q3)
        clear q3
        clear w2a w2b w2c w2d w2e w2f
        have hs5 := K3.out.size
        go_wp2
        go_ret
        rw [HW.out]
        exact ⟨w3.heap.size, rfl, by omega, heap_alloc_new w3 _, (K0.out.calm2 K3.out).calm2 (Kept.alloc w3 _)⟩
      · have e3 : (c.kind == 3) = false := by simp [h3]
        by_cases h4 : c.kind = 4
        · have e4 : (c.kind == 4) = true := by simp [h4]
          have HW : Hid (cmdW c = [itoaW c.kind, itoaW c.id]) := by show _ = _; unfold cmdW; rw [if_neg h1, if_neg h2, if_neg h3, if_pos h4]
          clear h1 h2 h3 h4
          go_wp2
          go_ret
          rw [HW.out]
          exact ⟨w2.heap.size, rfl, by omega, heap_alloc_new w2 _, (K0.out.calm2 Kw2.out).calm2 (Kept.alloc w2 _)⟩
        · have e4 : (c.kind == 4) = false := by simp [h4]
          have HW : Hid (cmdW c = [itoaW c.kind]) := by show _ = _; unfold cmdW; rw [if_neg h1, if_neg h2, if_neg h3, if_neg h4]
          clear h1 h2 h3 h4
          go_wp2
          go_ret
          rw [HW.out]
          exact ⟨w2.heap.size, rfl, by omega, heap_alloc_new w2 _, (K0.out.calm2 Kw2.out).calm2 (Kept.alloc w2 _)⟩

/-- The words of an entity. -/
def entW (m : Mob) : List ByteArray := [itoaW m.id, itoaW m.team, hexW m.x, hexW m.y, hexW m.vx, hexW m.vy, itoaW m.health]
structure IntM (m : Mob) : Prop where
  id : -9223372036854775808 ≤ m.id ∧ m.id ≤ 9223372036854775807
  team : -9223372036854775808 ≤ m.team ∧ m.team ≤ 9223372036854775807
  health : -9223372036854775808 ≤ m.health ∧ m.health ≤ 9223372036854775807

set_option maxHeartbeats 4000000 in
set_option maxRecDepth 100000 in
theorem entW_c (m : Mob) (w : World) (hI : IntM m) (h : Tabs w) :
    Calls Tryz.prog 67 #[.agg #[.int .i64 m.id, .int .i64 m.team, .float .f32 m.x, .float .f32 m.y, .float .f32 m.vx, .float .f32 m.vy, .int .i64 m.health]] w fun e w' =>
      ∃ g, e = .returned (.slice (some ⟨g, 0, none⟩) (entW m).length (entW m).length) ∧ w.heap.size ≤ g ∧ HasW w' g (entW m) ∧ Kept (fun _ => False) w w' := by
  have HT := hide h
  have HI := hide hI
  clear h hI
  have K0 := hide (Kept.alloc w (.cells #[.int .i64 m.id, .int .i64 m.team, .float .f32 m.x, .float .f32 m.y, .float .f32 m.vx, .float .f32 m.vy, .int .i64 m.health] 83))
  have HN := hide (heap_alloc_new w (.cells #[.int .i64 m.id, .int .i64 m.team, .float .f32 m.x, .float .f32 m.y, .float .f32 m.vx, .float .f32 m.vy, .int .i64 m.health] 83))
  go_enter Tryz.func67, Tryz.ntmps67
  go_wp2
  generalize w.alloc (.cells #[.int .i64 m.id, .int .i64 m.team, .float .f32 m.x, .float .f32 m.y, .float .f32 m.vx, .float .f32 m.vy, .int .i64 m.health] 83) = wa at *
  have hb := heap_lt HN.out
  have CE : Hid (∀ w', Kept (fun _ => False) wa w' → w'.cell? ⟨w.heap.size, 0, none⟩ = some (.int .i64 m.id) ∧ w'.cell? ⟨w.heap.size, 1, none⟩ = some (.int .i64 m.team) ∧ w'.cell? ⟨w.heap.size, 2, none⟩ = some (.float .f32 m.x) ∧ w'.cell? ⟨w.heap.size, 3, none⟩ = some (.float .f32 m.y) ∧ w'.cell? ⟨w.heap.size, 4, none⟩ = some (.float .f32 m.vx) ∧ w'.cell? ⟨w.heap.size, 5, none⟩ = some (.float .f32 m.vy) ∧ w'.cell? ⟨w.heap.size, 6, none⟩ = some (.int .i64 m.health)) := fun w' hk => seven_cells (show w'.heap[w.heap.size]? = some _ by rw [hk.block _ hb (fun e => e)]; exact HN.out)
  obtain ⟨s0, s1, s2, s3, s4, s5, s6⟩ := CE.out wa (Kept.refl _ _)
  go_region_held3 (fun w' => w'.cell? ⟨w.heap.size, 0, none⟩ = some (.int .i64 m.id) ∧ w'.cell? ⟨w.heap.size, 1, none⟩ = some (.int .i64 m.team) ∧ w'.cell? ⟨w.heap.size, 2, none⟩ = some (.float .f32 m.x) ∧ w'.cell? ⟨w.heap.size, 3, none⟩ = some (.float .f32 m.y) ∧ w'.cell? ⟨w.heap.size, 4, none⟩ = some (.float .f32 m.vx) ∧ w'.cell? ⟨w.heap.size, 5, none⟩ = some (.float .f32 m.vy) ∧ w'.cell? ⟨w.heap.size, 6, none⟩ = some (.int .i64 m.health)) (go_keep)
    (first
      | (go_at_call 64; refine (intWord_c m.id _ HI.out.id (HT.out.calm (K0.out.calm2 (Kept.drew wa)))).mono ?_; rintro e w1 ⟨rfl, qw1⟩; have Kw1 := hide ((Kept.drew wa).calm2 qw1); clear qw1; obtain ⟨w1a, w1b, w1c, w1d, w1e, w1f, w1g⟩ := CE.out w1 Kw1.out)
      | (go_at_call 64; refine (intWord_c m.team _ HI.out.team (HT.out.calm (K0.out.calm2 Kw1.out))).mono ?_; rintro e w2 ⟨rfl, qw2⟩; have Kw2 := hide (Kw1.out.calm2 qw2); clear qw2; obtain ⟨w2a, w2b, w2c, w2d, w2e, w2f, w2g⟩ := CE.out w2 Kw2.out)
      | (go_at_call 95; refine (hexWord_c m.x _ (HT.out.calm (K0.out.calm2 Kw2.out))).mono ?_; rintro e w3 ⟨rfl, qw3⟩; have Kw3 := hide (Kw2.out.calm2 qw3); clear qw3; obtain ⟨w3a, w3b, w3c, w3d, w3e, w3f, w3g⟩ := CE.out w3 Kw3.out)
      | (go_at_call 95; refine (hexWord_c m.y _ (HT.out.calm (K0.out.calm2 Kw3.out))).mono ?_; rintro e w4 ⟨rfl, qw4⟩; have Kw4 := hide (Kw3.out.calm2 qw4); clear qw4; obtain ⟨w4a, w4b, w4c, w4d, w4e, w4f, w4g⟩ := CE.out w4 Kw4.out)
      | (go_at_call 95; refine (hexWord_c m.vx _ (HT.out.calm (K0.out.calm2 Kw4.out))).mono ?_; rintro e w5 ⟨rfl, qw5⟩; have Kw5 := hide (Kw4.out.calm2 qw5); clear qw5; obtain ⟨w5a, w5b, w5c, w5d, w5e, w5f, w5g⟩ := CE.out w5 Kw5.out)
      | (go_at_call 95; refine (hexWord_c m.vy _ (HT.out.calm (K0.out.calm2 Kw5.out))).mono ?_; rintro e w6 ⟨rfl, qw6⟩; have Kw6 := hide (Kw5.out.calm2 qw6); clear qw6; obtain ⟨w6a, w6b, w6c, w6d, w6e, w6f, w6g⟩ := CE.out w6 Kw6.out)
      | (go_at_call 64; refine (intWord_c m.health _ HI.out.health (HT.out.calm (K0.out.calm2 Kw6.out))).mono ?_; rintro e w7 ⟨rfl, qw7⟩; have Kw7 := hide (Kw6.out.calm2 qw7); clear qw7; obtain ⟨w7a, w7b, w7c, w7d, w7e, w7f, w7g⟩ := CE.out w7 Kw7.out))
  clear s0 s1 s2 s3 s4 s5 s6
  clear w1a w1b w1c w1d w1e w1f w1g
  clear w2a w2b w2c w2d w2e w2f w2g
  clear w3a w3b w3c w3d w3e w3f w3g
  clear w4a w4b w4c w4d w4e w4f w4g
  clear w5a w5b w5c w5d w5e w5f w5g
  clear w6a w6b w6c w6d w6e w6f w6g
  clear w7a w7b w7c w7d w7e w7f w7g
  have hs7 := Kw7.out.size
  have hs0 := K0.out.size
  go_wp2
  go_ret
  exact ⟨w7.heap.size, rfl, by omega, heap_alloc_new w7 _, (K0.out.calm2 Kw7.out).calm2 (Kept.alloc w7 _)⟩
end Go.Proofs.YtlfmfhmbkpnjbaaGreatDoor

namespace Go.Proofs.YtlfmfhmbkpnjbaaGreatDoor
open Go.RowKit

theorem decDigits_short (k u : Nat) (hk : 1 ≤ k) (h : u < 10 ^ k) : (Lib.decDigits u).length ≤ k := by
  induction k generalizing u with
  | zero => omega
  | succ k ih =>
    rw [Lib.decDigits]
    split
    · simp
    · rename_i hu
      have hk' : 1 ≤ k := by
        by_cases e : 1 ≤ k
        · exact e
        · have : k = 0 := by omega
          subst this
          simp at h
          omega
      have := ih (u / 10) hk' (Nat.div_lt_of_lt_mul (by rw [Nat.pow_succ, Nat.mul_comm] at h; exact h))
      simp
      omega
theorem hexL_short (k u : Nat) (hk : 1 ≤ k) (h : u < 16 ^ k) : (hexL u).length ≤ k := by
  induction k generalizing u with
  | zero => omega
  | succ k ih =>
    rw [hexL_eq]
    split
    · simp
    · rename_i hu
      have hk' : 1 ≤ k := by
        by_cases e : 1 ≤ k
        · exact e
        · have : k = 0 := by omega
          subst this
          simp at h
          omega
      have := ih (u / 16) hk' (Nat.div_lt_of_lt_mul (by rw [Nat.pow_succ, Nat.mul_comm] at h; exact h))
      simp
      omega

/-- A word is short. -/
def Short (x : ByteArray) : Prop := x.data.toList.length ≤ 24
theorem itoaW_short (n : Int) (h : -9223372036854775808 ≤ n ∧ n ≤ 9223372036854775807) : Short (itoaW n) := by
  unfold Short itoaW Lib.itoa
  simp only
  split
  · have := decDigits_short 20 n.natAbs (by decide) (by
      have h1 : n.natAbs < 10000000000000000000 := by omega
      exact Nat.lt_of_lt_of_le h1 (by decide))
    simp
    omega
  · have := decDigits_short 20 n.toNat (by decide) (by
      have h1 : n.toNat < 10000000000000000000 := by omega
      exact Nat.lt_of_lt_of_le h1 (by decide))
    simp
    omega
theorem hexW_short (x : Nat) : Short (hexW x) := by
  unfold Short hexW
  have := hexL_short 16 (x % 18446744073709551616) (by decide) (Nat.mod_lt _ (by decide))
  simp
  omega
theorem cmdW_short (c : Cmd) (h : IntC c) : ∀ x ∈ cmdW c, Short x := by
  have h1 := itoaW_short c.kind h.kind
  have h2 := itoaW_short c.id h.id
  have h3 := itoaW_short c.team h.team
  have h4 := itoaW_short c.n h.n
  have h5 := hexW_short c.x
  have h6 := hexW_short c.y
  unfold cmdW
  split
  · simp [h1, h2, h3, h5, h6]
  · split
    · simp [h1, h2, h5, h6]
    · split
      · simp [h1, h2, h4]
      · split
        · simp [h1, h2]
        · simp [h1]
theorem entW_short (m : Mob) (h : IntM m) : ∀ x ∈ entW m, Short x := by
  have h1 := itoaW_short m.id h.id
  have h2 := itoaW_short m.team h.team
  have h3 := itoaW_short m.health h.health
  unfold entW
  simp [h1, h2, h3, hexW_short]
theorem cmdW_few (c : Cmd) : (cmdW c).length ≤ 5 := by
  unfold cmdW
  split
  · simp
  · split
    · simp
    · split
      · simp
      · split <;> simp

theorem cmdW_pos (c : Cmd) : 0 < (cmdW c).length := by
  unfold cmdW
  split
  · simp
  · split
    · simp
    · split
      · simp
      · split <;> simp

/-- A line. -/
def lineL (xs : List ByteArray) : List UInt8 := Lib.join (xs.map (·.data.toList)) [32] ++ [10]
theorem join_short (xs : List ByteArray) (h : ∀ x ∈ xs, Short x) : (Lib.join (xs.map (·.data.toList)) [32]).length ≤ xs.length * 25 := by
  cases xs with
  | nil => simp [Lib.join_nil]
  | cons x r =>
    rw [List.map_cons, Lib.join_cons, List.length_append]
    have hx : x.data.toList.length ≤ 24 := h x (by simp)
    have hr : (Lib.joinTail [32] (r.map (·.data.toList))).length ≤ r.length * 25 := by
      have hr' : ∀ y ∈ r, Short y := fun y hy => h y (by simp [hy])
      clear h hx
      unfold Lib.joinTail
      induction r with
      | nil => simp
      | cons y q ih =>
        have hy : y.data.toList.length ≤ 24 := hr' y (by simp)
        have := ih (fun z hz => hr' z (by simp [hz]))
        simp only [List.map_cons, List.flatten_cons, List.length_append, List.length_cons, List.length_nil] at this ⊢
        omega
    simp only [List.length_cons]
    omega

theorem rowS_length (l : List ByteArray) : (rowS l).length = l.length := by simp [rowS]
theorem rowS_append (a b : List ByteArray) : rowS (a ++ b) = rowS a ++ rowS b := by simp [rowS]
theorem rowS_one (l : List ByteArray) : ∀ u ∈ rowS l, u.oneCell' = true := by
  intro u hu
  simp only [rowS, List.mem_map] at hu
  obtain ⟨x, _, rfl⟩ := hu
  rfl
theorem info_str : (Tryz.prog.info? 9).map (fun i => (i.zero, i.size, i.bytes)) = some (some (.string ⟨#[]⟩), 1, 16) := by kernel_rfl

theorem ba_append (a b : List UInt8) : (⟨a.toArray⟩ : ByteArray) ++ ⟨b.toArray⟩ = ⟨(a ++ b).toArray⟩ := by
  apply ByteArray.ext
  simp [ByteArray.data_append]

set_option maxHeartbeats 1000000 in
set_option maxRecDepth 100000 in
theorem line_c (g cap : Nat) (xs : List ByteArray) (w : World) (h : ∀ j x, xs[j]? = some x → w.cell? ⟨g, j, none⟩ = some (.string x)) (hg : g < w.heap.size) (hn : xs.length ≤ 1000) (hcap : xs.length ≤ cap) (hs : ∀ x ∈ xs, Short x) :
    Calls Tryz.prog 63 #[.slice (some ⟨g, 0, none⟩) xs.length cap] w fun e w' => e = .returned (.string ⟨(lineL xs).toArray⟩) ∧ Kept (fun _ => False) w w' := by
  have hj := join_short xs hs
  have HJ := hide (Tryz.strings_Join g 0 cap xs ⟨#[32]⟩ w (fun j x hx => by rw [Nat.zero_add]; exact h j x hx) hg (by omega) hcap (by show (Lib.join (xs.map (·.data.toList)) [32]).length ≤ _; omega))
  go_enter Tryz.func63, Tryz.ntmps63
  go_wp2_with fail
  refine HJ.out.mono ?_
  rintro e w1 ⟨rfl, b1⟩
  have K1 := hide (Kept.of_below b1)
  clear b1 HJ
  go_wp2
  go_ret
  exact ⟨ret1 (congrArg Value.string (ba_append _ [10])), K1.out⟩

/-- The first line. -/
def firstW (ev : Int) : List ByteArray := [⟨#[101, 110, 99, 111, 114, 101]⟩, itoaW ev]

set_option maxHeartbeats 1000000 in
set_option maxRecDepth 100000 in
theorem firstLine_c (ev : Int) (w : World) (he : 1 ≤ ev ∧ ev ≤ 64) (h : Tabs w) :
    Calls Tryz.prog 36 #[.int .i64 ev] w fun e w' => e = .returned (.string ⟨(lineL (firstW ev)).toArray⟩) ∧ Kept (fun _ => False) w w' := by
  go_enter Tryz.func36, Tryz.ntmps36
  go_wp2_with fail
  refine (intWord_c ev w (by omega) h).mono ?_
  rintro e w1 ⟨rfl, k1⟩
  have K1 := hide k1
  clear k1
  have HB := heap_alloc_new w1 (.cells (rowS (firstW ev)).toArray 9)
  have HL := hide (line_c w1.heap.size 2 (firstW ev) (w1.alloc (.cells (rowS (firstW ev)).toArray 9)) (fun j x hx => by rw [cell_block HB]; simp [rowS, hx]) (by simp) (by simp [firstW]) (by simp [firstW]) (by
    intro x hx
    simp only [firstW, List.mem_cons, List.not_mem_nil, or_false] at hx
    rcases hx with rfl | rfl
    · show (6 : Nat) ≤ 24; decide
    · exact itoaW_short ev (by omega)))
  have K2 := hide (K1.out.calm2 (Kept.alloc w1 (.cells (rowS (firstW ev)).toArray 9)))
  clear HB
  go_wp2_with fail
  refine HL.out.mono ?_
  rintro e w2 ⟨rfl, k2⟩
  have K3 := hide (K2.out.calm2 k2)
  clear k2 HL
  go_wp2
  go_ret
  exact ⟨rfl, K3.out⟩

/-- The words of a tick. -/
def headW (cs : List Cmd) : List ByteArray := itoaW cs.length :: cs.flatMap cmdW
def tickW (cs : List Cmd) (t : Int) (L : List Mob) (ev : Int) : List ByteArray := headW cs ++ (if t % ev = 0 then itoaW L.length :: L.flatMap entW else [])

theorem words_take {α : Type} (L : List α) (f : α → List ByteArray) (i : Nat) (hi : i < L.length) : (L.take (i + 1)).flatMap f = (L.take i).flatMap f ++ f L[i] := by
  rw [List.take_succ_eq_append_getElem hi, List.flatMap_append]
  simp
theorem words_len {α : Type} (L : List α) (f : α → List ByteArray) (k : Nat) (h : ∀ x ∈ L, (f x).length ≤ k) : (L.flatMap f).length ≤ L.length * k := by
  induction L with
  | nil => simp
  | cons x r ih =>
    have h1 := h x (by simp)
    have h2 := ih (fun y hy => h y (by simp [hy]))
    simp only [List.flatMap_cons, List.length_append, List.length_cons]
    rw [Nat.add_mul]
    omega

/-- Words of one's own. -/
def OwnS (w : World) (base g cap : Nat) (X : List ByteArray) : Prop := w.ownsRow base 9 1 (.slice (some ⟨g, 0, none⟩) X.length cap) X.length (rowS X)
theorem OwnS.keep {w w' : World} {S : Nat → Prop} {base g cap : Nat} {X : List ByteArray} (h : OwnS w base g cap X) (k : Kept S w w') (hS : ¬ S g) : OwnS w' base g cap X :=
  owns_block h (fun j hj => k.block j (owns_lt h j hj) (by cases hj; exact hS))
theorem OwnS.calm {w w' : World} {base g cap : Nat} {X : List ByteArray} (h : OwnS w base g cap X) (k : Kept (fun _ => False) w w') : OwnS w' base g cap X := h.keep k (fun e => e)
theorem OwnS.new (w : World) (base : Nat) (X : List ByteArray) (hb : base ≤ w.heap.size) (hn : X.length ≤ 1000) : OwnS (w.alloc (.cells (rowS X).toArray 9)) base w.heap.size X.length X :=
  ⟨by simp [rowS], Or.inr ⟨w.heap.size, X.length, (rowS X).toArray, rfl, hb, heap_alloc_new w _, Nat.le_refl _, by unfold maxLen; omega, by simp [rowS], by simp only [Nat.mul_one]; exact List.take_of_length_le (by simp [rowS])⟩⟩
theorem OwnS.cells {w : World} {base g cap : Nat} {X : List ByteArray} (h : OwnS w base g cap X) : (∀ j x, X[j]? = some x → w.cell? ⟨g, j, none⟩ = some (.string x)) ∧ g < w.heap.size ∧ X.length ≤ cap ∧ base ≤ g := by
  rcases h.2 with ⟨e, _⟩ | ⟨g', c', cur, e, hb, hh, hc, _, _, ht⟩
  · cases e
  · cases e
    refine ⟨fun j x hx => ?_, heap_lt hh, hc, hb⟩
    have h1 : (rowS X)[j]? = some (.string x) := by simp [rowS, hx]
    rw [← ht, List.getElem?_take] at h1
    split at h1
    · rw [cell_block hh]; simpa using h1
    · cases h1

/-- Words more. -/
theorem wpList_append_words (w : World) {ops : Array Oper} {rest : List Oper} {o : Oper} {a : Act} {Q : Exit → Act → World → Prop} (hgd : o.guard = none) (s x : Operand)
    (ho : o.op = .call { callee := .builtin .append, args := #[s, x], argTypes := #[139, 139] }) (base g cap : Nat) (X : List ByteArray) (hs : a.eval s = .slice (some ⟨g, 0, none⟩) X.length cap) (hown : OwnS w base g cap X)
    (g2 c2 : Nat) (Y : List ByteArray) (hx : a.eval x = .slice (some ⟨g2, 0, none⟩) Y.length c2) (hY : HasW w g2 Y) (hb : X.length + Y.length ≤ 1000) (hpos : 0 < Y.length) (hbase : base ≤ w.heap.size)
    (h : ∀ g' cap' w' R, Hid (R = X ++ Y) → Hid (OwnS w' base g' cap' R) → Hid (Kept (fun k => k = g) w w') → wpList Tryz.prog ops Q rest (a.put o.dst (.slice (some ⟨g', 0, none⟩) R.length cap')) w') :
    wpList Tryz.prog ops Q (o :: rest) a w := by
  obtain ⟨i0, hi, hz0, hz1, hz2⟩ := info_parts info_str
  refine wpList_append_at w hgd s x 139 ho base 9 i0 _ 1 16 Tryz.underlying139 hi hz0 hz1 hz2 rfl (by decide) _ X.length (rowS X) hs hown ⟨g2, 0, none⟩ Y.length c2 (rowS Y) hx (by simp [rowS]) (fun j u hu => by rw [addr_add2, Nat.zero_add, cell_block hY]; simpa using hu) (rowS_one Y) hpos (by unfold maxLen; omega) (by omega) hbase ?_
  intro g' cap' w' hown' hgr
  have e : (X ++ Y).length = X.length + Y.length := List.length_append
  have := h g' cap' w' (X ++ Y) rfl (by show World.ownsRow _ _ _ _ _ _ _; rw [e, rowS_append]; exact hown') ((Kept.of_grown hgr).mono (fun k _ e => by cases e; rfl) : Kept _ _ _)
  rw [e] at this
  exact this
end Go.Proofs.YtlfmfhmbkpnjbaaGreatDoor

namespace Go.Proofs.YtlfmfhmbkpnjbaaGreatDoor
open Go.RowKit

theorem ReadsC.calm1 {w w' : World} {p : Option Addr} {L : List Cmd} (h : ReadsC w p L) (hk : Kept (fun _ => False) w w') : ReadsC w' p L := h.keep hk (fun _ _ _ _ e => e)

theorem headW_short (cs : List Cmd) (hn : cs.length ≤ 64) (h : ∀ c ∈ cs, IntC c) (i : Nat) : (∀ x ∈ itoaW cs.length :: (cs.take i).flatMap cmdW, Short x) ∧ (itoaW cs.length :: (cs.take i).flatMap cmdW).length ≤ 321 := by
  constructor
  · intro x hx
    rcases List.mem_cons.1 hx with rfl | hx
    · exact itoaW_short _ (by omega)
    · obtain ⟨c, hc, hx⟩ := List.mem_flatMap.1 hx
      exact cmdW_short c (h c (List.mem_of_mem_take hc)) x hx
  · have := words_len (cs.take i) cmdW 5 (fun c _ => cmdW_few c)
    rw [List.length_take] at this
    simp only [List.length_cons]
    have : min i cs.length * 5 ≤ 64 * 5 := Nat.mul_le_mul_right 5 (by omega)
    omega

set_option maxHeartbeats 4000000 in
set_option maxRecDepth 100000 in
theorem tickLine_c (pc : Option Addr) (capc : Nat) (cs : List Cmd) (t : Int) (p : Option Addr) (cap : Nat) (L : List Mob) (ev : Int) (w : World) (hn : cs.length ≤ 64) (hl : L.length ≤ 32) (hC : ReadsC w pc cs) (hR : Reads w p L) (hIC : ∀ c ∈ cs, IntC c) (hIM : ∀ m ∈ L, IntM m) (he : 1 ≤ ev ∧ ev ≤ 64) (ht : 0 ≤ t ∧ t ≤ 500) (hT : Tabs w) :
    Calls Tryz.prog 39 #[.slice pc cs.length capc, .agg #[.int .i64 t, .slice p L.length cap], .int .i64 ev] w fun e w' => e = .returned (.string ⟨(lineL (tickW cs t L ev)).toArray⟩) ∧ Kept (fun _ => False) w w' := by
  have hsf := store_float Tryz.prog
  have HC := hide hC
  have HR := hide hR
  have HIC := hide hIC
  have HIM := hide hIM
  have HT := hide hT
  have hev : (ev == 0) = false := by simp; omega
  have hev0 : ev ≠ 0 := by omega
  clear hC hR hIC hIM hT
  have K0 := hide (Kept.alloc w (.cells #[.int .i64 t, .slice p L.length cap] 38))
  have HB := hide (heap_alloc_new w (.cells #[.int .i64 t, .slice p L.length cap] 38))
  go_enter Tryz.func39, Tryz.ntmps39
  go_wp2_with fail
  generalize w.alloc (.cells #[.int .i64 t, .slice p L.length cap] 38) = W at *
  have hWb := heap_lt HB.out
  refine (intWord_c (cs.length : Int) W (by omega) (HT.out.calm K0.out)).mono ?_
  rintro e w1 ⟨rfl, k1⟩
  have K1 := hide k1
  clear k1
  have O1 := hide (OwnS.new w1 w1.heap.size [itoaW cs.length] (Nat.le_refl _) (by simp))
  have KA := hide (Kept.alloc w1 (.cells (rowS [itoaW cs.length]).toArray 9))
  go_wp2
  go_loopw [7, 18] (fun s a wr => ∃ i g cp, ∃ X : List ByteArray, i ≤ cs.length ∧ a = .int .i64 (i : Nat) ∧ s = .slice (some ⟨g, 0, none⟩) X.length cp ∧ Hid (X = itoaW cs.length :: (cs.take i).flatMap cmdW) ∧ Hid (OwnS wr w1.heap.size g cp X) ∧ Hid (Kept (fun _ => False) w1 wr)) (fun _ a _ => cs.length - (intOf a).toNat)
  case atStart => exact ⟨0, _, _, [itoaW cs.length], Nat.zero_le _, rfl, rfl, rfl, O1, KA⟩
  case round =>
    obtain ⟨i, g, cp, X, hil, rfl, rfl, HX, HO, HK⟩ := hrel
    clear O1 KA
    have hXs : (∀ x ∈ X, Short x) ∧ X.length ≤ 321 := by rw [HX.out]; exact headW_short cs hn HIC.out i
    have hXl := hXs.2
    have HKW := hide ((K0.out.calm2 K1.out).calm2 HK.out)
    have hsz := HK.out.size
    by_cases hlt : i < cs.length
    · obtain ⟨b, off, rfl, hb', c0, c1, c2, c3, c4, c5⟩ := (HC.out.calm1 HKW.out).at i hlt
      have hb1 : (0 : Int) ≤ (i : Int) := by omega
      have hb2 : (i : Int) < (cs.length : Int) := by omega
      have HX' : Hid (X ++ cmdW cs[i] = itoaW cs.length :: (cs.take (i + 1)).flatMap cmdW) := by show _ = _; rw [HX.out, words_take cs cmdW i hlt]; rfl
      have HIc := hide (HIC.out cs[i] (List.getElem_mem hlt))
      have hfew := cmdW_few cs[i]
      have hpos := cmdW_pos cs[i]
      generalize cs[i] = c at *
      have KB := hide (Kept.alloc wr (.cells #[.int .i64 c.kind, .int .i64 c.id, .int .i64 c.team, .float .f32 c.x, .float .f32 c.y, .int .i64 c.n] 57))
      go_wp2_with fail
      refine (cmdW_c c _ HIc.out (HT.out.calm (HKW.out.calm2 KB.out))).mono ?_
      rintro e w2 ⟨g2, rfl, hg2, q2, k2⟩
      have Q2 := hide q2
      have K2 := hide (KB.out.calm2 k2)
      have hs2 := K2.out.size
      clear q2 k2 c0 c1 c2 c3 c4 c5
      generalize cmdW c = Y at *
      go_wp2_with (at_builtin; refine wpList_append_words _ rfl (.tmp 22) (.tmp 24) rfl w1.heap.size g cp X rfl (HO.out.calm K2.out) g2 Y.length Y rfl Q2.out (by omega) hpos (by omega) ?_)
      intro g3 cp3 w3 R HRR O3 HK3
      have K3 : Hid (Kept (fun _ => False) w1 w3) := (HK.out.calm2 K2.out).join HK3.out (fun _ _ e => e) (fun j hj e => by have := HO.out.cells.2.2.2; omega)
      clear HK3
      go_wp2
      go_roundw
      case rel => exact ⟨i + 1, g3, cp3, R, by omega, by go_num, rfl, (by show _ = _; rw [HRR.out]; exact HX'.out), O3, K3⟩
      case measure => simp [intOf]; omega
    · obtain rfl : i = cs.length := by omega
      rw [List.take_length] at HX
      have HXH : Hid (X = headW cs) := HX
      have BR : Hid (wr.heap[w.heap.size]? = some (.cells #[.int .i64 t, .slice p L.length cap] 38 (0, 0))) := by show _ = _; rw [(K1.out.calm2 HK.out).block _ hWb (fun e => e)]; exact HB.out
      obtain ⟨a0, a1, -, -⟩ := two_cells BR.out
      clear HX
      by_cases hm : t % ev = 0
      · have hmb : (t % ev == 0) = true := by simp [hm]
        have HF : Hid (tickW cs t L ev = X ++ (itoaW L.length :: L.flatMap entW)) := by show _ = _; unfold tickW; rw [if_pos hm, HXH.out]
        clear hm
        go_wp2_with fail
        refine (intWord_c (L.length : Int) wr (by omega) (HT.out.calm HKW.out)).mono ?_
        rintro e w4 ⟨rfl, k4⟩
        have K4 := hide (HK.out.calm2 k4)
        have KA := hide (Kept.alloc w4 (.cells (rowS [itoaW L.length]).toArray 9))
        have HA := hide (heap_alloc_new w4 (.cells (rowS [itoaW L.length]).toArray 9))
        have HO4 := hide ((HO.out.calm k4).calm KA.out)
        have B4 : Hid (w4.heap[w.heap.size]? = some (.cells #[.int .i64 t, .slice p L.length cap] 38 (0, 0))) := by show _ = _; rw [k4.block _ (heap_lt BR.out) (fun e => e)]; exact BR.out
        clear k4 a0 a1
        have hs4 := K4.out.size
        go_wp2_with (at_builtin; refine wpList_append_words _ rfl (.tmp 32) (.tmp 37) rfl w1.heap.size g cp X rfl HO4.out w4.heap.size 1 [itoaW L.length] rfl HA.out (by simp; omega) (by simp) (by simp; omega) ?_)
        intro g5 cp5 w5 R5 HR5 O5 HK5
        have K5 : Hid (Kept (fun _ => False) w1 w5) := (K4.out.calm2 KA.out).join HK5.out (fun _ _ e => e) (fun j hj e => by have := HO.out.cells.2.2.2; omega)
        have B5 : Hid (w5.heap[w.heap.size]? = some (.cells #[.int .i64 t, .slice p L.length cap] 38 (0, 0))) := by show _ = _; rw [(K1.out.calm2 K5.out).block _ hWb (fun e => e)]; exact HB.out
        obtain ⟨a0, a1, -, -⟩ := two_cells B5.out
        clear HK5 HO4 HA KA K4 B4 BR HO HK
        go_wp2
        clear a0 a1
        go_loopw [7, 42] (fun s a wr => ∃ i g cp, ∃ X2 : List ByteArray, i ≤ L.length ∧ a = .int .i64 (i : Nat) ∧ s = .slice (some ⟨g, 0, none⟩) X2.length cp ∧ Hid (X2 = X ++ (itoaW L.length :: (L.take i).flatMap entW)) ∧ Hid (OwnS wr w1.heap.size g cp X2) ∧ Hid (Kept (fun _ => False) w1 wr)) (fun _ a _ => L.length - (intOf a).toNat)
        case atStart => exact ⟨0, g5, cp5, R5, Nat.zero_le _, rfl, rfl, (by show _ = _; rw [HR5.out]; rfl), O5, K5⟩
        case round =>
          clear O5 K5 B5 HR5
          obtain ⟨i, g, cp, X2, hil, rfl, rfl, HX, HO, HK⟩ := hrel
          have hX2 : (∀ x ∈ X2, Short x) ∧ X2.length ≤ 600 := by
            rw [HX.out]
            constructor
            · intro x hx
              rcases List.mem_append.1 hx with hx | hx
              · exact hXs.1 x hx
              · rcases List.mem_cons.1 hx with rfl | hx
                · exact itoaW_short _ (by omega)
                · obtain ⟨m, hm, hx⟩ := List.mem_flatMap.1 hx
                  exact entW_short m (HIM.out m (List.mem_of_mem_take hm)) x hx
            · have h7 := words_len (L.take i) entW 7 (fun m _ => by simp [entW])
              rw [List.length_take] at h7
              have h8 : min i L.length * 7 ≤ 32 * 7 := Nat.mul_le_mul_right 7 (by omega)
              simp only [List.length_append, List.length_cons]
              omega
          have hXl2 := hX2.2
          have HKW2 := hide ((K0.out.calm2 K1.out).calm2 HK.out)
          have hsz2 := HK.out.size
          by_cases hlt : i < L.length
          · obtain ⟨b, off, rfl, hb', c0, c1, c2, c3, c4, c5, c6⟩ := (HR.out.calm HKW2.out).at i hlt
            have hb1 : (0 : Int) ≤ (i : Int) := by omega
            have hb2 : (i : Int) < (L.length : Int) := by omega
            have HX' : Hid (X2 ++ entW L[i] = X ++ (itoaW L.length :: (L.take (i + 1)).flatMap entW)) := by show _ = _; rw [HX.out, words_take L entW i hlt]; simp
            have HIm := hide (HIM.out L[i] (List.getElem_mem hlt))
            generalize L[i] = m at *
            have KB := hide (Kept.alloc wr (.cells #[.int .i64 m.id, .int .i64 m.team, .float .f32 m.x, .float .f32 m.y, .float .f32 m.vx, .float .f32 m.vy, .int .i64 m.health] 83))
            go_wp2_with fail
            refine (entW_c m _ HIm.out (HT.out.calm (HKW2.out.calm2 KB.out))).mono ?_
            rintro e w2 ⟨g2, rfl, hg2, q2, k2⟩
            have Q2 := hide q2
            have K2 := hide (KB.out.calm2 k2)
            have hs2 := K2.out.size
            have h7 : (entW m).length = 7 := rfl
            clear q2 k2 c0 c1 c2 c3 c4 c5 c6
            generalize entW m = Y at *
            go_wp2_with (at_builtin; refine wpList_append_words _ rfl (.tmp 46) (.tmp 48) rfl w1.heap.size g cp X2 rfl (HO.out.calm K2.out) g2 7 Y (by rw [h7]; rfl) Q2.out (by omega) (by omega) (by omega) ?_)
            intro g3 cp3 w3 R HRR O3 HK3
            have K3 : Hid (Kept (fun _ => False) w1 w3) := (HK.out.calm2 K2.out).join HK3.out (fun _ _ e => e) (fun j hj e => by have := HO.out.cells.2.2.2; omega)
            clear HK3
            go_wp2
            go_roundw
            case rel => exact ⟨i + 1, g3, cp3, R, by omega, by go_num, rfl, (by show _ = _; rw [HRR.out]; exact HX'.out), O3, K3⟩
            case measure => simp [intOf]; omega
          · obtain rfl : i = L.length := by omega
            rw [List.take_length] at HX
            have HF2 : Hid (tickW cs t L ev = X2) := by show _ = _; rw [HF.out, HX.out]
            have LC := hide (line_c g cp X2 wr HO.out.cells.1 HO.out.cells.2.1 (by omega) HO.out.cells.2.2.1 hX2.1)
            clear HF HX
            go_wp2_with fail
            refine LC.out.mono ?_
            rintro e w6 ⟨rfl, k6⟩
            have K6 := hide (HKW2.out.calm2 k6)
            clear k6 LC
            go_wp2
            go_ret
            exact ⟨ret1 (by rw [HF2.out]; rfl), K6.out⟩
      · have hmb : (t % ev == 0) = false := by simp [hm]
        have HF : Hid (tickW cs t L ev = X) := by show _ = _; unfold tickW; rw [if_neg hm, List.append_nil, HXH.out]
        clear hm
        have LC := hide (line_c g cp X wr HO.out.cells.1 HO.out.cells.2.1 (by omega) HO.out.cells.2.2.1 hXs.1)
        go_wp2_with fail
        refine LC.out.mono ?_
        rintro e w6 ⟨rfl, k6⟩
        have K6 := hide (HKW.out.calm2 k6)
        clear k6 LC
        go_wp2
        go_ret
        exact ⟨ret1 (by rw [HF.out]; rfl), K6.out⟩
end Go.Proofs.YtlfmfhmbkpnjbaaGreatDoor
