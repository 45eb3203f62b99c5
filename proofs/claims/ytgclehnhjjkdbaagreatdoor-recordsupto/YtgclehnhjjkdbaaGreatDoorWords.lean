import Derived.Test.YtgclehnhjjkdbaaGreatDoorHex
import Derived.Test.YtgclehnhjjkdbaaGreatDoorShelf
import Derived.Test.YtgclehnhjjkdbaaGreatDoorStepok
import Derived.Test.YtgclehnhjjkdbaaGreatDoorPurePart
namespace Go.Proofs.YtgclehnhjjkdbaaGreatDoor
open Go.RowKit

theorem Kept.of_below {w w' : World} (h : Below w.heap.size w w') : Kept (fun _ => False) w w' := ⟨h.os, h.tape, h.output, h.size, fun k hk _ => h.block k hk⟩
theorem Kept.grow (w : World) (os : Array Obj) : Kept (fun _ => False) w (Go.Sort.grow w os) := ⟨rfl, rfl, rfl, by simp [Go.Sort.grow], fun k hk _ => by simp only [Go.Sort.grow]; exact Array.getElem?_append_left hk⟩

/-- The library's tables that are asked. -/
structure Tabs (w : World) : Prop where
  four : Tab4 w
  pow : Lib.TabIs Tryz.prog w "internal/strconv.uint64pow10" .u64 Lib.pow10Tab
theorem pow_named : Tryz.prog.globalNamed "internal/strconv.uint64pow10" = some 2 := by kernel_rfl
theorem Tabs.keep {w w' : World} {S : Nat → Prop} (h : Tabs w) (k : Kept S w w') (h1 : ¬ S 4) (h2 : ¬ S 2) : Tabs w' := by
  have hp : ∃ cs T fz, w.heap[2]? = some (.cells cs T fz) := by
    have := h.pow
    unfold Lib.TabIs World.var? at this
    rw [pow_named] at this
    simp only [Option.bind_some] at this
    split at this
    · rename_i cs a b e; exact ⟨cs, a, b, e⟩
    · cases this
  obtain ⟨cs, T, fz, hc⟩ := hp
  refine ⟨?_, ?_⟩
  · show _ = _
    rw [cell_keep k (World.block_lt_of_cell? w ⟨4, 15, none⟩ h.four) h1]; exact h.four
  · have := h.pow
    unfold Lib.TabIs World.var? at this ⊢
    rw [pow_named] at this ⊢
    simp only [Option.bind_some] at this ⊢
    rw [k.block _ (heap_lt hc) h2]; exact this
theorem Tabs.pow_lt {w : World} (h : Tabs w) : 2 < w.heap.size := by
  have := h.pow
  unfold Lib.TabIs World.var? at this
  rw [pow_named] at this
  simp only [Option.bind_some] at this
  split at this
  · rename_i cs a b e; exact heap_lt e
  · cases this
theorem Tabs.calm {w w' : World} (h : Tabs w) (k : Kept (fun _ => False) w w') : Tabs w' := h.keep k (fun e => e) (fun e => e)

/-- Words. -/
def itoaW (n : Int) : ByteArray := ⟨(Lib.itoa n).toArray⟩
def hexW (x : Nat) : ByteArray := ⟨(hexL (x % 18446744073709551616)).toArray⟩

set_option maxHeartbeats 1000000 in
set_option maxRecDepth 100000 in
theorem intWord_c (n : Int) (w : World) (h0 : -9223372036854775808 ≤ n ∧ n ≤ 9223372036854775807) (h : Tabs w) :
    Calls Tryz.prog 40 #[.int .i64 n] w fun e w' => e = .returned (.string (itoaW n)) ∧ Kept (fun _ => False) w w' := by
  go_enter Tryz.func40, Tryz.ntmps40
  go_wp2_with fail
  refine (Tryz.strconv_Itoa n h0.1 h0.2 w h.pow).mono ?_
  rintro e w1 ⟨rfl, k, os, rfl⟩
  have K1 := hide ((Kept.drewN w k).calm2 (Kept.grow (w.drewN k) os))
  generalize Go.Sort.grow (w.drewN k) os = w1 at *
  go_wp2
  go_ret
  exact ⟨rfl, K1.out⟩

theorem hexWord_c (x : Nat) (w : World) (h : Tabs w) :
    Calls Tryz.prog 64 #[.float .f32 x] w fun e w' => e = .returned (.string (hexW x)) ∧ Kept (fun _ => False) w w' := floatWord_c x w h.four

def rowS (l : List ByteArray) : List Value := l.map Value.string
/-- Words that stand in a block of their own. -/
def HasW (w : World) (g : Nat) (l : List ByteArray) : Prop := w.heap[g]? = some (.cells (rowS l).toArray 9 (0, 0))

/-- The words of a command. -/
def cmdW (c : Cmd) : List ByteArray :=
  if c.kind = 1 then [itoaW c.kind, itoaW c.id, itoaW c.team, hexW c.x, hexW c.y]
  else if c.kind = 2 then [itoaW c.kind, itoaW c.id, hexW c.x, hexW c.y]
  else if c.kind = 3 then [itoaW c.kind, itoaW c.id, itoaW c.n]
  else if c.kind = 4 then [itoaW c.kind, itoaW c.id]
  else [itoaW c.kind]

/-- A command whose numbers are ints. -/
structure IntC (c : Cmd) : Prop where
  kind : -9223372036854775808 ≤ c.kind ∧ c.kind ≤ 9223372036854775807
  id : -9223372036854775808 ≤ c.id ∧ c.id ≤ 9223372036854775807
  team : -9223372036854775808 ≤ c.team ∧ c.team ≤ 9223372036854775807
  n : -9223372036854775808 ≤ c.n ∧ c.n ≤ 9223372036854775807

set_option maxHeartbeats 2000000 in
set_option maxRecDepth 100000 in
theorem cmdW_c (c : Cmd) (w : World) (hI : IntC c) (h : Tabs w) :
    Calls Tryz.prog 47 #[.agg #[.int .i64 c.kind, .int .i64 c.id, .int .i64 c.team, .float .f32 c.x, .float .f32 c.y, .int .i64 c.n]] w fun e w' =>
      ∃ g, e = .returned (.slice (some ⟨g, 0, none⟩) (cmdW c).length (cmdW c).length) ∧ w.heap.size ≤ g ∧ HasW w' g (cmdW c) ∧ Kept (fun _ => False) w w' := by
  have HT := hide h
  have HI := hide hI
  clear h hI
  have K0 := hide (Kept.alloc w (.cells #[.int .i64 c.kind, .int .i64 c.id, .int .i64 c.team, .float .f32 c.x, .float .f32 c.y, .int .i64 c.n] 39))
  have HN := hide (heap_alloc_new w (.cells #[.int .i64 c.kind, .int .i64 c.id, .int .i64 c.team, .float .f32 c.x, .float .f32 c.y, .int .i64 c.n] 39))
  go_enter Tryz.func47, Tryz.ntmps47
  go_wp2
  generalize w.alloc (.cells #[.int .i64 c.kind, .int .i64 c.id, .int .i64 c.team, .float .f32 c.x, .float .f32 c.y, .int .i64 c.n] 39) = wa at *
  have hb := heap_lt HN.out
  have CE : Hid (∀ w', Kept (fun _ => False) wa w' → w'.cell? ⟨w.heap.size, 0, none⟩ = some (.int .i64 c.kind) ∧ w'.cell? ⟨w.heap.size, 1, none⟩ = some (.int .i64 c.id) ∧ w'.cell? ⟨w.heap.size, 2, none⟩ = some (.int .i64 c.team) ∧ w'.cell? ⟨w.heap.size, 3, none⟩ = some (.float .f32 c.x) ∧ w'.cell? ⟨w.heap.size, 4, none⟩ = some (.float .f32 c.y) ∧ w'.cell? ⟨w.heap.size, 5, none⟩ = some (.int .i64 c.n)) := fun w' hk => six_cells (show w'.heap[w.heap.size]? = some _ by rw [hk.block _ hb (fun e => e)]; exact HN.out)
  obtain ⟨s0, s1, s2, s3, s4, s5⟩ := CE.out wa (Kept.refl _ _)
  go_region_held3 (fun w' => w'.cell? ⟨w.heap.size, 0, none⟩ = some (.int .i64 c.kind) ∧ w'.cell? ⟨w.heap.size, 1, none⟩ = some (.int .i64 c.id)) (go_keep)
    (first
      | (go_at_call 40; refine (intWord_c c.kind _ HI.out.kind (HT.out.calm (K0.out.calm2 (Kept.drew wa)))).mono ?_; rintro e w1 ⟨rfl, qw1⟩; have Kw1 := hide ((Kept.drew wa).calm2 qw1); clear qw1; obtain ⟨w1a, w1b, w1c, w1d, w1e, w1f⟩ := CE.out w1 Kw1.out)
      | (go_at_call 40; refine (intWord_c c.id _ HI.out.id (HT.out.calm (K0.out.calm2 Kw1.out))).mono ?_; rintro e w2 ⟨rfl, qw2⟩; have Kw2 := hide (Kw1.out.calm2 qw2); clear qw2; obtain ⟨w2a, w2b, w2c, w2d, w2e, w2f⟩ := CE.out w2 Kw2.out))
  clear s0 s1 s2 s3 s4 s5
  clear w1a w1b w1c w1d w1e w1f
  have hs2 := Kw2.out.size
  have hs0 := K0.out.size
  by_cases h1 : c.kind = 1
  · have e1 : (c.kind == 1) = true := by simp [h1]
    have HW : Hid (cmdW c = [itoaW c.kind, itoaW c.id, itoaW c.team, hexW c.x, hexW c.y]) := by show _ = _; unfold cmdW; rw [if_pos h1]
    clear h1
    go_wp2
    go_region_held3 (fun w' => w'.cell? ⟨w.heap.size, 2, none⟩ = some (.int .i64 c.team) ∧ w'.cell? ⟨w.heap.size, 3, none⟩ = some (.float .f32 c.x) ∧ w'.cell? ⟨w.heap.size, 4, none⟩ = some (.float .f32 c.y)) (go_keep)
      (first
      | (go_at_call 40; refine (intWord_c c.team _ HI.out.team (HT.out.calm (K0.out.calm2 (Kw2.out.calm2 (Kept.drew w2))))).mono ?_; rintro e w3 ⟨rfl, qw3⟩; have Kw3 := hide ((Kw2.out.calm2 (Kept.drew w2)).calm2 qw3); clear qw3; obtain ⟨w3a, w3b, w3c, w3d, w3e, w3f⟩ := CE.out w3 Kw3.out)
      | (go_at_call 64; refine (hexWord_c c.x _ (HT.out.calm (K0.out.calm2 Kw3.out))).mono ?_; rintro e w4 ⟨rfl, qw4⟩; have Kw4 := hide (Kw3.out.calm2 qw4); clear qw4; obtain ⟨w4a, w4b, w4c, w4d, w4e, w4f⟩ := CE.out w4 Kw4.out)
      | (go_at_call 64; refine (hexWord_c c.y _ (HT.out.calm (K0.out.calm2 Kw4.out))).mono ?_; rintro e w5 ⟨rfl, qw5⟩; have Kw5 := hide (Kw4.out.calm2 qw5); clear qw5; obtain ⟨w5a, w5b, w5c, w5d, w5e, w5f⟩ := CE.out w5 Kw5.out))
    clear w2a w2b w2c w2d w2e w2f w3a w3b w3c w3d w3e w3f w4a w4b w4c w4d w4e w4f w5a w5b w5c w5d w5e w5f
    have hs5 := Kw5.out.size
    go_wp2
    go_ret
    rw [HW.out]
    exact ⟨w5.heap.size, rfl, by omega, heap_alloc_new w5 _, (K0.out.calm2 Kw5.out).calm2 (Kept.alloc w5 _)⟩
  · have e1 : (c.kind == 1) = false := by simp [h1]
    by_cases h2 : c.kind = 2
    · have e2 : (c.kind == 2) = true := by simp [h2]
      have HW : Hid (cmdW c = [itoaW c.kind, itoaW c.id, hexW c.x, hexW c.y]) := by show _ = _; unfold cmdW; rw [if_neg h1, if_pos h2]
      clear h1 h2
      go_wp2
      go_region_held3 (fun w' => w'.cell? ⟨w.heap.size, 3, none⟩ = some (.float .f32 c.x) ∧ w'.cell? ⟨w.heap.size, 4, none⟩ = some (.float .f32 c.y)) (go_keep)
        (first
      | (go_at_call 64; refine (hexWord_c c.x _ (HT.out.calm (K0.out.calm2 (Kw2.out.calm2 (Kept.drew w2))))).mono ?_; rintro e w3 ⟨rfl, qw3⟩; have Kw3 := hide ((Kw2.out.calm2 (Kept.drew w2)).calm2 qw3); clear qw3; obtain ⟨w3a, w3b, w3c, w3d, w3e, w3f⟩ := CE.out w3 Kw3.out)
      | (go_at_call 64; refine (hexWord_c c.y _ (HT.out.calm (K0.out.calm2 Kw3.out))).mono ?_; rintro e w4 ⟨rfl, qw4⟩; have Kw4 := hide (Kw3.out.calm2 qw4); clear qw4; obtain ⟨w4a, w4b, w4c, w4d, w4e, w4f⟩ := CE.out w4 Kw4.out))
      clear w2a w2b w2c w2d w2e w2f w3a w3b w3c w3d w3e w3f w4a w4b w4c w4d w4e w4f
      have hs5 := Kw4.out.size
      go_wp2
      go_ret
      rw [HW.out]
      exact ⟨w4.heap.size, rfl, by omega, heap_alloc_new w4 _, (K0.out.calm2 Kw4.out).calm2 (Kept.alloc w4 _)⟩
    · have e2 : (c.kind == 2) = false := by simp [h2]
      by_cases h3 : c.kind = 3
      · have e3 : (c.kind == 3) = true := by simp [h3]
        have HW : Hid (cmdW c = [itoaW c.kind, itoaW c.id, itoaW c.n]) := by show _ = _; unfold cmdW; rw [if_neg h1, if_neg h2, if_pos h3]
        clear h1 h2 h3
        go_wp2_with fail
        refine (intWord_c c.n w2 HI.out.n (HT.out.calm (K0.out.calm2 Kw2.out))).mono ?_
        rintro e w3 ⟨rfl, q3⟩
        have K3 := hide (Kw2.out.calm2 q3)
        clear q3
        clear w2a w2b w2c w2d w2e w2f
        have hs5 := K3.out.size
        go_wp2
        go_ret
        rw [HW.out]
        exact ⟨w3.heap.size, rfl, by omega, heap_alloc_new w3 _, (K0.out.calm2 K3.out).calm2 (Kept.alloc w3 _)⟩
      · have e3 : (c.kind == 3) = false := by simp [h3]
        by_cases h4 : c.kind = 4
        · have e4 : (c.kind == 4) = true := by simp [h4]
          have HW : Hid (cmdW c = [itoaW c.kind, itoaW c.id]) := by show _ = _; unfold cmdW; rw [if_neg h1, if_neg h2, if_neg h3, if_pos h4]
          clear h1 h2 h3 h4
          go_wp2
          go_ret
          rw [HW.out]
          exact ⟨w2.heap.size, rfl, by omega, heap_alloc_new w2 _, (K0.out.calm2 Kw2.out).calm2 (Kept.alloc w2 _)⟩
        · have e4 : (c.kind == 4) = false := by simp [h4]
          have HW : Hid (cmdW c = [itoaW c.kind]) := by show _ = _; unfold cmdW; rw [if_neg h1, if_neg h2, if_neg h3, if_neg h4]
          clear h1 h2 h3 h4
          go_wp2
          go_ret
          rw [HW.out]
          exact ⟨w2.heap.size, rfl, by omega, heap_alloc_new w2 _, (K0.out.calm2 Kw2.out).calm2 (Kept.alloc w2 _)⟩

/-- The words of an entity. -/
def entW (m : Mob) : List ByteArray := [itoaW m.id, itoaW m.team, hexW m.x, hexW m.y, hexW m.vx, hexW m.vy, itoaW m.health]
structure IntM (m : Mob) : Prop where
  id : -9223372036854775808 ≤ m.id ∧ m.id ≤ 9223372036854775807
  team : -9223372036854775808 ≤ m.team ∧ m.team ≤ 9223372036854775807
  health : -9223372036854775808 ≤ m.health ∧ m.health ≤ 9223372036854775807

set_option maxHeartbeats 4000000 in
set_option maxRecDepth 100000 in
theorem entW_c (m : Mob) (w : World) (hI : IntM m) (h : Tabs w) :
    Calls Tryz.prog 48 #[.agg #[.int .i64 m.id, .int .i64 m.team, .float .f32 m.x, .float .f32 m.y, .float .f32 m.vx, .float .f32 m.vy, .int .i64 m.health]] w fun e w' =>
      ∃ g, e = .returned (.slice (some ⟨g, 0, none⟩) (entW m).length (entW m).length) ∧ w.heap.size ≤ g ∧ HasW w' g (entW m) ∧ Kept (fun _ => False) w w' := by
  have HT := hide h
  have HI := hide hI
  clear h hI
  have K0 := hide (Kept.alloc w (.cells #[.int .i64 m.id, .int .i64 m.team, .float .f32 m.x, .float .f32 m.y, .float .f32 m.vx, .float .f32 m.vy, .int .i64 m.health] 52))
  have HN := hide (heap_alloc_new w (.cells #[.int .i64 m.id, .int .i64 m.team, .float .f32 m.x, .float .f32 m.y, .float .f32 m.vx, .float .f32 m.vy, .int .i64 m.health] 52))
  go_enter Tryz.func48, Tryz.ntmps48
  go_wp2
  generalize w.alloc (.cells #[.int .i64 m.id, .int .i64 m.team, .float .f32 m.x, .float .f32 m.y, .float .f32 m.vx, .float .f32 m.vy, .int .i64 m.health] 52) = wa at *
  have hb := heap_lt HN.out
  have CE : Hid (∀ w', Kept (fun _ => False) wa w' → w'.cell? ⟨w.heap.size, 0, none⟩ = some (.int .i64 m.id) ∧ w'.cell? ⟨w.heap.size, 1, none⟩ = some (.int .i64 m.team) ∧ w'.cell? ⟨w.heap.size, 2, none⟩ = some (.float .f32 m.x) ∧ w'.cell? ⟨w.heap.size, 3, none⟩ = some (.float .f32 m.y) ∧ w'.cell? ⟨w.heap.size, 4, none⟩ = some (.float .f32 m.vx) ∧ w'.cell? ⟨w.heap.size, 5, none⟩ = some (.float .f32 m.vy) ∧ w'.cell? ⟨w.heap.size, 6, none⟩ = some (.int .i64 m.health)) := fun w' hk => seven_cells (show w'.heap[w.heap.size]? = some _ by rw [hk.block _ hb (fun e => e)]; exact HN.out)
  obtain ⟨s0, s1, s2, s3, s4, s5, s6⟩ := CE.out wa (Kept.refl _ _)
  go_region_held3 (fun w' => w'.cell? ⟨w.heap.size, 0, none⟩ = some (.int .i64 m.id) ∧ w'.cell? ⟨w.heap.size, 1, none⟩ = some (.int .i64 m.team) ∧ w'.cell? ⟨w.heap.size, 2, none⟩ = some (.float .f32 m.x) ∧ w'.cell? ⟨w.heap.size, 3, none⟩ = some (.float .f32 m.y) ∧ w'.cell? ⟨w.heap.size, 4, none⟩ = some (.float .f32 m.vx) ∧ w'.cell? ⟨w.heap.size, 5, none⟩ = some (.float .f32 m.vy) ∧ w'.cell? ⟨w.heap.size, 6, none⟩ = some (.int .i64 m.health)) (go_keep)
    (first
      | (go_at_call 40; refine (intWord_c m.id _ HI.out.id (HT.out.calm (K0.out.calm2 (Kept.drew wa)))).mono ?_; rintro e w1 ⟨rfl, qw1⟩; have Kw1 := hide ((Kept.drew wa).calm2 qw1); clear qw1; obtain ⟨w1a, w1b, w1c, w1d, w1e, w1f, w1g⟩ := CE.out w1 Kw1.out)
      | (go_at_call 40; refine (intWord_c m.team _ HI.out.team (HT.out.calm (K0.out.calm2 Kw1.out))).mono ?_; rintro e w2 ⟨rfl, qw2⟩; have Kw2 := hide (Kw1.out.calm2 qw2); clear qw2; obtain ⟨w2a, w2b, w2c, w2d, w2e, w2f, w2g⟩ := CE.out w2 Kw2.out)
      | (go_at_call 64; refine (hexWord_c m.x _ (HT.out.calm (K0.out.calm2 Kw2.out))).mono ?_; rintro e w3 ⟨rfl, qw3⟩; have Kw3 := hide (Kw2.out.calm2 qw3); clear qw3; obtain ⟨w3a, w3b, w3c, w3d, w3e, w3f, w3g⟩ := CE.out w3 Kw3.out)
      | (go_at_call 64; refine (hexWord_c m.y _ (HT.out.calm (K0.out.calm2 Kw3.out))).mono ?_; rintro e w4 ⟨rfl, qw4⟩; have Kw4 := hide (Kw3.out.calm2 qw4); clear qw4; obtain ⟨w4a, w4b, w4c, w4d, w4e, w4f, w4g⟩ := CE.out w4 Kw4.out)
      | (go_at_call 64; refine (hexWord_c m.vx _ (HT.out.calm (K0.out.calm2 Kw4.out))).mono ?_; rintro e w5 ⟨rfl, qw5⟩; have Kw5 := hide (Kw4.out.calm2 qw5); clear qw5; obtain ⟨w5a, w5b, w5c, w5d, w5e, w5f, w5g⟩ := CE.out w5 Kw5.out)
      | (go_at_call 64; refine (hexWord_c m.vy _ (HT.out.calm (K0.out.calm2 Kw5.out))).mono ?_; rintro e w6 ⟨rfl, qw6⟩; have Kw6 := hide (Kw5.out.calm2 qw6); clear qw6; obtain ⟨w6a, w6b, w6c, w6d, w6e, w6f, w6g⟩ := CE.out w6 Kw6.out)
      | (go_at_call 40; refine (intWord_c m.health _ HI.out.health (HT.out.calm (K0.out.calm2 Kw6.out))).mono ?_; rintro e w7 ⟨rfl, qw7⟩; have Kw7 := hide (Kw6.out.calm2 qw7); clear qw7; obtain ⟨w7a, w7b, w7c, w7d, w7e, w7f, w7g⟩ := CE.out w7 Kw7.out))
  clear s0 s1 s2 s3 s4 s5 s6
  clear w1a w1b w1c w1d w1e w1f w1g
  clear w2a w2b w2c w2d w2e w2f w2g
  clear w3a w3b w3c w3d w3e w3f w3g
  clear w4a w4b w4c w4d w4e w4f w4g
  clear w5a w5b w5c w5d w5e w5f w5g
  clear w6a w6b w6c w6d w6e w6f w6g
  clear w7a w7b w7c w7d w7e w7f w7g
  have hs7 := Kw7.out.size
  have hs0 := K0.out.size
  go_wp2
  go_ret
  exact ⟨w7.heap.size, rfl, by omega, heap_alloc_new w7 _, (K0.out.calm2 Kw7.out).calm2 (Kept.alloc w7 _)⟩
end Go.Proofs.YtgclehnhjjkdbaaGreatDoor
