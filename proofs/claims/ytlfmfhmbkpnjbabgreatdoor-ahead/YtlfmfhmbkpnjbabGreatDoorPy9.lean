import Derived.Test.YtlfmfhmbkpnjbabGreatDoorPy4
import Derived.Test.YtlfmfhmbkpnjbabGreatDoorPy8
import Derived.Shelf.Small.Strs
import Derived.Shelf.Strings.Search1
import Derived.Shelf.Strings.LastIndex
import Derived.Shelf.Strings.Prefix
import Derived.Shelf.Strconv.AtoiAll
import Derived.Shelf.Strconv.ToError
import Derived.Shelf.Strconv.ToErrorRange
import Derived.Shelf.Strconv.Lower
import Derived.Test.YtlfmfhmbkpnjbabGreatDoorProg
namespace Go.Proofs.YtlfmfhmbkpnjbabGreatDoor
open Go.RowKit

theorem Kept.of_below {w w' : World} (h : Below w.heap.size w w') : Kept (fun _ => False) w w' := ⟨h.os, h.tape, h.output, h.size, fun k hk _ => h.block k hk⟩
theorem Kept.grow (w : World) (os : Array Obj) : Kept (fun _ => False) w (Go.Sort.grow w os) := ⟨rfl, rfl, rfl, by simp [Go.Sort.grow], fun k hk _ => by simp only [Go.Sort.grow]; exact Array.getElem?_append_left hk⟩

/-- The library's tables that are asked. -/
structure Tabs (w : World) : Prop where
  four : Tab4 w
  pow : Lib.TabIs Tryz.prog w "internal/strconv.uint64pow10" .u64 Lib.pow10Tab
theorem pow_named : Tryz.prog.globalNamed "internal/strconv.uint64pow10" = some 4 := by kernel_rfl
theorem Tabs.keep {w w' : World} {S : Nat → Prop} (h : Tabs w) (k : Kept S w w') (h1 : ¬ S 6) (h2 : ¬ S 4) : Tabs w' := by
  have hp : ∃ cs T fz, w.heap[4]? = some (.cells cs T fz) := by
    have := h.pow
    unfold Lib.TabIs World.var? at this
    rw [pow_named] at this
    simp only [Option.bind_some] at this
    split at this
    · rename_i cs a b e; exact ⟨cs, a, b, e⟩
    · cases this
  obtain ⟨cs, T, fz, hc⟩ := hp
  refine ⟨?_, ?_⟩
  · show _ = _
    rw [cell_keep k (World.block_lt_of_cell? w ⟨6, 15, none⟩ h.four) h1]; exact h.four
  · have := h.pow
    unfold Lib.TabIs World.var? at this ⊢
    rw [pow_named] at this ⊢
    simp only [Option.bind_some] at this ⊢
    rw [k.block _ (heap_lt hc) h2]; exact this
theorem Tabs.pow_lt {w : World} (h : Tabs w) : 4 < w.heap.size := by
  have := h.pow
  unfold Lib.TabIs World.var? at this
  rw [pow_named] at this
  simp only [Option.bind_some] at this
  split at this
  · rename_i cs a b e; exact heap_lt e
  · cases this
theorem Tabs.calm {w w' : World} (h : Tabs w) (k : Kept (fun _ => False) w w') : Tabs w' := h.keep k (fun e => e) (fun e => e)

/-- Words. -/
def itoaW (n : Int) : ByteArray := ⟨(Lib.itoa n).toArray⟩
def hexW (x : Nat) : ByteArray := ⟨(hexL (x % 18446744073709551616)).toArray⟩

set_option maxHeartbeats 1000000 in
set_option maxRecDepth 100000 in
theorem intWord_c (n : Int) (w : World) (h0 : -9223372036854775808 ≤ n ∧ n ≤ 9223372036854775807) (h : Tabs w) :
    Calls Tryz.prog 57 #[.int .i64 n] w fun e w' => e = .returned (.string (itoaW n)) ∧ Kept (fun _ => False) w w' := by
  go_enter Tryz.func57, Tryz.ntmps57
  go_wp2_with fail
  refine (Tryz.strconv_Itoa n h0.1 h0.2 w h.pow).mono ?_
  rintro e w1 ⟨rfl, k, os, rfl⟩
  have K1 := hide ((Kept.drewN w k).calm2 (Kept.grow (w.drewN k) os))
  generalize Go.Sort.grow (w.drewN k) os = w1 at *
  go_wp2
  go_ret
  exact ⟨rfl, K1.out⟩

theorem hexWord_c (x : Nat) (w : World) (h : Tabs w) :
    Calls Tryz.prog 79 #[.float .f32 x] w fun e w' => e = .returned (.string (hexW x)) ∧ Kept (fun _ => False) w w' := floatWord_c x w h.four

def rowS (l : List ByteArray) : List Value := l.map Value.string
/-- Words that stand in a block of their own. -/
def HasW (w : World) (g : Nat) (l : List ByteArray) : Prop := w.heap[g]? = some (.cells (rowS l).toArray 9 (0, 0))

/-- The words of a command. -/
def cmdW (c : Cmd) : List ByteArray :=
  if c.kind = 1 then [itoaW c.kind, itoaW c.id, itoaW c.team, hexW c.x, hexW c.y]
  else if c.kind = 2 then [itoaW c.kind, itoaW c.id, hexW c.x, hexW c.y]
  else if c.kind = 3 then [itoaW c.kind, itoaW c.id, itoaW c.n]
  else if c.kind = 4 then [itoaW c.kind, itoaW c.id]
  else [itoaW c.kind]

/-- A command whose numbers are ints. -/
structure IntC (c : Cmd) : Prop where
  kind : -9223372036854775808 ≤ c.kind ∧ c.kind ≤ 9223372036854775807
  id : -9223372036854775808 ≤ c.id ∧ c.id ≤ 9223372036854775807
  team : -9223372036854775808 ≤ c.team ∧ c.team ≤ 9223372036854775807
  n : -9223372036854775808 ≤ c.n ∧ c.n ≤ 9223372036854775807
/-- Its numbers with a point are words of 32 bits. -/
structure F32C (c : Cmd) : Prop where
  x : c.x < 4294967296
  y : c.y < 4294967296


set_option maxHeartbeats 2000000 in
set_option maxRecDepth 100000 in
theorem cmdW_c (c : Cmd) (w : World) (hI : IntC c) (h : Tabs w) :
    Calls Tryz.prog 59 #[.agg #[.int .i64 c.kind, .int .i64 c.id, .int .i64 c.team, .float .f32 c.x, .float .f32 c.y, .int .i64 c.n]] w fun e w' =>
      ∃ g, e = .returned (.slice (some ⟨g, 0, none⟩) (cmdW c).length (cmdW c).length) ∧ w.heap.size ≤ g ∧ HasW w' g (cmdW c) ∧ Kept (fun _ => False) w w' := by
  have HT := hide h
  have HI := hide hI
  clear h hI
  have K0 := hide (Kept.alloc w (.cells #[.int .i64 c.kind, .int .i64 c.id, .int .i64 c.team, .float .f32 c.x, .float .f32 c.y, .int .i64 c.n] 90))
  have HN := hide (heap_alloc_new w (.cells #[.int .i64 c.kind, .int .i64 c.id, .int .i64 c.team, .float .f32 c.x, .float .f32 c.y, .int .i64 c.n] 90))
  go_enter Tryz.func59, Tryz.ntmps59
  go_wp2
  generalize w.alloc (.cells #[.int .i64 c.kind, .int .i64 c.id, .int .i64 c.team, .float .f32 c.x, .float .f32 c.y, .int .i64 c.n] 90) = wa at *
  have hb := heap_lt HN.out
  have CE : Hid (∀ w', Kept (fun _ => False) wa w' → w'.cell? ⟨w.heap.size, 0, none⟩ = some (.int .i64 c.kind) ∧ w'.cell? ⟨w.heap.size, 1, none⟩ = some (.int .i64 c.id) ∧ w'.cell? ⟨w.heap.size, 2, none⟩ = some (.int .i64 c.team) ∧ w'.cell? ⟨w.heap.size, 3, none⟩ = some (.float .f32 c.x) ∧ w'.cell? ⟨w.heap.size, 4, none⟩ = some (.float .f32 c.y) ∧ w'.cell? ⟨w.heap.size, 5, none⟩ = some (.int .i64 c.n)) := fun w' hk => six_cells (show w'.heap[w.heap.size]? = some _ by rw [hk.block _ hb (fun e => e)]; exact HN.out)
  obtain ⟨s0, s1, s2, s3, s4, s5⟩ := CE.out wa (Kept.refl _ _)
  go_region_held3 (fun w' => w'.cell? ⟨w.heap.size, 0, none⟩ = some (.int .i64 c.kind) ∧ w'.cell? ⟨w.heap.size, 1, none⟩ = some (.int .i64 c.id)) (go_keep)
    (first
      | (go_at_call 57; refine (intWord_c c.kind _ HI.out.kind (HT.out.calm (K0.out.calm2 (Kept.drew wa)))).mono ?_; rintro e w1 ⟨rfl, qw1⟩; have Kw1 := hide ((Kept.drew wa).calm2 qw1); clear qw1; obtain ⟨w1a, w1b, w1c, w1d, w1e, w1f⟩ := CE.out w1 Kw1.out)
      | (go_at_call 57; refine (intWord_c c.id _ HI.out.id (HT.out.calm (K0.out.calm2 Kw1.out))).mono ?_; rintro e w2 ⟨rfl, qw2⟩; have Kw2 := hide (Kw1.out.calm2 qw2); clear qw2; obtain ⟨w2a, w2b, w2c, w2d, w2e, w2f⟩ := CE.out w2 Kw2.out))
  clear s0 s1 s2 s3 s4 s5
  clear w1a w1b w1c w1d w1e w1f
  have hs2 := Kw2.out.size
  have hs0 := K0.out.size
  by_cases h1 : c.kind = 1
  · have e1 : (c.kind == 1) = true := by simp [h1]
    have HW : Hid (cmdW c = [itoaW c.kind, itoaW c.id, itoaW c.team, hexW c.x, hexW c.y]) := by show _ = _; unfold cmdW; rw [if_pos h1]
    clear h1
    go_wp2
    go_region_held3 (fun w' => w'.cell? ⟨w.heap.size, 2, none⟩ = some (.int .i64 c.team) ∧ w'.cell? ⟨w.heap.size, 3, none⟩ = some (.float .f32 c.x) ∧ w'.cell? ⟨w.heap.size, 4, none⟩ = some (.float .f32 c.y)) (go_keep)
      (first
      | (go_at_call 57; refine (intWord_c c.team _ HI.out.team (HT.out.calm (K0.out.calm2 (Kw2.out.calm2 (Kept.drew w2))))).mono ?_; rintro e w3 ⟨rfl, qw3⟩; have Kw3 := hide ((Kw2.out.calm2 (Kept.drew w2)).calm2 qw3); clear qw3; obtain ⟨w3a, w3b, w3c, w3d, w3e, w3f⟩ := CE.out w3 Kw3.out)
      | (go_at_call 79; refine (hexWord_c c.x _ (HT.out.calm (K0.out.calm2 Kw3.out))).mono ?_; rintro e w4 ⟨rfl, qw4⟩; have Kw4 := hide (Kw3.out.calm2 qw4); clear qw4; obtain ⟨w4a, w4b, w4c, w4d, w4e, w4f⟩ := CE.out w4 Kw4.out)
      | (go_at_call 79; refine (hexWord_c c.y _ (HT.out.calm (K0.out.calm2 Kw4.out))).mono ?_; rintro e w5 ⟨rfl, qw5⟩; have Kw5 := hide (Kw4.out.calm2 qw5); clear qw5; obtain ⟨w5a, w5b, w5c, w5d, w5e, w5f⟩ := CE.out w5 Kw5.out))
    clear w2a w2b w2c w2d w2e w2f w3a w3b w3c w3d w3e w3f w4a w4b w4c w4d w4e w4f w5a w5b w5c w5d w5e w5f
    have hs5 := Kw5.out.size
    go_wp2
    go_ret
    rw [HW.out]
    exact ⟨w5.heap.size, rfl, by omega, heap_alloc_new w5 _, (K0.out.calm2 Kw5.out).calm2 (Kept.alloc w5 _)⟩
  · have e1 : (c.kind == 1) = false := by simp [h1]
    by_cases h2 : c.kind = 2
    · have e2 : (c.kind == 2) = true := by simp [h2]
      have HW : Hid (cmdW c = [itoaW c.kind, itoaW c.id, hexW c.x, hexW c.y]) := by show _ = _; unfold cmdW; rw [if_neg h1, if_pos h2]
      clear h1 h2
      go_wp2
      go_region_held3 (fun w' => w'.cell? ⟨w.heap.size, 3, none⟩ = some (.float .f32 c.x) ∧ w'.cell? ⟨w.heap.size, 4, none⟩ = some (.float .f32 c.y)) (go_keep)
        (first
      | (go_at_call 79; refine (hexWord_c c.x _ (HT.out.calm (K0.out.calm2 (Kw2.out.calm2 (Kept.drew w2))))).mono ?_; rintro e w3 ⟨rfl, qw3⟩; have Kw3 := hide ((Kw2.out.calm2 (Kept.drew w2)).calm2 qw3); clear qw3; obtain ⟨w3a, w3b, w3c, w3d, w3e, w3f⟩ := CE.out w3 Kw3.out)
      | (go_at_call 79; refine (hexWord_c c.y _ (HT.out.calm (K0.out.calm2 Kw3.out))).mono ?_; rintro e w4 ⟨rfl, qw4⟩; have Kw4 := hide (Kw3.out.calm2 qw4); clear qw4; obtain ⟨w4a, w4b, w4c, w4d, w4e, w4f⟩ := CE.out w4 Kw4.out))
      clear w2a w2b w2c w2d w2e w2f w3a w3b w3c w3d w3e w3f w4a w4b w4c w4d w4e w4f
      have hs5 := Kw4.out.size
      go_wp2
      go_ret
      rw [HW.out]
      exact ⟨w4.heap.size, rfl, by omega, heap_alloc_new w4 _, (K0.out.calm2 Kw4.out).calm2 (Kept.alloc w4 _)⟩
    · have e2 : (c.kind == 2) = false := by simp [h2]
      by_cases h3 : c.kind = 3
      · have e3 : (c.kind == 3) = true := by simp [h3]
        have HW : Hid (cmdW c = [itoaW c.kind, itoaW c.id, itoaW c.n]) := by show _ = _; unfold cmdW; rw [if_neg h1, if_neg h2, if_pos h3]
        clear h1 h2 h3
        go_wp2_with fail
        refine (intWord_c c.n w2 HI.out.n (HT.out.calm (K0.out.calm2 Kw2.out))).mono ?_
        rintro e w3 ⟨rfl, q3⟩
        have K3 := hide (Kw2.out.calm2 q3)
        clear q3
        clear w2a w2b w2c w2d w2e w2f
        have hs5 := K3.out.size
        go_wp2
        go_ret
        rw [HW.out]
        exact ⟨w3.heap.size, rfl, by omega, heap_alloc_new w3 _, (K0.out.calm2 K3.out).calm2 (Kept.alloc w3 _)⟩
      · have e3 : (c.kind == 3) = false := by simp [h3]
        by_cases h4 : c.kind = 4
        · have e4 : (c.kind == 4) = true := by simp [h4]
          have HW : Hid (cmdW c = [itoaW c.kind, itoaW c.id]) := by show _ = _; unfold cmdW; rw [if_neg h1, if_neg h2, if_neg h3, if_pos h4]
          clear h1 h2 h3 h4
          go_wp2
          go_ret
          rw [HW.out]
          exact ⟨w2.heap.size, rfl, by omega, heap_alloc_new w2 _, (K0.out.calm2 Kw2.out).calm2 (Kept.alloc w2 _)⟩
        · have e4 : (c.kind == 4) = false := by simp [h4]
          have HW : Hid (cmdW c = [itoaW c.kind]) := by show _ = _; unfold cmdW; rw [if_neg h1, if_neg h2, if_neg h3, if_neg h4]
          clear h1 h2 h3 h4
          go_wp2
          go_ret
          rw [HW.out]
          exact ⟨w2.heap.size, rfl, by omega, heap_alloc_new w2 _, (K0.out.calm2 Kw2.out).calm2 (Kept.alloc w2 _)⟩

/-- The words of an entity. -/
def entW (m : Mob) : List ByteArray := [itoaW m.id, itoaW m.team, hexW m.x, hexW m.y, hexW m.vx, hexW m.vy, itoaW m.health]
structure IntM (m : Mob) : Prop where
  id : -9223372036854775808 ≤ m.id ∧ m.id ≤ 9223372036854775807
  team : -9223372036854775808 ≤ m.team ∧ m.team ≤ 9223372036854775807
  health : -9223372036854775808 ≤ m.health ∧ m.health ≤ 9223372036854775807

set_option maxHeartbeats 4000000 in
set_option maxRecDepth 100000 in
theorem entW_c (m : Mob) (w : World) (hI : IntM m) (h : Tabs w) :
    Calls Tryz.prog 60 #[.agg #[.int .i64 m.id, .int .i64 m.team, .float .f32 m.x, .float .f32 m.y, .float .f32 m.vx, .float .f32 m.vy, .int .i64 m.health]] w fun e w' =>
      ∃ g, e = .returned (.slice (some ⟨g, 0, none⟩) (entW m).length (entW m).length) ∧ w.heap.size ≤ g ∧ HasW w' g (entW m) ∧ Kept (fun _ => False) w w' := by
  have HT := hide h
  have HI := hide hI
  clear h hI
  have K0 := hide (Kept.alloc w (.cells #[.int .i64 m.id, .int .i64 m.team, .float .f32 m.x, .float .f32 m.y, .float .f32 m.vx, .float .f32 m.vy, .int .i64 m.health] 63))
  have HN := hide (heap_alloc_new w (.cells #[.int .i64 m.id, .int .i64 m.team, .float .f32 m.x, .float .f32 m.y, .float .f32 m.vx, .float .f32 m.vy, .int .i64 m.health] 63))
  go_enter Tryz.func60, Tryz.ntmps60
  go_wp2
  generalize w.alloc (.cells #[.int .i64 m.id, .int .i64 m.team, .float .f32 m.x, .float .f32 m.y, .float .f32 m.vx, .float .f32 m.vy, .int .i64 m.health] 63) = wa at *
  have hb := heap_lt HN.out
  have CE : Hid (∀ w', Kept (fun _ => False) wa w' → w'.cell? ⟨w.heap.size, 0, none⟩ = some (.int .i64 m.id) ∧ w'.cell? ⟨w.heap.size, 1, none⟩ = some (.int .i64 m.team) ∧ w'.cell? ⟨w.heap.size, 2, none⟩ = some (.float .f32 m.x) ∧ w'.cell? ⟨w.heap.size, 3, none⟩ = some (.float .f32 m.y) ∧ w'.cell? ⟨w.heap.size, 4, none⟩ = some (.float .f32 m.vx) ∧ w'.cell? ⟨w.heap.size, 5, none⟩ = some (.float .f32 m.vy) ∧ w'.cell? ⟨w.heap.size, 6, none⟩ = some (.int .i64 m.health)) := fun w' hk => seven_cells (show w'.heap[w.heap.size]? = some _ by rw [hk.block _ hb (fun e => e)]; exact HN.out)
  obtain ⟨s0, s1, s2, s3, s4, s5, s6⟩ := CE.out wa (Kept.refl _ _)
  go_region_held3 (fun w' => w'.cell? ⟨w.heap.size, 0, none⟩ = some (.int .i64 m.id) ∧ w'.cell? ⟨w.heap.size, 1, none⟩ = some (.int .i64 m.team) ∧ w'.cell? ⟨w.heap.size, 2, none⟩ = some (.float .f32 m.x) ∧ w'.cell? ⟨w.heap.size, 3, none⟩ = some (.float .f32 m.y) ∧ w'.cell? ⟨w.heap.size, 4, none⟩ = some (.float .f32 m.vx) ∧ w'.cell? ⟨w.heap.size, 5, none⟩ = some (.float .f32 m.vy) ∧ w'.cell? ⟨w.heap.size, 6, none⟩ = some (.int .i64 m.health)) (go_keep)
    (first
      | (go_at_call 57; refine (intWord_c m.id _ HI.out.id (HT.out.calm (K0.out.calm2 (Kept.drew wa)))).mono ?_; rintro e w1 ⟨rfl, qw1⟩; have Kw1 := hide ((Kept.drew wa).calm2 qw1); clear qw1; obtain ⟨w1a, w1b, w1c, w1d, w1e, w1f, w1g⟩ := CE.out w1 Kw1.out)
      | (go_at_call 57; refine (intWord_c m.team _ HI.out.team (HT.out.calm (K0.out.calm2 Kw1.out))).mono ?_; rintro e w2 ⟨rfl, qw2⟩; have Kw2 := hide (Kw1.out.calm2 qw2); clear qw2; obtain ⟨w2a, w2b, w2c, w2d, w2e, w2f, w2g⟩ := CE.out w2 Kw2.out)
      | (go_at_call 79; refine (hexWord_c m.x _ (HT.out.calm (K0.out.calm2 Kw2.out))).mono ?_; rintro e w3 ⟨rfl, qw3⟩; have Kw3 := hide (Kw2.out.calm2 qw3); clear qw3; obtain ⟨w3a, w3b, w3c, w3d, w3e, w3f, w3g⟩ := CE.out w3 Kw3.out)
      | (go_at_call 79; refine (hexWord_c m.y _ (HT.out.calm (K0.out.calm2 Kw3.out))).mono ?_; rintro e w4 ⟨rfl, qw4⟩; have Kw4 := hide (Kw3.out.calm2 qw4); clear qw4; obtain ⟨w4a, w4b, w4c, w4d, w4e, w4f, w4g⟩ := CE.out w4 Kw4.out)
      | (go_at_call 79; refine (hexWord_c m.vx _ (HT.out.calm (K0.out.calm2 Kw4.out))).mono ?_; rintro e w5 ⟨rfl, qw5⟩; have Kw5 := hide (Kw4.out.calm2 qw5); clear qw5; obtain ⟨w5a, w5b, w5c, w5d, w5e, w5f, w5g⟩ := CE.out w5 Kw5.out)
      | (go_at_call 79; refine (hexWord_c m.vy _ (HT.out.calm (K0.out.calm2 Kw5.out))).mono ?_; rintro e w6 ⟨rfl, qw6⟩; have Kw6 := hide (Kw5.out.calm2 qw6); clear qw6; obtain ⟨w6a, w6b, w6c, w6d, w6e, w6f, w6g⟩ := CE.out w6 Kw6.out)
      | (go_at_call 57; refine (intWord_c m.health _ HI.out.health (HT.out.calm (K0.out.calm2 Kw6.out))).mono ?_; rintro e w7 ⟨rfl, qw7⟩; have Kw7 := hide (Kw6.out.calm2 qw7); clear qw7; obtain ⟨w7a, w7b, w7c, w7d, w7e, w7f, w7g⟩ := CE.out w7 Kw7.out))
  clear s0 s1 s2 s3 s4 s5 s6
  clear w1a w1b w1c w1d w1e w1f w1g
  clear w2a w2b w2c w2d w2e w2f w2g
  clear w3a w3b w3c w3d w3e w3f w3g
  clear w4a w4b w4c w4d w4e w4f w4g
  clear w5a w5b w5c w5d w5e w5f w5g
  clear w6a w6b w6c w6d w6e w6f w6g
  clear w7a w7b w7c w7d w7e w7f w7g
  have hs7 := Kw7.out.size
  have hs0 := K0.out.size
  go_wp2
  go_ret
  exact ⟨w7.heap.size, rfl, by omega, heap_alloc_new w7 _, (K0.out.calm2 Kw7.out).calm2 (Kept.alloc w7 _)⟩
end Go.Proofs.YtlfmfhmbkpnjbabGreatDoor

namespace Go.Proofs
open Go.Shelf
def Tryz.lays137_ren : Go.Shelf.Ren := ⟨fun | 137 => 50 | 217 => 71 | 266 => 94 | n => n, fun | 9 => 9 | 5 => 5 | 3 => 3 | n => n, fun | n => n⟩
theorem Tryz.lays137 : Go.Proofs.Lays.n137 Tryz.prog Tryz.lays137_ren := {
  mixed := by kernel_rfl
  f137 := Tryz.func50.trans (congrArg some (by kernel_rfl))
  f217 := Tryz.func71.trans (congrArg some (by kernel_rfl))
  f266 := Tryz.func94.trans (congrArg some (by kernel_rfl))
  t3 := Tryz.underlying3
  a3 := Tryz.isAgg3
  z3 := Tryz.sizeOf3
  v3 := Tryz.zeroValue3
  t5 := Tryz.underlying5
  a5 := Tryz.isAgg5
  z5 := Tryz.sizeOf5
  v5 := Tryz.zeroValue5
  t9 := Tryz.underlying9
  a9 := Tryz.isAgg9
  z9 := Tryz.sizeOf9
  v9 := Tryz.zeroValue9 }
open Go.RowKit in
theorem Tryz.strings_IndexByte (s : ByteArray) (c : Int) (w : World) :
    Calls Tryz.prog 50 #[.string s, .int .u8 c] w fun e w' => e = .returned (.int .i64 (Lib.indexByte s.data.toList c.toNat.toUInt8)) ∧ w' = w := Any.strings_IndexByte Tryz.lays137 s c w
def Tryz.lays217_ren : Go.Shelf.Ren := ⟨fun | 217 => 71 | 266 => 94 | n => n, fun | 9 => 9 | 5 => 5 | 3 => 3 | n => n, fun | n => n⟩
theorem Tryz.lays217 : Go.Proofs.Lays.n217 Tryz.prog Tryz.lays217_ren := {
  mixed := by kernel_rfl
  f217 := Tryz.func71.trans (congrArg some (by kernel_rfl))
  f266 := Tryz.func94.trans (congrArg some (by kernel_rfl))
  t3 := Tryz.underlying3
  a3 := Tryz.isAgg3
  z3 := Tryz.sizeOf3
  v3 := Tryz.zeroValue3
  t5 := Tryz.underlying5
  a5 := Tryz.isAgg5
  z5 := Tryz.sizeOf5
  v5 := Tryz.zeroValue5
  t9 := Tryz.underlying9
  a9 := Tryz.isAgg9
  z9 := Tryz.sizeOf9
  v9 := Tryz.zeroValue9 }
open Go.RowKit Go.Lib in
theorem Tryz.stringslite_IndexByte (s : ByteArray) (c : Int) (w : World) :
    Calls Tryz.prog 71 #[.string s, .int .u8 c] w fun e w' => e = .returned (.int .i64 (Lib.indexByte s.data.toList c.toNat.toUInt8)) ∧ w' = w := Any.stringslite_IndexByte Tryz.lays217 s c w
def Tryz.lays149_ren : Go.Shelf.Ren := ⟨fun | 149 => 22 | 222 => 44 | n => n, fun | 9 => 9 | 5 => 5 | 3 => 3 | 4 => 4 | n => n, fun | n => n⟩
theorem Tryz.lays149 : Go.Proofs.Lays.n149 Tryz.prog Tryz.lays149_ren := {
  mixed := by kernel_rfl
  f149 := Tryz.func22.trans (congrArg some (by kernel_rfl))
  f222 := Tryz.func44.trans (congrArg some (by kernel_rfl))
  t3 := Tryz.underlying3
  a3 := Tryz.isAgg3
  z3 := Tryz.sizeOf3
  v3 := Tryz.zeroValue3
  t4 := Tryz.underlying4
  a4 := Tryz.isAgg4
  z4 := Tryz.sizeOf4
  v4 := Tryz.zeroValue4
  t5 := Tryz.underlying5
  a5 := Tryz.isAgg5
  z5 := Tryz.sizeOf5
  v5 := Tryz.zeroValue5
  t9 := Tryz.underlying9
  a9 := Tryz.isAgg9
  z9 := Tryz.sizeOf9
  v9 := Tryz.zeroValue9 }
open Go.RowKit Go.Lib in
theorem Tryz.strings_LastIndexByte (s : ByteArray) (c : Int) (hs : s.size < 4611686018427387904) (w : World) :
    Calls Tryz.prog 22 #[.string s, .int .u8 c] w fun e w' => e = .returned (.int .i64 (Lib.lastIndexByte s c)) ∧ w' = w := Any.strings_LastIndexByte Tryz.lays149 s c hs w
def Tryz.lays102_ren : Go.Shelf.Ren := ⟨fun | 102 => 27 | 209 => 54 | 207 => 75 | n => n, fun | 9 => 9 | 4 => 4 | 3 => 3 | n => n, fun | n => n⟩
theorem Tryz.lays102 : Go.Proofs.Lays.n102 Tryz.prog Tryz.lays102_ren := {
  mixed := by kernel_rfl
  f102 := Tryz.func27.trans (congrArg some (by kernel_rfl))
  f207 := Tryz.func75.trans (congrArg some (by kernel_rfl))
  f209 := Tryz.func54.trans (congrArg some (by kernel_rfl))
  t3 := Tryz.underlying3
  a3 := Tryz.isAgg3
  z3 := Tryz.sizeOf3
  v3 := Tryz.zeroValue3
  t4 := Tryz.underlying4
  a4 := Tryz.isAgg4
  z4 := Tryz.sizeOf4
  v4 := Tryz.zeroValue4
  t9 := Tryz.underlying9
  a9 := Tryz.isAgg9
  z9 := Tryz.sizeOf9
  v9 := Tryz.zeroValue9 }
open Go.RowKit Go.Lib in
theorem Tryz.strings_TrimSuffix (s p : ByteArray) (w : World) (hs : s.size ≤ 9223372036854775807) :
    Calls Tryz.prog 27 #[.string s, .string p] w fun e w' => e = .returned (.string ⟨(Lib.trimSuffix s.data.toList p.data.toList).toArray⟩) ∧ w' = w := Any.strings_TrimSuffix Tryz.lays102 s p w hs
def Tryz.laysC172_ren : Go.Shelf.Ren := ⟨fun | 172 => 70 | 244 => 92 | 245 => 93 | 247 => 107 | 279 => 108 | 280 => 109 | 281 => 110 | 282 => 111 | 287 => 118 | 316 => 119 | 171 => 78 | 205 => 120 | 321 => 127 | 322 => 128 | 243 => 100 | 246 => 115 | 283 => 122 | 284 => 123 | 285 => 124 | 286 => 125 | 129 => 130 | 317 => 129 | 318 => 131 | 319 => 132 | 320 => 133 | 337 => 134 | 338 => 135 | n => n, fun | 9 => 9 | 3 => 3 | 75 => 85 | 76 => 86 | 4 => 4 | 5 => 5 | 167 => 167 | 37 => 79 | 0 => 0 | 85 => 168 | 2 => 2 | 168 => 170 | 53 => 162 | 175 => 173 | 46 => 154 | 210 => 181 | 127 => 115 | 145 => 192 | 143 => 190 | 21 => 21 | 171 => 184 | 173 => 187 | 212 => 194 | 51 => 163 | 20 => 20 | 213 => 195 | 232 => 198 | 233 => 199 | 80 => 53 | n => n, fun | 15 => 2 | 16 => 3 | 17 => 4 | 18 => 5 | 19 => 6 | n => n⟩
theorem Tryz.laysC172 : Go.Proofs.LaysC.n172 Tryz.prog Tryz.laysC172_ren := {
  mixed := by kernel_rfl
  f129 := Tryz.func130.trans (congrArg some (by kernel_rfl))
  f171 := Tryz.func78.trans (congrArg some (by kernel_rfl))
  f172 := Tryz.func70.trans (congrArg some (by kernel_rfl))
  f205 := Tryz.func120.trans (congrArg some (by kernel_rfl))
  f243 := Tryz.func100.trans (congrArg some (by kernel_rfl))
  f244 := Tryz.func92.trans (congrArg some (by kernel_rfl))
  f245 := Tryz.func93.trans (congrArg some (by kernel_rfl))
  f246 := Tryz.func115.trans (congrArg some (by kernel_rfl))
  f247 := Tryz.func107.trans (congrArg some (by kernel_rfl))
  f279 := Tryz.func108.trans (congrArg some (by kernel_rfl))
  f280 := Tryz.func109.trans (congrArg some (by kernel_rfl))
  f281 := Tryz.func110.trans (congrArg some (by kernel_rfl))
  f282 := Tryz.func111.trans (congrArg some (by kernel_rfl))
  f283 := Tryz.func122.trans (congrArg some (by kernel_rfl))
  f284 := Tryz.func123.trans (congrArg some (by kernel_rfl))
  f285 := Tryz.func124.trans (congrArg some (by kernel_rfl))
  f286 := Tryz.func125.trans (congrArg some (by kernel_rfl))
  f287 := Tryz.func118.trans (congrArg some (by kernel_rfl))
  f316 := Tryz.func119.trans (congrArg some (by kernel_rfl))
  f317 := Tryz.func129.trans (congrArg some (by kernel_rfl))
  f318 := Tryz.func131.trans (congrArg some (by kernel_rfl))
  f319 := Tryz.func132.trans (congrArg some (by kernel_rfl))
  f320 := Tryz.func133.trans (congrArg some (by kernel_rfl))
  f321 := Tryz.func127.trans (congrArg some (by kernel_rfl))
  f322 := Tryz.func128.trans (congrArg some (by kernel_rfl))
  f337 := Tryz.func134.trans (congrArg some (by kernel_rfl))
  f338 := Tryz.func135.trans (congrArg some (by kernel_rfl))
  t0 := Tryz.underlying0
  a0 := Tryz.isAgg0
  z0 := Tryz.sizeOf0
  v0 := Tryz.zeroValue0
  t2 := Tryz.underlying2
  a2 := Tryz.isAgg2
  z2 := Tryz.sizeOf2
  v2 := Tryz.zeroValue2
  t3 := Tryz.underlying3
  a3 := Tryz.isAgg3
  z3 := Tryz.sizeOf3
  v3 := Tryz.zeroValue3
  t4 := Tryz.underlying4
  a4 := Tryz.isAgg4
  z4 := Tryz.sizeOf4
  v4 := Tryz.zeroValue4
  t5 := Tryz.underlying5
  a5 := Tryz.isAgg5
  z5 := Tryz.sizeOf5
  v5 := Tryz.zeroValue5
  t9 := Tryz.underlying9
  a9 := Tryz.isAgg9
  z9 := Tryz.sizeOf9
  v9 := Tryz.zeroValue9
  t20 := Tryz.underlying20
  a20 := Tryz.isAgg20
  z20 := Tryz.sizeOf20
  v20 := Tryz.zeroValue20
  t21 := Tryz.underlying21
  a21 := Tryz.isAgg21
  z21 := Tryz.sizeOf21
  v21 := Tryz.zeroValue21
  t37 := Tryz.underlying79
  a37 := Tryz.isAgg79
  z37 := Tryz.sizeOf79
  v37 := Tryz.zeroValue79
  t46 := Tryz.underlying154
  a46 := Tryz.isAgg154
  z46 := Tryz.sizeOf154
  v46 := Tryz.zeroValue154
  t51 := Tryz.underlying163
  a51 := Tryz.isAgg163
  z51 := Tryz.sizeOf163
  v51 := Tryz.zeroValue163
  t53 := Tryz.underlying162
  a53 := Tryz.isAgg162
  z53 := Tryz.sizeOf162
  v53 := Tryz.zeroValue162
  t75 := Tryz.underlying85
  a75 := Tryz.isAgg85
  z75 := Tryz.sizeOf85
  v75 := Tryz.zeroValue85
  t76 := Tryz.underlying86
  a76 := Tryz.isAgg86
  z76 := Tryz.sizeOf86
  v76 := Tryz.zeroValue86
  t85 := Tryz.underlying168
  a85 := Tryz.isAgg168
  z85 := Tryz.sizeOf168
  v85 := Tryz.zeroValue168
  t127 := Tryz.underlying115
  a127 := Tryz.isAgg115
  z127 := Tryz.sizeOf115
  v127 := Tryz.zeroValue115
  t143 := Tryz.underlying190
  a143 := Tryz.isAgg190
  z143 := Tryz.sizeOf190
  v143 := Tryz.zeroValue190
  t145 := Tryz.underlying192
  a145 := Tryz.isAgg192
  z145 := Tryz.sizeOf192
  v145 := Tryz.zeroValue192
  t167 := Tryz.underlying167
  a167 := Tryz.isAgg167
  z167 := Tryz.sizeOf167
  v167 := Tryz.zeroValue167
  t168 := Tryz.underlying170
  a168 := Tryz.isAgg170
  z168 := Tryz.sizeOf170
  v168 := Tryz.zeroValue170
  t171 := Tryz.underlying184
  a171 := Tryz.isAgg184
  z171 := Tryz.sizeOf184
  v171 := Tryz.zeroValue184
  t173 := Tryz.underlying187
  a173 := Tryz.isAgg187
  z173 := Tryz.sizeOf187
  v173 := Tryz.zeroValue187
  t175 := Tryz.underlying173
  a175 := Tryz.isAgg173
  z175 := Tryz.sizeOf173
  v175 := Tryz.zeroValue173
  t210 := Tryz.underlying181
  a210 := Tryz.isAgg181
  z210 := Tryz.sizeOf181
  v210 := Tryz.zeroValue181
  t212 := Tryz.underlying194
  a212 := Tryz.isAgg194
  z212 := Tryz.sizeOf194
  v212 := Tryz.zeroValue194
  t213 := Tryz.underlying195
  a213 := Tryz.isAgg195
  z213 := Tryz.sizeOf195
  t232 := Tryz.underlying198
  a232 := Tryz.isAgg198
  z232 := Tryz.sizeOf198
  v232 := Tryz.zeroValue198
  t233 := Tryz.underlying199
  a233 := Tryz.isAgg199
  z233 := Tryz.sizeOf199
  v233 := Tryz.zeroValue199
  g15 := by kernel_rfl
  g16 := by kernel_rfl
  g17 := by kernel_rfl
  g18 := by kernel_rfl
  g19 := by kernel_rfl
  t80 := Tryz.underlying53
  a80 := Tryz.isAgg53
  z80 := Tryz.sizeOf53
  v80 := Tryz.zeroValue53
  i0 := by kernel_rfl
  i2 := by kernel_rfl
  i3 := by kernel_rfl
  i4 := by kernel_rfl
  i5 := by kernel_rfl
  i9 := by kernel_rfl
  i20 := by kernel_rfl
  i21 := by kernel_rfl
  i37 := by kernel_rfl
  i46 := by kernel_rfl
  i51 := by kernel_rfl
  i53 := by kernel_rfl
  i75 := by kernel_rfl
  i76 := by kernel_rfl
  i80 := by kernel_rfl
  i85 := by kernel_rfl
  i127 := by kernel_rfl
  i143 := by kernel_rfl
  i145 := by kernel_rfl
  i167 := by kernel_rfl
  i168 := by kernel_rfl
  i171 := by kernel_rfl
  i173 := by kernel_rfl
  i175 := by kernel_rfl
  i210 := by kernel_rfl
  i212 := by kernel_rfl
  i232 := by kernel_rfl
  i233 := by kernel_rfl
  m15 := by kernel_rfl
  m16 := by kernel_rfl
  m17 := by kernel_rfl
  m18 := by kernel_rfl
  m19 := by kernel_rfl
  c0 := by kernel_rfl
  c2 := by kernel_rfl
  c3 := by kernel_rfl
  c4 := by kernel_rfl
  c5 := by kernel_rfl
  c9 := by kernel_rfl
  c20 := by kernel_rfl
  c21 := by kernel_rfl
  c37 := by kernel_rfl
  c46 := by kernel_rfl
  c51 := by kernel_rfl
  c53 := by kernel_rfl
  c75 := by kernel_rfl
  c76 := by kernel_rfl
  c80 := by kernel_rfl
  c85 := by kernel_rfl
  c127 := by kernel_rfl
  c143 := by kernel_rfl
  c145 := by kernel_rfl
  c167 := by kernel_rfl
  c168 := by kernel_rfl
  c171 := by kernel_rfl
  c173 := by kernel_rfl
  c175 := by kernel_rfl
  c210 := by kernel_rfl
  c212 := by kernel_rfl
  c213 := by kernel_rfl
  c232 := by kernel_rfl
  c233 := by kernel_rfl }
open Go.RowKit in
theorem Tryz.strconv_Atoi_ok (s : ByteArray) (hmax : s.size ≤ 9223372036854775806) (v : Int) (h : Lib.atoiAll s.data.toList = .ok v) (w : World) :
    Calls Tryz.prog 70 #[.string s] w fun e w' => e = .returned (.tuple #[.int .i64 v, .nilIface]) ∧ (w' = w ∨ ∃ t, w' = Lib.bytesWorld w 5 t) := Any.strconv_Atoi_ok Tryz.laysC172 s hmax v h w
open Go.RowKit in
theorem Tryz.strconv_Atoi_syntax (s : ByteArray) (hlim : s.size ≤ 281474976710656) (h : Lib.atoiAll s.data.toList = .«syntax») (ev : Value) (w : World) (hv : w.cell? ⟨2, 0, none⟩ = some ev) (hev : ev = .nilIface ∨ ∃ te pe, ev = .iface te pe) :
    Calls Tryz.prog 70 #[.string s] w fun e w' => ∃ N, e = .returned (.tuple #[.int .i64 (0), .iface 170 (.pointer (some ⟨N, 0, none⟩))]) ∧ w.heap.size ≤ N ∧ w'.heap[N]? = some (.cells #[.string ⟨#[65, 116, 111, 105]⟩, .string s, ev] 181 (0, 0)) ∧ Below w.heap.size w w' := Any.strconv_Atoi_syntax Tryz.laysC172 s hlim h ev w hv hev
open Go.RowKit in
theorem Tryz.strconv_Atoi_range (s : ByteArray) (hlim : s.size ≤ 281474976710656) (h : Lib.atoiAll s.data.toList = .range) (ev : Value) (w : World) (hv : w.cell? ⟨3, 0, none⟩ = some ev) (hev : ev = .nilIface ∨ ∃ te pe, ev = .iface te pe) :
    Calls Tryz.prog 70 #[.string s] w fun e w' => ∃ N, e = .returned (.tuple #[.int .i64 (Lib.atoiSat s.data.toList), .iface 170 (.pointer (some ⟨N, 0, none⟩))]) ∧ w.heap.size ≤ N ∧ w'.heap[N]? = some (.cells #[.string ⟨#[65, 116, 111, 105]⟩, .string s, ev] 181 (0, 0)) ∧ Below w.heap.size w w' := Any.strconv_Atoi_range Tryz.laysC172 s hlim h ev w hv hev
def Tryz.laysC245_ren : Go.Shelf.Ren := ⟨fun | 245 => 93 | 279 => 108 | 280 => 109 | 281 => 110 | 282 => 111 | 316 => 119 | 171 => 78 | 205 => 120 | 243 => 100 | 246 => 115 | 283 => 122 | 284 => 123 | 285 => 124 | 286 => 125 | 129 => 130 | 317 => 129 | 318 => 131 | 319 => 132 | 320 => 133 | 337 => 134 | 338 => 135 | n => n, fun | 9 => 9 | 3 => 3 | 75 => 85 | 167 => 167 | 4 => 4 | 168 => 170 | 210 => 181 | 37 => 79 | 0 => 0 | 127 => 115 | 145 => 192 | 143 => 190 | 2 => 2 | 171 => 184 | 53 => 162 | 5 => 5 | 173 => 187 | 212 => 194 | 51 => 163 | 20 => 20 | 213 => 195 | 46 => 154 | 232 => 198 | 233 => 199 | 80 => 53 | n => n, fun | 15 => 2 | 16 => 3 | 17 => 4 | 18 => 5 | 19 => 6 | n => n⟩
theorem Tryz.laysC245 : Go.Proofs.LaysC.n245 Tryz.prog Tryz.laysC245_ren := {
  mixed := by kernel_rfl
  f129 := Tryz.func130.trans (congrArg some (by kernel_rfl))
  f171 := Tryz.func78.trans (congrArg some (by kernel_rfl))
  f205 := Tryz.func120.trans (congrArg some (by kernel_rfl))
  f243 := Tryz.func100.trans (congrArg some (by kernel_rfl))
  f245 := Tryz.func93.trans (congrArg some (by kernel_rfl))
  f246 := Tryz.func115.trans (congrArg some (by kernel_rfl))
  f279 := Tryz.func108.trans (congrArg some (by kernel_rfl))
  f280 := Tryz.func109.trans (congrArg some (by kernel_rfl))
  f281 := Tryz.func110.trans (congrArg some (by kernel_rfl))
  f282 := Tryz.func111.trans (congrArg some (by kernel_rfl))
  f283 := Tryz.func122.trans (congrArg some (by kernel_rfl))
  f284 := Tryz.func123.trans (congrArg some (by kernel_rfl))
  f285 := Tryz.func124.trans (congrArg some (by kernel_rfl))
  f286 := Tryz.func125.trans (congrArg some (by kernel_rfl))
  f316 := Tryz.func119.trans (congrArg some (by kernel_rfl))
  f317 := Tryz.func129.trans (congrArg some (by kernel_rfl))
  f318 := Tryz.func131.trans (congrArg some (by kernel_rfl))
  f319 := Tryz.func132.trans (congrArg some (by kernel_rfl))
  f320 := Tryz.func133.trans (congrArg some (by kernel_rfl))
  f337 := Tryz.func134.trans (congrArg some (by kernel_rfl))
  f338 := Tryz.func135.trans (congrArg some (by kernel_rfl))
  t0 := Tryz.underlying0
  a0 := Tryz.isAgg0
  z0 := Tryz.sizeOf0
  v0 := Tryz.zeroValue0
  t2 := Tryz.underlying2
  a2 := Tryz.isAgg2
  z2 := Tryz.sizeOf2
  v2 := Tryz.zeroValue2
  t3 := Tryz.underlying3
  a3 := Tryz.isAgg3
  z3 := Tryz.sizeOf3
  v3 := Tryz.zeroValue3
  t4 := Tryz.underlying4
  a4 := Tryz.isAgg4
  z4 := Tryz.sizeOf4
  v4 := Tryz.zeroValue4
  t5 := Tryz.underlying5
  a5 := Tryz.isAgg5
  z5 := Tryz.sizeOf5
  v5 := Tryz.zeroValue5
  t9 := Tryz.underlying9
  a9 := Tryz.isAgg9
  z9 := Tryz.sizeOf9
  v9 := Tryz.zeroValue9
  t20 := Tryz.underlying20
  a20 := Tryz.isAgg20
  z20 := Tryz.sizeOf20
  v20 := Tryz.zeroValue20
  t37 := Tryz.underlying79
  a37 := Tryz.isAgg79
  z37 := Tryz.sizeOf79
  v37 := Tryz.zeroValue79
  t46 := Tryz.underlying154
  a46 := Tryz.isAgg154
  z46 := Tryz.sizeOf154
  v46 := Tryz.zeroValue154
  t51 := Tryz.underlying163
  a51 := Tryz.isAgg163
  z51 := Tryz.sizeOf163
  v51 := Tryz.zeroValue163
  t53 := Tryz.underlying162
  a53 := Tryz.isAgg162
  z53 := Tryz.sizeOf162
  v53 := Tryz.zeroValue162
  t75 := Tryz.underlying85
  a75 := Tryz.isAgg85
  z75 := Tryz.sizeOf85
  v75 := Tryz.zeroValue85
  t127 := Tryz.underlying115
  a127 := Tryz.isAgg115
  z127 := Tryz.sizeOf115
  v127 := Tryz.zeroValue115
  t143 := Tryz.underlying190
  a143 := Tryz.isAgg190
  z143 := Tryz.sizeOf190
  v143 := Tryz.zeroValue190
  t145 := Tryz.underlying192
  a145 := Tryz.isAgg192
  z145 := Tryz.sizeOf192
  v145 := Tryz.zeroValue192
  t167 := Tryz.underlying167
  a167 := Tryz.isAgg167
  z167 := Tryz.sizeOf167
  v167 := Tryz.zeroValue167
  t168 := Tryz.underlying170
  a168 := Tryz.isAgg170
  z168 := Tryz.sizeOf170
  v168 := Tryz.zeroValue170
  t171 := Tryz.underlying184
  a171 := Tryz.isAgg184
  z171 := Tryz.sizeOf184
  v171 := Tryz.zeroValue184
  t173 := Tryz.underlying187
  a173 := Tryz.isAgg187
  z173 := Tryz.sizeOf187
  v173 := Tryz.zeroValue187
  t210 := Tryz.underlying181
  a210 := Tryz.isAgg181
  z210 := Tryz.sizeOf181
  v210 := Tryz.zeroValue181
  t212 := Tryz.underlying194
  a212 := Tryz.isAgg194
  z212 := Tryz.sizeOf194
  v212 := Tryz.zeroValue194
  t213 := Tryz.underlying195
  a213 := Tryz.isAgg195
  z213 := Tryz.sizeOf195
  t232 := Tryz.underlying198
  a232 := Tryz.isAgg198
  z232 := Tryz.sizeOf198
  v232 := Tryz.zeroValue198
  t233 := Tryz.underlying199
  a233 := Tryz.isAgg199
  z233 := Tryz.sizeOf199
  v233 := Tryz.zeroValue199
  g15 := by kernel_rfl
  g16 := by kernel_rfl
  g17 := by kernel_rfl
  g18 := by kernel_rfl
  g19 := by kernel_rfl
  t80 := Tryz.underlying53
  a80 := Tryz.isAgg53
  z80 := Tryz.sizeOf53
  v80 := Tryz.zeroValue53
  i0 := by kernel_rfl
  i2 := by kernel_rfl
  i3 := by kernel_rfl
  i4 := by kernel_rfl
  i5 := by kernel_rfl
  i9 := by kernel_rfl
  i20 := by kernel_rfl
  i37 := by kernel_rfl
  i46 := by kernel_rfl
  i51 := by kernel_rfl
  i53 := by kernel_rfl
  i75 := by kernel_rfl
  i80 := by kernel_rfl
  i127 := by kernel_rfl
  i143 := by kernel_rfl
  i145 := by kernel_rfl
  i167 := by kernel_rfl
  i168 := by kernel_rfl
  i171 := by kernel_rfl
  i173 := by kernel_rfl
  i210 := by kernel_rfl
  i212 := by kernel_rfl
  i232 := by kernel_rfl
  i233 := by kernel_rfl
  m15 := by kernel_rfl
  m16 := by kernel_rfl
  m17 := by kernel_rfl
  m18 := by kernel_rfl
  m19 := by kernel_rfl
  c0 := by kernel_rfl
  c2 := by kernel_rfl
  c3 := by kernel_rfl
  c4 := by kernel_rfl
  c5 := by kernel_rfl
  c9 := by kernel_rfl
  c20 := by kernel_rfl
  c37 := by kernel_rfl
  c46 := by kernel_rfl
  c51 := by kernel_rfl
  c53 := by kernel_rfl
  c75 := by kernel_rfl
  c80 := by kernel_rfl
  c127 := by kernel_rfl
  c143 := by kernel_rfl
  c145 := by kernel_rfl
  c167 := by kernel_rfl
  c168 := by kernel_rfl
  c171 := by kernel_rfl
  c173 := by kernel_rfl
  c210 := by kernel_rfl
  c212 := by kernel_rfl
  c213 := by kernel_rfl
  c232 := by kernel_rfl
  c233 := by kernel_rfl }
open Go.RowKit in
theorem Tryz.strconv_toError_syntax (fn s : ByteArray) (base bits : Int) (ev : Value) (w : World) (hlim : s.size ≤ 281474976710656) (hv : w.cell? ⟨2, 0, none⟩ = some ev) (hev : ev = .nilIface ∨ ∃ te pe, ev = .iface te pe) :
    Calls Tryz.prog 93 #[.string fn, .string s, .int .i64 base, .int .i64 bits, .iface 167 (.int .i64 2)] w fun e w' => ∃ N, e = .returned (.iface 170 (.pointer (some ⟨N, 0, none⟩))) ∧ w.heap.size ≤ N ∧ w'.heap[N]? = some (.cells #[.string fn, .string s, ev] 181 (0, 0)) ∧ Below w.heap.size w w' := Any.strconv_toError_syntax Tryz.laysC245 fn s base bits ev w hlim hv hev
open Go.RowKit in
theorem Tryz.strconv_toError_range (fn s : ByteArray) (base bits : Int) (ev : Value) (w : World) (hlim : s.size ≤ 281474976710656) (hv : w.cell? ⟨3, 0, none⟩ = some ev) (hev : ev = .nilIface ∨ ∃ te pe, ev = .iface te pe) :
    Calls Tryz.prog 93 #[.string fn, .string s, .int .i64 base, .int .i64 bits, .iface 167 (.int .i64 1)] w fun e w' => ∃ N, e = .returned (.iface 170 (.pointer (some ⟨N, 0, none⟩))) ∧ w.heap.size ≤ N ∧ w'.heap[N]? = some (.cells #[.string fn, .string s, ev] 181 (0, 0)) ∧ Below w.heap.size w w' := Any.strconv_toError_range Tryz.laysC245 fn s base bits ev w hlim hv hev
def Tryz.lays321_ren : Go.Shelf.Ren := ⟨fun | 321 => 127 | n => n, fun | 5 => 5 | n => n, fun | n => n⟩
theorem Tryz.lays321 : Go.Proofs.Lays.n321 Tryz.prog Tryz.lays321_ren := {
  mixed := by kernel_rfl
  f321 := Tryz.func127.trans (congrArg some (by kernel_rfl))
  t5 := Tryz.underlying5
  a5 := Tryz.isAgg5
  z5 := Tryz.sizeOf5
  v5 := Tryz.zeroValue5 }
open Go.RowKit in
theorem Tryz.internal_strconv_lower (c : Int) (w : World) :
    Calls Tryz.prog 127 #[.int .u8 c] w fun e w' => e = .returned (.int .u8 (bits .or .u8 c 32)) ∧ w' = w := Any.internal_strconv_lower Tryz.lays321 c w
end Go.Proofs
