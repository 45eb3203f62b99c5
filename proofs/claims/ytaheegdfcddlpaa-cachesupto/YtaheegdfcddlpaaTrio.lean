import Derived.Test.YtaheegdfcddlpaaCmath
import Derived.Test.YtaheegdfcddlpaaNewis
import Derived.Test.YtaheegdfcddlpaaNewsi
namespace Go.Proofs.Ytaheegdfcddlpaa
open Go.RowKit

/-- Three caches side by side: two of the program's, the document's. -/
structure Tri (w : World) (cc x z y : Nat) (rx rz ry : Value) (n : Nat) (X : List Ent) (Z : List (ByteArray × Int)) (Y : List Ent) : Prop where
  blk : w.heap[cc]? = some (.cells #[.pointer (some ⟨x, 0, none⟩), .pointer (some ⟨z, 0, none⟩), .pointer (some ⟨y, 0, none⟩)] 60 (0, 0))
  ix : Isis w x rx n X
  iz : Issi w z rz n Z
  iy : IsRef w y ry n Y

/-- Their blocks. -/
def TFoot (cc x z y : Nat) (rx rz ry : Value) : Nat → Prop := fun j => j = cc ∨ Foot x rx j ∨ Foot z rz j ∨ Foot y ry j

theorem foot_typ {w : World} {T E : TypeId} {c : Nat} {cap : Int} {v : Value} {n : Nat} {xs : List Value} (h : CacheAt w T E c cap v n xs) (j : Nat) (hj : Foot c v j) : typ w j T ∨ typ w j E := by
  rcases hj with rfl | hj
  · exact Or.inl (typ_blk h.1)
  · exact Or.inr (typ_own h.2 j hj)

theorem typ_two {w : World} {j : Nat} {s t : TypeId} (h : typ w j s) (k : typ w j t) (hst : s ≠ t) : False := typ_ne h k hst rfl

section
variable {w w' : World} {cc x z y : Nat} {rx rz ry : Value} {n : Nat} {X : List Ent} {Z : List (ByteArray × Int)} {Y : List Ent}

theorem Tri.tc (h : Tri w cc x z y rx rz ry n X Z Y) : typ w cc 60 := typ_blk h.blk
theorem Tri.tx (h : Tri w cc x z y rx rz ry n X Z Y) (j : Nat) (hj : Foot x rx j) : typ w j 86 ∨ typ w j 92 := foot_typ h.ix j hj
theorem Tri.tz (h : Tri w cc x z y rx rz ry n X Z Y) (j : Nat) (hj : Foot z rz j) : typ w j 89 ∨ typ w j 95 := foot_typ h.iz j hj
theorem Tri.ty (h : Tri w cc x z y rx rz ry n X Z Y) (j : Nat) (hj : Foot y ry j) : typ w j 58 ∨ typ w j 70 := foot_typ h.iy j hj

theorem Tri.keep {S : Nat → Prop} (h : Tri w cc x z y rx rz ry n X Z Y) (hk : Kept S w w') (hS : ∀ j, TFoot cc x z y rx rz ry j → ¬ S j) : Tri w' cc x z y rx rz ry n X Z Y :=
  ⟨by rw [hk.block cc (heap_lt h.blk) (hS cc (Or.inl rfl))]; exact h.blk,
    CacheAt.keep h.ix hk (fun j hj => hS j (Or.inr (Or.inl hj))),
    CacheAt.keep h.iz hk (fun j hj => hS j (Or.inr (Or.inr (Or.inl hj)))),
    CacheAt.keep h.iy hk (fun j hj => hS j (Or.inr (Or.inr (Or.inr hj))))⟩

theorem Tri.lt (h : Tri w cc x z y rx rz ry n X Z Y) (j : Nat) (hj : TFoot cc x z y rx rz ry j) : j < w.heap.size := by
  rcases hj with rfl | hj | hj | hj
  · exact heap_lt h.blk
  · exact CacheAt.lt h.ix j hj
  · exact CacheAt.lt h.iz j hj
  · exact CacheAt.lt h.iy j hj

theorem Tri.xz (h : Tri w cc x z y rx rz ry n X Z Y) (j : Nat) (a : Foot x rx j) (b : Foot z rz j) : False := by
  rcases h.tx j a with p | p <;> rcases h.tz j b with q | q <;> exact typ_two p q (by decide)
theorem Tri.xy (h : Tri w cc x z y rx rz ry n X Z Y) (j : Nat) (a : Foot x rx j) (b : Foot y ry j) : False := by
  rcases h.tx j a with p | p <;> rcases h.ty j b with q | q <;> exact typ_two p q (by decide)
theorem Tri.zy (h : Tri w cc x z y rx rz ry n X Z Y) (j : Nat) (a : Foot z rz j) (b : Foot y ry j) : False := by
  rcases h.tz j a with p | p <;> rcases h.ty j b with q | q <;> exact typ_two p q (by decide)
theorem Tri.cx (h : Tri w cc x z y rx rz ry n X Z Y) (b : Foot x rx cc) : False := by
  rcases h.tx cc b with q | q <;> exact typ_two h.tc q (by decide)
theorem Tri.cz (h : Tri w cc x z y rx rz ry n X Z Y) (b : Foot z rz cc) : False := by
  rcases h.tz cc b with q | q <;> exact typ_two h.tc q (by decide)
theorem Tri.cy (h : Tri w cc x z y rx rz ry n X Z Y) (b : Foot y ry cc) : False := by
  rcases h.ty cc b with q | q <;> exact typ_two h.tc q (by decide)

theorem Tri.stepX {rx' : Value} {X' : List Ent} (h : Tri w cc x z y rx rz ry n X Z Y) (hi : Isis w' x rx' n X') (hk : Kept (Foot x rx) w w') : Tri w' cc x z y rx' rz ry n X' Z Y :=
  ⟨by rw [hk.block cc (heap_lt h.blk) (fun e => h.cx e)]; exact h.blk, hi, CacheAt.keep h.iz hk (fun j hj e => h.xz j e hj), CacheAt.keep h.iy hk (fun j hj e => h.xy j e hj)⟩
theorem Tri.stepZ {rz' : Value} {Z' : List (ByteArray × Int)} (h : Tri w cc x z y rx rz ry n X Z Y) (hi : Issi w' z rz' n Z') (hk : Kept (Foot z rz) w w') : Tri w' cc x z y rx rz' ry n X Z' Y :=
  ⟨by rw [hk.block cc (heap_lt h.blk) (fun e => h.cz e)]; exact h.blk, CacheAt.keep h.ix hk (fun j hj e => h.xz j hj e), hi, CacheAt.keep h.iy hk (fun j hj e => h.zy j e hj)⟩
theorem Tri.stepY {ry' : Value} {Y' : List Ent} (h : Tri w cc x z y rx rz ry n X Z Y) (hi : IsRef w' y ry' n Y') (hk : Kept (Foot y ry) w w') : Tri w' cc x z y rx rz ry' n X Z Y' :=
  ⟨by rw [hk.block cc (heap_lt h.blk) (fun e => h.cy e)]; exact h.blk, CacheAt.keep h.ix hk (fun j hj e => h.xy j hj e), CacheAt.keep h.iz hk (fun j hj e => h.zy j hj e), hi⟩

theorem three_cells {c : Nat} {a b d : Value} {T : TypeId} (h : w.heap[c]? = some (.cells #[a, b, d] T (0, 0))) : w.cell? ⟨c, 0, none⟩ = some a ∧ w.cell? ⟨c, 1, none⟩ = some b ∧ w.cell? ⟨c, 2, none⟩ = some d := by
  refine ⟨?_, ?_, ?_⟩ <;> rw [cell_block h] <;> rfl
end

set_option maxHeartbeats 400000 in
set_option maxRecDepth 100000 in
theorem made_bad (n : Int) (w : World) (h : n < 1 ∨ 64 < n) :
    Calls Try.prog 5 #[.int .i64 n] w fun e w' => e = .returned (.tuple #[.pointer none, .bool true]) ∧ w' = w := by
  have H := hide h
  rcases h with h | h
  · go_enter Try.func5, Try.ntmps5
    go_wp2_with fail
    refine (new_bad_is n _ H.out).mono ?_
    rintro e w' ⟨rfl, rfl⟩
    go_wp2_with fail
    refine (new_bad_si n _ H.out).mono ?_
    rintro e w'' ⟨rfl, rfl⟩
    go_wp2
    go_ret2
    exact ⟨rfl, rfl⟩
  · have h' : ¬ n < 1 := by omega
    go_enter Try.func5, Try.ntmps5
    go_wp2_with fail
    refine (new_bad_is n _ H.out).mono ?_
    rintro e w' ⟨rfl, rfl⟩
    go_wp2_with fail
    refine (new_bad_si n _ H.out).mono ?_
    rintro e w'' ⟨rfl, rfl⟩
    go_wp2
    go_ret2
    exact ⟨rfl, rfl⟩

theorem made_fin {w w1 w2 : World} {n : Nat} (i1 : Isis w1 w.heap.size (.slice none 0 0) n []) (k1 : Kept (fun _ => False) w w1) (i2 : Issi w2 w1.heap.size (.slice none 0 0) n []) (k2 : Kept (fun _ => False) w1 w2) :
    Tri ((w2.alloc (.cells #[.int .i64 n, .slice none 0 0] 58)).alloc (.cells #[.pointer (some ⟨w.heap.size, 0, none⟩), .pointer (some ⟨w1.heap.size, 0, none⟩), .pointer (some ⟨w2.heap.size, 0, none⟩)] 60))
      (w2.heap.size + 1) w.heap.size w1.heap.size w2.heap.size (.slice none 0 0) (.slice none 0 0) (.slice none 0 0) n [] [] [] ∧
    Kept (fun _ => False) w ((w2.alloc (.cells #[.int .i64 n, .slice none 0 0] 58)).alloc (.cells #[.pointer (some ⟨w.heap.size, 0, none⟩), .pointer (some ⟨w1.heap.size, 0, none⟩), .pointer (some ⟨w2.heap.size, 0, none⟩)] 60)) ∧
    w.heap.size ≤ w1.heap.size ∧ w1.heap.size ≤ w2.heap.size := by
  have ka := Kept.alloc w2 (.cells #[.int .i64 n, .slice none 0 0] 58)
  have kb := Kept.alloc (w2.alloc (.cells #[.int .i64 n, .slice none 0 0] 58)) (.cells #[.pointer (some ⟨w.heap.size, 0, none⟩), .pointer (some ⟨w1.heap.size, 0, none⟩), .pointer (some ⟨w2.heap.size, 0, none⟩)] 60)
  have kab := ka.join kb (R := fun _ => False) (fun _ _ e => e) (fun _ _ e => e)
  have e : (w2.alloc (.cells #[.int .i64 n, .slice none 0 0] 58)).heap.size = w2.heap.size + 1 := by simp
  refine ⟨⟨?_, ?_, ?_, ?_⟩, ?_, k1.size, k2.size⟩
  · rw [← e]; exact heap_alloc_new _ _
  · exact CacheAt.keep (CacheAt.keep i1 k2 (fun _ _ e => e)) kab (fun _ _ e => e)
  · exact CacheAt.keep i2 kab (fun _ _ e => e)
  · refine ⟨?_, World.ownsRow_nil _ _ _ _⟩
    rw [kb.block _ (by rw [e]; omega) (fun e => e)]
    exact heap_alloc_new _ _
  · exact (k1.join k2 (fun _ _ e => e) (fun _ _ e => e)).join kab (fun _ _ e => e) (fun _ _ e => e)

set_option maxHeartbeats 400000 in
set_option maxRecDepth 100000 in
theorem made_good (n : Nat) (w : World) (h1 : 1 ≤ n) (h2 : n ≤ 64) :
    Calls Try.prog 5 #[.int .i64 n] w fun e w' => ∃ cc x z y, e = .returned (.tuple #[.pointer (some ⟨cc, 0, none⟩), .bool true]) ∧
      Tri w' cc x z y (.slice none 0 0) (.slice none 0 0) (.slice none 0 0) n [] [] [] ∧ Kept (fun _ => False) w w' ∧ (∀ j, TFoot cc x z y (.slice none 0 0) (.slice none 0 0) (.slice none 0 0) j → w.heap.size ≤ j) := by
  have h3 : ¬ (n : Int) < 1 := by omega
  have h4 : ¬ (64 : Int) < (n : Int) := by omega
  go_enter Try.func5, Try.ntmps5
  go_wp2_with fail
  refine (new_good_is n _ h1 h2).mono ?_
  rintro e w1 ⟨rfl, i1, k1⟩
  have I1 := hide (And.intro i1 k1)
  clear i1 k1
  go_wp2_with fail
  refine (new_good_si n _ h1 h2).mono ?_
  rintro e w2 ⟨rfl, i2, k2⟩
  have R := hide (made_fin I1.out.1 I1.out.2 i2 k2)
  clear i2 k2 I1
  go_wp2
  go_ret2
  obtain ⟨r1, r2, r3, r4⟩ := R.out
  refine ⟨_, _, _, _, rfl, r1, r2, ?_⟩
  intro j hj
  rcases hj with rfl | (rfl | hj) | (rfl | hj) | (rfl | hj)
  · omega
  · exact Nat.le_refl _
  · cases hj
  · exact r3
  · cases hj
  · omega
  · cases hj
end Go.Proofs.Ytaheegdfcddlpaa
