import Derived.Test.YtaheegdfcddlpaaTrio
import Derived.Test.YtaheegdfcddlpaaKeep
import Derived.Test.YtaheegdfcddlpaaKeysis
import Derived.Test.YtaheegdfcddlpaaKeyssi
import Derived.Deep.RegionHeld3
namespace Go.Proofs.Ytaheegdfcddlpaa
open Go.RowKit

theorem five_cells {w : World} {c : Nat} {a b d e f : Value} {T : TypeId} (h : w.heap[c]? = some (.cells #[a, b, d, e, f] T (0, 0))) : w.cell? ⟨c, 0, none⟩ = some a ∧ w.cell? ⟨c, 1, none⟩ = some b ∧ w.cell? ⟨c, 2, none⟩ = some d ∧ w.cell? ⟨c, 3, none⟩ = some e ∧ w.cell? ⟨c, 4, none⟩ = some f := by
  refine ⟨?_, ?_, ?_, ?_, ?_⟩ <;> rw [cell_block h] <;> rfl

/-- The three caches, and the step in its box, in memory. -/
structure UMem (w : World) (ob : Nat) (kd ca k N : Int) (t : ByteArray) (cc x z y : Nat) (rx rz ry : Value) (n : Nat) (X : List Ent) (Z : List (ByteArray × Int)) (Y : List Ent) : Prop where
  tri : Tri w cc x z y rx rz ry n X Z Y
  box : w.heap[ob]? = some (.cells #[.int .i64 kd, .int .i64 ca, .int .i64 k, .int .i64 N, .string t] 33 (0, 0))

section
variable {w w' : World} {ob : Nat} {kd ca k N : Int} {t : ByteArray} {cc x z y : Nat} {rx rz ry : Value} {n : Nat} {X : List Ent} {Z : List (ByteArray × Int)} {Y : List Ent}

theorem UMem.cells (h : UMem w ob kd ca k N t cc x z y rx rz ry n X Z Y) : w.cell? ⟨cc, 0, none⟩ = some (.pointer (some ⟨x, 0, none⟩)) ∧ w.cell? ⟨cc, 1, none⟩ = some (.pointer (some ⟨z, 0, none⟩)) ∧ w.cell? ⟨cc, 2, none⟩ = some (.pointer (some ⟨y, 0, none⟩)) ∧
    w.cell? ⟨ob, 0, none⟩ = some (.int .i64 kd) ∧ w.cell? ⟨ob, 2, none⟩ = some (.int .i64 k) ∧ w.cell? ⟨ob, 4, none⟩ = some (.string t) :=
  ⟨(three_cells h.tri.blk).1, (three_cells h.tri.blk).2.1, (three_cells h.tri.blk).2.2, (five_cells h.box).1, (five_cells h.box).2.2.1, (five_cells h.box).2.2.2.2⟩

theorem UMem.bx (h : UMem w ob kd ca k N t cc x z y rx rz ry n X Z Y) (hb : Foot x rx ob) : False := by
  rcases h.tri.tx ob hb with q | q <;> exact typ_two (typ_blk h.box) q (by decide)
theorem UMem.bz (h : UMem w ob kd ca k N t cc x z y rx rz ry n X Z Y) (hb : Foot z rz ob) : False := by
  rcases h.tri.tz ob hb with q | q <;> exact typ_two (typ_blk h.box) q (by decide)
theorem UMem.by_ (h : UMem w ob kd ca k N t cc x z y rx rz ry n X Z Y) (hb : Foot y ry ob) : False := by
  rcases h.tri.ty ob hb with q | q <;> exact typ_two (typ_blk h.box) q (by decide)

theorem UMem.stepX {rx' : Value} {X' : List Ent} (h : UMem w ob kd ca k N t cc x z y rx rz ry n X Z Y) (hi : Isis w' x rx' n X') (hk : Kept (Foot x rx) w w') : UMem w' ob kd ca k N t cc x z y rx' rz ry n X' Z Y :=
  ⟨h.tri.stepX hi hk, by rw [hk.block ob (heap_lt h.box) (fun e => h.bx e)]; exact h.box⟩
theorem UMem.stepZ {rz' : Value} {Z' : List (ByteArray × Int)} (h : UMem w ob kd ca k N t cc x z y rx rz ry n X Z Y) (hi : Issi w' z rz' n Z') (hk : Kept (Foot z rz) w w') : UMem w' ob kd ca k N t cc x z y rx rz' ry n X Z' Y :=
  ⟨h.tri.stepZ hi hk, by rw [hk.block ob (heap_lt h.box) (fun e => h.bz e)]; exact h.box⟩
theorem UMem.stepY {ry' : Value} {Y' : List Ent} (h : UMem w ob kd ca k N t cc x z y rx rz ry n X Z Y) (hi : IsRef w' y ry' n Y') (hk : Kept (Foot y ry) w w') : UMem w' ob kd ca k N t cc x z y rx rz ry' n X Z Y' :=
  ⟨h.tri.stepY hi hk, by rw [hk.block ob (heap_lt h.box) (fun e => h.by_ e)]; exact h.box⟩
theorem UMem.same (h : UMem w ob kd ca k N t cc x z y rx rz ry n X Z Y) (hk : Kept (fun _ => False) w w') : UMem w' ob kd ca k N t cc x z y rx rz ry n X Z Y :=
  ⟨h.tri.keep hk (fun _ _ e => e), by rw [hk.block ob (heap_lt h.box) (fun e => e)]; exact h.box⟩
theorem UMem.start (h : Tri w cc x z y rx rz ry n X Z Y) : UMem (w.alloc (.cells #[.int .i64 kd, .int .i64 ca, .int .i64 k, .int .i64 N, .string t] 33)) w.heap.size kd ca k N t cc x z y rx rz ry n X Z Y :=
  ⟨h.keep (Kept.alloc _ _) (fun _ _ e => e), heap_alloc_new w _⟩
end

def isBook (w : World) (j : Nat) : Prop := typ w j 27 ∨ typ w j 38 ∨ typ w j 3

theorem BookAt.keep {w w' : World} {bk : Nat} {kv : Value} {Q : List Lst} {S : Nat → Prop} (h : BookAt w bk kv Q) (hk : Kept S w w') (hS : ∀ j, isBook w j → ¬ S j) : BookAt w' bk kv Q := by
  refine ⟨?_, owns_block h.own (fun g hg => hk.block g (owns_lt h.own g hg) (hS g (Or.inr (Or.inl (typ_own h.own g hg))))), ?_, h.short, h.four⟩
  · rw [hk.block bk (heap_lt h.blk) (hS bk (Or.inl (typ_blk h.blk)))]; exact h.blk
  · intro i hi
    obtain ⟨cur, r1, r2⟩ := h.rows i hi
    exact ⟨cur, by rw [hk.block _ (heap_lt r1) (hS _ (Or.inr (Or.inr (typ_blk r1))))]; exact r1, r2⟩

theorem Tri.notBook {w : World} {cc x z y : Nat} {rx rz ry : Value} {n : Nat} {X : List Ent} {Z : List (ByteArray × Int)} {Y : List Ent} (h : Tri w cc x z y rx rz ry n X Z Y) (j : Nat) (hj : TFoot cc x z y rx rz ry j) (hb : isBook w j) : False := by
  have two : ∀ t, typ w j t → t ≠ 27 → t ≠ 38 → t ≠ 3 → False := by
    intro t ht h1 h2 h3
    rcases hb with hb | hb | hb
    · exact typ_two ht hb h1
    · exact typ_two ht hb h2
    · exact typ_two ht hb h3
  rcases hj with rfl | hj | hj | hj
  · exact two _ h.tc (by decide) (by decide) (by decide)
  · rcases h.tx j hj with q | q <;> exact two _ q (by decide) (by decide) (by decide)
  · rcases h.tz j hj with q | q <;> exact two _ q (by decide) (by decide) (by decide)
  · rcases h.ty j hj with q | q <;> exact two _ q (by decide) (by decide) (by decide)

theorem foot_new {w : World} {c : Nat} {r r' : Value} (h : NewRow w r r') (j : Nat) (hj : Foot c r' j) : Foot c r j ∨ w.heap.size ≤ j := by
  rcases hj with rfl | hj
  · exact Or.inl (Or.inl rfl)
  · rcases h with h | ⟨g, h, hg⟩
    · exact Or.inl (Or.inr (by rw [← h]; exact hj))
    · rw [h] at hj
      simp only [Option.some.injEq] at hj
      subst hj
      exact Or.inr hg

/-- What a step on caches leaves. -/
def UsedPost (bk : Nat) (kv : Value) (Q : List Lst) (w : World) (cc x z y : Nat) (rx rz ry : Value) (n : Nat) (w' : World) : Prop :=
  ∃ rx' rz' ry' L' kv' Q', Tri w' cc x z y rx' rz' ry' n L' (L'.map tz) L' ∧ KeysOk L' ∧ L'.length ≤ n ∧ BookAt w' bk kv' Q' ∧ Q'.length ≤ Q.length + 4 ∧ Kept (fun j => TFoot cc x z y rx rz ry j ∨ BFoot bk kv j) w w' ∧
    (∀ j, TFoot cc x z y rx' rz' ry' j → TFoot cc x z y rx rz ry j ∨ w.heap.size ≤ j) ∧ (∀ j, BFoot bk kv' j → BFoot bk kv j ∨ w.heap.size ≤ j)

/-- Behind three calls, one a cache. -/
theorem used_fin {bk : Nat} {kv : Value} {Q : List Lst} {w w0 w1 w2 w3 w4 : World} {cc x z y : Nat} {rx rz ry rx1 rz3 ry4 : Value} {n : Nat} {L L' : List Ent} (h : Tri w cc x z y rx rz ry n L (L.map tz) L) (B : BookAt w bk kv Q)
    (k0 : Kept (fun _ => False) w w0) (k1 : Kept (Foot x rx) w0 w1) (n1 : NewRow w0 rx rx1) (k2 : Kept (fun _ => False) w1 w2) (k3 : Kept (Foot z rz) w2 w3) (n3 : NewRow w2 rz rz3) (k4 : Kept (Foot y ry) w3 w4) (n4 : NewRow w3 ry ry4)
    (ok : KeysOk L') (hl : L'.length ≤ n) (h4 : Tri w4 cc x z y rx1 rz3 ry4 n L' (L'.map tz) L') : UsedPost bk kv Q w cc x z y rx rz ry n w4 := by
  have ka : Kept (TFoot cc x z y rx rz ry) w w4 :=
    (((k0.join k1 (R := TFoot cc x z y rx rz ry) (fun _ _ e => e.elim) (fun _ _ e => Or.inr (Or.inl e))).join k2 (fun _ _ e => e) (fun _ _ e => e.elim)).join k3 (fun _ _ e => e) (fun _ _ e => Or.inr (Or.inr (Or.inl e)))).join k4 (fun _ _ e => e) (fun _ _ e => Or.inr (Or.inr (Or.inr e)))
  have s0 := k0.size
  have s1 := k1.size
  have s2 := k2.size
  have s3 := k3.size
  refine ⟨rx1, rz3, ry4, L', kv, Q, h4, ok, hl, B.keep ka (fun j hb hj => h.notBook j hj hb), by omega, ka.mono (fun _ _ e => Or.inl e), ?_, fun j hj => Or.inl hj⟩
  intro j hj
  rcases hj with rfl | hj | hj | hj
  · exact Or.inl (Or.inl rfl)
  · rcases foot_new n1 j hj with q | q
    · exact Or.inl (Or.inr (Or.inl q))
    · exact Or.inr (by omega)
  · rcases foot_new n3 j hj with q | q
    · exact Or.inl (Or.inr (Or.inr (Or.inl q)))
    · exact Or.inr (by omega)
  · rcases foot_new n4 j hj with q | q
    · exact Or.inl (Or.inr (Or.inr (Or.inr q)))
    · exact Or.inr (by omega)

set_option maxHeartbeats 1600000 in
set_option maxRecDepth 100000 in
theorem used_put (bk : Nat) (ca k N : Int) (t : ByteArray) (cc x z y : Nat) (rx rz ry : Value) (n : Nat) (L : List Ent) (kv : Value) (Q : List Lst) (w : World) (hk : In64 k) (hn0 : 1 ≤ n) (hn : n ≤ 64) (hL : L.length ≤ n) (ok : KeysOk L) (B : BookAt w bk kv Q)
    (h : Tri w cc x z y rx rz ry n L (L.map tz) L) :
    Calls Try.prog 6 #[.pointer (some ⟨bk, 0, none⟩), .pointer (some ⟨cc, 0, none⟩), .agg #[.int .i64 2, .int .i64 ca, .int .i64 k, .int .i64 N, .string t]] w fun e w' =>
      e = .returned (.bool true) ∧ UsedPost bk kv Q w cc x z y rx rz ry n w' := by
  have U0 := hide (UMem.start (kd := 2) (ca := ca) (k := k) (N := N) (t := t) h)
  obtain ⟨c0, c1, c2, o0, o2, o4⟩ := U0.out.cells
  have H := hide h
  have HB := hide B
  have OK := hide ok
  have hZ : (L.map tz).length ≤ n := by rw [List.length_map]; exact hL
  clear h B ok
  go_enter Try.func6, Try.ntmps6
  go_wp2
  generalize hw0 : w.alloc (.cells #[.int .i64 2, .int .i64 ca, .int .i64 k, .int .i64 N, .string t] 33) = w0 at *
  have HW := hide hw0
  clear hw0
  go_region_held3 (fun w' => w'.cell? ⟨cc, 0, none⟩ = some (.pointer (some ⟨x, 0, none⟩)) ∧ w'.cell? ⟨w.heap.size, 2, none⟩ = some (.int .i64 k) ∧ w'.cell? ⟨w.heap.size, 4, none⟩ = some (.string t)) (go_keep)
    ((go_at_call 16; refine (put_is x n rx k t L _ hn0 hn hL (by exact CacheAt.keep U0.out.tri.ix (Kept.drew _) (fun _ _ e => e))).mono ?_; rintro e w1 ⟨rfl, rx1, i1, k1, n1⟩; have U1 := hide (UMem.stepX (U0.out.same (Kept.drew _)) i1 k1); obtain ⟨b0, b1, b2, p0, p2, p4⟩ := U1.out.cells))
  have K1 := hide (And.intro k1 n1)
  clear c0 c1 c2 o0 o2 o4 i1 k1 n1
  go_wp2
  go_region_held3 (fun w' => w'.cell? ⟨cc, 1, none⟩ = some (.pointer (some ⟨z, 0, none⟩)) ∧ w'.cell? ⟨w.heap.size, 2, none⟩ = some (.int .i64 k) ∧ w'.cell? ⟨w.heap.size, 4, none⟩ = some (.string t)) (go_keep)
    (first | (go_at_call 18; refine (text_any k _ hk.1 hk.2).mono ?_; rintro e w2 ⟨rfl, q2⟩; have U2 := hide ((U1.out.same (Kept.drew _)).same q2); obtain ⟨d0, d1, d2, s0, s2, s4⟩ := U2.out.cells) | (go_at_call 17; refine (put_si z n rz (textOf k) (t.size : Int) (L.map tz) _ hn0 hn hZ (by exact U2.out.tri.iz)).mono ?_; rintro e w3 ⟨rfl, rz3, i3, k3, n3⟩; have U3 := hide (UMem.stepZ U2.out i3 k3); obtain ⟨f0, f1, f2, t0, t2, t4⟩ := U3.out.cells))
  have K3 := hide (And.intro ((Kept.drew w1).join q2 (R := fun _ => False) (fun _ _ e => e) (fun _ _ e => e)) (And.intro k3 n3))
  clear b0 b1 b2 p0 p2 p4 i3 k3 n3 q2 d0 d1 d2 s0 s2 s4 U2
  go_wp2
  go_region_held3 (fun w' => w'.cell? ⟨cc, 2, none⟩ = some (.pointer (some ⟨y, 0, none⟩)) ∧ w'.cell? ⟨w.heap.size, 2, none⟩ = some (.int .i64 k) ∧ w'.cell? ⟨w.heap.size, 4, none⟩ = some (.string t)) (go_keep)
    ((go_at_call 19; refine (refput y n ry k t L _ hn0 hn (by omega) (by exact (U3.out.same (Kept.drew _)).tri.iy)).mono ?_; rintro e w4 ⟨rfl, ry4, i4, k4, n4⟩; have U4 := hide (UMem.stepY (U3.out.same (Kept.drew _)) i4 k4); obtain ⟨g0, g1, g2, v0, v2, v4⟩ := U4.out.cells))
  have K4 := hide (And.intro k4 n4)
  clear i4 k4 n4 f0 f1 f2 t0 t2 t4 U3
  go_wp2
  go_ret
  refine ⟨rfl, ?_⟩
  have hz := z_put n L k t OK.out.rng hk
  have hr := ref_put n L (k, t) hn0 hL OK.out.nodup
  have T4 := U4.out.tri
  rw [hz, hr] at T4
  exact used_fin H.out HB.out (by rw [← HW.out]; exact (Kept.alloc w _).join (Kept.drew _) (fun _ _ e => e) (fun _ _ e => e)) K1.out.1 K1.out.2 K3.out.1 K3.out.2.1 K3.out.2.2 ((Kept.drew w3).join K4.out.1 (fun _ _ e => e.elim) (fun _ _ e => e)) K4.out.2 (OK.out.put k t hk) (putL_length n L (k, t) hn0 hL).1 T4
end Go.Proofs.Ytaheegdfcddlpaa
