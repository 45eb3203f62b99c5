import Derived.Test.YtaheegdfcddlpaaUsed
namespace Go.Proofs.Ytaheegdfcddlpaa
open Go.RowKit

set_option maxHeartbeats 1600000 in
set_option maxRecDepth 100000 in
theorem used_get (bk : Nat) (ca k N : Int) (t : ByteArray) (cc x z y : Nat) (rx rz ry : Value) (n : Nat) (L : List Ent) (kv : Value) (Q : List Lst) (w : World) (hk : In64 k) (hn : n ≤ 64) (hL : L.length ≤ n) (ok : KeysOk L) (B : BookAt w bk kv Q)
    (h : Tri w cc x z y rx rz ry n L (L.map tz) L) :
    Calls Try.prog 6 #[.pointer (some ⟨bk, 0, none⟩), .pointer (some ⟨cc, 0, none⟩), .agg #[.int .i64 3, .int .i64 ca, .int .i64 k, .int .i64 N, .string t]] w fun e w' =>
      e = .returned (.bool true) ∧ UsedPost bk kv Q w cc x z y rx rz ry n w' := by
  have U0 := hide (UMem.start (kd := 3) (ca := ca) (k := k) (N := N) (t := t) h)
  obtain ⟨c0, c1, c2, o0, o2, o4⟩ := U0.out.cells
  have H := hide h
  have HB := hide B
  have OK := hide ok
  have hZ : (L.map tz).length ≤ n := by rw [List.length_map]; exact hL
  obtain ⟨⟨v, b, M⟩, hg⟩ : ∃ q, getL_is L k = q := ⟨_, rfl⟩
  have hokM := ok.get k
  have hzg := z_get L k ok.rng hk
  have hrg := ref_get L k ok.nodup
  rw [hg] at hokM hzg hrg
  simp only at hokM hzg hrg
  have CX : Hid (∀ w0, Isis w0 x rx n L → Calls Try.prog 20 #[.pointer (some ⟨x, 0, none⟩), .int .i64 k] w0 fun e w' => e = .returned (.tuple #[.string v, .bool b]) ∧ Isis w' x rx n M ∧ Kept (Foot x rx) w0 w') := by
    intro w0 h0
    have := get_is x n rx k L w0 hn hL h0
    rw [hg] at this
    exact this
  have CZ : Hid (∀ w0, Issi w0 z rz n (L.map tz) → Calls Try.prog 21 #[.pointer (some ⟨z, 0, none⟩), .string (textOf k)] w0 fun e w' => e = .returned (.tuple #[.int .i64 (v.size : Int), .bool b]) ∧ Issi w' z rz n (M.map tz) ∧ Kept (Foot z rz) w0 w') := by
    intro w0 h0
    have := get_si z n rz (textOf k) (L.map tz) w0 hn hZ h0
    rw [hzg] at this
    exact this
  have CY : Hid (∀ w0, IsRef w0 y ry n L → Calls Try.prog 22 #[.pointer (some ⟨y, 0, none⟩), .int .i64 k] w0 fun e w' => e = .returned (.tuple #[.string v, .bool b]) ∧ ∃ r', IsRef w' y r' n M ∧ Kept (Foot y ry) w0 w' ∧ NewRow w0 ry r') := by
    intro w0 h0
    have := refget y n ry k L w0 (by omega) h0
    rw [hrg.1, hrg.2] at this
    exact this
  have OM := hide hokM
  clear h B ok hg hokM hzg hrg
  go_enter Try.func6, Try.ntmps6
  go_wp2
  generalize hw0 : w.alloc (.cells #[.int .i64 3, .int .i64 ca, .int .i64 k, .int .i64 N, .string t] 33) = w0 at *
  have HW := hide hw0
  clear hw0
  go_region_held3 (fun w' => w'.cell? ⟨cc, 0, none⟩ = some (.pointer (some ⟨x, 0, none⟩)) ∧ w'.cell? ⟨w.heap.size, 2, none⟩ = some (.int .i64 k)) (go_keep)
    ((go_at_call 20; refine (CX.out _ (by exact CacheAt.keep U0.out.tri.ix (Kept.drew _) (fun _ _ e => e))).mono ?_; rintro e w1 ⟨rfl, i1, k1⟩; have U1 := hide (UMem.stepX (U0.out.same (Kept.drew _)) i1 k1); obtain ⟨b0, b1, b2, p0, p2, p4⟩ := U1.out.cells))
  have K1 := hide k1
  clear c0 c1 c2 o0 o2 o4 i1 k1
  go_wp2
  go_region_held3 (fun w' => w'.cell? ⟨cc, 1, none⟩ = some (.pointer (some ⟨z, 0, none⟩)) ∧ w'.cell? ⟨w.heap.size, 2, none⟩ = some (.int .i64 k)) (go_keep)
    (first | (go_at_call 18; refine (text_any k _ hk.1 hk.2).mono ?_; rintro e w2 ⟨rfl, q2⟩; have U2 := hide ((U1.out.same (Kept.drew _)).same q2); obtain ⟨d0, d1, d2, s0, s2, s4⟩ := U2.out.cells) | (go_at_call 21; refine (CZ.out _ (by exact U2.out.tri.iz)).mono ?_; rintro e w3 ⟨rfl, i3, k3⟩; have U3 := hide (UMem.stepZ U2.out i3 k3); obtain ⟨f0, f1, f2, t0, t2, t4⟩ := U3.out.cells))
  have K3 := hide (And.intro ((Kept.drew w1).join q2 (R := fun _ => False) (fun _ _ e => e) (fun _ _ e => e)) k3)
  clear b0 b1 b2 p0 p2 p4 i3 k3 q2 d0 d1 d2 s0 s2 s4 U2
  go_wp2
  go_region_held3 (fun w' => w'.cell? ⟨cc, 2, none⟩ = some (.pointer (some ⟨y, 0, none⟩)) ∧ w'.cell? ⟨w.heap.size, 2, none⟩ = some (.int .i64 k)) (go_keep)
    ((go_at_call 22; refine (CY.out _ (by exact (U3.out.same (Kept.drew _)).tri.iy)).mono ?_; rintro e w4 ⟨rfl, ry4, i4, k4, n4⟩; have U4 := hide (UMem.stepY (U3.out.same (Kept.drew _)) i4 k4); obtain ⟨g0, g1, g2, v0, v2, v4⟩ := U4.out.cells))
  have K4 := hide (And.intro k4 n4)
  clear i4 k4 n4 f0 f1 f2 t0 t2 t4 U3
  go_wp2
  go_ret
  refine ⟨rfl, ?_⟩
  exact used_fin H.out HB.out (by rw [← HW.out]; exact (Kept.alloc w _).join (Kept.drew _) (fun _ _ e => e) (fun _ _ e => e)) K1.out (Or.inl rfl) K3.out.1 K3.out.2 (Or.inl rfl) ((Kept.drew w3).join K4.out.1 (fun _ _ e => e.elim) (fun _ _ e => e)) K4.out.2 OM.out.1 (by rw [OM.out.2]; exact hL) U4.out.tri

set_option maxHeartbeats 400000 in
set_option maxRecDepth 100000 in
/-- Another kind does nothing. -/
theorem used_none (bk : Nat) (kd ca k N : Int) (t : ByteArray) (cp : Value) (w : World) (h2 : (kd == 2) = false) (h3 : (kd == 3) = false) (h4 : (kd == 4) = false) :
    Calls Try.prog 6 #[.pointer (some ⟨bk, 0, none⟩), cp, .agg #[.int .i64 kd, .int .i64 ca, .int .i64 k, .int .i64 N, .string t]] w fun e w' =>
      e = .returned (.bool true) ∧ Kept (fun _ => False) w w' := by
  go_enter Try.func6, Try.ntmps6
  go_wp2
  go_ret
  exact ⟨rfl, Kept.alloc _ _⟩
end Go.Proofs.Ytaheegdfcddlpaa
