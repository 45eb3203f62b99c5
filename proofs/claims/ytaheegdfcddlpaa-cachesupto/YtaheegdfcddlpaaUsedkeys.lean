import Derived.Test.YtaheegdfcddlpaaUsed
namespace Go.Proofs.Ytaheegdfcddlpaa
open Go.RowKit

theorem bfoot_book {w : World} {bk : Nat} {kv : Value} {Q : List Lst} (B : BookAt w bk kv Q) (j : Nat) (hj : BFoot bk kv j) : isBook w j := by
  rcases hj with rfl | hj
  · exact Or.inl (typ_blk B.blk)
  · exact Or.inr (Or.inl (typ_own B.own j hj))

theorem used_keys_fin {bk : Nat} {kv kv' : Value} {Q Q' : List Lst} {w wr w5 : World} {cc x z y kx : Nat} {rx rz ry : Value} {n : Nat} {L : List Ent} (h : Tri w cc x z y rx rz ry n L (L.map tz) L) (ok : KeysOk L) (hL : L.length ≤ n) (B : BookAt w bk kv Q)
    (k0 : Kept (fun _ => False) w wr) (hkx : w.heap.size ≤ kx) (b5 : BookAt w5 bk kv' Q') (hq : Q'.length = Q.length + 4) (k5 : Kept (fun j => j = kx ∨ BFoot bk kv j) wr w5) (n5 : NewRow wr kv kv') : UsedPost bk kv Q w cc x z y rx rz ry n w5 := by
  have s0 := k0.size
  have ka : Kept (BFoot bk kv) w w5 := k0.join k5 (fun _ _ e => e.elim) (fun j hj e => by
    rcases e with e | e
    · omega
    · exact e)
  refine ⟨rx, rz, ry, L, kv', Q', h.keep ka (fun j hj hb => h.notBook j hj (bfoot_book B j hb)), ok, hL, b5, by omega, ka.mono (fun _ _ e => Or.inr e), fun j hj => Or.inl hj, ?_⟩
  intro j hj
  rcases hj with rfl | hj
  · exact Or.inl (Or.inl rfl)
  · rcases n5 with q | ⟨g, q, hg⟩
    · exact Or.inl (Or.inr (by rw [← q]; exact hj))
    · rw [q] at hj
      simp only [Option.some.injEq] at hj
      subst hj
      exact Or.inr (by omega)

set_option maxHeartbeats 1600000 in
set_option maxRecDepth 100000 in
theorem used_keys_row (bk : Nat) (ca k N : Int) (t : ByteArray) (cc x z y : Nat) (rx rz : Value) (gy cpy : Nat) (n : Nat) (L : List Ent) (kv : Value) (Q : List Lst) (w : World) (hQ : Q.length ≤ 1000000000) (hn : n ≤ 64) (hL : L.length ≤ n) (ok : KeysOk L) (B : BookAt w bk kv Q)
    (h : Tri w cc x z y rx rz (.slice (some ⟨gy, 0, none⟩) L.length cpy) n L (L.map tz) L) :
    Calls Try.prog 6 #[.pointer (some ⟨bk, 0, none⟩), .pointer (some ⟨cc, 0, none⟩), .agg #[.int .i64 4, .int .i64 ca, .int .i64 k, .int .i64 N, .string t]] w fun e w' =>
      e = .returned (.bool true) ∧ UsedPost bk kv Q w cc x z y rx rz (.slice (some ⟨gy, 0, none⟩) L.length cpy) n w' := by
  have U0 := hide (UMem.start (kd := 4) (ca := ca) (k := k) (N := N) (t := t) h)
  obtain ⟨c0, c1, c2, o0, o2, o4⟩ := U0.out.cells
  have H := hide h
  have HB := hide B
  have OK := hide ok
  have hZ : (L.map tz).length ≤ n := by rw [List.length_map]; exact hL
  clear h B ok
  go_enter Try.func6, Try.ntmps6
  go_wp2_with fail
  generalize hw0 : w.alloc (.cells #[.int .i64 4, .int .i64 ca, .int .i64 k, .int .i64 N, .string t] 33) = w0 at *
  have HW := hide hw0
  clear hw0
  refine (keys_is x n rx L _ hn hL U0.out.tri.ix).mono ?_
  rintro e w1 ⟨rfl, r1, k1⟩
  have U1 := hide (U0.out.same k1)
  have R1 := hide (And.intro r1 k1)
  obtain ⟨b0, b1, b2, p0, p2, p4⟩ := U1.out.cells
  clear r1 k1 c0 c1 c2 o0 o2 o4 p0 p2 p4
  go_wp2_with fail
  refine (keys_si z n rz (L.map tz) _ hn hZ U1.out.tri.iz).mono ?_
  rintro e w2 ⟨rfl, r2, k2⟩
  rw [List.length_map]
  have U2 := hide (U1.out.same k2)
  have R2 := hide (And.intro r2 k2)
  obtain ⟨d0, d1, d2, -, -, -⟩ := U2.out.cells
  obtain ⟨-, y1, -, -⟩ := two_cells U2.out.tri.iy.1
  clear r2 k2 b0 b1 b2
  have CELLS : Hid (∀ i (hi : i < L.length) w', Kept (fun _ => False) w2 w' → w'.cell? ⟨w0.heap.size, i, none⟩ = some (.int .i64 L[i].1) ∧ w'.cell? ⟨w1.heap.size, i, none⟩ = some (.string (textOf L[i].1)) ∧
      w'.cell? ⟨cc, 2, none⟩ = some (.pointer (some ⟨y, 0, none⟩)) ∧ w'.cell? ⟨y, 1, none⟩ = some (.slice (some ⟨gy, 0, none⟩) L.length cpy) ∧ w'.cell? ⟨gy, i * 2, none⟩ = some (.int .i64 L[i].1)) := by
    intro i hi w' hk'
    have U' := U2.out.same hk'
    have m1 : w'.heap[w0.heap.size]? = some (.cells (keyCells_is L).toArray 3 (0, 0)) := by
      rw [hk'.block _ (by have := heap_lt R1.out.1; have := R2.out.2.size; omega) (fun e => e), R2.out.2.block _ (heap_lt R1.out.1) (fun e => e)]; exact R1.out.1
    have m2 : w'.heap[w1.heap.size]? = some (.cells (keyCells_si (L.map tz)).toArray 9 (0, 0)) := by
      rw [hk'.block _ (heap_lt R2.out.1) (fun e => e)]; exact R2.out.1
    refine ⟨?_, ?_, U'.cells.2.2.1, (two_cells U'.tri.iy.1).2.1, row_cell U'.tri.iy.2 (i * 2) _ (flat_key _ _ L i hi)⟩
    · rw [cell_block m1]; simp [keyCells_is, hi]
    · rw [cell_block m2]; simp [keyCells_si, hi, tz]
  go_wp2
  go_loopw [15] (fun t wr => ∃ i : Nat, i ≤ L.length ∧ t = .int .i64 i ∧ Hid (Kept (fun _ => False) w2 wr)) (fun t _ => L.length - (intOf t).toNat)
  case atStart => exact ⟨0, Nat.zero_le _, rfl, Kept.refl _ _⟩
  case round =>
    obtain ⟨i, hil, rfl, HR⟩ := hrel
    clear d0 d1 d2 y1
    by_cases hlt : i < L.length
    · have CE := hide (CELLS.out i hlt)
      have hkk := OK.out.rng L[i] (List.getElem_mem hlt)
      generalize L[i].1 = kk at *
      obtain ⟨a1, a2, a3, a4, a5⟩ := CE.out wr HR.out
      have hb1 : (0 : Int) ≤ (i : Int) := by omega
      have hb2 : (i : Int) < (L.length : Int) := by omega
      have hb3 : (kk != kk) = false := by simp
      go_wp2
      go_region_held3 (fun w' => w'.cell? ⟨w0.heap.size, i, none⟩ = some (.int .i64 kk) ∧ w'.cell? ⟨w1.heap.size, i, none⟩ = some (.string (textOf kk)) ∧ w'.cell? ⟨cc, 2, none⟩ = some (.pointer (some ⟨y, 0, none⟩)) ∧ w'.cell? ⟨y, 1, none⟩ = some (.slice (some ⟨gy, 0, none⟩) L.length cpy) ∧ w'.cell? ⟨gy, i * 2, none⟩ = some (.int .i64 kk)) (go_keep)
        ((go_at_call 18; refine (text_any kk _ hkk.1 hkk.2).mono ?_; rintro e w5 ⟨rfl, q5⟩; have HQ := hide (HR.out.join ((Kept.drew wr).join q5 (R := fun _ => False) (fun _ _ e => e) (fun _ _ e => e)) (R := fun _ => False) (fun _ _ e => e) (fun _ _ e => e)); obtain ⟨e1, e2, e3, e4, e5⟩ := CE.out w5 HQ.out))
      clear a1 a2 a3 a4 a5 e1 e2 e3 e4 e5 q5 HR
      go_wp2
      go_roundw
      case rel => exact ⟨i + 1, by omega, by go_num, HQ⟩
      case measure => simp [intOf]; omega
    · have K0 : Hid (Kept (fun _ => False) w w0) := by rw [← HW.out]; exact Kept.alloc _ _
      have KW : Hid (Kept (fun _ => False) w wr) := (((K0.out.join R1.out.2 (fun _ _ e => e) (fun _ _ e => e)).join R2.out.2 (fun _ _ e => e) (fun _ _ e => e)).join HR.out (fun _ _ e => e) (fun _ _ e => e))
      have hs0 := K0.out.size
      have BW : Hid (BookAt wr bk kv Q) := HB.out.keep KW.out (fun _ _ e => e)
      have GW : Hid (wr.heap[w0.heap.size]? = some (.cells (keyCells_is L).toArray 3 (0, 0))) := by
        show _ = _
        rw [HR.out.block _ (by have := heap_lt R1.out.1; have := R2.out.2.size; omega) (fun e => e), R2.out.2.block _ (heap_lt R1.out.1) (fun e => e)]; exact R1.out.1
      have GQ : Hid (∀ i (h : i < Q.length), Q[i].1 ≠ w0.heap.size) := fun i hi => by
        obtain ⟨cur, q1, _⟩ := HB.out.rows i hi
        have := heap_lt q1
        omega
      clear CELLS R1 R2 HR U0 U1 U2 K0
      go_wp2_with fail
      refine (keepKeys_any bk w0.heap.size L.length kv Q (keyCells_is L) _ hQ (by omega) (keyCells_len_is L) BW.out GW.out GQ).mono ?_
      rintro e w5 ⟨rfl, kv', Q', b5, l5, k5, n5⟩
      have R5 := hide (used_keys_fin H.out OK.out hL HB.out KW.out hs0 b5 l5 k5 n5)
      clear b5 l5 k5 n5
      go_wp2
      go_ret
      exact ⟨rfl, R5.out⟩

set_option maxHeartbeats 1600000 in
set_option maxRecDepth 100000 in
theorem used_keys_nil (bk : Nat) (ca k N : Int) (t : ByteArray) (cc x z y : Nat) (rx rz : Value) (n : Nat) (kv : Value) (Q : List Lst) (w : World) (hQ : Q.length ≤ 1000000000) (hn : n ≤ 64) (B : BookAt w bk kv Q)
    (h : Tri w cc x z y rx rz (.slice none 0 0) n [] [] []) :
    Calls Try.prog 6 #[.pointer (some ⟨bk, 0, none⟩), .pointer (some ⟨cc, 0, none⟩), .agg #[.int .i64 4, .int .i64 ca, .int .i64 k, .int .i64 N, .string t]] w fun e w' =>
      e = .returned (.bool true) ∧ UsedPost bk kv Q w cc x z y rx rz (.slice none 0 0) n w' := by
  have U0 := hide (UMem.start (kd := 4) (ca := ca) (k := k) (N := N) (t := t) h)
  obtain ⟨c0, c1, c2, o0, o2, o4⟩ := U0.out.cells
  have H := hide h
  have HB := hide B
  clear h B
  go_enter Try.func6, Try.ntmps6
  go_wp2_with fail
  generalize hw0 : w.alloc (.cells #[.int .i64 4, .int .i64 ca, .int .i64 k, .int .i64 N, .string t] 33) = w0 at *
  have HW := hide hw0
  clear hw0
  refine (keys_is x n rx [] _ hn (Nat.zero_le _) U0.out.tri.ix).mono ?_
  rintro e w1 ⟨rfl, r1, k1⟩
  have U1 := hide (U0.out.same k1)
  have R1 := hide (And.intro r1 k1)
  obtain ⟨b0, b1, b2, p0, p2, p4⟩ := U1.out.cells
  clear r1 k1 c0 c1 c2 o0 o2 o4 p0 p2 p4
  go_wp2_with fail
  refine (keys_si z n rz [] _ hn (Nat.zero_le _) U1.out.tri.iz).mono ?_
  rintro e w2 ⟨rfl, r2, k2⟩
  have U2 := hide (U1.out.same k2)
  have R2 := hide k2
  obtain ⟨d0, d1, d2, -, -, -⟩ := U2.out.cells
  obtain ⟨-, y1, -, -⟩ := two_cells U2.out.tri.iy.1
  clear r2 k2 b0 b1 b2
  go_wp2
  refine wp_loop_rounds 1 ?_
  rw [rounds_succ]
  have K0 : Hid (Kept (fun _ => False) w w0) := by rw [← HW.out]; exact Kept.alloc _ _
  have KW : Hid (Kept (fun _ => False) w w2) := ((K0.out.join R1.out.2 (fun _ _ e => e) (fun _ _ e => e)).join R2.out (fun _ _ e => e) (fun _ _ e => e))
  have hs0 := K0.out.size
  have BW : Hid (BookAt w2 bk kv Q) := HB.out.keep KW.out (fun _ _ e => e)
  have GW : Hid (w2.heap[w0.heap.size]? = some (.cells (keyCells_is []).toArray 3 (0, 0))) := by
    show _ = _
    rw [R2.out.block _ (heap_lt R1.out.1) (fun e => e)]; exact R1.out.1
  have GQ : Hid (∀ i (h : i < Q.length), Q[i].1 ≠ w0.heap.size) := fun i hi => by
    obtain ⟨cur, q1, _⟩ := HB.out.rows i hi
    have := heap_lt q1
    omega
  clear R1 R2 U0 U1 U2 K0 d0 d1 d2 y1
  go_wp2_with fail
  refine (keepKeys_any bk w0.heap.size 0 kv Q (keyCells_is []) _ hQ (by omega) rfl BW.out GW.out GQ).mono ?_
  rintro e w5 ⟨rfl, kv', Q', b5, l5, k5, n5⟩
  have R5 := hide (used_keys_fin (L := []) H.out KeysOk.nil (Nat.zero_le _) HB.out KW.out hs0 b5 l5 k5 n5)
  clear b5 l5 k5 n5
  go_wp2
  go_ret
  exact ⟨rfl, R5.out⟩

theorem used_keys (bk : Nat) (ca k N : Int) (t : ByteArray) (cc x z y : Nat) (rx rz ry : Value) (n : Nat) (L : List Ent) (kv : Value) (Q : List Lst) (w : World) (hQ : Q.length ≤ 1000000000) (hn : n ≤ 64) (hL : L.length ≤ n) (ok : KeysOk L) (B : BookAt w bk kv Q)
    (h : Tri w cc x z y rx rz ry n L (L.map tz) L) :
    Calls Try.prog 6 #[.pointer (some ⟨bk, 0, none⟩), .pointer (some ⟨cc, 0, none⟩), .agg #[.int .i64 4, .int .i64 ca, .int .i64 k, .int .i64 N, .string t]] w fun e w' =>
      e = .returned (.bool true) ∧ UsedPost bk kv Q w cc x z y rx rz ry n w' := by
  rcases h.iy.2.2 with ⟨rfl, h0⟩ | ⟨g, cp, _, rfl, _⟩
  · obtain rfl : L = [] := List.eq_nil_of_length_eq_zero h0
    exact used_keys_nil bk ca k N t cc x z y rx rz n kv Q w hQ hn B h
  · exact used_keys_row bk ca k N t cc x z y rx rz g cp n L kv Q w hQ hn hL ok B h
end Go.Proofs.Ytaheegdfcddlpaa
