import Derived.Test.YtlfmfhmbkpnjbaaCa5
import Derived.Test.YtlfmfhmbkpnjbaaCa1
import Derived.Test.YtlfmfhmbkpnjbaaRows
namespace Go.Proofs.Ytlfmfhmbkpnjbaa
open Go.RowKit

theorem bfoot_book {w : World} {bk : Nat} {kv : Value} {Q : List Lst} (B : BookAt w bk kv Q) (j : Nat) (hj : BFoot bk kv j) : isBook w j := by
  rcases hj with rfl | hj
  · exact Or.inl (typ_blk B.blk)
  · exact Or.inr (Or.inl (typ_own B.own j hj))

theorem used_keys_fin {bk : Nat} {kv kv' : Value} {Q Q' : List Lst} {w wr w5 : World} {cc x z y kx : Nat} {rx rz ry : Value} {n : Nat} {L : List Ent} (h : Tri w cc x z y rx rz ry n L (L.map tz) L) (ok : KeysOk L) (hL : L.length ≤ n) (B : BookAt w bk kv Q)
    (k0 : Kept (fun _ => False) w wr) (hkx : w.heap.size ≤ kx) (b5 : BookAt w5 bk kv' Q') (hq : Q'.length = Q.length + 4) (k5 : Kept (fun j => j = kx ∨ BFoot bk kv j) wr w5) (n5 : NewRow wr kv kv') : UsedPost bk kv Q w cc x z y rx rz ry n w5 := by
  have s0 := k0.size
  have ka : Kept (BFoot bk kv) w w5 := k0.join k5 (fun _ _ e => e.elim) (fun j hj e => by
    rcases e with e | e
    · omega
    · exact e)
  refine ⟨rx, rz, ry, L, kv', Q', h.keep ka (fun j hj hb => h.notBook j hj (bfoot_book B j hb)), ok, hL, b5, by omega, ka.mono (fun _ _ e => Or.inr e), fun j hj => Or.inl hj, ?_⟩
  intro j hj
  rcases hj with rfl | hj
  · exact Or.inl (Or.inl rfl)
  · rcases n5 with q | ⟨g, q, hg⟩
    · exact Or.inl (Or.inr (by rw [← q]; exact hj))
    · rw [q] at hj
      simp only [Option.some.injEq] at hj
      subst hj
      exact Or.inr (by omega)

set_option maxHeartbeats 1600000 in
set_option maxRecDepth 100000 in
theorem used_keys_row (bk : Nat) (ca k N : Int) (t : ByteArray) (cc x z y : Nat) (rx rz : Value) (gy cpy : Nat) (n : Nat) (L : List Ent) (kv : Value) (Q : List Lst) (w : World) (hQ : Q.length ≤ 1000000000) (hn : n ≤ 64) (hL : L.length ≤ n) (ok : KeysOk L) (B : BookAt w bk kv Q)
    (h : Tri w cc x z y rx rz (.slice (some ⟨gy, 0, none⟩) L.length cpy) n L (L.map tz) L) :
    Calls Try.prog 11 #[.pointer (some ⟨bk, 0, none⟩), .pointer (some ⟨cc, 0, none⟩), .agg #[.int .i64 4, .int .i64 ca, .int .i64 k, .int .i64 N, .string t]] w fun e w' =>
      e = .returned (.bool true) ∧ UsedPost bk kv Q w cc x z y rx rz (.slice (some ⟨gy, 0, none⟩) L.length cpy) n w' := by
  have U0 := hide (UMem.start (kd := 4) (ca := ca) (k := k) (N := N) (t := t) h)
  obtain ⟨c0, c1, c2, o0, o2, o4⟩ := U0.out.cells
  have H := hide h
  have HB := hide B
  have OK := hide ok
  have hZ : (L.map tz).length ≤ n := by rw [List.length_map]; exact hL
  clear h B ok
  go_enter Try.func11, Try.ntmps11
  go_wp2_with fail
  generalize hw0 : w.alloc (.cells #[.int .i64 4, .int .i64 ca, .int .i64 k, .int .i64 N, .string t] 33) = w0 at *
  have HW := hide hw0
  clear hw0
  refine (keys_is x n rx L _ hn hL U0.out.tri.ix).mono ?_
  rintro e w1 ⟨rfl, r1, k1⟩
  have U1 := hide (U0.out.same k1)
  have R1 := hide (And.intro r1 k1)
  obtain ⟨b0, b1, b2, p0, p2, p4⟩ := U1.out.cells
  clear r1 k1 c0 c1 c2 o0 o2 o4 p0 p2 p4
  go_wp2_with fail
  refine (keys_si z n rz (L.map tz) _ hn hZ U1.out.tri.iz).mono ?_
  rintro e w2 ⟨rfl, r2, k2⟩
  rw [List.length_map]
  have U2 := hide (U1.out.same k2)
  have R2 := hide (And.intro r2 k2)
  obtain ⟨d0, d1, d2, -, -, -⟩ := U2.out.cells
  obtain ⟨-, y1, -, -⟩ := two_cells U2.out.tri.iy.1
  clear r2 k2 b0 b1 b2
  have CELLS : Hid (∀ i (hi : i < L.length) w', Kept (fun _ => False) w2 w' → w'.cell? ⟨w0.heap.size, i, none⟩ = some (.int .i64 L[i].1) ∧ w'.cell? ⟨w1.heap.size, i, none⟩ = some (.string (textOf L[i].1)) ∧
      w'.cell? ⟨cc, 2, none⟩ = some (.pointer (some ⟨y, 0, none⟩)) ∧ w'.cell? ⟨y, 1, none⟩ = some (.slice (some ⟨gy, 0, none⟩) L.length cpy) ∧ w'.cell? ⟨gy, i * 2, none⟩ = some (.int .i64 L[i].1)) := by
    intro i hi w' hk'
    have U' := U2.out.same hk'
    have m1 : w'.heap[w0.heap.size]? = some (.cells (keyCells_is L).toArray 3 (0, 0)) := by
      rw [hk'.block _ (by have := heap_lt R1.out.1; have := R2.out.2.size; omega) (fun e => e), R2.out.2.block _ (heap_lt R1.out.1) (fun e => e)]; exact R1.out.1
    have m2 : w'.heap[w1.heap.size]? = some (.cells (keyCells_si (L.map tz)).toArray 9 (0, 0)) := by
      rw [hk'.block _ (heap_lt R2.out.1) (fun e => e)]; exact R2.out.1
    refine ⟨?_, ?_, U'.cells.2.2.1, (two_cells U'.tri.iy.1).2.1, row_cell U'.tri.iy.2 (i * 2) _ (flat_key _ _ L i hi)⟩
    · rw [cell_block m1]; simp [keyCells_is, hi]
    · rw [cell_block m2]; simp [keyCells_si, hi, tz]
  go_wp2
  go_loopw [15] (fun t wr => ∃ i : Nat, i ≤ L.length ∧ t = .int .i64 i ∧ Hid (Kept (fun _ => False) w2 wr)) (fun t _ => L.length - (intOf t).toNat)
  case atStart => exact ⟨0, Nat.zero_le _, rfl, Kept.refl _ _⟩
  case round =>
    obtain ⟨i, hil, rfl, HR⟩ := hrel
    clear d0 d1 d2 y1
    by_cases hlt : i < L.length
    · have CE := hide (CELLS.out i hlt)
      have hkk := OK.out.rng L[i] (List.getElem_mem hlt)
      generalize L[i].1 = kk at *
      obtain ⟨a1, a2, a3, a4, a5⟩ := CE.out wr HR.out
      have hb1 : (0 : Int) ≤ (i : Int) := by omega
      have hb2 : (i : Int) < (L.length : Int) := by omega
      have hb3 : (kk != kk) = false := by simp
      go_wp2
      go_region_held3 (fun w' => w'.cell? ⟨w0.heap.size, i, none⟩ = some (.int .i64 kk) ∧ w'.cell? ⟨w1.heap.size, i, none⟩ = some (.string (textOf kk)) ∧ w'.cell? ⟨cc, 2, none⟩ = some (.pointer (some ⟨y, 0, none⟩)) ∧ w'.cell? ⟨y, 1, none⟩ = some (.slice (some ⟨gy, 0, none⟩) L.length cpy) ∧ w'.cell? ⟨gy, i * 2, none⟩ = some (.int .i64 kk)) (go_keep)
        ((go_at_call 37; refine (text_any kk _ hkk.1 hkk.2).mono ?_; rintro e w5 ⟨rfl, q5⟩; have HQ := hide (HR.out.join ((Kept.drew wr).join q5 (R := fun _ => False) (fun _ _ e => e) (fun _ _ e => e)) (R := fun _ => False) (fun _ _ e => e) (fun _ _ e => e)); obtain ⟨e1, e2, e3, e4, e5⟩ := CE.out w5 HQ.out))
      clear a1 a2 a3 a4 a5 e1 e2 e3 e4 e5 q5 HR
      go_wp2
      go_roundw
      case rel => exact ⟨i + 1, by omega, by go_num, HQ⟩
      case measure => simp [intOf]; omega
    · have K0 : Hid (Kept (fun _ => False) w w0) := by rw [← HW.out]; exact Kept.alloc _ _
      have KW : Hid (Kept (fun _ => False) w wr) := (((K0.out.join R1.out.2 (fun _ _ e => e) (fun _ _ e => e)).join R2.out.2 (fun _ _ e => e) (fun _ _ e => e)).join HR.out (fun _ _ e => e) (fun _ _ e => e))
      have hs0 := K0.out.size
      have BW : Hid (BookAt wr bk kv Q) := HB.out.keep KW.out (fun _ _ e => e)
      have GW : Hid (wr.heap[w0.heap.size]? = some (.cells (keyCells_is L).toArray 3 (0, 0))) := by
        show _ = _
        rw [HR.out.block _ (by have := heap_lt R1.out.1; have := R2.out.2.size; omega) (fun e => e), R2.out.2.block _ (heap_lt R1.out.1) (fun e => e)]; exact R1.out.1
      have GQ : Hid (∀ i (h : i < Q.length), Q[i].1 ≠ w0.heap.size) := fun i hi => by
        obtain ⟨cur, q1, _⟩ := HB.out.rows i hi
        have := heap_lt q1
        omega
      clear CELLS R1 R2 HR U0 U1 U2 K0
      go_wp2_with fail
      refine (keepKeys_any bk w0.heap.size L.length kv Q (keyCells_is L) _ hQ (by omega) (keyCells_len_is L) BW.out GW.out GQ).mono ?_
      rintro e w5 ⟨rfl, kv', Q', b5, l5, k5, n5⟩
      have R5 := hide (used_keys_fin H.out OK.out hL HB.out KW.out hs0 b5 l5 k5 n5)
      clear b5 l5 k5 n5
      go_wp2
      go_ret
      exact ⟨rfl, R5.out⟩

set_option maxHeartbeats 1600000 in
set_option maxRecDepth 100000 in
theorem used_keys_nil (bk : Nat) (ca k N : Int) (t : ByteArray) (cc x z y : Nat) (rx rz : Value) (n : Nat) (kv : Value) (Q : List Lst) (w : World) (hQ : Q.length ≤ 1000000000) (hn : n ≤ 64) (B : BookAt w bk kv Q)
    (h : Tri w cc x z y rx rz (.slice none 0 0) n [] [] []) :
    Calls Try.prog 11 #[.pointer (some ⟨bk, 0, none⟩), .pointer (some ⟨cc, 0, none⟩), .agg #[.int .i64 4, .int .i64 ca, .int .i64 k, .int .i64 N, .string t]] w fun e w' =>
      e = .returned (.bool true) ∧ UsedPost bk kv Q w cc x z y rx rz (.slice none 0 0) n w' := by
  have U0 := hide (UMem.start (kd := 4) (ca := ca) (k := k) (N := N) (t := t) h)
  obtain ⟨c0, c1, c2, o0, o2, o4⟩ := U0.out.cells
  have H := hide h
  have HB := hide B
  clear h B
  go_enter Try.func11, Try.ntmps11
  go_wp2_with fail
  generalize hw0 : w.alloc (.cells #[.int .i64 4, .int .i64 ca, .int .i64 k, .int .i64 N, .string t] 33) = w0 at *
  have HW := hide hw0
  clear hw0
  refine (keys_is x n rx [] _ hn (Nat.zero_le _) U0.out.tri.ix).mono ?_
  rintro e w1 ⟨rfl, r1, k1⟩
  have U1 := hide (U0.out.same k1)
  have R1 := hide (And.intro r1 k1)
  obtain ⟨b0, b1, b2, p0, p2, p4⟩ := U1.out.cells
  clear r1 k1 c0 c1 c2 o0 o2 o4 p0 p2 p4
  go_wp2_with fail
  refine (keys_si z n rz [] _ hn (Nat.zero_le _) U1.out.tri.iz).mono ?_
  rintro e w2 ⟨rfl, r2, k2⟩
  have U2 := hide (U1.out.same k2)
  have R2 := hide k2
  obtain ⟨d0, d1, d2, -, -, -⟩ := U2.out.cells
  obtain ⟨-, y1, -, -⟩ := two_cells U2.out.tri.iy.1
  clear r2 k2 b0 b1 b2
  go_wp2
  refine wp_loop_rounds 1 ?_
  rw [rounds_succ]
  have K0 : Hid (Kept (fun _ => False) w w0) := by rw [← HW.out]; exact Kept.alloc _ _
  have KW : Hid (Kept (fun _ => False) w w2) := ((K0.out.join R1.out.2 (fun _ _ e => e) (fun _ _ e => e)).join R2.out (fun _ _ e => e) (fun _ _ e => e))
  have hs0 := K0.out.size
  have BW : Hid (BookAt w2 bk kv Q) := HB.out.keep KW.out (fun _ _ e => e)
  have GW : Hid (w2.heap[w0.heap.size]? = some (.cells (keyCells_is []).toArray 3 (0, 0))) := by
    show _ = _
    rw [R2.out.block _ (heap_lt R1.out.1) (fun e => e)]; exact R1.out.1
  have GQ : Hid (∀ i (h : i < Q.length), Q[i].1 ≠ w0.heap.size) := fun i hi => by
    obtain ⟨cur, q1, _⟩ := HB.out.rows i hi
    have := heap_lt q1
    omega
  clear R1 R2 U0 U1 U2 K0 d0 d1 d2 y1
  go_wp2_with fail
  refine (keepKeys_any bk w0.heap.size 0 kv Q (keyCells_is []) _ hQ (by omega) rfl BW.out GW.out GQ).mono ?_
  rintro e w5 ⟨rfl, kv', Q', b5, l5, k5, n5⟩
  have R5 := hide (used_keys_fin (L := []) H.out KeysOk.nil (Nat.zero_le _) HB.out KW.out hs0 b5 l5 k5 n5)
  clear b5 l5 k5 n5
  go_wp2
  go_ret
  exact ⟨rfl, R5.out⟩

theorem used_keys (bk : Nat) (ca k N : Int) (t : ByteArray) (cc x z y : Nat) (rx rz ry : Value) (n : Nat) (L : List Ent) (kv : Value) (Q : List Lst) (w : World) (hQ : Q.length ≤ 1000000000) (hn : n ≤ 64) (hL : L.length ≤ n) (ok : KeysOk L) (B : BookAt w bk kv Q)
    (h : Tri w cc x z y rx rz ry n L (L.map tz) L) :
    Calls Try.prog 11 #[.pointer (some ⟨bk, 0, none⟩), .pointer (some ⟨cc, 0, none⟩), .agg #[.int .i64 4, .int .i64 ca, .int .i64 k, .int .i64 N, .string t]] w fun e w' =>
      e = .returned (.bool true) ∧ UsedPost bk kv Q w cc x z y rx rz ry n w' := by
  rcases h.iy.2.2 with ⟨rfl, h0⟩ | ⟨g, cp, _, rfl, _⟩
  · obtain rfl : L = [] := List.eq_nil_of_length_eq_zero h0
    exact used_keys_nil bk ca k N t cc x z y rx rz n kv Q w hQ hn B h
  · exact used_keys_row bk ca k N t cc x z y rx rz g cp n L kv Q w hQ hn hL ok B h
end Go.Proofs.Ytlfmfhmbkpnjbaa

namespace Go.Proofs.Ytlfmfhmbkpnjbaa
open Go.RowKit

theorem used_any (bk : Nat) (kd ca k N : Int) (t : ByteArray) (cc x z y : Nat) (rx rz ry : Value) (n : Nat) (L : List Ent) (kv : Value) (Q : List Lst) (w : World) (hk : In64 k) (hQ : Q.length ≤ 1000000000) (hn0 : 1 ≤ n) (hn : n ≤ 64) (hL : L.length ≤ n) (ok : KeysOk L) (B : BookAt w bk kv Q)
    (h : Tri w cc x z y rx rz ry n L (L.map tz) L) :
    Calls Try.prog 11 #[.pointer (some ⟨bk, 0, none⟩), .pointer (some ⟨cc, 0, none⟩), .agg #[.int .i64 kd, .int .i64 ca, .int .i64 k, .int .i64 N, .string t]] w fun e w' =>
      e = .returned (.bool true) ∧ UsedPost bk kv Q w cc x z y rx rz ry n w' := by
  by_cases h2 : kd = 2
  · subst h2; exact used_put bk ca k N t cc x z y rx rz ry n L kv Q w hk hn0 hn hL ok B h
  · by_cases h3 : kd = 3
    · subst h3; exact used_get bk ca k N t cc x z y rx rz ry n L kv Q w hk hn hL ok B h
    · by_cases h4 : kd = 4
      · subst h4; exact used_keys bk ca k N t cc x z y rx rz ry n L kv Q w hQ hn hL ok B h
      · refine (used_none bk kd ca k N t _ w (by simp [h2]) (by simp [h3]) (by simp [h4])).mono ?_
        rintro e w' ⟨rfl, hk'⟩
        exact ⟨rfl, rx, rz, ry, L, kv, Q, h.keep hk' (fun _ _ e => e), ok, hL, B.keep hk' (fun _ _ e => e), by omega, hk'.mono (fun _ _ e => e.elim), fun j hj => Or.inl hj, fun j hj => Or.inl hj⟩

/-- One of the caches that there are. -/
structure TD where
  cc : Nat
  x : Nat
  z : Nat
  y : Nat
  rx : Value
  rz : Value
  ry : Value
  n : Nat
  L : List Ent

def TD.foot (d : TD) : Nat → Prop := TFoot d.cc d.x d.z d.y d.rx d.rz d.ry
structure TD.Ok (w : World) (d : TD) : Prop where
  tri : Tri w d.cc d.x d.z d.y d.rx d.rz d.ry d.n d.L (d.L.map tz) d.L
  keys : KeysOk d.L
  len : d.L.length ≤ d.n
  n0 : 1 ≤ d.n
  n64 : d.n ≤ 64
def ptr (d : TD) : Value := .pointer (some ⟨d.cc, 0, none⟩)

/-- All that there is in the loop. -/
structure CInv (B : Nat) (w wr : World) (bk : Nat) (kv : Value) (Q : List Lst) (lv : Value) (D : List TD) (bg : Nat) (bc : Array Value) : Prop where
  low : Below B w wr
  size : B ≤ wr.heap.size
  book : BookAt wr bk kv Q
  blow : ∀ j, BFoot bk kv j → B ≤ j
  list : wr.ownsRow B 28 1 lv D.length (D.map ptr)
  each : ∀ i (h : i < D.length), TD.Ok wr D[i]
  tlow : ∀ i (h : i < D.length) j, D[i].foot j → B ≤ j
  apart : ∀ i (h : i < D.length) i' (h' : i' < D.length), i ≠ i' → ∀ j, D[i].foot j → ¬ D[i'].foot j
  beg : wr.heap[bg]? = some (.cells bc 33 (0, 0))

section
variable {B : Nat} {w wr w' : World} {bk : Nat} {kv : Value} {Q : List Lst} {lv : Value} {D : List TD} {bg : Nat} {bc : Array Value}

theorem CInv.kept (h : CInv B w wr bk kv Q lv D bg bc) (hk : Kept (fun _ => False) wr w') : CInv B w w' bk kv Q lv D bg bc where
  low := h.low.trans (hk.below B h.size (fun _ _ e => e))
  size := Nat.le_trans h.size hk.size
  book := h.book.keep hk (fun _ _ e => e)
  blow := h.blow
  list := owns_block h.list (fun g hg => hk.block g (owns_lt h.list g hg) (fun e => e))
  each := fun i hi => ⟨(h.each i hi).tri.keep hk (fun _ _ e => e), (h.each i hi).keys, (h.each i hi).len, (h.each i hi).n0, (h.each i hi).n64⟩
  tlow := h.tlow
  apart := h.apart
  beg := by rw [hk.block bg (heap_lt h.beg) (fun e => e)]; exact h.beg

/-- The blocks of a cache are no others'. -/
theorem Tri.not_typ {cc x z y : Nat} {rx rz ry : Value} {n : Nat} {X : List Ent} {Z : List (ByteArray × Int)} {Y : List Ent} (h : Tri w cc x z y rx rz ry n X Z Y) (j : Nat) (hj : TFoot cc x z y rx rz ry j) (t : TypeId) (ht : typ w j t)
    (h0 : t ≠ 85) (h1 : t ≠ 129) (h2 : t ≠ 135) (h3 : t ≠ 132) (h4 : t ≠ 138) (h5 : t ≠ 83) (h6 : t ≠ 95) : False := by
  rcases hj with rfl | hj | hj | hj
  · exact typ_two ht h.tc h0
  · rcases h.tx j hj with q | q
    · exact typ_two ht q h1
    · exact typ_two ht q h2
  · rcases h.tz j hj with q | q
    · exact typ_two ht q h3
    · exact typ_two ht q h4
  · rcases h.ty j hj with q | q
    · exact typ_two ht q h5
    · exact typ_two ht q h6

theorem bfoot_typ (b : BookAt wr bk kv Q) (j : Nat) (hj : BFoot bk kv j) : typ wr j 27 ∨ typ wr j 53 := by
  rcases hj with rfl | hj
  · exact Or.inl (typ_blk b.blk)
  · exact Or.inr (typ_own b.own j hj)

/-- Behind a step on the q-th. -/
theorem CInv.used (h : CInv B w wr bk kv Q lv D bg bc) (q : Nat) (hq : q < D.length) (hu : UsedPost bk kv Q wr D[q].cc D[q].x D[q].z D[q].y D[q].rx D[q].rz D[q].ry D[q].n w') :
    ∃ kv' Q' D', CInv B w w' bk kv' Q' lv D' bg bc ∧ D'.length = D.length ∧ Q'.length ≤ Q.length + 4 := by
  obtain ⟨rx', rz', ry', L', kv', Q', t', ok', l', b', hq', k', f', g'⟩ := hu
  have hOk := h.each q hq
  have htri := hOk.tri
  let d' : TD := ⟨D[q].cc, D[q].x, D[q].z, D[q].y, rx', rz', ry', D[q].n, L'⟩
  have hfd : ∀ j, d'.foot j → D[q].foot j ∨ wr.heap.size ≤ j := f'
  have hS : ∀ j, B ≤ j ∨ ¬ (TFoot D[q].cc D[q].x D[q].z D[q].y D[q].rx D[q].rz D[q].ry j ∨ BFoot bk kv j) := by
    intro j
    by_cases hj : TFoot D[q].cc D[q].x D[q].z D[q].y D[q].rx D[q].rz D[q].ry j ∨ BFoot bk kv j
    · rcases hj with hj | hj
      · exact Or.inl (h.tlow q hq j hj)
      · exact Or.inl (h.blow j hj)
    · exact Or.inr hj
  have hget : ∀ i (hi : i < (D.set q d').length), (D.set q d')[i] = if q = i then d' else D[i]'(by simpa using hi) := fun i hi => List.getElem_set hi
  have hflt : ∀ i (hi : i < D.length) j, D[i].foot j → j < wr.heap.size := fun i hi j hj => (h.each i hi).tri.lt j hj
  refine ⟨kv', Q', D.set q d', ?_, by simp, hq'⟩
  constructor
  · refine h.low.trans (k'.below B h.size ?_)
    intro i hi e
    rcases hS i with q1 | q1
    · omega
    · exact q1 e
  · exact Nat.le_trans h.size k'.size
  · exact b'
  · intro j hj
    rcases g' j hj with q1 | q1
    · exact h.blow j q1
    · exact Nat.le_trans h.size q1
  · have e1 : (D.set q d').map ptr = D.map ptr := by
      rw [List.map_set]
      apply List.ext_getElem?
      intro i
      rw [List.getElem?_set]
      split
      · rename_i e
        subst e
        simp [hq, ptr, d']
      · rfl
    rw [e1, List.length_set]
    refine owns_block h.list (fun g hg => k'.block g (owns_lt h.list g hg) ?_)
    have ht := typ_own h.list g hg
    intro e
    rcases e with e | e
    · exact htri.not_typ g e _ ht (by decide) (by decide) (by decide) (by decide) (by decide) (by decide) (by decide)
    · rcases bfoot_typ h.book g e with q1 | q1 <;> exact typ_two ht q1 (by decide)
  · intro i hi
    rw [hget i hi]
    split
    · exact ⟨t', ok', l', hOk.n0, hOk.n64⟩
    · rename_i e
      have hi' : i < D.length := by simpa using hi
      have o := h.each i hi'
      refine ⟨o.tri.keep k' (fun j hj => ?_), o.keys, o.len, o.n0, o.n64⟩
      intro e2
      rcases e2 with e2 | e2
      · exact h.apart q hq i hi' e j e2 hj
      · rcases bfoot_typ h.book j e2 with q1 | q1
        · exact o.tri.not_typ j hj _ q1 (by decide) (by decide) (by decide) (by decide) (by decide) (by decide) (by decide)
        · exact o.tri.not_typ j hj _ q1 (by decide) (by decide) (by decide) (by decide) (by decide) (by decide) (by decide)
  · intro i hi j
    rw [hget i hi]
    split
    · intro hj
      rcases hfd j hj with q1 | q1
      · exact h.tlow q hq j q1
      · exact Nat.le_trans h.size q1
    · exact h.tlow i (by simpa using hi) j
  · intro i hi i' hi' hne j
    rw [hget i hi, hget i' hi']
    have hi2 : i < D.length := by simpa using hi
    have hi2' : i' < D.length := by simpa using hi'
    by_cases e1 : q = i
    · subst e1
      rw [if_pos rfl, if_neg hne]
      intro hj hj'
      rcases hfd j hj with q1 | q1
      · exact h.apart q hi2 i' hi2' hne j q1 hj'
      · have := hflt i' hi2' j hj'; omega
    · rw [if_neg e1]
      by_cases e2 : q = i'
      · subst e2
        rw [if_pos rfl]
        intro hj hj'
        rcases hfd j hj' with q1 | q1
        · exact h.apart i hi2 q hi2' hne j hj q1
        · have := hflt i hi2 j hj; omega
      · rw [if_neg e2]
        exact h.apart i hi2 i' hi2' hne j
  · rw [k'.block bg (heap_lt h.beg) ?_]
    · exact h.beg
    · have ht := typ_blk h.beg
      intro e
      rcases e with e | e
      · exact htri.not_typ bg e _ ht (by decide) (by decide) (by decide) (by decide) (by decide) (by decide) (by decide)
      · rcases bfoot_typ h.book bg e with q1 | q1 <;> exact typ_two ht q1 (by decide)

/-- One more: it has been made, and appended to the list. -/
theorem CInv.more {w1 w2 w3 : World} {d : TD} {lv' : Value} {o : Obj} (h : CInv B w wr bk kv Q lv D bg bc) (hd : TD.Ok w1 d) (k1 : Kept (fun _ => False) wr w1) (hnew : ∀ j, d.foot j → wr.heap.size ≤ j)
    (hw2 : w2 = w1.alloc o) (hgrow : w2.grownBy w3 lv.ownBlock) (hown : w3.ownsRow B 28 1 lv' (D.length + 1) (D.map ptr ++ [ptr d])) :
    CInv B w w3 bk kv Q lv' (D ++ [d]) bg bc := by
  subst hw2
  have h1 := (h.kept k1).kept (Kept.alloc w1 o)
  have hd1 : TD.Ok (w1.alloc o) d := ⟨hd.tri.keep (Kept.alloc w1 o) (fun _ _ e => e), hd.keys, hd.len, hd.n0, hd.n64⟩
  have kk : Kept (fun j => lv.ownBlock = some j) (w1.alloc o) w3 := (Kept.of_grown hgrow).mono (fun _ _ e => e.symm)
  have tl : ∀ g, lv.ownBlock = some g → typ (w1.alloc o) g 28 := fun g hg => typ_own h1.list g hg
  have lb : ∀ g, lv.ownBlock = some g → B ≤ g := fun g hg => (h1.list.lt g hg).1
  have hlen : (D ++ [d]).length = D.length + 1 := by simp
  have hkeep : ∀ e : TD, TD.Ok (w1.alloc o) e → TD.Ok w3 e := fun e he =>
    ⟨he.tri.keep kk (fun j hj e2 => he.tri.not_typ j hj _ (tl j e2) (by decide) (by decide) (by decide) (by decide) (by decide) (by decide) (by decide)), he.keys, he.len, he.n0, he.n64⟩
  constructor
  · exact h1.low.trans (kk.below B h1.size (fun i hi e => by have := lb i e; omega))
  · exact Nat.le_trans h1.size kk.size
  · refine h1.book.keep kk (fun j hb e => ?_)
    rcases hb with hb | hb | hb <;> exact typ_two (tl j e) hb (by decide)
  · exact h1.blow
  · rw [hlen, List.map_append]; exact hown
  · intro i hi
    by_cases h0 : i < D.length
    · rw [List.getElem_append_left h0]; exact hkeep _ (h1.each i h0)
    · have : i = D.length := by rw [hlen] at hi; omega
      subst this
      rw [List.getElem_append_right (Nat.le_refl _)]
      simp only [Nat.sub_self, List.getElem_cons_zero]
      exact hkeep d hd1
  · intro i hi j
    by_cases h0 : i < D.length
    · rw [List.getElem_append_left h0]; exact h1.tlow i h0 j
    · have : i = D.length := by rw [hlen] at hi; omega
      subst this
      rw [List.getElem_append_right (Nat.le_refl _)]
      simp only [Nat.sub_self, List.getElem_cons_zero]
      intro hj
      exact Nat.le_trans h.size (hnew j hj)
  · intro i hi i' hi' hne j
    have hlt : ∀ a (ha : a < D.length), D[a].foot j → j < wr.heap.size := fun a ha hj => (h.each a ha).tri.lt j hj
    by_cases h0 : i < D.length
    · rw [List.getElem_append_left h0]
      by_cases h0' : i' < D.length
      · rw [List.getElem_append_left h0']; exact h1.apart i h0 i' h0' hne j
      · have : i' = D.length := by rw [hlen] at hi'; omega
        subst this
        rw [List.getElem_append_right (Nat.le_refl _)]
        simp only [Nat.sub_self, List.getElem_cons_zero]
        intro hj hj'
        have := hlt i h0 hj
        have := hnew j hj'
        omega
    · have : i = D.length := by rw [hlen] at hi; omega
      subst this
      have h0' : i' < D.length := by rw [hlen] at hi'; omega
      rw [List.getElem_append_right (Nat.le_refl _), List.getElem_append_left h0']
      simp only [Nat.sub_self, List.getElem_cons_zero]
      intro hj hj'
      have := hlt i' h0' hj'
      have := hnew j hj
      omega
  · rw [kk.block bg (heap_lt h1.beg) (fun e => typ_two (tl bg e) (typ_blk h1.beg) (by decide))]; exact h1.beg
end
end Go.Proofs.Ytlfmfhmbkpnjbaa

namespace Go.Proofs.Ytlfmfhmbkpnjbaa
open Go.RowKit
/-- Which of m things a raw number speaks of. -/
def pickN_law (c : Int) (m : Nat) : Nat := ((if c < 0 then -(c + 1) else c).tmod m).toNat

theorem pickN_lt_law (c : Int) (m : Nat) (hm : 0 < m) : pickN_law c m < m := by
  have h0 : 0 ≤ (if c < 0 then -(c + 1) else c) := by split <;> omega
  have h1 := Int.tmod_lt_of_pos (if c < 0 then -(c + 1) else c) (show (0 : Int) < m by omega)
  have h2 := Int.tmod_nonneg (m : Int) h0
  unfold pickN_law
  omega

theorem pickN_cast_law (c : Int) (m : Nat) : ((pickN_law c m : Nat) : Int) = (if c < 0 then -(c + 1) else c).tmod m := by
  have h0 : 0 ≤ (if c < 0 then -(c + 1) else c) := by split <;> omega
  have h2 := Int.tmod_nonneg (m : Int) h0
  unfold pickN_law
  omega

set_option maxHeartbeats 400000 in
theorem pick_law (c M : Int) (m : Nat) (w : World) (h1 : -9223372036854775808 ≤ c) (h2 : c ≤ 9223372036854775807) (hM : M = m) (hm : 0 < m) (hm2 : m ≤ 1000000000) :
    Calls Try.prog 12 #[.int .i64 c, .int .i64 M] w fun e w' => e = .returned (.int .i64 (pickN_law c m)) ∧ w' = w := by
  subst hM
  have hp := hide (pickN_cast_law c m)
  have hm0 : ((m : Int) == 0) = false := by simp; omega
  by_cases hc : c < 0
  · go_enter Try.func12, Try.ntmps12
    go_wp2
    go_ret
    refine ⟨ret1 ?_, rfl⟩
    show Value.int .i64 (-((c + 1).tmod m)) = _
    rw [hp.out, if_pos hc, Int.neg_tmod]
  · go_enter Try.func12, Try.ntmps12
    go_wp2
    go_ret
    refine ⟨ret1 ?_, rfl⟩
    show Value.int .i64 (c % m) = _
    rw [hp.out, if_neg (by omega), Int.tmod_eq_emod_of_nonneg hc]
end Go.Proofs.Ytlfmfhmbkpnjbaa
