import Derived.Test.YtlfmfhmbkpnjbaaGreatDoorPz37
namespace Go.Proofs.YtlfmfhmbkpnjbaaGreatDoor
open Go.RowKit

set_option maxHeartbeats 4000000 in
set_option maxRecDepth 100000 in
theorem plays_move (B bk : Nat) (mv sv ev : Value) (Q : List Els) (D : List MD) (X : List SD) (q : Nat) (hq : q < X.length) (o : OpD) (w : World) (h : AInv B w bk mv sv ev Q D X) (hB : B ≤ w.heap.size) (hQ : Q.length ≤ 1000000000) (hk : o.k = 5) :
    Calls Tryz.prog 18 #[.pointer (some ⟨bk, 0, none⟩), ptrS X[q], o.val] w (PlayPost B bk mv sv Q D X w) := by
  obtain ⟨k, a, n, p, cap, cs⟩ := o
  unfold OpD.val ptrS
  dsimp only at hk ⊢
  subst hk
  have KA := hide (Kept.alloc w (.cells #[.int .i64 5, .int .i64 a, .int .i64 n, .slice p cs.length cap] 54))
  have OA : Hid ((w.alloc (.cells #[.int .i64 5, .int .i64 a, .int .i64 n, .slice p cs.length cap] 54)).heap[w.heap.size]? = some (.cells #[.int .i64 5, .int .i64 a, .int .i64 n, .slice p cs.length cap] 54 (0, 0))) := heap_alloc_new w _
  have HA := hide (h.calm KA.out)
  have hqX := hq
  clear h
  go_enter Tryz.func18, Tryz.ntmps18
  go_wp2_with fail
  obtain ⟨wA, hwA⟩ : ∃ wA, w.alloc (.cells #[.int .i64 5, .int .i64 a, .int .i64 n, .slice p cs.length cap] 54) = wA := ⟨_, rfl⟩
  have hsA : Hid (wA.heap.size = w.heap.size + 1) := by show _ = _; rw [← hwA]; simp
  rw [hwA] at KA OA HA ⊢
  clear hwA
  have OX := hide (HA.out.each q hq)
  obtain ⟨o0, o1, o2, o3⟩ := op_cells OA.out
  obtain ⟨s0, s1, s2, -⟩ := show_cells OX.out.blk
  have hsb := heap_lt OX.out.blk
  generalize hxe : X[q] = x at *
  have HXE := hide hxe
  clear hxe
  have hk5 := OX.out.pl.at_
  have hm5 := OX.out.pl.ok.len
  by_cases hin : 0 ≤ (x.k : Int) + n ∧ (x.k : Int) + n ≤ (x.m.cmds.length : Int)
  · obtain ⟨t, htn⟩ : ∃ t : Nat, (x.k : Int) + n = (t : Int) := ⟨((x.k : Int) + n).toNat, by omega⟩
    have HTN := hide htn
    have ht : t ≤ x.m.cmds.length := by omega
    have hwt : IntKind.i64.wrap ((x.k : Int) + n) = (t : Int) := by rw [htn]; exact wrap_id _ (by omega)
    have hn1 : ¬ (1000 : Int) < n := by omega
    have hn2 : ¬ n < -1000 := by omega
    clear hin htn
    go_cut [9, 10] from 13 (fun s7 s8 wx => ∃ (q' : Option Addr) (cq T : Nat) (F' : Nat → Prop) (d' : PD), s7 = .pointer (some ⟨T, 0, none⟩) ∧ s8 = .int .i64 0 ∧ Hid (Sought x.F x.pb x.m t x.d wA wx q' cq T F' d'))
    case first =>
      have CF : Hid (∀ w0 w', Kept (fun _ => False) wA w0 → Kept (fun j => j = x.pb ∨ Foot x.d.c x.d.r j) w0 w' → w'.cell? ⟨x.sb, 0, none⟩ = some (.pointer (some ⟨x.pb, 0, none⟩)) ∧ w'.cell? ⟨w.heap.size, 2, none⟩ = some (.int .i64 n)) := fun w0 w' k0 kk => by
        have k1 : Kept (fun j => j = x.pb ∨ Foot x.d.c x.d.r j) wA w' := k0.join kk (fun _ _ e => e.elim) (fun _ _ e => e)
        have n1 : ¬ (x.sb = x.pb ∨ Foot x.d.c x.d.r x.sb) := fun e => by
          rcases OX.out.pl.wtyp _ e with e | e | e
          all_goals exact absurd (typ_eq (typ_blk OX.out.blk) e) (by decide)
        have n2 : ¬ (w.heap.size = x.pb ∨ Foot x.d.c x.d.r w.heap.size) := fun e => by
          rcases OX.out.pl.wtyp _ e with e | e | e
          all_goals exact absurd (typ_eq (typ_blk OA.out) e) (by decide)
        exact ⟨by rw [cell_keep k1 hsb n1]; exact s0, by rw [cell_keep k1 (heap_lt OA.out) n2]; exact o2⟩
      go_region_held3 (fun w' => w'.cell? ⟨x.sb, 0, none⟩ = some (.pointer (some ⟨x.pb, 0, none⟩)) ∧ w'.cell? ⟨w.heap.size, 2, none⟩ = some (.int .i64 n)) (go_keep)
        (first
          | (go_at_call 15; refine (move_ok x.F x.pb x.m x.k t x.d n wA.drew HTN.out ht (OX.out.pl.calm (Kept.drew wA))).mono ?_; rintro e w1 ⟨N, q', cq, d', rfl, hN1, hN2, fr, pl, kk⟩; obtain ⟨f0, f1⟩ := CF.out wA.drew w1 (Kept.drew wA) kk; have SN := hide (sought_new OX.out.pl (Kept.drew wA) hN1 hN2 fr pl kk); clear fr pl kk)
          | (go_at_call 15; refine (move_ok x.F x.pb x.m x.k t x.d n (wA.drew.alloc (.cells #[.int .i64 0, .slice none 0 0] 38)) HTN.out ht (OX.out.pl.calm ((Kept.drew wA).calm2 (Kept.alloc _ _)))).mono ?_; rintro e w1 ⟨N, q', cq, d', rfl, hN1, hN2, fr, pl, kk⟩; obtain ⟨f0, f1⟩ := CF.out (wA.drew.alloc (.cells #[.int .i64 0, .slice none 0 0] 38)) w1 ((Kept.drew wA).calm2 (Kept.alloc _ _)) kk; have T8 : Hid (w1.heap[wA.heap.size]? = some (.cells #[.int .i64 0, .slice none 0 0] 38 (0, 0))) := (by show _ = _; rw [kk.block wA.heap.size (by simp) (fun e => by have := OX.out.pl.lt _ (OX.out.pl.wf _ e); omega)]; exact heap_alloc_new wA.drew _); have SN := hide (sought_set OX.out.pl ((Kept.drew wA).calm2 (Kept.alloc _ (.cells #[.int .i64 0, .slice none 0 0] 38))) (Nat.le_refl wA.heap.size) (by simp) hN1 fr pl kk T8.out); obtain ⟨j0, j1, j2, j3⟩ := two_cells T8.out; have x1 : x.sb ≠ wA.heap.size := (by omega); have x2 : w.heap.size ≠ wA.heap.size := (by have := hsA.out; omega); have x3 := x1.symm; have x4 := x2.symm; clear fr pl kk))
      all_goals
        first
          | (clear T8 j0 j1 j2 j3 x1 x2 x3 x4 f0 f1 s0 s1 s2 o0 o1 o2 o3 CF
             go_wp2_with fail
             go_meet
             exact ⟨q', cq, _, _, d', rfl, rfl, SN⟩)
          | (clear f0 f1 s0 s1 s2 o0 o1 o2 o3 CF
             go_wp2_with fail
             go_meet
             exact ⟨q', cq, _, _, d', rfl, rfl, SN⟩)
    case rest =>
      obtain ⟨q', cq, T, F', d', rfl, rfl, SN⟩ := hcut
      have SN2 : Hid (Sought (X[q]'hqX).F (X[q]'hqX).pb (X[q]'hqX).m t (X[q]'hqX).d wA wc q' cq T F' d') := by rw [HXE.out]; exact SN.out
      have AF := hide (HA.out.after q hqX SN2.out.kept)
      rw [HXE.out] at AF
      obtain ⟨p0, c0', r1, r2, r3⟩ := AF.out.2.2.2 t ht
      have hgood := OX.out.pl.good t ht
      have hsh := (worldB_fine hgood).2.2.short
      have hM5 := OX.out.pl.ok.len
      have HS := hide (shown_ok bk x.sb x.pb x.gw x.cap x.m.cmds.length x.k t mv sv ev Q (x.m.at t) q' p0 cq c0' wc ht AF.out.1 hQ AF.out.2.1 AF.out.2.2.1 r1 r2 r3 SN.out.reads SN.out.raw hsh (mob_same hgood) (fun i hi j hj e => by
        have e1 := (SN.out.hb j e).1
        have e2 := typ_lt (HA.out.m.book.here i hi j hj)
        omega))
      have O3 : wc.cell? ⟨w.heap.size, 2, none⟩ = some (.int .i64 n) := by
        rw [cell_keep SN.out.kept (heap_lt OA.out) (fun e => by
          rcases OX.out.pl.wtyp _ e with e | e | e
          all_goals exact absurd (typ_eq (typ_blk OA.out) e) (by decide))]
        exact o2
      obtain ⟨b0, b1, -, -⟩ := two_cells SN.out.box
      have RR := hide (And.intro r1 (And.intro r2 r3))
      have HGD := hide (mob_same hgood)
      clear r1 r2 r3 hgood s0 s1 s2 o0 o1 o2 o3
      have s2c : wc.cell? ⟨x.sb, 2, none⟩ = some (.int .i64 (x.k : Int)) := (show_cells AF.out.2.1).2.2.1
      have HSD := hide (shown_ok bk x.sb x.pb x.gw x.cap x.m.cmds.length x.k t mv sv ev Q (x.m.at t) q' p0 cq c0' wc.drew ht (AF.out.1.still (Kept.drew wc)) hQ AF.out.2.1 AF.out.2.2.1 RR.out.1 RR.out.2.1 (RR.out.2.2.calm (Kept.drew wc)) (SN.out.reads.calm (Kept.drew wc)) (SN.out.raw.keep (Kept.drew wc) (fun _ _ e => e)) hsh HGD.out (fun i hi j hj e => by
        have e1 := (SN.out.hb j e).1
        have e2 := typ_lt (HA.out.m.book.here i hi j hj)
        omega))
      have OC : Hid (wc.heap[w.heap.size]? = some (.cells #[.int .i64 5, .int .i64 a, .int .i64 n, .slice p cs.length cap] 54 (0, 0))) := by
        show _ = _
        rw [SN.out.kept.block _ (heap_lt OA.out) (fun e => by
          rcases OX.out.pl.wtyp _ e with e | e | e
          all_goals exact absurd (typ_eq (typ_blk OA.out) e) (by decide))]
        exact OA.out
      have NK : Hid (∀ j T, typ wc j T → T ≠ 83 → T ≠ 51 → T ≠ 36 → T ≠ 91 → ¬ (HB q' j ∨ j = bk ∨ ev.ownBlock = some j ∨ j = x.sb)) := fun j T ht h1 h2 h3 h4 e => by
        rcases e with e | e | e | e
        · exact h1 (typ_eq ht (SN.out.raw.typ j e))
        · rw [e] at ht; exact h2 (typ_eq ht (typ_blk AF.out.1.blk))
        · exact h3 (typ_eq ht (typ_own AF.out.1.own j e))
        · rw [e] at ht; exact h4 (typ_eq ht (typ_blk AF.out.2.1))
      have hTl := heap_lt SN.out.box
      have hOl := heap_lt OC.out
      clear HS
      go_wp2_with fail
      have hd1 : decide ((1000 : Int) < n) = false := by simp; omega
      have hd2 : decide (n < (-1000 : Int)) = false := by simp; omega
      have s2d : wc.drew.cell? ⟨x.sb, 2, none⟩ = some (.int .i64 (x.k : Int)) := s2c
      refine wp_region_held_drew (S := fun w' => w'.cell? ⟨T, 0, none⟩ = some (.int .i64 (t : Int)) ∧ w'.cell? ⟨T, 1, none⟩ = some (.slice q' (x.m.at t).length cq) ∧ w'.cell? ⟨w.heap.size, 2, none⟩ = some (.int .i64 n)) (by kernel_rfl) ?_ (fun hHeld => ?_)
      · (try dsimp only); go_keep
      refine wpAnyH_take (i := 0) (oi := { dst := some 46, op := Op.move (Operand.tmp 0), type := 44, pos := "law.go:413", after := #[], guard := none }) (v := ?_) rfl (by kernel_rfl) (by kernel_rfl) (by kernel_rfl) (fun _ _ _ h => h) (Or.inl ⟨by rfl, ?_⟩) (by assumption) ?_
      rotate_left
      · (intro w hSw; (try dsimp only at hSw); go_simp; (try with_reducible rfl))
      try simp only [Act.put]
      try simp only [List.setIfInBounds_toArray]
      try simp only [List.set_cons_succ, List.set_cons_zero]
      refine wpAnyH_take (i := 1) (oi := { dst := some 47, op := Op.move (Operand.tmp 1), type := 61, pos := "law.go:413", after := #[], guard := none }) (v := ?_) rfl (by kernel_rfl) (by kernel_rfl) (by kernel_rfl) (fun _ _ _ h => h) (Or.inl ⟨by rfl, ?_⟩) (by assumption) ?_
      rotate_left
      · (intro w hSw; (try dsimp only at hSw); go_simp; (try with_reducible rfl))
      try simp only [Act.put]
      try simp only [List.setIfInBounds_toArray]
      try simp only [List.set_cons_succ, List.set_cons_zero]
      refine wpAnyH_take (i := 2) (oi := { dst := some 48, op := Op.load 38 (Operand.tmp 9), type := 38, pos := "law.go:413", after := #[], guard := none }) (v := ?_) rfl (by kernel_rfl) (by kernel_rfl) (by kernel_rfl) (fun _ _ _ h => h) (Or.inl ⟨by rfl, ?_⟩) (by assumption) ?_
      rotate_left
      · (intro w hSw; (try dsimp only at hSw); go_simp; (try with_reducible rfl))
      try simp only [Act.put]
      try simp only [List.setIfInBounds_toArray]
      try simp only [List.set_cons_succ, List.set_cons_zero]
      refine wpAnyH_take (i := 3) (oi := { dst := some 49, op := Op.move (Operand.tmp 10), type := 31, pos := "law.go:413", after := #[], guard := none }) (v := ?_) rfl (by kernel_rfl) (by kernel_rfl) (by kernel_rfl) (fun _ _ _ h => h) (Or.inl ⟨by rfl, ?_⟩) (by assumption) ?_
      rotate_left
      · (intro w hSw; (try dsimp only at hSw); go_simp; (try with_reducible rfl))
      try simp only [Act.put]
      try simp only [List.setIfInBounds_toArray]
      try simp only [List.set_cons_succ, List.set_cons_zero]
      refine wpAnyH_take (i := 4) (oi := { dst := some 50, op := Op.move (Operand.tmp 1), type := 61, pos := "law.go:413", after := #[], guard := none }) (v := ?_) rfl (by kernel_rfl) (by kernel_rfl) (by kernel_rfl) (fun _ _ _ h => h) (Or.inl ⟨by rfl, ?_⟩) (by assumption) ?_
      rotate_left
      · (intro w hSw; (try dsimp only at hSw); go_simp; (try with_reducible rfl))
      try simp only [Act.put]
      try simp only [List.setIfInBounds_toArray]
      try simp only [List.set_cons_succ, List.set_cons_zero]
      refine wpAnyH_take (i := 5) (oi := { dst := some 51, op := Op.nilCheck (Operand.tmp 50), type := 0, pos := "law.go:413", after := #[{ on := 4, ground := Ground.data }], guard := none }) (v := ?_) rfl (by kernel_rfl) (by kernel_rfl) (by kernel_rfl) (fun _ _ _ h => h) (Or.inl ⟨by rfl, ?_⟩) (by assumption) ?_
      rotate_left
      · (intro w hSw; (try dsimp only at hSw); go_simp; (try with_reducible rfl))
      try simp only [Act.put]
      try simp only [List.setIfInBounds_toArray]
      try simp only [List.set_cons_succ, List.set_cons_zero]
      refine wpAnyH_take (i := 6) (oi := { dst := some 52, op := Op.fieldAddr 91 (Operand.tmp 51) 2, type := 0, pos := "law.go:413", after := #[{ on := 5, ground := Ground.data }], guard := none }) (v := ?_) rfl (by kernel_rfl) (by kernel_rfl) (by kernel_rfl) (fun _ _ _ h => h) (Or.inl ⟨by rfl, ?_⟩) (by assumption) ?_
      rotate_left
      · (intro w hSw; (try dsimp only at hSw); go_simp; (try with_reducible rfl))
      try simp only [Act.put]
      try simp only [List.setIfInBounds_toArray]
      try simp only [List.set_cons_succ, List.set_cons_zero]
      refine wpAnyH_take (i := 8) (oi := { dst := some 54, op := Op.fieldAddr 54 (Operand.tmp 5) 2, type := 0, pos := "law.go:413", after := #[], guard := none }) (v := ?_) rfl (by kernel_rfl) (by kernel_rfl) (by kernel_rfl) (fun _ _ _ h => h) (Or.inl ⟨by rfl, ?_⟩) (by assumption) ?_
      rotate_left
      · (intro w hSw; (try dsimp only at hSw); go_simp; (try with_reducible rfl))
      try simp only [Act.put]
      try simp only [List.setIfInBounds_toArray]
      try simp only [List.set_cons_succ, List.set_cons_zero]
      refine wpAnyH_take (i := 9) (oi := { dst := some 55, op := Op.load 3 (Operand.tmp 54), type := 3, pos := "law.go:413", after := #[{ on := 8, ground := Ground.data }], guard := none }) (v := ?_) rfl (by kernel_rfl) (by kernel_rfl) (by kernel_rfl) (fun _ _ _ h => h) (Or.inl ⟨by rfl, ?_⟩) (by assumption) ?_
      rotate_left
      · (intro w hSw; (try dsimp only at hSw); go_simp; (try with_reducible rfl))
      try simp only [Act.put]
      try simp only [List.setIfInBounds_toArray]
      try simp only [List.set_cons_succ, List.set_cons_zero]
      refine wpAnyH_take (i := 11) (oi := { dst := some 57, op := Op.fieldAddr 54 (Operand.tmp 5) 2, type := 0, pos := "law.go:413", after := #[], guard := none }) (v := ?_) rfl (by kernel_rfl) (by kernel_rfl) (by kernel_rfl) (fun _ _ _ h => h) (Or.inl ⟨by rfl, ?_⟩) (by assumption) ?_
      rotate_left
      · (intro w hSw; (try dsimp only at hSw); go_simp; (try with_reducible rfl))
      try simp only [Act.put]
      try simp only [List.setIfInBounds_toArray]
      try simp only [List.set_cons_succ, List.set_cons_zero]
      refine wpAnyH_take (i := 12) (oi := { dst := some 58, op := Op.load 3 (Operand.tmp 57), type := 3, pos := "law.go:413", after := #[{ on := 11, ground := Ground.data }], guard := none }) (v := ?_) rfl (by kernel_rfl) (by kernel_rfl) (by kernel_rfl) (fun _ _ _ h => h) (Or.inl ⟨by rfl, ?_⟩) (by assumption) ?_
      rotate_left
      · (intro w hSw; (try dsimp only at hSw); go_simp; (try with_reducible rfl))
      try simp only [Act.put]
      try simp only [List.setIfInBounds_toArray]
      try simp only [List.set_cons_succ, List.set_cons_zero]
      refine wpAnyH_take (i := 13) (oi := { dst := some 59, op := Op.binOp BinOp.gtr 3 (Operand.tmp 58) (Operand.const (Value.int IntKind.i64 1000)) 3, type := 4, pos := "law.go:413", after := #[{ on := 12, ground := Ground.data }], guard := none }) (v := ?_) rfl (by kernel_rfl) (by kernel_rfl) (by kernel_rfl) (fun _ _ _ h => h) (Or.inl ⟨by rfl, ?_⟩) (by assumption) ?_
      rotate_left
      · (intro w hSw; (try dsimp only at hSw); go_simp; (try with_reducible rfl))
      try simp only [Act.put]
      try simp only [List.setIfInBounds_toArray]
      try simp only [List.set_cons_succ, List.set_cons_zero]
      refine wpAnyH_take (i := 14) (oi := { dst := some 60, op := Op.move (Operand.tmp 59), type := 4, pos := "law.go:413", after := #[{ on := 13, ground := Ground.data }], guard := none }) (v := ?_) rfl (by kernel_rfl) (by kernel_rfl) (by kernel_rfl) (fun _ _ _ h => h) (Or.inl ⟨by rfl, ?_⟩) (by assumption) ?_
      rotate_left
      · (intro w hSw; (try dsimp only at hSw); go_simp; (try with_reducible rfl))
      try simp only [Act.put]
      try simp only [List.setIfInBounds_toArray]
      try simp only [List.set_cons_succ, List.set_cons_zero]
      refine wpAnyH_take (i := 15) (oi := { dst := some 61, op := Op.fieldAddr 54 (Operand.tmp 5) 2, type := 0, pos := "law.go:413", after := #[{ on := 14, ground := Ground.guard }], guard := some (14, false) }) (v := ?_) rfl (by kernel_rfl) (by kernel_rfl) (by kernel_rfl) (fun _ _ _ h => h) (Or.inl ⟨by rfl, ?_⟩) (by assumption) ?_
      rotate_left
      · (intro w hSw; (try dsimp only at hSw); go_simp; (try with_reducible rfl))
      try simp only [Act.put]
      try simp only [List.setIfInBounds_toArray]
      try simp only [List.set_cons_succ, List.set_cons_zero]
      refine wpAnyH_take (i := 16) (oi := { dst := some 62, op := Op.load 3 (Operand.tmp 61), type := 3, pos := "law.go:413", after := #[{ on := 15, ground := Ground.data }, { on := 14, ground := Ground.guard }], guard := some (14, false) }) (v := ?_) rfl (by kernel_rfl) (by kernel_rfl) (by kernel_rfl) (fun _ _ _ h => h) (Or.inl ⟨by rfl, ?_⟩) (by assumption) ?_
      rotate_left
      · (intro w hSw; (try dsimp only at hSw); go_simp; (try with_reducible rfl))
      try simp only [Act.put]
      try simp only [List.setIfInBounds_toArray]
      try simp only [List.set_cons_succ, List.set_cons_zero]
      refine wpAnyH_take (i := 17) (oi := { dst := some 63, op := Op.binOp BinOp.lss 3 (Operand.tmp 62) (Operand.const (Value.int IntKind.i64 (-1000))) 3, type := 4, pos := "law.go:413", after := #[{ on := 16, ground := Ground.data }, { on := 14, ground := Ground.guard }], guard := some (14, false) }) (v := ?_) rfl (by kernel_rfl) (by kernel_rfl) (by kernel_rfl) (fun _ _ _ h => h) (Or.inl ⟨by rfl, ?_⟩) (by assumption) ?_
      rotate_left
      · (intro w hSw; (try dsimp only at hSw); go_simp; (try with_reducible rfl))
      try simp only [Act.put]
      try simp only [List.setIfInBounds_toArray]
      try simp only [List.set_cons_succ, List.set_cons_zero]
      refine wpAnyH_take (i := 18) (oi := { dst := some 64, op := Op.pick (Operand.tmp 60) (Operand.const (Value.bool true)) (Operand.tmp 63), type := 4, pos := "law.go:413", after := #[{ on := 14, ground := Ground.data }, { on := 17, ground := Ground.data }], guard := none }) (v := ?_) rfl (by kernel_rfl) (by kernel_rfl) (by kernel_rfl) (fun _ _ _ h => h) (Or.inl ⟨by rfl, ?_⟩) (by assumption) ?_
      rotate_left
      · (intro w hSw; (try dsimp only at hSw); go_simp; (try with_reducible rfl))
      try simp only [Act.put]
      try simp only [List.setIfInBounds_toArray]
      try simp only [List.set_cons_succ, List.set_cons_zero]
      refine wpAnyH_ready (rs := [7]) (by kernel_rfl) (by simp) ?_
      refine AllReadyH.cons (o := { dst := some 53, op := Op.load 3 (Operand.tmp 52), type := 3, pos := "law.go:413", after := #[{ on := 6, ground := Ground.data }], guard := none }) rfl (fun K hK => ?_) AllReadyH.nil
      go_simp
      refine hK.out _ _ ?_ (fun hHeld => ?_)
      · (try dsimp only); go_keep
      clear hK K
      try simp only [Act.put]
      try simp only [List.setIfInBounds_toArray]
      try simp only [List.set_cons_succ, List.set_cons_zero]
      refine wpAnyH_take (i := 10) (oi := { dst := some 56, op := Op.binOp BinOp.add 3 (Operand.tmp 53) (Operand.tmp 55) 3, type := 3, pos := "law.go:413", after := #[{ on := 7, ground := Ground.data }, { on := 9, ground := Ground.data }], guard := none }) (v := ?_) rfl (by kernel_rfl) (by kernel_rfl) (by kernel_rfl) (fun _ _ _ h => h) (Or.inl ⟨by rfl, ?_⟩) (by assumption) ?_
      rotate_left
      · (intro w hSw; (try dsimp only at hSw); go_simp; (try with_reducible rfl))
      try simp only [Act.put]
      try simp only [List.setIfInBounds_toArray]
      try simp only [List.set_cons_succ, List.set_cons_zero]
      refine wpAnyH_ready (rs := [19]) (by kernel_rfl) (by simp) ?_
      refine AllReadyH.cons (o := { dst := some 65, op := Op.call { callee := Callee.value (Operand.func 34), args := #[Operand.tmp 46, Operand.tmp 47, Operand.tmp 48, Operand.tmp 49, Operand.tmp 56, Operand.tmp 64], argTypes := #[44, 61, 38, 31, 3, 4] }, type := 4, pos := "law.go:413", after := #[{ on := 0, ground := Ground.data }, { on := 1, ground := Ground.data }, { on := 2, ground := Ground.data }, { on := 3, ground := Ground.data }, { on := 10, ground := Ground.data }, { on := 18, ground := Ground.data }, { on := 14, ground := Ground.chain }], guard := none }) rfl (fun K hK => ?_) AllReadyH.nil
      go_simp
      (go_at_call 34; refine HSD.out.mono ?_; rintro e w2 ⟨rfl, ev', Q', hb', hQ', hs', k', he'⟩; have k2' : Kept (fun j => HB q' j ∨ j = bk ∨ ev.ownBlock = some j ∨ j = x.sb) wc w2 := (Kept.drew wc).join k' (fun _ _ e => e.elim) (fun _ _ e => e); have f0 : w2.cell? ⟨T, 0, none⟩ = some (.int .i64 (t : Int)) := (by rw [cell_keep k2' hTl (NK.out _ _ (typ_blk SN.out.box) (by decide) (by decide) (by decide) (by decide))]; exact b0); have f1 : w2.cell? ⟨T, 1, none⟩ = some (.slice q' (x.m.at t).length cq) := (by rw [cell_keep k2' hTl (NK.out _ _ (typ_blk SN.out.box) (by decide) (by decide) (by decide) (by decide))]; exact b1); have f2 : w2.cell? ⟨w.heap.size, 2, none⟩ = some (.int .i64 n) := (by rw [cell_keep k2' hOl (NK.out _ _ (typ_blk OC.out) (by decide) (by decide) (by decide) (by decide))]; exact O3))
      go_wp2_with fail
      refine hK.out _ _ ?_ (fun hHeld => ?_)
      · (try dsimp only); go_keep
      clear hK K
      try simp only [Act.put]
      try simp only [List.setIfInBounds_toArray]
      try simp only [List.set_cons_succ, List.set_cons_zero]
      refine wpAnyH_take (i := 20) (oi := { dst := some 6, op := Op.assign (Operand.tmp 65), type := 4, pos := "law.go:413", after := #[{ on := 19, ground := Ground.data }, { on := 19, ground := Ground.chain }, { on := 0, ground := Ground.phase }, { on := 1, ground := Ground.phase }, { on := 2, ground := Ground.phase }, { on := 3, ground := Ground.phase }, { on := 4, ground := Ground.phase }, { on := 5, ground := Ground.phase }, { on := 6, ground := Ground.phase }, { on := 7, ground := Ground.phase }, { on := 8, ground := Ground.phase }, { on := 9, ground := Ground.phase }, { on := 10, ground := Ground.phase }, { on := 11, ground := Ground.phase }, { on := 12, ground := Ground.phase }, { on := 13, ground := Ground.phase }, { on := 14, ground := Ground.phase }, { on := 15, ground := Ground.phase }, { on := 16, ground := Ground.phase }, { on := 17, ground := Ground.phase }, { on := 18, ground := Ground.phase }, { on := 19, ground := Ground.phase }], guard := none }) (v := ?_) rfl (by kernel_rfl) (by kernel_rfl) (by kernel_rfl) (fun _ _ _ h => h) (Or.inl ⟨by rfl, ?_⟩) (by assumption) ?_
      rotate_left
      · (intro w hSw; (try dsimp only at hSw); go_simp; (try with_reducible rfl))
      try simp only [Act.put]
      try simp only [List.setIfInBounds_toArray]
      try simp only [List.set_cons_succ, List.set_cons_zero]
      refine wpAnyH_done (by kernel_rfl) ?_ _
      all_goals
        have FIN : Hid (PlayPost B bk mv sv Q D X w (.returned (.bool true)) w2) := by
          have hs2 : w2.heap[(X[q]'hqX).sb]? = some (.cells #[.pointer (some ⟨(X[q]'hqX).pb, 0, none⟩), .slice (some ⟨(X[q]'hqX).gw, 0, none⟩) ((X[q]'hqX).m.cmds.length + 1) (X[q]'hqX).cap, .int .i64 (t : Int)] 91 (0, 0)) := by rw [HXE.out]; exact hs'
          have k2 : Kept (fun j => HB q' j ∨ j = bk ∨ ev.ownBlock = some j ∨ j = (X[q]'hqX).sb) wc w2 := by rw [HXE.out]; exact k2'
          obtain ⟨g1, g2⟩ := HA.out.seekd (by have := hsA.out; omega) q hqX SN2.out hb' hs2 k2 he'
          exact ⟨rfl, ev', Q', _, g1, by simp, by omega, Far.join KA.out.far g2, set_ptr q hqX rfl⟩
        clear hb' hs' k' he' k2' b0 b1 f0 f1 f2 s2c s2d
        go_wp2
        go_ret
        exact FIN.out
  · have hout : n < -(x.k : Int) ∨ (x.m.cmds.length : Int) - (x.k : Int) < n := by omega
    clear hin
    go_cut [9, 10] from 13 (fun s7 s8 wx => ∃ (T : Nat), s7 = .pointer (some ⟨T, 0, none⟩) ∧ s8 = .int .i64 4 ∧ Hid (Kept (fun _ => False) wA wx ∧ wx.heap[T]? = some (.cells #[.int .i64 0, .slice none 0 0] 38 (0, 0))))
    case first =>
      have CF : Hid (∀ w', Kept (fun _ => False) wA w' → w'.cell? ⟨x.sb, 0, none⟩ = some (.pointer (some ⟨x.pb, 0, none⟩)) ∧ w'.cell? ⟨w.heap.size, 2, none⟩ = some (.int .i64 n)) := fun w' k1 =>
        ⟨by rw [cell_keep k1 hsb (fun e => e)]; exact s0, by rw [cell_keep k1 (heap_lt OA.out) (fun e => e)]; exact o2⟩
      go_region_held3 (fun w' => w'.cell? ⟨x.sb, 0, none⟩ = some (.pointer (some ⟨x.pb, 0, none⟩)) ∧ w'.cell? ⟨w.heap.size, 2, none⟩ = some (.int .i64 n)) (go_keep)
        (first
          | (go_at_call 15; refine (move_bad x.F x.pb x.m x.k x.d n wA.drew hout (OX.out.pl.calm (Kept.drew wA))).mono ?_; rintro e w1 ⟨rfl, kk⟩; have K1 := hide ((Kept.drew wA).calm2 kk); obtain ⟨f0, f1⟩ := CF.out w1 K1.out; have SN := hide (box_new K1.out); clear kk)
          | (go_at_call 15; refine (move_bad x.F x.pb x.m x.k x.d n (wA.drew.alloc (.cells #[.int .i64 0, .slice none 0 0] 38)) hout (OX.out.pl.calm ((Kept.drew wA).calm2 (Kept.alloc _ _)))).mono ?_; rintro e w1 ⟨rfl, kk⟩; have K1 := hide (((Kept.drew wA).calm2 (Kept.alloc _ (.cells #[.int .i64 0, .slice none 0 0] 38))).calm2 kk); obtain ⟨f0, f1⟩ := CF.out w1 K1.out; have T8 : Hid (w1.heap[wA.heap.size]? = some (.cells #[.int .i64 0, .slice none 0 0] 38 (0, 0))) := new_calm (w := wA.drew) kk; have SN := hide (box_set K1.out (Nat.le_refl _) T8.out); obtain ⟨j0, j1, j2, j3⟩ := two_cells T8.out; have x1 : x.sb ≠ wA.heap.size := (by omega); have x2 : w.heap.size ≠ wA.heap.size := (by have := hsA.out; omega); have x3 := x1.symm; have x4 := x2.symm; clear kk))
      all_goals
        first
          | (clear T8 j0 j1 j2 j3 x1 x2 x3 x4 f0 f1 s0 s1 s2 o0 o1 o2 o3 CF K1
             go_wp2_with fail
             go_meet
             exact ⟨_, rfl, rfl, SN⟩)
          | (clear f0 f1 s0 s1 s2 o0 o1 o2 o3 CF K1
             go_wp2_with fail
             go_meet
             exact ⟨_, rfl, rfl, SN⟩)
    case rest =>
      obtain ⟨T, rfl, rfl, SN⟩ := hcut
      have O3 : wc.cell? ⟨w.heap.size, 2, none⟩ = some (.int .i64 n) := by
        rw [cell_keep SN.out.1 (heap_lt OA.out) (fun e => e)]
        exact o2
      have S3 : wc.cell? ⟨x.sb, 2, none⟩ = some (.int .i64 (x.k : Int)) := by
        rw [cell_keep SN.out.1 hsb (fun e => e)]
        exact s2
      obtain ⟨b0, b1, -, -⟩ := two_cells SN.out.2
      have KC := hide (KA.out.calm2 SN.out.1)
      have hTl := heap_lt SN.out.2
      have hOl : w.heap.size < wc.heap.size := by have := SN.out.1.size; have := hsA.out; omega
      have hSl : x.sb < wc.heap.size := by have := SN.out.1.size; omega
      clear s0 s1 s2 o0 o1 o2 o3
      have HW : Hid (AInv B wc bk mv sv ev Q D X) := HA.out.calm SN.out.1
      have CE : Hid (∀ w', Kept (fun _ => False) wc w' → w'.cell? ⟨T, 0, none⟩ = some (.int .i64 0) ∧ w'.cell? ⟨T, 1, none⟩ = some (.slice none 0 0) ∧ w'.cell? ⟨w.heap.size, 2, none⟩ = some (.int .i64 n) ∧ w'.cell? ⟨x.sb, 2, none⟩ = some (.int .i64 (x.k : Int))) := fun w' kk =>
        ⟨by rw [cell_keep kk hTl (fun e => e)]; exact b0, by rw [cell_keep kk hTl (fun e => e)]; exact b1, by rw [cell_keep kk hOl (fun e => e)]; exact O3, by rw [cell_keep kk hSl (fun e => e)]; exact S3⟩
      have SBX := hide (fun (to : Int) (bd : Bool) (w' : World) (kk : Kept (fun _ => False) wc w') (hh : bd = true ∨ to < 0 ∨ (x.m.cmds.length : Int) < to) => shown_bad bk x to bd w' ((OX.out.calm SN.out.1).calm kk) hh)
      unfold ptrS at SBX
      have FINF : Hid (∀ w', Kept (fun _ => False) wc w' → PlayPost B bk mv sv Q D X w (.returned (.bool true)) w') := fun w' kk => ⟨rfl, ev, Q, X, HW.out.calm kk, rfl, by omega, (KC.out.calm2 kk).far, rfl⟩
      by_cases hbig : (1000 : Int) < n
      · go_wp2_with fail
        have hd1 : decide ((1000 : Int) < n) = true := by simp; omega
        refine wp_region_held_drew (S := fun w' => w'.cell? ⟨T, 0, none⟩ = some (.int .i64 0) ∧ w'.cell? ⟨T, 1, none⟩ = some (.slice none 0 0) ∧ w'.cell? ⟨w.heap.size, 2, none⟩ = some (.int .i64 n) ∧ w'.cell? ⟨x.sb, 2, none⟩ = some (.int .i64 (x.k : Int))) (by kernel_rfl) ?_ (fun hHeld => ?_)
        · (try dsimp only); go_keep
        refine wpAnyH_take (i := 0) (oi := { dst := some 46, op := Op.move (Operand.tmp 0), type := 44, pos := "law.go:413", after := #[], guard := none }) (v := ?_) rfl (by kernel_rfl) (by kernel_rfl) (by kernel_rfl) (fun _ _ _ h => h) (Or.inl ⟨by rfl, ?_⟩) (by assumption) ?_
        rotate_left
        · (intro w hSw; (try dsimp only at hSw); go_simp; (try with_reducible rfl))
        try simp only [Act.put]
        try simp only [List.setIfInBounds_toArray]
        try simp only [List.set_cons_succ, List.set_cons_zero]
        refine wpAnyH_take (i := 1) (oi := { dst := some 47, op := Op.move (Operand.tmp 1), type := 61, pos := "law.go:413", after := #[], guard := none }) (v := ?_) rfl (by kernel_rfl) (by kernel_rfl) (by kernel_rfl) (fun _ _ _ h => h) (Or.inl ⟨by rfl, ?_⟩) (by assumption) ?_
        rotate_left
        · (intro w hSw; (try dsimp only at hSw); go_simp; (try with_reducible rfl))
        try simp only [Act.put]
        try simp only [List.setIfInBounds_toArray]
        try simp only [List.set_cons_succ, List.set_cons_zero]
        refine wpAnyH_take (i := 2) (oi := { dst := some 48, op := Op.load 38 (Operand.tmp 9), type := 38, pos := "law.go:413", after := #[], guard := none }) (v := ?_) rfl (by kernel_rfl) (by kernel_rfl) (by kernel_rfl) (fun _ _ _ h => h) (Or.inl ⟨by rfl, ?_⟩) (by assumption) ?_
        rotate_left
        · (intro w hSw; (try dsimp only at hSw); go_simp; (try with_reducible rfl))
        try simp only [Act.put]
        try simp only [List.setIfInBounds_toArray]
        try simp only [List.set_cons_succ, List.set_cons_zero]
        refine wpAnyH_take (i := 3) (oi := { dst := some 49, op := Op.move (Operand.tmp 10), type := 31, pos := "law.go:413", after := #[], guard := none }) (v := ?_) rfl (by kernel_rfl) (by kernel_rfl) (by kernel_rfl) (fun _ _ _ h => h) (Or.inl ⟨by rfl, ?_⟩) (by assumption) ?_
        rotate_left
        · (intro w hSw; (try dsimp only at hSw); go_simp; (try with_reducible rfl))
        try simp only [Act.put]
        try simp only [List.setIfInBounds_toArray]
        try simp only [List.set_cons_succ, List.set_cons_zero]
        refine wpAnyH_take (i := 4) (oi := { dst := some 50, op := Op.move (Operand.tmp 1), type := 61, pos := "law.go:413", after := #[], guard := none }) (v := ?_) rfl (by kernel_rfl) (by kernel_rfl) (by kernel_rfl) (fun _ _ _ h => h) (Or.inl ⟨by rfl, ?_⟩) (by assumption) ?_
        rotate_left
        · (intro w hSw; (try dsimp only at hSw); go_simp; (try with_reducible rfl))
        try simp only [Act.put]
        try simp only [List.setIfInBounds_toArray]
        try simp only [List.set_cons_succ, List.set_cons_zero]
        refine wpAnyH_take (i := 5) (oi := { dst := some 51, op := Op.nilCheck (Operand.tmp 50), type := 0, pos := "law.go:413", after := #[{ on := 4, ground := Ground.data }], guard := none }) (v := ?_) rfl (by kernel_rfl) (by kernel_rfl) (by kernel_rfl) (fun _ _ _ h => h) (Or.inl ⟨by rfl, ?_⟩) (by assumption) ?_
        rotate_left
        · (intro w hSw; (try dsimp only at hSw); go_simp; (try with_reducible rfl))
        try simp only [Act.put]
        try simp only [List.setIfInBounds_toArray]
        try simp only [List.set_cons_succ, List.set_cons_zero]
        refine wpAnyH_take (i := 6) (oi := { dst := some 52, op := Op.fieldAddr 91 (Operand.tmp 51) 2, type := 0, pos := "law.go:413", after := #[{ on := 5, ground := Ground.data }], guard := none }) (v := ?_) rfl (by kernel_rfl) (by kernel_rfl) (by kernel_rfl) (fun _ _ _ h => h) (Or.inl ⟨by rfl, ?_⟩) (by assumption) ?_
        rotate_left
        · (intro w hSw; (try dsimp only at hSw); go_simp; (try with_reducible rfl))
        try simp only [Act.put]
        try simp only [List.setIfInBounds_toArray]
        try simp only [List.set_cons_succ, List.set_cons_zero]
        refine wpAnyH_take (i := 7) (oi := { dst := some 53, op := Op.load 3 (Operand.tmp 52), type := 3, pos := "law.go:413", after := #[{ on := 6, ground := Ground.data }], guard := none }) (v := ?_) rfl (by kernel_rfl) (by kernel_rfl) (by kernel_rfl) (fun _ _ _ h => h) (Or.inl ⟨by rfl, ?_⟩) (by assumption) ?_
        rotate_left
        · (intro w hSw; (try dsimp only at hSw); go_simp; (try with_reducible rfl))
        try simp only [Act.put]
        try simp only [List.setIfInBounds_toArray]
        try simp only [List.set_cons_succ, List.set_cons_zero]
        refine wpAnyH_take (i := 8) (oi := { dst := some 54, op := Op.fieldAddr 54 (Operand.tmp 5) 2, type := 0, pos := "law.go:413", after := #[], guard := none }) (v := ?_) rfl (by kernel_rfl) (by kernel_rfl) (by kernel_rfl) (fun _ _ _ h => h) (Or.inl ⟨by rfl, ?_⟩) (by assumption) ?_
        rotate_left
        · (intro w hSw; (try dsimp only at hSw); go_simp; (try with_reducible rfl))
        try simp only [Act.put]
        try simp only [List.setIfInBounds_toArray]
        try simp only [List.set_cons_succ, List.set_cons_zero]
        refine wpAnyH_take (i := 9) (oi := { dst := some 55, op := Op.load 3 (Operand.tmp 54), type := 3, pos := "law.go:413", after := #[{ on := 8, ground := Ground.data }], guard := none }) (v := ?_) rfl (by kernel_rfl) (by kernel_rfl) (by kernel_rfl) (fun _ _ _ h => h) (Or.inl ⟨by rfl, ?_⟩) (by assumption) ?_
        rotate_left
        · (intro w hSw; (try dsimp only at hSw); go_simp; (try with_reducible rfl))
        try simp only [Act.put]
        try simp only [List.setIfInBounds_toArray]
        try simp only [List.set_cons_succ, List.set_cons_zero]
        refine wpAnyH_take (i := 10) (oi := { dst := some 56, op := Op.binOp BinOp.add 3 (Operand.tmp 53) (Operand.tmp 55) 3, type := 3, pos := "law.go:413", after := #[{ on := 7, ground := Ground.data }, { on := 9, ground := Ground.data }], guard := none }) (v := ?_) rfl (by kernel_rfl) (by kernel_rfl) (by kernel_rfl) (fun _ _ _ h => h) (Or.inl ⟨by rfl, ?_⟩) (by assumption) ?_
        rotate_left
        · (intro w hSw; (try dsimp only at hSw); go_simp; (try with_reducible rfl))
        try simp only [Act.put]
        try simp only [List.setIfInBounds_toArray]
        try simp only [List.set_cons_succ, List.set_cons_zero]
        refine wpAnyH_take (i := 11) (oi := { dst := some 57, op := Op.fieldAddr 54 (Operand.tmp 5) 2, type := 0, pos := "law.go:413", after := #[], guard := none }) (v := ?_) rfl (by kernel_rfl) (by kernel_rfl) (by kernel_rfl) (fun _ _ _ h => h) (Or.inl ⟨by rfl, ?_⟩) (by assumption) ?_
        rotate_left
        · (intro w hSw; (try dsimp only at hSw); go_simp; (try with_reducible rfl))
        try simp only [Act.put]
        try simp only [List.setIfInBounds_toArray]
        try simp only [List.set_cons_succ, List.set_cons_zero]
        refine wpAnyH_take (i := 12) (oi := { dst := some 58, op := Op.load 3 (Operand.tmp 57), type := 3, pos := "law.go:413", after := #[{ on := 11, ground := Ground.data }], guard := none }) (v := ?_) rfl (by kernel_rfl) (by kernel_rfl) (by kernel_rfl) (fun _ _ _ h => h) (Or.inl ⟨by rfl, ?_⟩) (by assumption) ?_
        rotate_left
        · (intro w hSw; (try dsimp only at hSw); go_simp; (try with_reducible rfl))
        try simp only [Act.put]
        try simp only [List.setIfInBounds_toArray]
        try simp only [List.set_cons_succ, List.set_cons_zero]
        refine wpAnyH_take (i := 13) (oi := { dst := some 59, op := Op.binOp BinOp.gtr 3 (Operand.tmp 58) (Operand.const (Value.int IntKind.i64 1000)) 3, type := 4, pos := "law.go:413", after := #[{ on := 12, ground := Ground.data }], guard := none }) (v := ?_) rfl (by kernel_rfl) (by kernel_rfl) (by kernel_rfl) (fun _ _ _ h => h) (Or.inl ⟨by rfl, ?_⟩) (by assumption) ?_
        rotate_left
        · (intro w hSw; (try dsimp only at hSw); go_simp; (try with_reducible rfl))
        try simp only [Act.put]
        try simp only [List.setIfInBounds_toArray]
        try simp only [List.set_cons_succ, List.set_cons_zero]
        refine wpAnyH_take (i := 14) (oi := { dst := some 60, op := Op.move (Operand.tmp 59), type := 4, pos := "law.go:413", after := #[{ on := 13, ground := Ground.data }], guard := none }) (v := ?_) rfl (by kernel_rfl) (by kernel_rfl) (by kernel_rfl) (fun _ _ _ h => h) (Or.inl ⟨by rfl, ?_⟩) (by assumption) ?_
        rotate_left
        · (intro w hSw; (try dsimp only at hSw); go_simp; (try with_reducible rfl))
        try simp only [Act.put]
        try simp only [List.setIfInBounds_toArray]
        try simp only [List.set_cons_succ, List.set_cons_zero]
        refine wpAnyH_take (i := 15) (oi := { dst := some 61, op := Op.fieldAddr 54 (Operand.tmp 5) 2, type := 0, pos := "law.go:413", after := #[{ on := 14, ground := Ground.guard }], guard := some (14, false) }) rfl (by kernel_rfl) (by kernel_rfl) (by kernel_rfl) (fun _ _ _ h => h) (Or.inr ⟨by rfl, rfl⟩) (by assumption) ?_
        try simp only [Act.put]
        try simp only [List.setIfInBounds_toArray]
        try simp only [List.set_cons_succ, List.set_cons_zero]
        refine wpAnyH_take (i := 16) (oi := { dst := some 62, op := Op.load 3 (Operand.tmp 61), type := 3, pos := "law.go:413", after := #[{ on := 15, ground := Ground.data }, { on := 14, ground := Ground.guard }], guard := some (14, false) }) rfl (by kernel_rfl) (by kernel_rfl) (by kernel_rfl) (fun _ _ _ h => h) (Or.inr ⟨by rfl, rfl⟩) (by assumption) ?_
        try simp only [Act.put]
        try simp only [List.setIfInBounds_toArray]
        try simp only [List.set_cons_succ, List.set_cons_zero]
        refine wpAnyH_take (i := 17) (oi := { dst := some 63, op := Op.binOp BinOp.lss 3 (Operand.tmp 62) (Operand.const (Value.int IntKind.i64 (-1000))) 3, type := 4, pos := "law.go:413", after := #[{ on := 16, ground := Ground.data }, { on := 14, ground := Ground.guard }], guard := some (14, false) }) rfl (by kernel_rfl) (by kernel_rfl) (by kernel_rfl) (fun _ _ _ h => h) (Or.inr ⟨by rfl, rfl⟩) (by assumption) ?_
        try simp only [Act.put]
        try simp only [List.setIfInBounds_toArray]
        try simp only [List.set_cons_succ, List.set_cons_zero]
        refine wpAnyH_take (i := 18) (oi := { dst := some 64, op := Op.pick (Operand.tmp 60) (Operand.const (Value.bool true)) (Operand.tmp 63), type := 4, pos := "law.go:413", after := #[{ on := 14, ground := Ground.data }, { on := 17, ground := Ground.data }], guard := none }) (v := ?_) rfl (by kernel_rfl) (by kernel_rfl) (by kernel_rfl) (fun _ _ _ h => h) (Or.inl ⟨by rfl, ?_⟩) (by assumption) ?_
        rotate_left
        · (intro w hSw; (try dsimp only at hSw); go_simp; (try with_reducible rfl))
        try simp only [Act.put]
        try simp only [List.setIfInBounds_toArray]
        try simp only [List.set_cons_succ, List.set_cons_zero]
        refine wpAnyH_ready (rs := [19]) (by kernel_rfl) (by simp) ?_
        refine AllReadyH.cons (o := { dst := some 65, op := Op.call { callee := Callee.value (Operand.func 34), args := #[Operand.tmp 46, Operand.tmp 47, Operand.tmp 48, Operand.tmp 49, Operand.tmp 56, Operand.tmp 64], argTypes := #[44, 61, 38, 31, 3, 4] }, type := 4, pos := "law.go:413", after := #[{ on := 0, ground := Ground.data }, { on := 1, ground := Ground.data }, { on := 2, ground := Ground.data }, { on := 3, ground := Ground.data }, { on := 10, ground := Ground.data }, { on := 18, ground := Ground.data }, { on := 14, ground := Ground.chain }], guard := none }) rfl (fun K hK => ?_) AllReadyH.nil
        go_simp
        (go_at_call 34; refine (SBX.out _ true _ (Kept.drew wc) (Or.inl rfl)).mono ?_; rintro e w2 ⟨rfl, k2⟩; have FIN := hide (FINF.out w2 ((Kept.drew wc).calm2 k2)); obtain ⟨f0, f1, f2, f3⟩ := CE.out w2 ((Kept.drew wc).calm2 k2); clear k2)
        go_wp2_with fail
        refine hK.out _ _ ?_ (fun hHeld => ?_)
        · (try dsimp only); go_keep
        clear hK K
        try simp only [Act.put]
        try simp only [List.setIfInBounds_toArray]
        try simp only [List.set_cons_succ, List.set_cons_zero]
        refine wpAnyH_take (i := 20) (oi := { dst := some 6, op := Op.assign (Operand.tmp 65), type := 4, pos := "law.go:413", after := #[{ on := 19, ground := Ground.data }, { on := 19, ground := Ground.chain }, { on := 0, ground := Ground.phase }, { on := 1, ground := Ground.phase }, { on := 2, ground := Ground.phase }, { on := 3, ground := Ground.phase }, { on := 4, ground := Ground.phase }, { on := 5, ground := Ground.phase }, { on := 6, ground := Ground.phase }, { on := 7, ground := Ground.phase }, { on := 8, ground := Ground.phase }, { on := 9, ground := Ground.phase }, { on := 10, ground := Ground.phase }, { on := 11, ground := Ground.phase }, { on := 12, ground := Ground.phase }, { on := 13, ground := Ground.phase }, { on := 14, ground := Ground.phase }, { on := 15, ground := Ground.phase }, { on := 16, ground := Ground.phase }, { on := 17, ground := Ground.phase }, { on := 18, ground := Ground.phase }, { on := 19, ground := Ground.phase }], guard := none }) (v := ?_) rfl (by kernel_rfl) (by kernel_rfl) (by kernel_rfl) (fun _ _ _ h => h) (Or.inl ⟨by rfl, ?_⟩) (by assumption) ?_
        rotate_left
        · (intro w hSw; (try dsimp only at hSw); go_simp; (try with_reducible rfl))
        try simp only [Act.put]
        try simp only [List.setIfInBounds_toArray]
        try simp only [List.set_cons_succ, List.set_cons_zero]
        refine wpAnyH_done (by kernel_rfl) ?_ _
        clear f0 f1 f2 f3
        go_wp2
        go_ret
        exact FIN.out
      · by_cases hsm : n < -1000
        · go_wp2_with fail
          have hd1 : decide ((1000 : Int) < n) = false := by simp; omega
          have hd2 : decide (n < (-1000 : Int)) = true := by simp; omega
          go_region_held3 (fun w' => w'.cell? ⟨T, 0, none⟩ = some (.int .i64 0) ∧ w'.cell? ⟨T, 1, none⟩ = some (.slice none 0 0) ∧ w'.cell? ⟨w.heap.size, 2, none⟩ = some (.int .i64 n) ∧ w'.cell? ⟨x.sb, 2, none⟩ = some (.int .i64 (x.k : Int))) (go_keep)
            ((go_at_call 34; refine (SBX.out _ true _ (Kept.drew wc) (Or.inl rfl)).mono ?_; rintro e w2 ⟨rfl, k2⟩; have FIN := hide (FINF.out w2 ((Kept.drew wc).calm2 k2)); obtain ⟨f0, f1, f2, f3⟩ := CE.out w2 ((Kept.drew wc).calm2 k2); clear k2))
          all_goals
            clear f0 f1 f2 f3
            go_wp2
            go_ret
            exact FIN.out
        · have hwt : IntKind.i64.wrap ((x.k : Int) + n) = (x.k : Int) + n := wrap_id _ (by omega)
          go_wp2_with fail
          have hd1 : decide ((1000 : Int) < n) = false := by simp; omega
          have hd2 : decide (n < (-1000 : Int)) = false := by simp; omega
          go_region_held3 (fun w' => w'.cell? ⟨T, 0, none⟩ = some (.int .i64 0) ∧ w'.cell? ⟨T, 1, none⟩ = some (.slice none 0 0) ∧ w'.cell? ⟨w.heap.size, 2, none⟩ = some (.int .i64 n) ∧ w'.cell? ⟨x.sb, 2, none⟩ = some (.int .i64 (x.k : Int))) (go_keep)
            ((go_at_call 34; refine (SBX.out _ false _ (Kept.drew wc) (Or.inr (by omega))).mono ?_; rintro e w2 ⟨rfl, k2⟩; have FIN := hide (FINF.out w2 ((Kept.drew wc).calm2 k2)); obtain ⟨f0, f1, f2, f3⟩ := CE.out w2 ((Kept.drew wc).calm2 k2); clear k2))
          all_goals
            clear f0 f1 f2 f3
            go_wp2
            go_ret
            exact FIN.out
end Go.Proofs.YtlfmfhmbkpnjbaaGreatDoor
