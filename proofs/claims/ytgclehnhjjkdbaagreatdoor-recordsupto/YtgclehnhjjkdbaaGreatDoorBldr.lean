import Derived.Test.YtgclehnhjjkdbaaGreatDoorWok
import Derived.Lib.FrozenHead
namespace Go.Proofs.YtgclehnhjjkdbaaGreatDoor
open Go.RowKit

theorem five_cells {w : World} {c : Nat} {a b d e f : Value} {T : TypeId} (h : w.heap[c]? = some (.cells #[a, b, d, e, f] T (0, 0))) : w.cell? ⟨c, 0, none⟩ = some a ∧ w.cell? ⟨c, 1, none⟩ = some b ∧ w.cell? ⟨c, 2, none⟩ = some d ∧ w.cell? ⟨c, 3, none⟩ = some e ∧ w.cell? ⟨c, 4, none⟩ = some f ∧ ∀ j, w.frozen? ⟨c, j, none⟩ = false := by
  refine ⟨?_, ?_, ?_, ?_, ?_, fun j => by simp [World.frozen?, h]⟩ <;> rw [cell_block h] <;> rfl
theorem row_set {w : World} {c : Nat} {xs : Array Value} {T : TypeId} (h : w.heap[c]? = some (.cells xs T (0, 0))) (j : Nat) (u : Value) : (w.setCell ⟨c, j, none⟩ u).heap[c]? = some (.cells (xs.setIfInBounds j u) T (0, 0)) := by
  rw [setCell_eq_setRow w c j _ T (0, 0) u h]
  exact setRow_heap w c xs (xs.setIfInBounds j u) T (0, 0) h

/-- A recorder's block, and the text that its builder holds. -/
structure Rec (w : World) (rb : Nat) (c0 c1 c2 ad buf : Value) (s : List UInt8) : Prop where
  blk : w.heap[rb]? = some (.cells #[c0, c1, c2, ad, buf] 85 (0, 0))
  own : w.ownsRowF 0 5 1 buf s.length (Lib.byteCells s)
  self : ad = .pointer none ∨ ad = .pointer (some ⟨rb, 3, none⟩)

theorem ownsF_block {w w' : World} {base : Nat} {e : TypeId} {size : Nat} {v : Value} {n : Nat} {xs : List Value} (h : w.ownsRowF base e size v n xs) (hb : ∀ g, v.ownBlock = some g → w'.heap[g]? = w.heap[g]?) : w'.ownsRowF base e size v n xs := by
  obtain ⟨h1, h2⟩ := h
  refine ⟨h1, ?_⟩
  rcases h2 with h2 | ⟨g, cap, cur, fz, hv, hg, hh, r⟩
  · exact Or.inl h2
  · exact Or.inr ⟨g, cap, cur, fz, hv, hg, by rw [hb g (by rw [hv]; rfl)]; exact hh, r⟩
theorem typ_ownF {w : World} {base : Nat} {e : TypeId} {size : Nat} {v : Value} {n : Nat} {xs : List Value} (h : w.ownsRowF base e size v n xs) (g : Nat) (hg : v.ownBlock = some g) : typ w g e := by
  rcases h.2 with ⟨rfl, _⟩ | ⟨g', cp, cur, fz, rfl, _, hh, _⟩
  · cases hg
  · simp only [Value.ownBlock, Option.some.injEq] at hg
    subst hg
    exact ⟨cur, fz, hh⟩
theorem Rec.keep {w w' : World} {S : Nat → Prop} {rb : Nat} {c0 c1 c2 ad buf : Value} {s : List UInt8} (h : Rec w rb c0 c1 c2 ad buf s) (k : Kept S w w') (h1 : ¬ S rb) (h2 : ∀ j, buf.ownBlock = some j → ¬ S j) : Rec w' rb c0 c1 c2 ad buf s :=
  ⟨by rw [k.block _ (heap_lt h.blk) h1]; exact h.blk, ownsF_block h.own (fun j hj => k.block j (h.own.lt j hj).2 (h2 j hj)), h.self⟩
theorem Rec.calm {w w' : World} {rb : Nat} {c0 c1 c2 ad buf : Value} {s : List UInt8} (h : Rec w rb c0 c1 c2 ad buf s) (k : Kept (fun _ => False) w w') : Rec w' rb c0 c1 c2 ad buf s := h.keep k (fun e => e) (fun _ _ e => e)
theorem Rec.ne {w : World} {rb : Nat} {c0 c1 c2 ad buf : Value} {s : List UInt8} (h : Rec w rb c0 c1 c2 ad buf s) : buf.ownBlock ≠ some rb := fun e => typ_ne (typ_ownF h.own rb e) (typ_blk h.blk) (by decide) rfl

theorem bytes_info : (Tryz.prog.info? 5).map (fun i => (i.zero, i.size, i.bytes)) = some (some (.int .u8 0), 1, 1) := by kernel_rfl
theorem builder_info : (Tryz.prog.info? 83).map (·.size) = some 2 := by kernel_rfl

/-- append of a text to bytes of one's own, whose head may be frozen: where the new row lies. -/
theorem run_append_mineF (w : World) (ty : TypeId) (v : Value) (n : Nat) (xs : List Value) (hown : w.ownsRowF 0 5 1 v n xs) (s : ByteArray) (hb : n + s.size ≤ 140737488355328) :
    ∃ v' w', (Builtin.append_ #[81, 9] ty #[v, .string s]).run Tryz.prog w = .ok v' w' ∧ w'.ownsRowF 0 5 1 v' (n + s.size) (xs ++ Lib.strCells s) ∧ w.grownBy w' v.ownBlock ∧ ∀ j, v'.ownBlock = some j → v.ownBlock = some j ∨ w.heap.size ≤ j := by
  obtain ⟨i, hi, hz, hs, hy⟩ := info_parts bytes_info
  have h63 : n + s.size ≤ maxLen := by unfold maxLen; omega
  obtain ⟨v', w', h1, h2, h3, h4⟩ := Lib.run_append_own_stringF (P := Tryz.prog) w 0 81 9 ty 5 i Tryz.underlying81 Tryz.underlying9 hi hz hs hy v n xs hown s h63 hb (Nat.zero_le _)
  refine ⟨v', w', h1, h2, h3, ?_⟩
  rcases hown.2 with ⟨rfl, rfl⟩ | ⟨g, cap, cur, fz, rfl, hbg, hg, hfz, hnc, hcm, hcs, htake⟩
  · obtain ⟨v2, w2, k1, k2, _⟩ := Lib.run_append_own_stringF (P := Tryz.prog) w w.heap.size 81 9 ty 5 i Tryz.underlying81 Tryz.underlying9 hi hz hs hy (.slice none 0 0) 0 xs ⟨hown.1, Or.inl ⟨rfl, rfl⟩⟩ s h63 hb (Nat.le_refl _)
    rw [h1] at k1
    obtain ⟨rfl, rfl⟩ : v' = v2 ∧ w' = w2 := by simpa using k1
    exact fun j hj => Or.inr (k2.lt j hj).1
  · by_cases hroom : n + s.size ≤ cap
    · have hr := Lib.run_append_room_stringF (P := Tryz.prog) w 81 9 ty 5 i Tryz.underlying81 Tryz.underlying9 hi hs g n cap cur fz hg (by simpa using hfz) s hroom (by simp only [Nat.mul_one] at hcs; omega)
      rw [h1] at hr
      obtain ⟨rfl, _⟩ : v' = _ ∧ w' = _ := by simpa using hr
      exact fun j hj => Or.inl hj
    · have hxl : xs.length = n := by simpa using hown.1
      have hr := Lib.run_append_grow_string (P := Tryz.prog) w 81 9 ty 5 i (.int .u8 0) Tryz.underlying81 Tryz.underlying9 hi hz ⟨g, 0, none⟩ n cap xs (by rw [hs]; simpa using hxl) (hown.cells (g := g) rfl) s (by omega) (by omega) (by rw [hy]; exact growslice_fits (by omega) (by omega))
      rw [h1] at hr
      obtain ⟨rfl, _⟩ : v' = _ ∧ w' = _ := by simpa using hr
      exact fun j hj => Or.inr (by simp only [Value.ownBlock, Option.some.injEq] at hj; omega)

theorem wpList_append_textF (w : World) {ops : Array Oper} {rest : List Oper} {o : Oper} {a : Act} {Q : Exit → Act → World → Prop} (hgd : o.guard = none) (sl x : Operand)
    (ho : o.op = .call { callee := .builtin .append, args := #[sl, x], argTypes := #[81, 9] }) (v : Value) (n : Nat) (xs : List Value) (hs : a.eval sl = v) (hown : w.ownsRowF 0 5 1 v n xs) (s : ByteArray) (hx : a.eval x = .string s)
    (hb : n + s.size ≤ 140737488355328)
    (h : ∀ v' w', Hid (w'.ownsRowF 0 5 1 v' (n + s.size) (xs ++ Lib.strCells s)) → Hid (w.grownBy w' v.ownBlock) → Hid (∀ j, v'.ownBlock = some j → v.ownBlock = some j ∨ w.heap.size ≤ j) → wpList Tryz.prog ops Q rest (a.put o.dst v') w') : wpList Tryz.prog ops Q (o :: rest) a w := by
  refine wpList_plain hgd fun K hK => ?_
  obtain ⟨v', w', hr, h2, h3, h4⟩ := run_append_mineF w o.type v n xs hown s hb
  unfold Oper.wp execOp
  simp only [ho, resolve, invoke, builtin, Sem.run_bind, Sem.run_pure, Result.andThen_ok, List.map_toArray, List.map_cons, List.map_nil, hs, hx, hr]
  exact hK _ _ (h v' w' h2 h3 h4)

set_option maxHeartbeats 1000000 in
set_option maxRecDepth 100000 in
theorem copy_used (rb : Nat) (w : World) (h : w.cell? ⟨rb, 3, none⟩ = some (.pointer (some ⟨rb, 3, none⟩))) :
    Calls Tryz.prog 38 #[.pointer (some ⟨rb, 3, none⟩)] w fun e w' => e = .returned (.tuple #[]) ∧ w' = w := by
  obtain ⟨j, hj, _⟩ := Option.map_eq_some_iff.1 builder_info
  go_enter Tryz.func38, Tryz.ntmps38
  go_wp2
  rw [Lib.run_neq_ptr_same w _ Tryz.underlying80 hj]
  go_wp2
  go_end0
  exact ⟨rfl, rfl⟩

set_option maxHeartbeats 1000000 in
set_option maxRecDepth 100000 in
theorem copy_fresh (rb : Nat) (w : World) (h : w.cell? ⟨rb, 3, none⟩ = some (.pointer none)) (hsh : w.shape? rb = some (85, 5)) (hfz : w.frozen? ⟨rb, 3, none⟩ = false) :
    Calls Tryz.prog 38 #[.pointer (some ⟨rb, 3, none⟩)] w fun e w' => e = .returned (.tuple #[]) ∧ w' = w.setCell ⟨rb, 3, none⟩ (.pointer (some ⟨rb, 3, none⟩)) := by
  obtain ⟨j, hj, hjs⟩ := Option.map_eq_some_iff.1 builder_info
  go_enter Tryz.func38, Tryz.ntmps38
  go_wp2
  rw [Lib.run_to_unsafe w ⟨rb, 3, none⟩ Tryz.underlying80 Tryz.underlying115 hj (by rw [hjs]; decide) hsh (show 3 < 5 by decide)]
  simp only [Result.andThen]
  rw [Oper.upon_value]
  go_wp2
  rw [run_callFunc_extern Tryz.func54 (by kernel_rfl) (by kernel_rfl) (by kernel_rfl) (e := Extern.AbiNoEscape.same) (by kernel_rfl)]
  rw [Lib.run_noEscape]
  simp only [Result.andThen]
  rw [Oper.upon_value]
  go_wp2
  rw [Lib.run_from_unsafe w ⟨rb, 3, none⟩ Tryz.underlying115 Tryz.underlying80 hj hsh (by kernel_rfl)]
  simp only [Result.andThen]
  rw [Oper.upon_value]
  go_wp2
  go_end0
  exact ⟨rfl, rfl⟩

set_option maxHeartbeats 1000000 in
set_option maxRecDepth 100000 in
theorem write_c (rb : Nat) (c0 c1 c2 ad buf : Value) (s : List UInt8) (x : ByteArray) (w : World) (h : Rec w rb c0 c1 c2 ad buf s) (hb : s.length + x.size ≤ 140737488355328) :
    Calls Tryz.prog 27 #[.pointer (some ⟨rb, 3, none⟩), .string x] w fun e w' => e = .returned (.tuple #[.int .i64 x.size, .nilIface]) ∧
      ∃ buf', Rec w' rb c0 c1 c2 (.pointer (some ⟨rb, 3, none⟩)) buf' (s ++ x.data.toList) ∧ Kept (fun j => j = rb ∨ buf.ownBlock = some j) w w' ∧ ∀ j, buf'.ownBlock = some j → buf.ownBlock = some j ∨ w.heap.size ≤ j := by
  have HC : Calls Tryz.prog 38 #[.pointer (some ⟨rb, 3, none⟩)] w fun e w' => e = .returned (.tuple #[]) ∧ Rec w' rb c0 c1 c2 (.pointer (some ⟨rb, 3, none⟩)) buf s ∧ Kept (fun j => j = rb) w w' ∧ w'.heap.size = w.heap.size := by
    obtain ⟨d0, d1, d2, d3, d4, df⟩ := five_cells h.blk
    rcases h.self with e | e
    · subst e
      refine (copy_fresh rb w d3 (by simp [World.shape?, h.blk]) (df 3)).mono ?_
      rintro e w' ⟨rfl, rfl⟩
      exact ⟨rfl, ⟨row_set h.blk 3 _, ownsF_block h.own (fun g hg => (Kept.setCell w _ _).block g (h.own.lt g hg).2 (fun e => h.ne (by rw [hg]; exact congrArg some e))), Or.inr rfl⟩, Kept.setCell w ⟨rb, 3, none⟩ _, by simp⟩
    · subst e
      refine (copy_used rb w d3).mono ?_
      rintro e w' ⟨rfl, rfl⟩
      exact ⟨rfl, h, Kept.refl _ _, rfl⟩
  have HH := hide h
  clear h
  go_enter Tryz.func27, Tryz.ntmps27
  go_wp2_with fail
  refine HC.mono ?_
  rintro e w1 ⟨rfl, r1, k1, hs1⟩
  have R1 := hide r1
  have K1 := hide k1
  obtain ⟨d0, d1, d2, d3, d4, df⟩ := five_cells r1.blk
  clear r1 k1 HC
  go_wp2_with (at_builtin; refine wpList_append_textF _ rfl (.tmp 12) (.tmp 13) rfl buf s.length (Lib.byteCells s) rfl R1.out.own x rfl hb ?_)
  intro buf' w2 O2 G2 M2
  have K2 : Hid (Kept (fun j => buf.ownBlock = some j) w1 w2) := (Kept.of_grown G2.out).mono (fun _ _ e => e.symm)
  have B2 : Hid (w2.heap[rb]? = some (.cells #[c0, c1, c2, .pointer (some ⟨rb, 3, none⟩), buf] 85 (0, 0))) := by show _ = _; rw [K2.out.block _ (heap_lt R1.out.blk) R1.out.ne]; exact R1.out.blk
  clear d0 d1 d2 d3 d4 df
  obtain ⟨d0, d1, d2, d3, d4, df⟩ := five_cells B2.out
  have O2' : Hid (w2.ownsRowF 0 5 1 buf' (s ++ x.data.toList).length (Lib.byteCells (s ++ x.data.toList))) := by
    have h1 : (s ++ x.data.toList).length = s.length + x.size := by rw [List.length_append, Array.length_toList]; rfl
    have h2 : Lib.byteCells (s ++ x.data.toList) = Lib.byteCells s ++ Lib.strCells x := by rw [Lib.strCells_eq]; simp [Lib.byteCells]
    show World.ownsRowF _ _ _ _ _ _ _
    rw [h1, h2]; exact O2.out
  obtain ⟨ao, n', cap, rfl⟩ : ∃ ao n' cap, buf' = .slice ao n' cap := by
    rcases O2.out.2 with ⟨hv, _⟩ | ⟨g, cap, cur, fz, hv, _⟩
    · exact ⟨_, _, _, hv⟩
    · exact ⟨_, _, _, hv⟩
  go_wp2
  go_ret2
  refine ⟨rfl, _, ⟨row_set B2.out 4 _, ?_, Or.inr rfl⟩, ?_, ?_⟩
  · exact ownsF_block O2'.out (fun g hg => (Kept.setCell w2 _ _).block g (O2'.out.lt g hg).2 (fun e => typ_ne (typ_ownF O2'.out g hg) (typ_blk B2.out) (by decide) e))
  · exact ((K1.out.join K2.out (R := fun j => j = rb ∨ buf.ownBlock = some j) (fun _ _ e => Or.inl e) (fun _ _ e => Or.inr e))).join (Kept.setCell w2 _ _) (fun _ _ e => e) (fun _ _ e => Or.inl e)
  · intro j hj
    rcases M2.out j hj with e | e
    · exact Or.inl e
    · exact Or.inr (by omega)

theorem Rec.froze {w : World} {rb g cap : Nat} {c0 c1 c2 ad : Value} {s : List UInt8} (h : Rec w rb c0 c1 c2 ad (.slice (some ⟨g, 0, none⟩) s.length cap) s) : Rec (w.freeze ⟨g, 0, none⟩ s.length) rb c0 c1 c2 ad (.slice (some ⟨g, 0, none⟩) s.length cap) s ∧ Kept (fun j => j = g) w (w.freeze ⟨g, 0, none⟩ s.length) := by
  have hne : g ≠ rb := fun e => h.ne (by rw [e]; rfl)
  unfold World.freeze
  split
  · exact ⟨h, Kept.refl _ _⟩
  · refine ⟨⟨?_, ⟨h.own.1, ?_⟩, h.self⟩, ⟨rfl, rfl, rfl, by simp, fun k hk hne => ?_⟩⟩
    · simp only [Array.getElem?_modify]
      rw [if_neg hne]; exact h.blk
    · rcases h.own.2 with ⟨hv, _⟩ | ⟨g', cap', cur, fz, hv, hbg, hg, hfz, rest⟩
      · cases hv
      · cases hv
        obtain ⟨lo, hi⟩ := fz
        refine Or.inr ⟨g, _, cur, (if lo == hi then (0, 0 + s.length) else (min lo 0, max hi (0 + s.length))), rfl, hbg, ?_, ?_, rest⟩
        · simp [Array.getElem?_modify, hg]
        · simp only at hfz
          split <;> simp <;> omega
    · simp only [Array.getElem?_modify]
      rw [if_neg (fun e => hne e.symm)]

set_option maxHeartbeats 1000000 in
set_option maxRecDepth 100000 in
theorem string_c (rb : Nat) (c0 c1 c2 ad buf : Value) (s : List UInt8) (w : World) (h : Rec w rb c0 c1 c2 ad buf s) (h0 : s ≠ []) :
    Calls Tryz.prog 29 #[.pointer (some ⟨rb, 3, none⟩)] w fun e w' => e = .returned (.string ⟨s.toArray⟩) ∧ Rec w' rb c0 c1 c2 ad buf s ∧ Kept (fun j => buf.ownBlock = some j) w w' := by
  have hl0 : s.length ≠ 0 := by simpa using h0
  have h' := h
  obtain ⟨g, cap, cur, fz, rfl, hbg, hg, hfz, hnc, hcm, hcs, htake⟩ : ∃ g cap cur fz, buf = .slice (some ⟨g, 0, none⟩) s.length cap ∧ 0 ≤ g ∧ w.heap[g]? = some (.cells cur 5 fz) ∧ fz.2 ≤ s.length * 1 ∧ s.length ≤ cap ∧ cap ≤ maxLen ∧ cur.size = cap * 1 ∧ cur.toList.take (s.length * 1) = Lib.byteCells s := by
    rcases h.own.2 with ⟨_, hz⟩ | ⟨g, cap, cur, fz, hv, r⟩
    · exact absurd hz hl0
    · exact ⟨g, cap, cur, fz, hv, r⟩
  have c1' : w.drew.cell? ⟨rb, 4, none⟩ = some (.slice (some ⟨g, 0, none⟩) s.length cap) := (five_cells (w := w.drew) h.blk).2.2.2.2.1
  have hSD : (Builtin.unsafeSliceData_ #[81] 101 #[.slice (some ⟨g, 0, none⟩) s.length cap]).run Tryz.prog w.drew = .ok (.pointer (some ⟨g, 0, none⟩)) w.drew :=
    Lib.run_unsafeSliceData_row _ _ _ _ _ _ (by omega)
  have hUS : (Builtin.unsafeString_ #[101, 3] 9 #[.pointer (some ⟨g, 0, none⟩), .int .i64 s.length]).run Tryz.prog w.drew = .ok (.string ⟨s.toArray⟩) (w.drew.freeze ⟨g, 0, none⟩ s.length) := by
    refine Lib.run_unsafeString_row w.drew 101 3 9 5 Tryz.underlying101 (by kernel_rfl) g cur.size (by have hg' : w.drew.heap[g]? = some (.cells cur 5 fz) := hg; simp [World.shape?, hg']) s h0 (by omega) (by unfold maxLen at hcm; omega) ?_
    intro j x hx
    exact h.own.cells (g := g) rfl j (.int .u8 x.toNat) (by simp [Lib.byteCells, hx])
  have hkeep : Hid (Rec (w.drew.freeze ⟨g, 0, none⟩ s.length) rb c0 c1 c2 ad (.slice (some ⟨g, 0, none⟩) s.length cap) s ∧ Kept (fun j => j = g) w.drew (w.drew.freeze ⟨g, 0, none⟩ s.length)) := Rec.froze (w := w.drew) (h'.calm (Kept.drew w))
  clear h h' hg htake hcs hcm hfz
  go_enter Tryz.func29, Tryz.ntmps29
  go_wp2
  go_region
  all_goals
    go_wp2
    go_ret
    exact ⟨rfl, hkeep.out.1, ((Kept.drew w).join hkeep.out.2 (R := fun j => j = g) (fun _ _ e => e.elim) (fun _ _ e => e)).mono (fun j _ e => by rw [e]; rfl)⟩
end Go.Proofs.YtgclehnhjjkdbaaGreatDoor
