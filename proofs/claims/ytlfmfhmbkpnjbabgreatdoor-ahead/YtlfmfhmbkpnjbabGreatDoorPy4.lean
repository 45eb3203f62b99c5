import Derived.Test.YtlfmfhmbkpnjbabGreatDoorPy3
import Derived.Lib.FrozenHead
import Derived.Lib.LaidTab
import Derived.Laws.Bits64b
import Derived.Laws.BytesArg
import Derived.Shelf.Strings.OnBuilder
import Derived.Shelf.LaysM
import Derived.Shelf.Strconv.Itoa3
import Derived.Test.YtlfmfhmbkpnjbabGreatDoorProg
namespace Go.Proofs.YtlfmfhmbkpnjbabGreatDoor
open Go.RowKit

theorem five_cells {w : World} {c : Nat} {a b d e f : Value} {T : TypeId} (h : w.heap[c]? = some (.cells #[a, b, d, e, f] T (0, 0))) : w.cell? ⟨c, 0, none⟩ = some a ∧ w.cell? ⟨c, 1, none⟩ = some b ∧ w.cell? ⟨c, 2, none⟩ = some d ∧ w.cell? ⟨c, 3, none⟩ = some e ∧ w.cell? ⟨c, 4, none⟩ = some f ∧ ∀ j, w.frozen? ⟨c, j, none⟩ = false := by
  refine ⟨?_, ?_, ?_, ?_, ?_, fun j => by simp [World.frozen?, h]⟩ <;> rw [cell_block h] <;> rfl
theorem row_set {w : World} {c : Nat} {xs : Array Value} {T : TypeId} (h : w.heap[c]? = some (.cells xs T (0, 0))) (j : Nat) (u : Value) : (w.setCell ⟨c, j, none⟩ u).heap[c]? = some (.cells (xs.setIfInBounds j u) T (0, 0)) := by
  rw [setCell_eq_setRow w c j _ T (0, 0) u h]
  exact setRow_heap w c xs (xs.setIfInBounds j u) T (0, 0) h

/-- A recorder's block, and the text that its builder holds. -/
structure Rec (w : World) (rb : Nat) (c0 c1 c2 ad buf : Value) (s : List UInt8) : Prop where
  blk : w.heap[rb]? = some (.cells #[c0, c1, c2, ad, buf] 83 (0, 0))
  own : w.ownsRowF 0 5 1 buf s.length (Lib.byteCells s)
  self : ad = .pointer none ∨ ad = .pointer (some ⟨rb, 3, none⟩)

theorem ownsF_block {w w' : World} {base : Nat} {e : TypeId} {size : Nat} {v : Value} {n : Nat} {xs : List Value} (h : w.ownsRowF base e size v n xs) (hb : ∀ g, v.ownBlock = some g → w'.heap[g]? = w.heap[g]?) : w'.ownsRowF base e size v n xs := by
  obtain ⟨h1, h2⟩ := h
  refine ⟨h1, ?_⟩
  rcases h2 with h2 | ⟨g, cap, cur, fz, hv, hg, hh, r⟩
  · exact Or.inl h2
  · exact Or.inr ⟨g, cap, cur, fz, hv, hg, by rw [hb g (by rw [hv]; rfl)]; exact hh, r⟩
theorem typ_ownF {w : World} {base : Nat} {e : TypeId} {size : Nat} {v : Value} {n : Nat} {xs : List Value} (h : w.ownsRowF base e size v n xs) (g : Nat) (hg : v.ownBlock = some g) : typ w g e := by
  rcases h.2 with ⟨rfl, _⟩ | ⟨g', cp, cur, fz, rfl, _, hh, _⟩
  · cases hg
  · simp only [Value.ownBlock, Option.some.injEq] at hg
    subst hg
    exact ⟨cur, fz, hh⟩
theorem Rec.keep {w w' : World} {S : Nat → Prop} {rb : Nat} {c0 c1 c2 ad buf : Value} {s : List UInt8} (h : Rec w rb c0 c1 c2 ad buf s) (k : Kept S w w') (h1 : ¬ S rb) (h2 : ∀ j, buf.ownBlock = some j → ¬ S j) : Rec w' rb c0 c1 c2 ad buf s :=
  ⟨by rw [k.block _ (heap_lt h.blk) h1]; exact h.blk, ownsF_block h.own (fun j hj => k.block j (h.own.lt j hj).2 (h2 j hj)), h.self⟩
theorem Rec.calm {w w' : World} {rb : Nat} {c0 c1 c2 ad buf : Value} {s : List UInt8} (h : Rec w rb c0 c1 c2 ad buf s) (k : Kept (fun _ => False) w w') : Rec w' rb c0 c1 c2 ad buf s := h.keep k (fun e => e) (fun _ _ e => e)
theorem Rec.ne {w : World} {rb : Nat} {c0 c1 c2 ad buf : Value} {s : List UInt8} (h : Rec w rb c0 c1 c2 ad buf s) : buf.ownBlock ≠ some rb := fun e => typ_ne (typ_ownF h.own rb e) (typ_blk h.blk) (by decide) rfl

theorem bytes_info : (Tryz.prog.info? 5).map (fun i => (i.zero, i.size, i.bytes)) = some (some (.int .u8 0), 1, 1) := by kernel_rfl
theorem builder_info : (Tryz.prog.info? 81).map (·.size) = some 2 := by kernel_rfl

/-- append of a text to bytes of one's own, whose head may be frozen: where the new row lies. -/
theorem run_append_mineF (w : World) (ty : TypeId) (v : Value) (n : Nat) (xs : List Value) (hown : w.ownsRowF 0 5 1 v n xs) (s : ByteArray) (hb : n + s.size ≤ 140737488355328) :
    ∃ v' w', (Builtin.append_ #[79, 9] ty #[v, .string s]).run Tryz.prog w = .ok v' w' ∧ w'.ownsRowF 0 5 1 v' (n + s.size) (xs ++ Lib.strCells s) ∧ w.grownBy w' v.ownBlock ∧ ∀ j, v'.ownBlock = some j → v.ownBlock = some j ∨ w.heap.size ≤ j := by
  obtain ⟨i, hi, hz, hs, hy⟩ := info_parts bytes_info
  have h63 : n + s.size ≤ maxLen := by unfold maxLen; omega
  obtain ⟨v', w', h1, h2, h3, h4⟩ := Lib.run_append_own_stringF (P := Tryz.prog) w 0 79 9 ty 5 i Tryz.underlying79 Tryz.underlying9 hi hz hs hy v n xs hown s h63 hb (Nat.zero_le _)
  refine ⟨v', w', h1, h2, h3, ?_⟩
  rcases hown.2 with ⟨rfl, rfl⟩ | ⟨g, cap, cur, fz, rfl, hbg, hg, hfz, hnc, hcm, hcs, htake⟩
  · obtain ⟨v2, w2, k1, k2, _⟩ := Lib.run_append_own_stringF (P := Tryz.prog) w w.heap.size 79 9 ty 5 i Tryz.underlying79 Tryz.underlying9 hi hz hs hy (.slice none 0 0) 0 xs ⟨hown.1, Or.inl ⟨rfl, rfl⟩⟩ s h63 hb (Nat.le_refl _)
    rw [h1] at k1
    obtain ⟨rfl, rfl⟩ : v' = v2 ∧ w' = w2 := by simpa using k1
    exact fun j hj => Or.inr (k2.lt j hj).1
  · by_cases hroom : n + s.size ≤ cap
    · have hr := Lib.run_append_room_stringF (P := Tryz.prog) w 79 9 ty 5 i Tryz.underlying79 Tryz.underlying9 hi hs g n cap cur fz hg (by simpa using hfz) s hroom (by simp only [Nat.mul_one] at hcs; omega)
      rw [h1] at hr
      obtain ⟨rfl, _⟩ : v' = _ ∧ w' = _ := by simpa using hr
      exact fun j hj => Or.inl hj
    · have hxl : xs.length = n := by simpa using hown.1
      have hr := Lib.run_append_grow_string (P := Tryz.prog) w 79 9 ty 5 i (.int .u8 0) Tryz.underlying79 Tryz.underlying9 hi hz ⟨g, 0, none⟩ n cap xs (by rw [hs]; simpa using hxl) (hown.cells (g := g) rfl) s (by omega) (by omega) (by rw [hy]; exact growslice_fits (by omega) (by omega))
      rw [h1] at hr
      obtain ⟨rfl, _⟩ : v' = _ ∧ w' = _ := by simpa using hr
      exact fun j hj => Or.inr (by simp only [Value.ownBlock, Option.some.injEq] at hj; omega)

theorem wpList_append_textF (w : World) {ops : Array Oper} {rest : List Oper} {o : Oper} {a : Act} {Q : Exit → Act → World → Prop} (hgd : o.guard = none) (sl x : Operand)
    (ho : o.op = .call { callee := .builtin .append, args := #[sl, x], argTypes := #[79, 9] }) (v : Value) (n : Nat) (xs : List Value) (hs : a.eval sl = v) (hown : w.ownsRowF 0 5 1 v n xs) (s : ByteArray) (hx : a.eval x = .string s)
    (hb : n + s.size ≤ 140737488355328)
    (h : ∀ v' w', Hid (w'.ownsRowF 0 5 1 v' (n + s.size) (xs ++ Lib.strCells s)) → Hid (w.grownBy w' v.ownBlock) → Hid (∀ j, v'.ownBlock = some j → v.ownBlock = some j ∨ w.heap.size ≤ j) → wpList Tryz.prog ops Q rest (a.put o.dst v') w') : wpList Tryz.prog ops Q (o :: rest) a w := by
  refine wpList_plain hgd fun K hK => ?_
  obtain ⟨v', w', hr, h2, h3, h4⟩ := run_append_mineF w o.type v n xs hown s hb
  unfold Oper.wp execOp
  simp only [ho, resolve, invoke, builtin, Sem.run_bind, Sem.run_pure, Result.andThen_ok, List.map_toArray, List.map_cons, List.map_nil, hs, hx, hr]
  exact hK _ _ (h v' w' h2 h3 h4)

set_option maxHeartbeats 1000000 in
set_option maxRecDepth 100000 in
theorem copy_used (rb : Nat) (w : World) (h : w.cell? ⟨rb, 3, none⟩ = some (.pointer (some ⟨rb, 3, none⟩))) :
    Calls Tryz.prog 55 #[.pointer (some ⟨rb, 3, none⟩)] w fun e w' => e = .returned (.tuple #[]) ∧ w' = w := by
  obtain ⟨j, hj, _⟩ := Option.map_eq_some_iff.1 builder_info
  go_enter Tryz.func55, Tryz.ntmps55
  go_wp2
  rw [Lib.run_neq_ptr_same w _ Tryz.underlying78 hj]
  go_wp2
  go_end0
  exact ⟨rfl, rfl⟩

set_option maxHeartbeats 1000000 in
set_option maxRecDepth 100000 in
theorem copy_fresh (rb : Nat) (w : World) (h : w.cell? ⟨rb, 3, none⟩ = some (.pointer none)) (hsh : w.shape? rb = some (83, 5)) (hfz : w.frozen? ⟨rb, 3, none⟩ = false) :
    Calls Tryz.prog 55 #[.pointer (some ⟨rb, 3, none⟩)] w fun e w' => e = .returned (.tuple #[]) ∧ w' = w.setCell ⟨rb, 3, none⟩ (.pointer (some ⟨rb, 3, none⟩)) := by
  obtain ⟨j, hj, hjs⟩ := Option.map_eq_some_iff.1 builder_info
  go_enter Tryz.func55, Tryz.ntmps55
  go_wp2
  rw [Lib.run_to_unsafe w ⟨rb, 3, none⟩ Tryz.underlying78 Tryz.underlying143 hj (by rw [hjs]; decide) hsh (show 3 < 5 by decide)]
  simp only [Result.andThen]
  rw [Oper.upon_value]
  go_wp2
  rw [run_callFunc_extern Tryz.func76 (by kernel_rfl) (by kernel_rfl) (by kernel_rfl) (e := Extern.AbiNoEscape.same) (by kernel_rfl)]
  rw [Lib.run_noEscape]
  simp only [Result.andThen]
  rw [Oper.upon_value]
  go_wp2
  rw [Lib.run_from_unsafe w ⟨rb, 3, none⟩ Tryz.underlying143 Tryz.underlying78 hj hsh (by kernel_rfl)]
  simp only [Result.andThen]
  rw [Oper.upon_value]
  go_wp2
  go_end0
  exact ⟨rfl, rfl⟩

set_option maxHeartbeats 1000000 in
set_option maxRecDepth 100000 in
theorem write_c (rb : Nat) (c0 c1 c2 ad buf : Value) (s : List UInt8) (x : ByteArray) (w : World) (h : Rec w rb c0 c1 c2 ad buf s) (hb : s.length + x.size ≤ 140737488355328) :
    Calls Tryz.prog 28 #[.pointer (some ⟨rb, 3, none⟩), .string x] w fun e w' => e = .returned (.tuple #[.int .i64 x.size, .nilIface]) ∧
      ∃ buf', Rec w' rb c0 c1 c2 (.pointer (some ⟨rb, 3, none⟩)) buf' (s ++ x.data.toList) ∧ Kept (fun j => j = rb ∨ buf.ownBlock = some j) w w' ∧ ∀ j, buf'.ownBlock = some j → buf.ownBlock = some j ∨ w.heap.size ≤ j := by
  have HC : Calls Tryz.prog 55 #[.pointer (some ⟨rb, 3, none⟩)] w fun e w' => e = .returned (.tuple #[]) ∧ Rec w' rb c0 c1 c2 (.pointer (some ⟨rb, 3, none⟩)) buf s ∧ Kept (fun j => j = rb) w w' ∧ w'.heap.size = w.heap.size := by
    obtain ⟨d0, d1, d2, d3, d4, df⟩ := five_cells h.blk
    rcases h.self with e | e
    · subst e
      refine (copy_fresh rb w d3 (by simp [World.shape?, h.blk]) (df 3)).mono ?_
      rintro e w' ⟨rfl, rfl⟩
      exact ⟨rfl, ⟨row_set h.blk 3 _, ownsF_block h.own (fun g hg => (Kept.setCell w _ _).block g (h.own.lt g hg).2 (fun e => h.ne (by rw [hg]; exact congrArg some e))), Or.inr rfl⟩, Kept.setCell w ⟨rb, 3, none⟩ _, by simp⟩
    · subst e
      refine (copy_used rb w d3).mono ?_
      rintro e w' ⟨rfl, rfl⟩
      exact ⟨rfl, h, Kept.refl _ _, rfl⟩
  have HH := hide h
  clear h
  go_enter Tryz.func28, Tryz.ntmps28
  go_wp2_with fail
  refine HC.mono ?_
  rintro e w1 ⟨rfl, r1, k1, hs1⟩
  have R1 := hide r1
  have K1 := hide k1
  obtain ⟨d0, d1, d2, d3, d4, df⟩ := five_cells r1.blk
  clear r1 k1 HC
  go_wp2_with (at_builtin; refine wpList_append_textF _ rfl (.tmp 12) (.tmp 13) rfl buf s.length (Lib.byteCells s) rfl R1.out.own x rfl hb ?_)
  intro buf' w2 O2 G2 M2
  have K2 : Hid (Kept (fun j => buf.ownBlock = some j) w1 w2) := (Kept.of_grown G2.out).mono (fun _ _ e => e.symm)
  have B2 : Hid (w2.heap[rb]? = some (.cells #[c0, c1, c2, .pointer (some ⟨rb, 3, none⟩), buf] 83 (0, 0))) := by show _ = _; rw [K2.out.block _ (heap_lt R1.out.blk) R1.out.ne]; exact R1.out.blk
  clear d0 d1 d2 d3 d4 df
  obtain ⟨d0, d1, d2, d3, d4, df⟩ := five_cells B2.out
  have O2' : Hid (w2.ownsRowF 0 5 1 buf' (s ++ x.data.toList).length (Lib.byteCells (s ++ x.data.toList))) := by
    have h1 : (s ++ x.data.toList).length = s.length + x.size := by rw [List.length_append, Array.length_toList]; rfl
    have h2 : Lib.byteCells (s ++ x.data.toList) = Lib.byteCells s ++ Lib.strCells x := by rw [Lib.strCells_eq]; simp [Lib.byteCells]
    show World.ownsRowF _ _ _ _ _ _ _
    rw [h1, h2]; exact O2.out
  obtain ⟨ao, n', cap, rfl⟩ : ∃ ao n' cap, buf' = .slice ao n' cap := by
    rcases O2.out.2 with ⟨hv, _⟩ | ⟨g, cap, cur, fz, hv, _⟩
    · exact ⟨_, _, _, hv⟩
    · exact ⟨_, _, _, hv⟩
  go_wp2
  go_ret2
  refine ⟨rfl, _, ⟨row_set B2.out 4 _, ?_, Or.inr rfl⟩, ?_, ?_⟩
  · exact ownsF_block O2'.out (fun g hg => (Kept.setCell w2 _ _).block g (O2'.out.lt g hg).2 (fun e => typ_ne (typ_ownF O2'.out g hg) (typ_blk B2.out) (by decide) e))
  · exact ((K1.out.join K2.out (R := fun j => j = rb ∨ buf.ownBlock = some j) (fun _ _ e => Or.inl e) (fun _ _ e => Or.inr e))).join (Kept.setCell w2 _ _) (fun _ _ e => e) (fun _ _ e => Or.inl e)
  · intro j hj
    rcases M2.out j hj with e | e
    · exact Or.inl e
    · exact Or.inr (by omega)

theorem Rec.froze {w : World} {rb g cap : Nat} {c0 c1 c2 ad : Value} {s : List UInt8} (h : Rec w rb c0 c1 c2 ad (.slice (some ⟨g, 0, none⟩) s.length cap) s) : Rec (w.freeze ⟨g, 0, none⟩ s.length) rb c0 c1 c2 ad (.slice (some ⟨g, 0, none⟩) s.length cap) s ∧ Kept (fun j => j = g) w (w.freeze ⟨g, 0, none⟩ s.length) := by
  have hne : g ≠ rb := fun e => h.ne (by rw [e]; rfl)
  unfold World.freeze
  split
  · exact ⟨h, Kept.refl _ _⟩
  · refine ⟨⟨?_, ⟨h.own.1, ?_⟩, h.self⟩, ⟨rfl, rfl, rfl, by simp, fun k hk hne => ?_⟩⟩
    · simp only [Array.getElem?_modify]
      rw [if_neg hne]; exact h.blk
    · rcases h.own.2 with ⟨hv, _⟩ | ⟨g', cap', cur, fz, hv, hbg, hg, hfz, rest⟩
      · cases hv
      · cases hv
        obtain ⟨lo, hi⟩ := fz
        refine Or.inr ⟨g, _, cur, (if lo == hi then (0, 0 + s.length) else (min lo 0, max hi (0 + s.length))), rfl, hbg, ?_, ?_, rest⟩
        · simp [Array.getElem?_modify, hg]
        · simp only at hfz
          split <;> simp <;> omega
    · simp only [Array.getElem?_modify]
      rw [if_neg (fun e => hne e.symm)]

set_option maxHeartbeats 1000000 in
set_option maxRecDepth 100000 in
theorem string_c (rb : Nat) (c0 c1 c2 ad buf : Value) (s : List UInt8) (w : World) (h : Rec w rb c0 c1 c2 ad buf s) (h0 : s ≠ []) :
    Calls Tryz.prog 30 #[.pointer (some ⟨rb, 3, none⟩)] w fun e w' => e = .returned (.string ⟨s.toArray⟩) ∧ Rec w' rb c0 c1 c2 ad buf s ∧ Kept (fun j => buf.ownBlock = some j) w w' := by
  have hl0 : s.length ≠ 0 := by simpa using h0
  have h' := h
  obtain ⟨g, cap, cur, fz, rfl, hbg, hg, hfz, hnc, hcm, hcs, htake⟩ : ∃ g cap cur fz, buf = .slice (some ⟨g, 0, none⟩) s.length cap ∧ 0 ≤ g ∧ w.heap[g]? = some (.cells cur 5 fz) ∧ fz.2 ≤ s.length * 1 ∧ s.length ≤ cap ∧ cap ≤ maxLen ∧ cur.size = cap * 1 ∧ cur.toList.take (s.length * 1) = Lib.byteCells s := by
    rcases h.own.2 with ⟨_, hz⟩ | ⟨g, cap, cur, fz, hv, r⟩
    · exact absurd hz hl0
    · exact ⟨g, cap, cur, fz, hv, r⟩
  have c1' : w.drew.cell? ⟨rb, 4, none⟩ = some (.slice (some ⟨g, 0, none⟩) s.length cap) := (five_cells (w := w.drew) h.blk).2.2.2.2.1
  have hSD : (Builtin.unsafeSliceData_ #[79] 115 #[.slice (some ⟨g, 0, none⟩) s.length cap]).run Tryz.prog w.drew = .ok (.pointer (some ⟨g, 0, none⟩)) w.drew :=
    Lib.run_unsafeSliceData_row _ _ _ _ _ _ (by omega)
  have hUS : (Builtin.unsafeString_ #[115, 3] 9 #[.pointer (some ⟨g, 0, none⟩), .int .i64 s.length]).run Tryz.prog w.drew = .ok (.string ⟨s.toArray⟩) (w.drew.freeze ⟨g, 0, none⟩ s.length) := by
    refine Lib.run_unsafeString_row w.drew 115 3 9 5 Tryz.underlying115 (by kernel_rfl) g cur.size (by have hg' : w.drew.heap[g]? = some (.cells cur 5 fz) := hg; simp [World.shape?, hg']) s h0 (by omega) (by unfold maxLen at hcm; omega) ?_
    intro j x hx
    exact h.own.cells (g := g) rfl j (.int .u8 x.toNat) (by simp [Lib.byteCells, hx])
  have hkeep : Hid (Rec (w.drew.freeze ⟨g, 0, none⟩ s.length) rb c0 c1 c2 ad (.slice (some ⟨g, 0, none⟩) s.length cap) s ∧ Kept (fun j => j = g) w.drew (w.drew.freeze ⟨g, 0, none⟩ s.length)) := Rec.froze (w := w.drew) (h'.calm (Kept.drew w))
  clear h h' hg htake hcs hcm hfz
  go_enter Tryz.func30, Tryz.ntmps30
  go_wp2
  go_region
  all_goals
    go_wp2
    go_ret
    exact ⟨rfl, hkeep.out.1, ((Kept.drew w).join hkeep.out.2 (R := fun j => j = g) (fun _ _ e => e.elim) (fun _ _ e => e)).mono (fun j _ e => by rw [e]; rfl)⟩
end Go.Proofs.YtlfmfhmbkpnjbabGreatDoor

namespace Go.Proofs.YtlfmfhmbkpnjbabGreatDoor
open Go.RowKit

/-- A digit; a number by its digits to the base 16. -/
def hexc (d : Nat) : UInt8 := if d < 10 then UInt8.ofNat (48 + d) else UInt8.ofNat (87 + d)
def hexF : Nat → Nat → List UInt8
  | 0, _ => []
  | f + 1, u => if u < 16 then [hexc u] else hexF f (u / 16) ++ [hexc (u % 16)]
def hexL (u : Nat) : List UInt8 := hexF (u + 1) u
theorem hexF_fuel (f : Nat) : ∀ g u, u < f → u < g → hexF f u = hexF g u := by
  induction f with
  | zero => intro g u h _; exact absurd h (Nat.not_lt_zero _)
  | succ f ih =>
    intro g u h1 h2
    cases g with
    | zero => omega
    | succ g =>
      by_cases h : u < 16
      · simp [hexF, h]
      · simp only [hexF, if_neg h]
        rw [ih g (u / 16) (by omega) (by omega)]
theorem hexL_one {u : Nat} (h : u < 16) : hexL u = [hexc u] := by simp [hexL, hexF, h]
theorem hexL_more {u : Nat} (h : ¬ u < 16) : hexL u = hexL (u / 16) ++ [hexc (u % 16)] := by
  unfold hexL
  rw [show hexF (u + 1) u = hexF u (u / 16) ++ [hexc (u % 16)] from by simp only [hexF, if_neg h]]
  rw [hexF_fuel u (u / 16 + 1) (u / 16) (by omega) (by omega)]

theorem hexL_eq (u : Nat) : hexL u = if u < 16 then [hexc u] else hexL (u / 16) ++ [hexc (u % 16)] := by
  split
  · rename_i h; exact hexL_one h
  · rename_i h; exact hexL_more h

/-- The table of bits that is asked. -/
def Tab4 (w : World) : Prop := w.cell? ⟨6, 15, none⟩ = some (.int .u8 4)

set_option maxHeartbeats 1000000 in
set_option maxRecDepth 100000 in
theorem tz_c (w : World) (h : Tab4 w) : Calls Tryz.prog 135 #[.int .u64 16] w fun e w' => e = .returned (.int .i64 4) ∧ w' = w := by
  have hc : w.cell? ⟨6, 15, none⟩ = some (.int .u8 4) := h
  have key : IntKind.u64.wrap (bits BinOp.and IntKind.u64 16 (IntKind.u64.wrap (-16)) * 285870213051353865) / 288230376151711744 = 15 := by kernel_rfl
  go_enter Tryz.func135, Tryz.ntmps135
  go_wp2_with (simp only [key])
  go_ret
  exact ⟨rfl, rfl⟩

set_option maxHeartbeats 1000000 in
set_option maxRecDepth 100000 in
theorem tzz_c (w : World) (h : Tab4 w) : Calls Tryz.prog 133 #[.int .u64 16] w fun e w' => e = .returned (.int .i64 4) ∧ w' = w := by
  go_enter Tryz.func133, Tryz.ntmps133
  go_wp2_with fail
  refine (tz_c w h).mono ?_
  rintro e w1 ⟨rfl, rfl⟩
  go_wp2
  go_ret
  exact ⟨rfl, rfl⟩

set_option maxHeartbeats 1000000 in
set_option maxRecDepth 100000 in
theorem pow_c (w : World) : Calls Tryz.prog 132 #[.int .i64 16] w fun e w' => e = .returned (.bool true) ∧ w' = w := by
  have key : bits BinOp.and IntKind.i64 16 15 = 0 := by kernel_rfl
  go_enter Tryz.func132, Tryz.ntmps132
  go_wp2_with (simp only [key])
  go_ret
  exact ⟨rfl, rfl⟩

/-- What has been written at the array's end. -/
structure Digs (w : World) (g : Nat) (cur : List Value) (suf : List UInt8) : Prop where
  blk : w.heap[g]? = some (.cells cur.toArray 195 (0, 0))
  len : cur.length = 65
  row : cur.drop (65 - suf.length) = Lib.byteCells suf
  fit : suf.length ≤ 65

def digs : ByteArray := ⟨#[48, 49, 50, 51, 52, 53, 54, 55, 56, 57, 97, 98, 99, 100, 101, 102, 103, 104, 105, 106, 107, 108, 109, 110, 111, 112, 113, 114, 115, 116, 117, 118, 119, 120, 121, 122]⟩
theorem digs_fin : ∀ d : Fin 16, digs[d.val]'(Nat.lt_of_lt_of_le d.isLt (by decide)) = hexc d.val := by decide
theorem digs_at (d : Nat) (h : d < 16) (h' : d < digs.size) : digs[d]'h' = hexc d := digs_fin ⟨d, h⟩

theorem Digs.more {w : World} {g i : Nat} {cur : List Value} {suf : List UInt8} (h : Digs w g cur suf) (hi : i + suf.length = 65) (h1 : 1 ≤ i) (c : UInt8) : Digs (w.setCell ⟨g, i - 1, none⟩ (.int .u8 c.toNat)) g (cur.set (i - 1) (.int .u8 c.toNat)) (c :: suf) := by
  refine ⟨?_, by simpa using h.len, ?_, by simp; omega⟩
  · have := row_set h.blk (i - 1) (.int .u8 c.toNat)
    simpa using this
  · have h2 := h.row
    rw [show 65 - suf.length = i from by omega] at h2
    rw [show 65 - (c :: suf).length = i - 1 from by simp; omega]
    have hl : i - 1 < cur.length := by rw [h.len]; omega
    rw [List.drop_eq_getElem_cons (by simpa using hl), List.getElem_set_self, List.drop_set_of_lt (by omega), show i - 1 + 1 = i from by omega, h2]
    rfl

theorem hex_conv {w : World} {g i : Nat} {cur : List Value} {l : List UInt8} (h : Digs w g cur l) (hi : i + l.length = 65) : (convert 79 9 (.slice (some ⟨g, i, none⟩) (65 - i) (65 - i))).run Tryz.prog w = .ok (.string ⟨l.toArray⟩) w := by
  have h2 := h.row
  rw [show 65 - l.length = i from by omega] at h2
  have := run_convert_bytes_arg (P := Tryz.prog) w 79 5 Tryz.underlying79 Tryz.underlying5 g i (65 - i) (65 - i) (l.map (fun b => (b.toNat : Int))) (by simp; omega) (fun k hk => by
    rw [cell_block h.blk]
    have h3 : (cur.drop i)[k]? = (Lib.byteCells l)[k]? := by rw [h2]
    rw [List.getElem?_drop] at h3
    have hkl : k < l.length := by omega
    simp only [List.getElem?_toArray, h3, Lib.byteCells, List.getElem?_map, List.getElem?_eq_getElem hkl, Option.map_some, List.getD]
    rfl) 9 Tryz.underlying9
  have e1 : (l.map (fun b => (b.toNat : Int))).map (fun n => UInt8.ofNat n.toNat) = l := by
    rw [List.map_map]
    have : ((fun n : Int => UInt8.ofNat n.toNat) ∘ fun b : UInt8 => (b.toNat : Int)) = id := by funext b; simp
    rw [this, List.map_id]
  rw [this]
  unfold strOfNums
  rw [e1]

set_option maxHeartbeats 2000000 in
set_option maxRecDepth 100000 in
theorem bits_c (u : Nat) (w : World) (hu : u < 18446744073709551616) (h : Tab4 w) :
    Calls Tryz.prog 125 #[.slice none 0 0, .int .u64 u, .int .i64 16, .bool false, .bool false] w fun e w' => e = .returned (.tuple #[.slice none 0 0, .string ⟨(hexL u).toArray⟩]) ∧ Kept (fun _ => False) w w' := by
  have H := hide h
  clear h
  go_enter Tryz.func125, Tryz.ntmps125
  go_wp2_with fail
  refine (pow_c _).mono ?_
  rintro e w1 ⟨rfl, rfl⟩
  have HT : Hid (Tab4 (w.alloc (Obj.cells Tryz.zeroCells195 195))) := by
    show _ = _
    have hlt := World.block_lt_of_cell? w ⟨6, 15, none⟩ H.out
    rw [cell_keep (Kept.alloc w _) hlt (fun e => e)]; exact H.out
  have K0 := hide (Kept.alloc w (Obj.cells Tryz.zeroCells195 195))
  have D0 : Hid (Digs (w.alloc (Obj.cells Tryz.zeroCells195 195)) w.heap.size Tryz.zeroCells195.toList []) := ⟨by simpa using heap_alloc_new w (Obj.cells Tryz.zeroCells195 195), by kernel_rfl, by kernel_rfl, by decide⟩
  go_wp2_with fail
  refine (tzz_c _ HT.out).mono ?_
  rintro e w1 ⟨rfl, rfl⟩
  go_wp2
  generalize w.alloc (Obj.cells Tryz.zeroCells195 195) = W at *
  have hW := heap_lt D0.out.blk
  go_loopw [1, 13] (fun a b wr => ∃ (v i : Nat) (suf : List UInt8) (cur : List Value), a = .int .u64 v ∧ b = .int .i64 i ∧ i + suf.length = 65 ∧ suf.length ≤ 15 ∧ v < 16 ^ (16 - suf.length) ∧ Hid (hexL u = hexL v ++ suf) ∧ Hid (Digs wr w.heap.size cur suf) ∧ Hid (Kept (fun _ => False) w wr)) (fun a _ _ => (intOf a).toNat)
  case atStart => exact ⟨u, 65, [], _, rfl, rfl, rfl, by decide, by simpa using hu, (by show _ = _; simp), D0, K0⟩
  case round =>
    obtain ⟨v, i, suf, cur, rfl, rfl, his, hk, hv, HX, HD, HK⟩ := hrel
    clear D0
    have hv64 : v < 18446744073709551616 := Nat.lt_of_lt_of_le hv (by
      have : 16 ^ (16 - suf.length) ≤ 16 ^ 16 := Nat.pow_le_pow_right (by decide) (by omega)
      exact this)
    by_cases hge : 16 ≤ v
    · have h1 : (16 : Int) ≤ (v : Int) := by omega
      have hand : bits BinOp.and IntKind.u64 (v : Int) 15 = ((v % 16 : Nat) : Int) := by
        have := bits_and_u64_nat v 15 hv64 (by decide)
        rw [show (15 : Nat) = 2 ^ 4 - 1 from rfl, Nat.and_two_pow_sub_one_eq_mod] at this
        exact this
      have hk14 : suf.length ≤ 14 := by
        by_cases e : suf.length ≤ 14
        · exact e
        · have : suf.length = 15 := by omega
          rw [this] at hv
          simp at hv
          omega
      obtain ⟨u0, hu0⟩ : ∃ u0, wr.cell? ⟨w.heap.size, i - 1, none⟩ = some u0 := ⟨cur[i - 1]'(by rw [HD.out.len]; omega), by rw [cell_block HD.out.blk]; simp⟩
      have ffz : ∀ j, wr.frozen? ⟨w.heap.size, j, none⟩ = false := fun j => by simp [World.frozen?, HD.out.blk]
      have hi1 : (1 : Int) ≤ (i : Int) := by omega
      have hi2 : (i : Int) ≤ 65 := by omega
      have hm16 : v % 16 < 16 := Nat.mod_lt _ (by decide)
      go_wp2_with (simp only [hand])
      go_roundw
      case rel =>
        refine ⟨v / 16, i - 1, hexc (v % 16) :: suf, cur.set (i - 1) (.int .u8 (hexc (v % 16)).toNat), by go_num, by go_num, by simp; omega, by simp; omega, ?_, ?_, ?_, ?_⟩
        · simp only [List.length_cons]
          have e : 16 ^ (16 - suf.length) = 16 ^ (16 - (suf.length + 1)) * 16 := by rw [← Nat.pow_succ]; congr 1; omega
          rw [e] at hv
          exact Nat.div_lt_of_lt_mul (by rw [Nat.mul_comm]; exact hv)
        · show _ = _
          rw [HX.out, hexL_more (by omega), List.append_assoc]; rfl
        · have := HD.out.more his (by omega) (hexc (v % 16))
          rw [← digs_at (v % 16) hm16 (Nat.lt_of_lt_of_le hm16 (by decide))] at this ⊢
          exact this
        · exact HK.out.join (Kept.setCell wr _ _) (fun _ _ e => e) (fun j hj e => by have e' : j = w.heap.size := e; omega)
      case measure => simp [intOf]; omega
    · have h1 : ¬ (16 : Int) ≤ (v : Int) := by omega
      obtain ⟨u0, hu0⟩ : ∃ u0, wr.cell? ⟨w.heap.size, i - 1, none⟩ = some u0 := ⟨cur[i - 1]'(by rw [HD.out.len]; omega), by rw [cell_block HD.out.blk]; simp⟩
      have ffz : ∀ j, wr.frozen? ⟨w.heap.size, j, none⟩ = false := fun j => by simp [World.frozen?, HD.out.blk]
      have hi1 : (1 : Int) ≤ (i : Int) := by omega
      have hi2 : (i : Int) ≤ 65 := by omega
      have hv16 : v < 16 := by omega
      have hv36 : (v : Int) < 36 := by omega
      have HX2 : Hid (hexL u = hexc v :: suf) := by show _ = _; rw [HX.out, hexL_one hv16]; rfl
      have hs0 : (0 : Int) ≤ (i : Int) - 1 := by omega
      have hs1 : (i : Int) - 1 ≤ 65 := by omega
      have hs2 : (i : Int) - 1 ≤ ((Tryz.prog.arrayLen 195 : Nat) : Int) := hs1
      have HDX : Hid (Digs (wr.setCell ⟨w.heap.size, i - 1, none⟩ (.int .u8 ((digs[v]'(Nat.lt_of_lt_of_le hv16 (by decide)) : UInt8).toNat))) w.heap.size (cur.set (i - 1) (.int .u8 (hexc v).toNat)) (hexc v :: suf)) := by
        have := HD.out.more his (by omega) (hexc v)
        rw [← digs_at v hv16 (Nat.lt_of_lt_of_le hv16 (by decide))] at this ⊢
        exact this
      have HKX : Hid (Kept (fun _ => False) w (wr.setCell ⟨w.heap.size, i - 1, none⟩ (.int .u8 ((digs[v]'(Nat.lt_of_lt_of_le hv16 (by decide)) : UInt8).toNat)))) := HK.out.join (Kept.setCell wr _ _) (fun _ _ e => e) (fun j hj e => by have e' : j = w.heap.size := e; omega)
      unfold digs at HDX HKX
      go_wp2
      generalize wr.setCell ⟨w.heap.size, i - 1, none⟩ _ = wX at *
      have hcv := hex_conv HDX.out (i := i - 1) (by simp; omega)
      rw [hcv]
      simp only [Result.andThen]
      rw [Oper.upon_value]
      go_wp2
      go_ret2
      exact ⟨ret2 rfl (by rw [HX2.out]; rfl), HKX.out⟩

set_option maxHeartbeats 1000000 in
set_option maxRecDepth 100000 in
theorem fmtu_c (u : Nat) (w : World) (hu : u < 18446744073709551616) (h : Tab4 w) :
    Calls Tryz.prog 126 #[.int .u64 u, .int .i64 16] w fun e w' => e = .returned (.string ⟨(hexL u).toArray⟩) ∧ Kept (fun _ => False) w w' := by
  go_enter Tryz.func126, Tryz.ntmps126
  go_wp2_with fail
  refine (bits_c u w hu h).mono ?_
  rintro e w1 ⟨rfl, k1⟩
  have K1 := hide k1
  clear k1
  go_wp2
  go_ret
  exact ⟨rfl, K1.out⟩

set_option maxHeartbeats 1000000 in
set_option maxRecDepth 100000 in
theorem fmtU_c (u : Nat) (w : World) (hu : u < 18446744073709551616) (h : Tab4 w) :
    Calls Tryz.prog 116 #[.int .u64 u, .int .i64 16] w fun e w' => e = .returned (.string ⟨(hexL u).toArray⟩) ∧ Kept (fun _ => False) w w' := by
  go_enter Tryz.func116, Tryz.ntmps116
  go_wp2_with fail
  refine (fmtu_c u w hu h).mono ?_
  rintro e w1 ⟨rfl, k1⟩
  have K1 := hide k1
  clear k1
  go_wp2
  go_ret
  exact ⟨rfl, K1.out⟩

set_option maxHeartbeats 1000000 in
set_option maxRecDepth 100000 in
theorem bitsWord_c (u : Nat) (w : World) (hu : u < 18446744073709551616) (h : Tab4 w) :
    Calls Tryz.prog 101 #[.int .u64 u] w fun e w' => e = .returned (.string ⟨(hexL u).toArray⟩) ∧ Kept (fun _ => False) w w' := by
  go_enter Tryz.func101, Tryz.ntmps101
  go_wp2_with fail
  refine (fmtU_c u w hu h).mono ?_
  rintro e w1 ⟨rfl, k1⟩
  have K1 := hide k1
  clear k1
  go_wp2
  go_ret
  exact ⟨rfl, K1.out⟩

set_option maxHeartbeats 1000000 in
set_option maxRecDepth 100000 in
theorem floatWord_c (x : Nat) (w : World) (h : Tab4 w) :
    Calls Tryz.prog 79 #[.float .f32 x] w fun e w' => e = .returned (.string ⟨(hexL (x % 18446744073709551616)).toArray⟩) ∧ Kept (fun _ => False) w w' := by
  have hwr : IntKind.u64.wrap (x : Int) = ((x % 18446744073709551616 : Nat) : Int) := by rw [IntKind.wrap_u64]; omega
  have hbits : ∀ w : World, (callFunc 102 #[.float .f32 x]).run Tryz.prog w = .ok (.value (.int .u32 x)) w := fun w => by
    rw [run_callFunc_extern Tryz.func102 (by kernel_rfl) (by kernel_rfl) (by kernel_rfl) (e := Extern.MathFloatBits.float32bits) (by kernel_rfl)]
    rfl
  go_enter Tryz.func79, Tryz.ntmps79
  go_wp2_with (simp only [hwr])
  refine (bitsWord_c (x % 18446744073709551616) w (Nat.mod_lt _ (by decide)) h).mono ?_
  rintro e w1 ⟨rfl, k1⟩
  have K1 := hide k1
  clear k1
  go_wp2
  go_ret
  exact ⟨rfl, K1.out⟩
end Go.Proofs.YtlfmfhmbkpnjbabGreatDoor


namespace Go.Proofs
open Go.Shelf
def Tryz.lays156_ren : Go.Shelf.Ren := ⟨fun | 156 => 77 | 165 => 99 | 166 => 28 | 169 => 30 | 240 => 55 | 241 => 114 | 276 => 76 | 277 => 121 | n => n, fun | 31 => 114 | 9 => 9 | 3 => 3 | 4 => 4 | 0 => 0 | 20 => 20 | 72 => 81 | 76 => 86 | 70 => 78 | 37 => 79 | 75 => 85 | 127 => 115 | 164 => 143 | 5 => 5 | 80 => 53 | n => n, fun | n => n⟩
theorem Tryz.lays156 : Go.Proofs.Lays.n156 Tryz.prog Tryz.lays156_ren := {
  mixed := by kernel_rfl
  f156 := Tryz.func77.trans (congrArg some (by kernel_rfl))
  f165 := Tryz.func99.trans (congrArg some (by kernel_rfl))
  f166 := Tryz.func28.trans (congrArg some (by kernel_rfl))
  f169 := Tryz.func30.trans (congrArg some (by kernel_rfl))
  f240 := Tryz.func55.trans (congrArg some (by kernel_rfl))
  f241 := Tryz.func114.trans (congrArg some (by kernel_rfl))
  f276 := Tryz.func76.trans (congrArg some (by kernel_rfl))
  f277 := Tryz.func121.trans (congrArg some (by kernel_rfl))
  t0 := Tryz.underlying0
  a0 := Tryz.isAgg0
  z0 := Tryz.sizeOf0
  v0 := Tryz.zeroValue0
  t3 := Tryz.underlying3
  a3 := Tryz.isAgg3
  z3 := Tryz.sizeOf3
  v3 := Tryz.zeroValue3
  t4 := Tryz.underlying4
  a4 := Tryz.isAgg4
  z4 := Tryz.sizeOf4
  v4 := Tryz.zeroValue4
  t9 := Tryz.underlying9
  a9 := Tryz.isAgg9
  z9 := Tryz.sizeOf9
  v9 := Tryz.zeroValue9
  t20 := Tryz.underlying20
  a20 := Tryz.isAgg20
  z20 := Tryz.sizeOf20
  v20 := Tryz.zeroValue20
  t31 := Tryz.underlying114
  a31 := Tryz.isAgg114
  z31 := Tryz.sizeOf114
  v31 := Tryz.zeroValue114
  t37 := Tryz.underlying79
  a37 := Tryz.isAgg79
  z37 := Tryz.sizeOf79
  v37 := Tryz.zeroValue79
  t70 := Tryz.underlying78
  a70 := Tryz.isAgg78
  z70 := Tryz.sizeOf78
  v70 := Tryz.zeroValue78
  t72 := Tryz.underlying81
  a72 := Tryz.isAgg81
  z72 := Tryz.sizeOf81
  v72 := Tryz.zeroValue81
  t75 := Tryz.underlying85
  a75 := Tryz.isAgg85
  z75 := Tryz.sizeOf85
  v75 := Tryz.zeroValue85
  t76 := Tryz.underlying86
  a76 := Tryz.isAgg86
  z76 := Tryz.sizeOf86
  v76 := Tryz.zeroValue86
  t127 := Tryz.underlying115
  a127 := Tryz.isAgg115
  z127 := Tryz.sizeOf115
  v127 := Tryz.zeroValue115
  t164 := Tryz.underlying143
  a164 := Tryz.isAgg143
  z164 := Tryz.sizeOf143
  v164 := Tryz.zeroValue143 }
theorem Tryz.Builder_Extra_156 : Builder.Extra Tryz.prog Tryz.lays156_ren := {
  sizeBuilder := by kernel_rfl
  liesBuilder := by kernel_rfl
  t5 := Tryz.underlying5
  a5 := Tryz.isAgg5
  z5 := Tryz.sizeOf5
  v5 := Tryz.zeroValue5
  infoByte := by kernel_rfl
  cellsByte := by kernel_rfl
  sizeByte := by kernel_rfl
  neB5 := by decide }
open Go.RowKit in
theorem Tryz.strings_Join_none (a : Option Addr) (c : Nat) (sep : ByteArray) (w : World) :
    Calls Tryz.prog 77 #[.slice a 0 c, .string sep] w fun e w' => e = .returned (.string ⟨#[]⟩) ∧ w' = w := Any.strings_Join_none Tryz.lays156 Tryz.Builder_Extra_156 a c sep w
open Go.RowKit in
theorem Tryz.strings_Join (bk o c : Nat) (xs : List ByteArray) (sep : ByteArray) (w : World) (hcells : ∀ (j : Nat) x, xs[j]? = some x → w.cell? ⟨bk, o + j, none⟩ = some (.string x)) (hbk : bk < w.heap.size) (hN : xs.length ≤ 140737488355328) (hcap : xs.length ≤ c) (hlen : (Lib.join (xs.map (·.data.toList)) sep.data.toList).length ≤ 140737488355328) :
    Calls Tryz.prog 77 #[.slice (some ⟨bk, o, none⟩) xs.length c, .string sep] w fun e w' => e = .returned (.string ⟨(Lib.join (xs.map (·.data.toList)) sep.data.toList).toArray⟩) ∧ Below w.heap.size w w' := Any.strings_Join Tryz.lays156 Tryz.Builder_Extra_156 bk o c xs sep w hcells hbk hN hcap hlen
def Tryz.laysM171_ren : Go.Shelf.Ren := ⟨fun | 171 => 78 | 243 => 100 | 246 => 115 | 283 => 122 | 284 => 123 | 285 => 124 | 286 => 125 | 129 => 130 | 317 => 129 | 318 => 131 | 319 => 132 | 320 => 133 | 337 => 134 | 338 => 135 | n => n, fun | 3 => 3 | 9 => 9 | 2 => 2 | 4 => 4 | 171 => 184 | 0 => 0 | 53 => 162 | 37 => 79 | 5 => 5 | 173 => 187 | 212 => 194 | 51 => 163 | 20 => 20 | 213 => 195 | 46 => 154 | 232 => 198 | 233 => 199 | n => n, fun | 17 => 4 | 18 => 5 | 19 => 6 | n => n⟩
theorem Tryz.laysM171 : Go.Proofs.LaysM.n171 Tryz.prog Tryz.laysM171_ren := {
  mixed := by kernel_rfl
  f129 := Tryz.func130.trans (congrArg some (by kernel_rfl))
  f171 := Tryz.func78.trans (congrArg some (by kernel_rfl))
  f243 := Tryz.func100.trans (congrArg some (by kernel_rfl))
  f246 := Tryz.func115.trans (congrArg some (by kernel_rfl))
  f283 := Tryz.func122.trans (congrArg some (by kernel_rfl))
  f284 := Tryz.func123.trans (congrArg some (by kernel_rfl))
  f285 := Tryz.func124.trans (congrArg some (by kernel_rfl))
  f286 := Tryz.func125.trans (congrArg some (by kernel_rfl))
  f317 := Tryz.func129.trans (congrArg some (by kernel_rfl))
  f318 := Tryz.func131.trans (congrArg some (by kernel_rfl))
  f319 := Tryz.func132.trans (congrArg some (by kernel_rfl))
  f320 := Tryz.func133.trans (congrArg some (by kernel_rfl))
  f337 := Tryz.func134.trans (congrArg some (by kernel_rfl))
  f338 := Tryz.func135.trans (congrArg some (by kernel_rfl))
  t0 := Tryz.underlying0
  a0 := Tryz.isAgg0
  z0 := Tryz.sizeOf0
  v0 := Tryz.zeroValue0
  t2 := Tryz.underlying2
  a2 := Tryz.isAgg2
  z2 := Tryz.sizeOf2
  v2 := Tryz.zeroValue2
  t3 := Tryz.underlying3
  a3 := Tryz.isAgg3
  z3 := Tryz.sizeOf3
  v3 := Tryz.zeroValue3
  t4 := Tryz.underlying4
  a4 := Tryz.isAgg4
  z4 := Tryz.sizeOf4
  v4 := Tryz.zeroValue4
  t5 := Tryz.underlying5
  a5 := Tryz.isAgg5
  z5 := Tryz.sizeOf5
  v5 := Tryz.zeroValue5
  t9 := Tryz.underlying9
  a9 := Tryz.isAgg9
  z9 := Tryz.sizeOf9
  v9 := Tryz.zeroValue9
  t20 := Tryz.underlying20
  a20 := Tryz.isAgg20
  z20 := Tryz.sizeOf20
  v20 := Tryz.zeroValue20
  t37 := Tryz.underlying79
  a37 := Tryz.isAgg79
  z37 := Tryz.sizeOf79
  v37 := Tryz.zeroValue79
  t46 := Tryz.underlying154
  a46 := Tryz.isAgg154
  z46 := Tryz.sizeOf154
  v46 := Tryz.zeroValue154
  t51 := Tryz.underlying163
  a51 := Tryz.isAgg163
  z51 := Tryz.sizeOf163
  v51 := Tryz.zeroValue163
  t53 := Tryz.underlying162
  a53 := Tryz.isAgg162
  z53 := Tryz.sizeOf162
  v53 := Tryz.zeroValue162
  t171 := Tryz.underlying184
  a171 := Tryz.isAgg184
  z171 := Tryz.sizeOf184
  v171 := Tryz.zeroValue184
  t173 := Tryz.underlying187
  a173 := Tryz.isAgg187
  z173 := Tryz.sizeOf187
  v173 := Tryz.zeroValue187
  t212 := Tryz.underlying194
  a212 := Tryz.isAgg194
  z212 := Tryz.sizeOf194
  v212 := Tryz.zeroValue194
  t213 := Tryz.underlying195
  a213 := Tryz.isAgg195
  z213 := Tryz.sizeOf195
  t232 := Tryz.underlying198
  a232 := Tryz.isAgg198
  z232 := Tryz.sizeOf198
  v232 := Tryz.zeroValue198
  t233 := Tryz.underlying199
  a233 := Tryz.isAgg199
  z233 := Tryz.sizeOf199
  v233 := Tryz.zeroValue199
  g17 := by kernel_rfl
  g18 := by kernel_rfl
  g19 := by kernel_rfl
  i0 := by kernel_rfl
  i2 := by kernel_rfl
  i3 := by kernel_rfl
  i4 := by kernel_rfl
  i5 := by kernel_rfl
  i9 := by kernel_rfl
  i20 := by kernel_rfl
  i37 := by kernel_rfl
  i46 := by kernel_rfl
  i51 := by kernel_rfl
  i53 := by kernel_rfl
  i171 := by kernel_rfl
  i173 := by kernel_rfl
  i212 := by kernel_rfl
  i232 := by kernel_rfl
  i233 := by kernel_rfl
  m17 := by kernel_rfl
  m18 := by kernel_rfl
  m19 := by kernel_rfl }
open Go.RowKit Go.Sort Go.Lib in
theorem Tryz.strconv_Itoa (n : Int) (h0 : -9223372036854775808 ≤ n) (h1 : n ≤ 9223372036854775807) (w : World) (htab : Lib.TabIs Tryz.prog w "internal/strconv.uint64pow10" .u64 Lib.pow10Tab) :
    Calls Tryz.prog 78 #[.int .i64 n] w fun e w' => e = .returned (.string ⟨(Lib.itoa n).toArray⟩) ∧ ∃ k os, w' = grow (w.drewN k) os := Any.strconv_Itoa Tryz.laysM171 n h0 h1 w htab
end Go.Proofs
