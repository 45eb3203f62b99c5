import Derived.Test.YtlfmfhmbkpnjbaaGreatDoorAl20
import Derived.Test.YtlfmfhmbkpnjbaaGreatDoorAl22
namespace Go.Proofs.YtlfmfhmbkpnjbaaGreatDoor
open Go.RowKit

theorem info_ptrM : (Tryz.prog.info? 85).map (fun i => (i.zero, i.size, i.bytes)) = some (some (.pointer none), 1, 8) := by kernel_rfl

theorem first_ne (n : Int) : lineL (firstW n) ≠ [] := by unfold lineL; simp
theorem first_len (n : Int) (he : 1 ≤ n ∧ n ≤ 64) : (lineL (firstW n)).length ≤ 1000 := by
  have h3 := join_short (firstW n) (by
    intro x hx
    simp only [firstW, List.mem_cons, List.not_mem_nil, or_false] at hx
    rcases hx with rfl | rfl
    · show (6 : Nat) ≤ 24; decide
    · exact itoaW_short n (by omega))
  have h4 : (firstW n).length = 2 := rfl
  rw [h4] at h3
  unfold lineL
  simp only [List.length_append, List.length_cons, List.length_nil]
  omega

theorem begun_bad (bk : Nat) (n : Int) (w : World) (he : ¬ (1 ≤ n ∧ n ≤ 64)) :
    Calls Tryz.prog 29 #[.pointer (some ⟨bk, 0, none⟩), .int .i64 n] w fun e w' => e = .returned (.bool true) ∧ w' = w := by
  by_cases h1 : n < 1
  · go_enter Tryz.func29, Tryz.ntmps29
    go_wp2_with fail
    refine (newRec_err n w he).mono ?_
    rintro e w1 ⟨rfl, rfl⟩
    go_wp2
    go_ret
    exact ⟨rfl, rfl⟩
  · have h2 : (64 : Int) < n := by omega
    go_enter Tryz.func29, Tryz.ntmps29
    go_wp2_with fail
    refine (newRec_err n w he).mono ?_
    rintro e w1 ⟨rfl, rfl⟩
    go_wp2
    go_ret
    exact ⟨rfl, rfl⟩

/-- A match, as it is laid. -/
def newD (m rb : Nat) (n : Int) (buf : Value) (s : List UInt8) : MD :=
  ⟨m + 2, rb, .slice (some ⟨m, 0, none⟩) 1 1, .slice (some ⟨m + 1, 0, none⟩) 1 1, n, .pointer (some ⟨rb, 3, none⟩), buf, s, ⟨0, none, 0, []⟩, [⟨0, none, 0, []⟩], [s.length]⟩

theorem laid_match {w : World} {rb : Nat} {n : Int} {buf : Value} {s : List UInt8} (R : Rec w rb (.int .i64 n) (.int .i64 0) (.slice none 0 0) (.pointer (some ⟨rb, 3, none⟩)) buf s) (he : 1 ≤ n ∧ n ≤ 64) (hs0 : s ≠ []) (hsl : s.length ≤ 1000) :
    (newD w.heap.size rb n buf s).Ok (((w.alloc (.cells #[.int .i64 0, .slice none 0 0] 38)).alloc (.cells #[.int .i64 (s.length : Int)] 3)).alloc (.cells #[.pointer (some ⟨rb, 0, none⟩), .slice (some ⟨w.heap.size, 0, none⟩) 1 1, .slice (some ⟨w.heap.size + 1, 0, none⟩) 1 1, .string ⟨s.toArray⟩] 134)) := by
  have ka := Kept.alloc w (.cells #[.int .i64 0, .slice none 0 0] 38)
  have ha := heap_alloc_new w (.cells #[.int .i64 0, .slice none 0 0] 38)
  have sa : (w.alloc (.cells #[.int .i64 0, .slice none 0 0] 38)).heap.size = w.heap.size + 1 := by simp
  generalize w.alloc (.cells #[.int .i64 0, .slice none 0 0] 38) = wa at *
  have kb := Kept.alloc wa (.cells #[.int .i64 (s.length : Int)] 3)
  have hb := heap_alloc_new wa (.cells #[.int .i64 (s.length : Int)] 3)
  have sb : (wa.alloc (.cells #[.int .i64 (s.length : Int)] 3)).heap.size = wa.heap.size + 1 := by simp
  generalize wa.alloc (.cells #[.int .i64 (s.length : Int)] 3) = wb at *
  have kc := Kept.alloc wb (.cells #[.pointer (some ⟨rb, 0, none⟩), .slice (some ⟨w.heap.size, 0, none⟩) 1 1, .slice (some ⟨w.heap.size + 1, 0, none⟩) 1 1, .string ⟨s.toArray⟩] 134)
  have hc := heap_alloc_new wb (.cells #[.pointer (some ⟨rb, 0, none⟩), .slice (some ⟨w.heap.size, 0, none⟩) 1 1, .slice (some ⟨w.heap.size + 1, 0, none⟩) 1 1, .string ⟨s.toArray⟩] 134)
  generalize wb.alloc (.cells #[.pointer (some ⟨rb, 0, none⟩), .slice (some ⟨w.heap.size, 0, none⟩) 1 1, .slice (some ⟨w.heap.size + 1, 0, none⟩) 1 1, .string ⟨s.toArray⟩] 134) = wc at *
  have kbc := kb.calm2 kc
  have kall := ka.calm2 kbc
  have hE : ∀ w' : World, Wd.Ok w' ⟨0, none, 0, []⟩ := fun w' => ⟨fun e => absurd rfl e, fun _ => rfl, (fun b off e => by cases e), worldB_true 0 [] ⟨by decide, by decide⟩ (fun j hj _ => absurd hj (Nat.not_lt_zero _))⟩
  refine ⟨?_, R.calm kall, hE _, ?_, ?_, ⟨[], _, rfl, rfl, rfl⟩, ?_, rfl, rfl, ?_, hs0, he⟩
  · show wc.heap[w.heap.size + 2]? = _
    rw [show w.heap.size + 2 = wb.heap.size by omega]
    exact hc
  · refine ⟨rfl, Or.inr ⟨w.heap.size, 1, #[.int .i64 0, .slice none 0 0], rfl, Nat.zero_le _, ?_, Nat.le_refl 1, by decide, rfl, rfl⟩⟩
    rw [kbc.block _ (by omega) (fun e => e)]; exact ha
  · intro x hx
    obtain rfl : x = ⟨0, none, 0, []⟩ := by simpa [newD] using hx
    exact hE _
  · refine ⟨rfl, Or.inr ⟨w.heap.size + 1, 1, #[.int .i64 (s.length : Int)], rfl, Nat.zero_le _, ?_, Nat.le_refl 1, by decide, rfl, rfl⟩⟩
    rw [← sa, kc.block _ (by omega) (fun e => e)]; exact hb
  · show (s.length : Int) ≤ 15001 * 0 + 1000
    omega
theorem newD_foot {w : World} {m rb : Nat} {n : Int} {buf : Value} {s : List UInt8} (hm : w.heap.size ≤ m) (hr : w.heap.size ≤ rb) (hb : ∀ j, buf.ownBlock = some j → w.heap.size ≤ j) (j : Nat) (hj : (newD m rb n buf s).foot j) : w.heap.size ≤ j := by
  rcases hj with e | e | e | e | e
  · have : j = m + 2 := e
    omega
  · have : j = rb := e
    omega
  · exact hb j e
  · have : some m = some j := e
    simp only [Option.some.injEq] at this; omega
  · have : some (m + 1) = some j := e
    simp only [Option.some.injEq] at this; omega

set_option maxHeartbeats 1000000 in
set_option maxRecDepth 100000 in
theorem begun_ok (B bk : Nat) (mv sv : Value) (ms : Int) (ev : Value) (Q : List Els) (D : List MD) (n : Int) (w : World) (h : MInv B w bk mv sv ms ev Q D) (hB : B ≤ w.heap.size) (hT : Tabs w) (hD : D.length ≤ 1000000000) (he : 1 ≤ n ∧ n ≤ 64) :
    Calls Tryz.prog 29 #[.pointer (some ⟨bk, 0, none⟩), .int .i64 n] w fun e w' => e = .returned (.bool true) ∧ ∃ mv' d, MInv B w' bk mv' sv ms ev Q (D ++ [d]) ∧ (d.s = lineL (firstW n) ∧ d.ev = n ∧ d.ws = [⟨0, none, 0, []⟩] ∧ d.ys = [d.s.length]) ∧ (∀ j, d.foot j → w.heap.size ≤ j) ∧ Kept (Far w B) w w' ∧ Kept (fun j => mv.ownBlock = some j ∨ j = bk) w w' := by
  obtain ⟨i0, hi, hz0, hz1, hz2⟩ := info_parts info_ptrM
  obtain ⟨ao, cp, rfl⟩ : ∃ ao cp, mv = .slice ao D.length cp := by
    rcases h.list.2 with ⟨rfl, h0⟩ | ⟨g, cp, _, rfl, _⟩
    · exact ⟨none, 0, by rw [h0]⟩
    · exact ⟨_, _, rfl⟩
  have H := hide h
  have HT := hide hT
  clear h hT
  have h1 : ¬ n < 1 := by omega
  have h2 : ¬ (64 : Int) < n := by omega
  go_enter Tryz.func29, Tryz.ntmps29
  go_wp2_with fail
  refine (newRec_c n w he HT.out).mono ?_
  rintro e w1 ⟨rb, buf, rfl, hrb, r1, hbuf, k1⟩
  have R1 := hide r1
  have HBUF := hide hbuf
  have K1 := hide k1
  clear r1 hbuf k1
  go_wp2_with fail
  refine (file_c rb _ _ _ _ buf (lineL (firstW n)) w1 R1.out (first_ne n)).mono ?_
  rintro e w2 ⟨rfl, r2, k2⟩
  have R2 := hide r2
  have K2 : Hid (Kept (fun _ => False) w w2) := K1.out.join k2 (fun _ _ e => e) (fun j hj e => by have := HBUF.out j e; omega)
  clear r2 k2 R1 K1
  have hrl := heap_lt R2.out.blk
  obtain ⟨c0, c1, c2, c3, c4, cf⟩ := five_cells (H.out.calm K2.out).book.blk
  have hbk : bk < w2.heap.size := heap_lt (H.out.calm K2.out).book.blk
  have hsl := first_len n he
  have hsn := hide (first_ne n)
  generalize hsE : lineL (firstW n) = s at *
  have HSE := hide hsE
  clear hsE
  have OKM := hide (laid_match R2.out he hsn.out hsl)
  have hK3 : Hid (Kept (fun _ => False) w2 (((w2.alloc (.cells #[.int .i64 0, .slice none 0 0] 38)).alloc (.cells #[.int .i64 (s.length : Int)] 3)).alloc (.cells #[.pointer (some ⟨rb, 0, none⟩), .slice (some ⟨w2.heap.size, 0, none⟩) 1 1, .slice (some ⟨w2.heap.size + 1, 0, none⟩) 1 1, .string ⟨s.toArray⟩] 134))) := ((Kept.alloc _ _).calm2 (Kept.alloc _ _)).calm2 (Kept.alloc _ _)
  have hS3 : (((w2.alloc (.cells #[.int .i64 0, .slice none 0 0] 38)).alloc (.cells #[.int .i64 (s.length : Int)] 3)).alloc (.cells #[.pointer (some ⟨rb, 0, none⟩), .slice (some ⟨w2.heap.size, 0, none⟩) 1 1, .slice (some ⟨w2.heap.size + 1, 0, none⟩) 1 1, .string ⟨s.toArray⟩] 134)).heap.size = w2.heap.size + 3 := by simp
  have O3 := hide ((H.out.calm (K2.out.calm2 hK3.out)).list)
  go_wp2_with (at_builtin; refine wpList_append_mine _ rfl (.tmp 37) (.tmp 47) 45 rfl 85 i0 (.pointer none) 1 8 Tryz.underlying45 hi hz0 hz1 hz2 rfl (by decide) _ _ _ rfl (O3.out.alloc _) ⟨w2.heap.size + 3, 0, none⟩ 1 1 [.pointer (some ⟨w2.heap.size + 2, 0, none⟩)] rfl rfl ?c1 ?c2 (by decide) ?c4 ?c5 ?_)
  case c1 => exact new_cells (((w2.alloc (.cells #[.int .i64 0, .slice none 0 0] 38)).alloc (.cells #[.int .i64 (s.length : Int)] 3)).alloc (.cells #[.pointer (some ⟨rb, 0, none⟩), .slice (some ⟨w2.heap.size, 0, none⟩) 1 1, .slice (some ⟨w2.heap.size + 1, 0, none⟩) 1 1, .string ⟨s.toArray⟩] 134)) [.pointer (some ⟨w2.heap.size + 2, 0, none⟩)] _ _ hS3.symm
  case c2 => intro u hu; simp only [List.mem_cons, List.not_mem_nil, or_false] at hu; rw [hu]; rfl
  case c4 => unfold maxLen; omega
  case c5 => omega
  intro g4 cp4 w4 hown4 hgrow4 hG4
  have K4 : Hid (Kept (fun j => (Value.slice ao D.length cp).ownBlock = some j) (((w2.alloc (.cells #[.int .i64 0, .slice none 0 0] 38)).alloc (.cells #[.int .i64 (s.length : Int)] 3)).alloc (.cells #[.pointer (some ⟨rb, 0, none⟩), .slice (some ⟨w2.heap.size, 0, none⟩) 1 1, .slice (some ⟨w2.heap.size + 1, 0, none⟩) 1 1, .string ⟨s.toArray⟩] 134)) w4) := (Kept.alloc _ _).join (Kept.of_grown hgrow4) (R := fun j => (Value.slice ao D.length cp).ownBlock = some j) (fun _ _ e => e.elim) (fun _ _ e => e.symm)
  have hs2 := K2.out.size
  have R := hide (H.out.more hB (K2.out.calm2 hK3.out) OKM.out (newD_foot hs2 hrb HBUF.out) K4.out hown4 (fun j hj => by
    have e : some g4 = some j := hj
    simp only [Option.some.injEq] at e
    subst e
    rcases hG4 with e | e
    · exact Or.inl e
    · right; simp at e ⊢; omega))
  clear hown4 hgrow4 hG4 c0 c1 c2 c3 c4 cf O3 K4 OKM hK3 hS3 R2
  obtain ⟨d0, d1, d2, d3, d4, df⟩ := five_cells R.out.1
  go_wp2
  go_ret
  refine ⟨rfl, _, _, R.out.2.1, ⟨?_, rfl, rfl, rfl⟩, newD_foot hs2 hrb HBUF.out, R.out.2.2.1, ?_⟩
  · first | rfl | exact HSE.out.symm
  · exact R.out.2.2.2

theorem begun_c (B bk : Nat) (mv sv : Value) (ms : Int) (ev : Value) (Q : List Els) (D : List MD) (n : Int) (w : World) (h : MInv B w bk mv sv ms ev Q D) (hB : B ≤ w.heap.size) (hT : Tabs w) (hD : D.length ≤ 1000000000) :
    Calls Tryz.prog 29 #[.pointer (some ⟨bk, 0, none⟩), .int .i64 n] w fun e w' => e = .returned (.bool true) ∧ ∃ mv' D', MInv B w' bk mv' sv ms ev Q D' ∧ D.length ≤ D'.length ∧ D'.length ≤ D.length + 1 ∧ (1 ≤ n ∧ n ≤ 64 → 0 < D'.length) ∧ Kept (Far w B) w w' := by
  by_cases he : 1 ≤ n ∧ n ≤ 64
  · refine (begun_ok B bk mv sv ms ev Q D n w h hB hT hD he).mono ?_
    rintro e w' ⟨rfl, mv', d, h1, -, -, h3, -⟩
    exact ⟨rfl, mv', _, h1, by simp, by simp, fun _ => by simp, h3⟩
  · refine (begun_bad bk n w he).mono ?_
    rintro e w' ⟨rfl, rfl⟩
    exact ⟨rfl, mv, D, h, by omega, by omega, fun e => absurd e he, Kept.refl _ _⟩
end Go.Proofs.YtlfmfhmbkpnjbaaGreatDoor

namespace Go.Proofs.YtlfmfhmbkpnjbaaGreatDoor
open Go.RowKit

theorem recd_c (B bk : Nat) (mv sv : Value) (ms : Int) (ev : Value) (Q : List Els) (D : List MD) (q : Nat) (hq : q < D.length) (pc : Option Addr) (capc : Nat) (cs : List Cmd) (w : World)
    (h : MInv B w bk mv sv ms ev Q D) (hB : B ≤ w.heap.size) (hT : Tabs w) (hB4 : 6 < B) (hB2 : 4 < B) (hC : ReadsC w pc cs)
    (hpc : cs ≠ [] → ∀ b off, pc = some ⟨b, off, none⟩ → b < B ∨ typ w b 57) (hIC : ∀ c ∈ cs, IntC c) (hcl : cs.length ≤ 1048576) (hQ : Q.length ≤ 1000000000) :
    Calls Tryz.prog 31 #[.pointer (some ⟨bk, 0, none⟩), ptrM D[q], .slice pc cs.length capc] w fun e w' => e = .returned (.bool true) ∧ ∃ D' ev' Q', MInv B w' bk mv sv ms ev' Q' D' ∧ D'.length = D.length ∧ Q'.length = Q.length + 4 ∧ Kept (Far w B) w w' := by
  refine (recorded_walk B bk mv sv ms ev Q D[q] pc capc cs w h.book (h.each q hq) (h.low q hq) hT hB4 hB2 hC hpc hIC hcl hQ).mono ?_
  rintro e w' ⟨rfl, d', ev', Q', o, g, hf, k, hb, hQ', he, -⟩
  obtain ⟨h1, h2⟩ := h.turn hB q hq o g.mb hf k hb he
  exact ⟨rfl, _, ev', Q', h1, by simp, hQ', h2⟩

/-- An operation of the script. -/
structure OpD where
  k : Int
  a : Int
  n : Int
  p : Option Addr
  cap : Nat
  cs : List Cmd

def OpD.val (o : OpD) : Value := .agg #[.int .i64 o.k, .int .i64 o.a, .int .i64 o.n, .slice o.p o.cs.length o.cap]
structure OpD.Ok (B : Nat) (w : World) (o : OpD) : Prop where
  reads : ReadsC w o.p o.cs
  low : o.cs ≠ [] → ∀ b off, o.p = some ⟨b, off, none⟩ → b < B ∨ typ w b 57
  int : ∀ c ∈ o.cs, IntC c
  f32 : ∀ c ∈ o.cs, F32C c
  short : o.cs.length ≤ 1048576
  at1 : -9223372036854775808 ≤ o.a
  at2 : o.a ≤ 9223372036854775807
  n1 : -9223372036854775808 ≤ o.n
  n2 : o.n ≤ 9223372036854775807
theorem OpD.Ok.keep {B : Nat} {w w' : World} {o : OpD} (h : o.Ok B w) (k : Kept (Far w B) w w') : o.Ok B w' where
  reads := fun hne => (h.reads.keep k (fun b off e hb f => by
    rcases h.low hne b off e with q | q
    · have := f.1; omega
    · exact f.2.2 q)) hne
  low := fun hne b off e => (h.low hne b off e).imp id (fun t => typ_keep t k (fun f => f.2.2 t))
  int := h.int
  f32 := h.f32
  short := h.short
  at1 := h.at1
  at2 := h.at2
  n1 := h.n1
  n2 := h.n2
theorem OpD.Ok.calm {B : Nat} {w w' : World} {o : OpD} (h : o.Ok B w) (k : Kept (fun _ => False) w w') : o.Ok B w' := h.keep (k.mono (fun _ _ e => e.elim))

theorem op_cells {w : World} {c : Nat} {a b d e : Value} {T : TypeId} (h : w.heap[c]? = some (.cells #[a, b, d, e] T (0, 0))) : w.cell? ⟨c, 0, none⟩ = some a ∧ w.cell? ⟨c, 1, none⟩ = some b ∧ w.cell? ⟨c, 2, none⟩ = some d ∧ w.cell? ⟨c, 3, none⟩ = some e := by
  obtain ⟨h0, h1, h2, h3, -⟩ := match_cells h
  exact ⟨h0, h1, h2, h3⟩

def StepPost (B bk : Nat) (sv : Value) (Q : List Els) (D : List MD) (o : OpD) (w : World) (e : Ending) (w' : World) : Prop :=
  e = .returned (.bool true) ∧ ∃ mv' ev' Q' D', MInv B w' bk mv' sv 2 ev' Q' D' ∧ D.length ≤ D'.length ∧ D'.length ≤ D.length + 1 ∧ (o.k = 1 ∧ 1 ≤ o.n ∧ o.n ≤ 64 → 0 < D'.length) ∧ Q'.length ≤ Q.length + 4 ∧ Kept (Far w B) w w'

set_option maxHeartbeats 2000000 in
set_option maxRecDepth 100000 in
theorem step_none (B bk : Nat) (mv sv ev : Value) (Q : List Els) (D : List MD) (o : OpD) (w : World) (h : MInv B w bk mv sv 2 ev Q D) (hk : o.k < 1 ∨ 2 < o.k) :
    Calls Tryz.prog 16 #[.pointer (some ⟨bk, 0, none⟩), o.val] w (StepPost B bk sv Q D o w) := by
  have fin : ∀ w', Kept (fun _ => False) w w' → StepPost B bk sv Q D o w (.returned (.bool true)) w' := fun w' k => ⟨rfl, mv, ev, Q, D, h.calm k, Nat.le_refl _, by omega, fun e => by omega, by omega, k.mono (fun _ _ e => e.elim)⟩
  have FIN := hide fin
  obtain ⟨c0, c1, c2, c3, c4, cf⟩ := five_cells h.book.blk
  have hbk : bk < w.heap.size := heap_lt h.book.blk
  have H := hide h
  clear h fin
  obtain ⟨k, a, n, p, cap, cs⟩ := o
  unfold OpD.val
  dsimp only at hk ⊢
  rcases hk with hk | hk
  · have hd : decide (k < 1) = true := by simp [hk]
    go_enter Tryz.func16, Tryz.ntmps16
    go_wp2_with fail
    go_quiet (fail)
    go_wp2
    go_ret
    exact FIN.out _ ((Kept.alloc _ _).calm2 (Kept.drewN _ _))
  · have hd : decide (k < 1) = false := by simp; omega
    have hd2 : decide (2 < k) = true := by simp [hk]
    go_enter Tryz.func16, Tryz.ntmps16
    go_wp2_with fail
    go_quiet (fail)
    go_wp2
    go_ret
    exact FIN.out _ ((Kept.alloc _ _).calm2 (Kept.drewN _ _))

theorem Kept.far {B : Nat} {w w' : World} (k : Kept (fun _ => False) w w') : Kept (Far w B) w w' := k.mono (fun _ _ e => e.elim)

set_option maxHeartbeats 2000000 in
set_option maxRecDepth 100000 in
theorem step_new (B bk : Nat) (mv sv ev : Value) (Q : List Els) (D : List MD) (o : OpD) (w : World) (h : MInv B w bk mv sv 2 ev Q D) (hB : B ≤ w.heap.size) (hT : Tabs w) (hD : D.length ≤ 1000000000) (hk : o.k = 1) :
    Calls Tryz.prog 16 #[.pointer (some ⟨bk, 0, none⟩), o.val] w (StepPost B bk sv Q D o w) := by
  obtain ⟨c0, c1, c2, c3, c4, cf⟩ := five_cells h.book.blk
  have hbk : bk < w.heap.size := heap_lt h.book.blk
  have H := hide h
  have HT := hide hT
  clear h hT
  obtain ⟨k, a, n, p, cap, cs⟩ := o
  unfold OpD.val
  dsimp only at hk ⊢
  subst hk
  have hd : decide ((1 : Int) < 1) = false := by decide
  have hd2 : decide ((2 : Int) < 1) = false := by decide
  go_enter Tryz.func16, Tryz.ntmps16
  go_wp2_with fail
  go_quiet (fail)
  have K1 : Hid (Kept (fun _ => False) w ((w.alloc (.cells #[.int .i64 1, .int .i64 a, .int .i64 n, .slice p cs.length cap] 54)).drewN nq)) := (Kept.alloc _ _).calm2 (Kept.drewN _ _)
  obtain ⟨o0, o1, o2, o3⟩ := op_cells (w := (w.alloc (.cells #[.int .i64 1, .int .i64 a, .int .i64 n, .slice p cs.length cap] 54)).drewN nq) (c := w.heap.size) (heap_alloc_new w _)
  generalize (w.alloc (.cells #[.int .i64 1, .int .i64 a, .int .i64 n, .slice p cs.length cap] 54)).drewN nq = w1 at *
  have hs := K1.out.size
  go_wp2_with fail
  refine (begun_c B bk mv sv 2 ev Q D n w1 (H.out.calm K1.out) (by omega) (HT.out.calm K1.out) hD).mono ?_
  rintro e w2 ⟨rfl, mv', D', h1, h2, h3, h4, k2⟩
  have FIN : Hid (StepPost B bk sv Q D ⟨1, a, n, p, cap, cs⟩ w (.returned (.bool true)) w2) := ⟨rfl, mv', ev, Q, D', h1, h2, h3, fun e => h4 e.2, by omega, Far.join K1.out.far k2⟩
  clear h1 h2 h3 h4 k2
  go_wp2
  go_ret
  exact FIN.out

set_option maxHeartbeats 2000000 in
set_option maxRecDepth 100000 in
theorem step_rec (B bk : Nat) (mv sv ev : Value) (Q : List Els) (D : List MD) (o : OpD) (w : World) (h : MInv B w bk mv sv 2 ev Q D) (hB : B ≤ w.heap.size) (hT : Tabs w) (hB4 : 6 < B) (hB2 : 4 < B)
    (hD : D.length ≤ 1000000000) (hD0 : 0 < D.length) (hQ : Q.length ≤ 1000000000) (ho : o.Ok B w) (hk : o.k = 2) :
    Calls Tryz.prog 16 #[.pointer (some ⟨bk, 0, none⟩), o.val] w (StepPost B bk sv Q D o w) := by
  obtain ⟨c0, c1, c2, c3, c4, cf⟩ := five_cells h.book.blk
  have hbk : bk < w.heap.size := heap_lt h.book.blk
  have hq := pickN_lt_law o.a D.length hD0
  obtain ⟨g, cp, hmv⟩ : ∃ g cp, mv = .slice (some ⟨g, 0, none⟩) D.length cp := by
    rcases h.list.2 with ⟨_, h0⟩ | ⟨g, cp, _, e, _⟩
    · omega
    · exact ⟨g, cp, e⟩
  subst hmv
  have cg : w.cell? ⟨g, pickN_law o.a D.length, none⟩ = some (ptrM (D[pickN_law o.a D.length]'hq)) := by
    have h2 := h.list.cells (g := g) rfl (pickN_law o.a D.length) (ptrM (D[pickN_law o.a D.length]'hq)) (by simp [hq])
    rwa [addr_add2, Nat.zero_add] at h2
  have hgl : g < w.heap.size := owns_lt h.list g rfl
  have H := hide h
  have HT := hide hT
  have HO := hide ho
  have ha1 := ho.at1
  have ha2 := ho.at2
  clear h hT ho
  have HP := hide (fun (w : World) => pick_law o.a (D.length : Int) D.length w ha1 ha2 rfl hD0 hD)
  have HR := hide (recd_c B bk (.slice (some ⟨g, 0, none⟩) D.length cp) sv 2 ev Q D (pickN_law o.a D.length) hq o.p o.cap o.cs)
  clear ha1 ha2
  generalize hqn : pickN_law o.a D.length = q at *
  obtain ⟨k, a, n, p, cap, cs⟩ := o
  unfold OpD.val
  dsimp only at hk HP HR ⊢
  subst hk
  have hq1 : (0 : Int) ≤ (q : Int) := by omega
  have hq2 : (q : Int) < (D.length : Int) := by omega
  have hd : decide ((2 : Int) < 1) = false := by decide
  have hd2 : decide ((2 : Int) < 2) = false := by decide
  go_enter Tryz.func16, Tryz.ntmps16
  go_wp2_with fail
  go_quiet (fail)
  have K1 : Hid (Kept (fun _ => False) w ((w.alloc (.cells #[.int .i64 2, .int .i64 a, .int .i64 n, .slice p cs.length cap] 54)).drewN nq)) := (Kept.alloc _ _).calm2 (Kept.drewN _ _)
  obtain ⟨o0, o1, o2, o3⟩ := op_cells (w := (w.alloc (.cells #[.int .i64 2, .int .i64 a, .int .i64 n, .slice p cs.length cap] 54)).drewN nq) (c := w.heap.size) (heap_alloc_new w _)
  generalize (w.alloc (.cells #[.int .i64 2, .int .i64 a, .int .i64 n, .slice p cs.length cap] 54)).drewN nq = w1 at *
  have d0 : w1.cell? ⟨bk, 0, none⟩ = some (.slice (some ⟨g, 0, none⟩) D.length cp) := by rw [cell_keep K1.out hbk (fun e => e)]; exact c0
  have dg : w1.cell? ⟨g, q, none⟩ = some (ptrM (D[q]'hq)) := by rw [cell_keep K1.out hgl (fun e => e)]; exact cg
  have H1 := hide (H.out.calm K1.out)
  have HT1 := hide (HT.out.calm K1.out)
  have HO1 := hide (HO.out.calm K1.out)
  have hs1 : B ≤ w1.heap.size := Nat.le_trans hB K1.out.size
  have K1F := hide (K1.out.far (B := B))
  clear c0 c1 c2 c3 c4 cf cg H HT HO K1
  generalize w.heap.size = ob at *
  generalize hpm : ptrM (D[q]'hq) = pm at *
  go_wp2_with fail
  go_quiet ((go_at_call 30; exact Calls.quiet_of_same (HP.out _)))
  have K2 : Hid (Kept (fun _ => False) w1 (w1.drewN nq)) := Kept.drewN _ _
  have e3 : (w1.drewN nq).cell? ⟨ob, 3, none⟩ = some (.slice p cs.length cap) := o3
  have e0 : (w1.drewN nq).cell? ⟨ob, 0, none⟩ = some (.int .i64 2) := o0
  generalize w1.drewN nq = w2 at *
  have HC2 := hide (HR.out w2 (H1.out.calm K2.out) (Nat.le_trans hs1 K2.out.size) (HT1.out.calm K2.out) hB4 hB2 (HO1.out.calm K2.out).reads (HO1.out.calm K2.out).low HO1.out.int HO1.out.short hQ)
  have K2F := hide (Far.join K1F.out (K2.out.far))
  clear H1 HT1 HO1 HR o0 o1 o2 o3 d0 dg K1F K2
  go_wp2_with fail
  refine HC2.out.mono ?_
  rintro e w3 ⟨rfl, D', ev', Q', h1, h2, h3, k3⟩
  have FIN : Hid (StepPost B bk sv Q D ⟨2, a, n, p, cap, cs⟩ w (.returned (.bool true)) w3) := ⟨rfl, _, ev', Q', D', h1, by omega, by omega, fun e => by omega, by omega, Far.join K2F.out k3⟩
  clear h1 h2 h3 k3
  go_wp2
  go_ret
  exact FIN.out

theorem step_c (B bk : Nat) (mv sv ev : Value) (Q : List Els) (D : List MD) (o : OpD) (w : World) (h : MInv B w bk mv sv 2 ev Q D) (hB : B ≤ w.heap.size) (hT : Tabs w) (hB4 : 6 < B) (hB2 : 4 < B)
    (hD : D.length ≤ 1000000000) (hD0 : o.k = 2 → 0 < D.length) (hQ : Q.length ≤ 1000000000) (ho : o.Ok B w) :
    Calls Tryz.prog 16 #[.pointer (some ⟨bk, 0, none⟩), o.val] w (StepPost B bk sv Q D o w) := by
  by_cases h1 : o.k = 1
  · exact step_new B bk mv sv ev Q D o w h hB hT hD h1
  · by_cases h2 : o.k = 2
    · exact step_rec B bk mv sv ev Q D o w h hB hT hB4 hB2 hD (hD0 h2) hQ ho h2
    · exact step_none B bk mv sv ev Q D o w h (by omega)
end Go.Proofs.YtlfmfhmbkpnjbaaGreatDoor

namespace Go.Proofs.YtlfmfhmbkpnjbaaGreatDoor
open Go.RowKit

/-- A script, where it lies. -/
def RO (B : Nat) (w : World) (p : Option Addr) (n : Nat) (P : Nat → OpD → Prop) : Prop :=
  0 < n → ∃ b off, p = some ⟨b, off, none⟩ ∧ b < w.heap.size ∧ (b < B ∨ typ w b 54) ∧ ∀ j, j < n → ∃ o : OpD, P j o ∧ o.Ok B w ∧
    w.cell? ⟨b, off + j * 4, none⟩ = some (.int .i64 o.k) ∧ w.cell? ⟨b, off + j * 4 + 1, none⟩ = some (.int .i64 o.a) ∧ w.cell? ⟨b, off + j * 4 + 2, none⟩ = some (.int .i64 o.n) ∧ w.cell? ⟨b, off + j * 4 + 3, none⟩ = some (.slice o.p o.cs.length o.cap)
theorem RO.keep {B : Nat} {w w' : World} {p : Option Addr} {n : Nat} {P : Nat → OpD → Prop} (h : RO B w p n P) (k : Kept (Far w B) w w') : RO B w' p n P := by
  intro h0
  obtain ⟨b, off, hp, hb, hl, hj⟩ := h h0
  have nf : ¬ Far w B b := fun f => by
    rcases hl with e | e
    · have := f.1; omega
    · exact f.2.1 e
  refine ⟨b, off, hp, Nat.lt_of_lt_of_le hb k.size, hl.imp id (fun t => typ_keep t k nf), fun j hjn => ?_⟩
  obtain ⟨o, q0, q1, q2, q3, q4, q5⟩ := hj j hjn
  exact ⟨o, q0, q1.keep k, by rw [cell_keep k hb nf]; exact q2, by rw [cell_keep k hb nf]; exact q3, by rw [cell_keep k hb nf]; exact q4, by rw [cell_keep k hb nf]; exact q5⟩
theorem RO.calm {B : Nat} {w w' : World} {p : Option Addr} {n : Nat} {P : Nat → OpD → Prop} (h : RO B w p n P) (k : Kept (fun _ => False) w w') : RO B w' p n P := h.keep k.far

def cmd1 : Cmd := ⟨1, 3, 0, 1092616192, 1148829696, 0⟩
def cmd2 : Cmd := ⟨2, 3, 0, 1082130432, 1073741824, 0⟩

theorem first_ops {w : World} {B cb ob : Nat}
    (hc : w.heap[cb]? = some (.cells #[.int .i64 1, .int .i64 3, .int .i64 0, .float .f32 1092616192, .float .f32 1148829696, .int .i64 0, .int .i64 2, .int .i64 3, .int .i64 0, .float .f32 1082130432, .float .f32 1073741824, .int .i64 0] 57 (0, 0)))
    (ho : w.heap[ob]? = some (.cells #[.int .i64 1, .int .i64 0, .int .i64 2, .slice none 0 0, .int .i64 2, .int .i64 0, .int .i64 0, .slice (some ⟨cb, 0, none⟩) 2 2, .int .i64 2, .int .i64 0, .int .i64 0, .slice none 0 0, .int .i64 2, .int .i64 0, .int .i64 0, .slice none 0 0, .int .i64 3, .int .i64 0, .int .i64 (-1), .slice none 0 0, .int .i64 4, .int .i64 0, .int .i64 3, .slice none 0 0, .int .i64 5, .int .i64 0, .int .i64 (-1), .slice none 0 0] 54 (0, 0))) :
    RO B w (some ⟨ob, 0, none⟩) 7 (fun j o => j = 0 → o.k = 1 ∧ o.n = 2) := by
  intro _
  have plain : ∀ k n : Int, -10 ≤ n ∧ n ≤ 10 → OpD.Ok B w ⟨k, 0, n, none, 0, []⟩ := fun k n hn => ⟨fun e => absurd rfl e, fun e => absurd rfl e, (fun c hc => by cases hc), (fun c hc => by cases hc), Nat.zero_le _, (by decide : (-9223372036854775808 : Int) ≤ 0), (by decide : (0 : Int) ≤ 9223372036854775807), (show -9223372036854775808 ≤ n by omega), (show n ≤ 9223372036854775807 by omega)⟩
  have two : OpD.Ok B w ⟨2, 0, 0, some ⟨cb, 0, none⟩, 2, [cmd1, cmd2]⟩ := by
    refine ⟨fun _ => ⟨cb, 0, rfl, heap_lt hc, fun j u hu => ?_⟩, fun _ b off e => Or.inr ?_, fun c hcm => ?_, fun c hcm => ?_, (by decide : (2 : Nat) ≤ 1048576), (by decide : (-9223372036854775808 : Int) ≤ 0), (by decide : (0 : Int) ≤ 9223372036854775807), (by decide : (-9223372036854775808 : Int) ≤ 0), (by decide : (0 : Int) ≤ 9223372036854775807)⟩
    · have hj : j < 12 := (List.getElem?_eq_some_iff.1 hu).1
      rw [Nat.zero_add, cell_block hc]
      rw [← hu]
      rcases j with _ | _ | _ | _ | _ | _ | _ | _ | _ | _ | _ | _ | j
      all_goals first | rfl | omega
    · have e' : some (⟨cb, 0, none⟩ : Addr) = some ⟨b, off, none⟩ := e
      simp only [Option.some.injEq, Addr.mk.injEq] at e'
      rw [← e'.1]; exact typ_blk hc
    · simp only [List.mem_cons, List.not_mem_nil, or_false] at hcm
      rcases hcm with rfl | rfl
      all_goals (constructor <;> decide)
    · simp only [List.mem_cons, List.not_mem_nil, or_false] at hcm
      rcases hcm with rfl | rfl
      all_goals (constructor <;> decide)
  refine ⟨ob, 0, rfl, heap_lt ho, Or.inr (typ_blk ho), fun j hj => ?_⟩
  rcases j with _ | _ | _ | _ | _ | _ | _ | j
  · exact ⟨⟨1, 0, 2, none, 0, []⟩, fun _ => ⟨rfl, rfl⟩, plain _ _ (by decide), by rw [cell_block ho]; rfl, by rw [cell_block ho]; rfl, by rw [cell_block ho]; rfl, by rw [cell_block ho]; rfl⟩
  · exact ⟨⟨2, 0, 0, some ⟨cb, 0, none⟩, 2, [cmd1, cmd2]⟩, fun e => by omega, two, by rw [cell_block ho]; rfl, by rw [cell_block ho]; rfl, by rw [cell_block ho]; rfl, by rw [cell_block ho]; rfl⟩
  · exact ⟨⟨2, 0, 0, none, 0, []⟩, fun e => by omega, plain _ _ (by decide), by rw [cell_block ho]; rfl, by rw [cell_block ho]; rfl, by rw [cell_block ho]; rfl, by rw [cell_block ho]; rfl⟩
  · exact ⟨⟨2, 0, 0, none, 0, []⟩, fun e => by omega, plain _ _ (by decide), by rw [cell_block ho]; rfl, by rw [cell_block ho]; rfl, by rw [cell_block ho]; rfl, by rw [cell_block ho]; rfl⟩
  · exact ⟨⟨3, 0, -1, none, 0, []⟩, fun e => by omega, plain _ _ (by decide), by rw [cell_block ho]; rfl, by rw [cell_block ho]; rfl, by rw [cell_block ho]; rfl, by rw [cell_block ho]; rfl⟩
  · exact ⟨⟨4, 0, 3, none, 0, []⟩, fun e => by omega, plain _ _ (by decide), by rw [cell_block ho]; rfl, by rw [cell_block ho]; rfl, by rw [cell_block ho]; rfl, by rw [cell_block ho]; rfl⟩
  · exact ⟨⟨5, 0, -1, none, 0, []⟩, fun e => by omega, plain _ _ (by decide), by rw [cell_block ho]; rfl, by rw [cell_block ho]; rfl, by rw [cell_block ho]; rfl, by rw [cell_block ho]; rfl⟩
  · omega

theorem minv_first {w : World} {B bk : Nat} (hB : B ≤ bk) (h : w.heap[bk]? = some (.cells #[.slice none 0 0, .slice none 0 0, .slice none 0 0, .slice none 0 0, .int .i64 2] 51 (0, 0))) :
    MInv B w bk (.slice none 0 0) (.slice none 0 0) 2 (.slice none 0 0) [] [] where
  book := ⟨h, ⟨rfl, Or.inl ⟨rfl, rfl⟩⟩, (fun i hi => absurd hi (Nat.not_lt_zero _)), (fun i hi => absurd hi (Nat.not_lt_zero _)), (fun i hi => absurd hi (Nat.not_lt_zero _)), rfl⟩
  blow := hB
  elow := fun j hj => by cases hj
  list := ⟨rfl, Or.inl ⟨rfl, rfl⟩⟩
  llow := fun j hj => by cases hj
  each := fun i hi => absurd hi (Nat.not_lt_zero _)
  low := fun i hi => absurd hi (Nat.not_lt_zero _)
  apart := fun i hi => absurd hi (Nat.not_lt_zero _)

/-- The world behind the first rows of 'UpTo'. -/
def laidW (w : World) : World :=
  ((w.alloc (.cells #[.slice none 0 0, .slice none 0 0, .slice none 0 0, .slice none 0 0, .int .i64 2] 51)).alloc
    (.cells #[.int .i64 1, .int .i64 3, .int .i64 0, .float .f32 1092616192, .float .f32 1148829696, .int .i64 0, .int .i64 2, .int .i64 3, .int .i64 0, .float .f32 1082130432, .float .f32 1073741824, .int .i64 0] 57)).alloc
    (.cells #[.int .i64 1, .int .i64 0, .int .i64 2, .slice none 0 0, .int .i64 2, .int .i64 0, .int .i64 0, .slice (some ⟨w.heap.size + 1, 0, none⟩) 2 2, .int .i64 2, .int .i64 0, .int .i64 0, .slice none 0 0, .int .i64 2, .int .i64 0, .int .i64 0, .slice none 0 0, .int .i64 3, .int .i64 0, .int .i64 (-1), .slice none 0 0, .int .i64 4, .int .i64 0, .int .i64 3, .slice none 0 0, .int .i64 5, .int .i64 0, .int .i64 (-1), .slice none 0 0] 54)
theorem laidW_kept (w : World) : Kept (fun _ => False) w (laidW w) := ((Kept.alloc _ _).calm2 (Kept.alloc _ _)).calm2 (Kept.alloc _ _)
theorem laidW_inv (w : World) : MInv w.heap.size (laidW w) w.heap.size (.slice none 0 0) (.slice none 0 0) 2 (.slice none 0 0) [] [] := by
  refine minv_first (Nat.le_refl _) ?_
  unfold laidW
  rw [((Kept.alloc _ _).calm2 (Kept.alloc _ _)).block w.heap.size (by simp) (fun e => e)]
  exact heap_alloc_new w _
theorem laidW_ops (w : World) : RO w.heap.size (laidW w) (some ⟨w.heap.size + 2, 0, none⟩) 7 (fun j o => j = 0 → o.k = 1 ∧ o.n = 2) := by
  refine first_ops (cb := w.heap.size + 1) ?_ ?_
  · unfold laidW
    rw [(Kept.alloc _ _).block (w.heap.size + 1) (by simp) (fun e => e)]
    have := heap_alloc_new (w.alloc (.cells #[.slice none 0 0, .slice none 0 0, .slice none 0 0, .slice none 0 0, .int .i64 2] 51)) (.cells #[.int .i64 1, .int .i64 3, .int .i64 0, .float .f32 1092616192, .float .f32 1148829696, .int .i64 0, .int .i64 2, .int .i64 3, .int .i64 0, .float .f32 1082130432, .float .f32 1073741824, .int .i64 0] 57)
    simpa using this
  · unfold laidW
    have h2 : ((w.alloc (.cells #[.slice none 0 0, .slice none 0 0, .slice none 0 0, .slice none 0 0, .int .i64 2] 51)).alloc (.cells #[.int .i64 1, .int .i64 3, .int .i64 0, .float .f32 1092616192, .float .f32 1148829696, .int .i64 0, .int .i64 2, .int .i64 3, .int .i64 0, .float .f32 1082130432, .float .f32 1073741824, .int .i64 0] 57)).heap.size = w.heap.size + 2 := by simp
    rw [← h2]
    exact heap_alloc_new _ _

set_option maxHeartbeats 4000000 in
set_option maxRecDepth 100000 in
theorem upto_c (p : Option Addr) (n cap : Nat) (w : World) (hn : n ≤ 1048576) (hT : Tabs w) (hR : RO w.heap.size w p n (fun _ _ => True)) :
    Calls Tryz.prog 7 #[.slice p n cap, .int .i64 2] w fun e w' => e = .returned (.int .i64 (-1)) ∧ Below w.heap.size w w' := by
  have HT := hide (hT.calm (laidW_kept w))
  have HR := hide (hR.calm (laidW_kept w))
  have HF := hide (laidW_ops w)
  have HI := hide (laidW_inv w)
  have HK0 := hide (laidW_kept w)
  have hB2 := hT.pow_lt
  have hB4 : 6 < w.heap.size := World.block_lt_of_cell? w ⟨6, 15, none⟩ hT.four
  have hBs := (laidW_kept w).size
  have nf4 : Hid (∀ w', ¬ Far w' w.heap.size 6) := fun w' f => by have := f.1; omega
  have nf2 : Hid (∀ w', ¬ Far w' w.heap.size 4) := fun w' f => by have := f.1; omega
  have hnb : (n : Int) ≤ 9223372036854775807 := by omega
  clear hT hR
  go_enter Tryz.func7, Tryz.ntmps7
  go_wp2
  obtain ⟨ws, hws⟩ : ∃ ws, ws = laidW w := ⟨_, rfl⟩
  rw [← hws] at HT HR HF HI HK0 hBs
  unfold laidW at hws
  rw [← hws]
  clear hws
  generalize hBn : w.heap.size = B at *
  go_loopw [7] (fun a wr => ∃ (i : Nat) (mv ev : Value) (Q : List Els) (D : List MD), a = .int .i64 i ∧ i ≤ 7 ∧ Hid (MInv B wr B mv (.slice none 0 0) 2 ev Q D) ∧ Hid (0 < i → 0 < D.length) ∧ D.length ≤ i ∧ Q.length ≤ 4 * i ∧ Hid (Kept (Far ws B) ws wr)) (fun a _ => 7 - (intOf a).toNat)
  case atStart => exact ⟨0, _, _, [], [], rfl, Nat.zero_le _, HI.out, (fun e => absurd e (Nat.not_lt_zero _) : _ → _), Nat.zero_le _, Nat.zero_le _, Kept.refl _ _⟩
  case round =>
    obtain ⟨i, mv, ev, Q, D, rfl, hi, HM, HD0, hDl, hQl, HK⟩ := hrel
    have hBr : B ≤ wr.heap.size := Nat.le_trans hBs HK.out.size
    have HTr := hide (HT.out.keep HK.out (nf4.out _) (nf2.out _))
    by_cases hlt : i < 7
    · have hb2 : (i : Int) < 7 := by omega
      have hb1 : (0 : Int) ≤ (i : Int) := by omega
      obtain ⟨b, off, hp, hb, -, hj⟩ := (HF.out.keep HK.out) (by decide)
      obtain ⟨o, hP, ho, q0, q1, q2, q3⟩ := hj i hlt
      simp only [Option.some.injEq, Addr.mk.injEq, and_true] at hp
      obtain ⟨rfl, rfl⟩ := hp
      rw [Nat.zero_add] at q0 q1 q2 q3
      have hk2 : o.k = 2 → 0 < D.length := fun e => by
        by_cases h0 : i = 0
        · have := (hP h0).1; omega
        · exact HD0.out (by omega)
      have HS := hide (step_c B B mv (.slice none 0 0) ev Q D o wr HM.out hBr HTr.out hB4 hB2 (by omega) hk2 (by omega) ho)
      have HP := hide hP
      clear hP ho hj hk2
      go_wp2_with fail
      refine HS.out.mono ?_
      rintro e w2 ⟨rfl, mv', ev', Q', D', h1, h2, h3, h4, h5, k2⟩
      have HM2 := hide h1
      have H4 := hide h4
      have HK2 := hide (Far.join HK.out k2)
      clear h1 h4 k2 q0 q1 q2 q3 HS
      go_wp2
      go_roundw
      case rel => exact ⟨i + 1, mv', ev', Q', D', by go_num, by omega, HM2.out, (fun _ => by
        by_cases h0 : i = 0
        · obtain ⟨e1, e2⟩ := HP.out h0
          exact H4.out ⟨e1, by omega, by omega⟩
        · have := HD0.out (by omega); omega : _ → _), by omega, by omega, HK2.out⟩
      case measure => simp [intOf]; omega
    · have hD0 := HD0.out (by omega)
      have hb2 : ¬ (i : Int) < 7 := by omega
      go_wp2
      have HMs := hide HM.out
      have HKs := hide HK.out
      have HD7 : D.length ≤ 7 := by omega
      have HQ7 : Q.length ≤ 28 := by omega
      clear HM HK HTr hBr hi HD0 hlt hDl hQl HF HI hb2
      generalize i = i0 at *
      generalize wr = wr0 at *
      generalize u4 = v4 at *
      go_loopw [9] (fun a wr => ∃ (i : Nat) (mv ev : Value) (Q : List Els) (D : List MD), a = .int .i64 i ∧ i ≤ n ∧ Hid (MInv B wr B mv (.slice none 0 0) 2 ev Q D) ∧ 0 < D.length ∧ D.length ≤ 7 + i ∧ Q.length ≤ 28 + 4 * i ∧ Hid (Kept (Far ws B) ws wr)) (fun a _ => n - (intOf a).toNat)
      case atStart => exact ⟨0, mv, ev, Q, D, rfl, Nat.zero_le _, HMs.out, hD0, by omega, by omega, HKs.out⟩
      case round =>
        clear HMs HKs hD0 HD7 HQ7
        clear mv ev Q D
        obtain ⟨i, mv, ev, Q, D, rfl, hi, HM, hD0, hDl, hQl, HK⟩ := hrel
        have hBr : B ≤ wr.heap.size := Nat.le_trans hBs HK.out.size
        have HTr := hide (HT.out.keep HK.out (nf4.out _) (nf2.out _))
        by_cases hlt : i < n
        · have hb2 : (i : Int) < (n : Int) := by omega
          have hb1 : (0 : Int) ≤ (i : Int) := by omega
          obtain ⟨b, off, rfl, hb, -, hj⟩ := (HR.out.keep HK.out) (by omega)
          obtain ⟨o, -, ho, q0, q1, q2, q3⟩ := hj i hlt
          have HS := hide (step_c B B mv (.slice none 0 0) ev Q D o wr HM.out hBr HTr.out hB4 hB2 (by omega) (fun _ => hD0) (by omega) ho)
          clear ho hj
          go_wp2_with fail
          refine HS.out.mono ?_
          rintro e w2 ⟨rfl, mv', ev', Q', D', h1, h2, h3, -, h5, k2⟩
          have HM2 := hide h1
          have HK2 := hide (Far.join HK.out k2)
          clear h1 k2 q0 q1 q2 q3 HS HK HM HTr
          go_wp2_with fail
          refine (wholeF B mv' (.slice none 0 0) 2 ev' Q' w2 (by omega) HM2.out.book).mono ?_
          rintro e w3 ⟨rfl, k3⟩
          have HM3 := hide (HM2.out.calm k3)
          have HK3 := hide (Far.join HK2.out k3.far)
          clear k3 HM2 HK2
          go_wp2
          go_roundw
          case rel => exact ⟨i + 1, mv', ev', Q', D', by go_num, by omega, HM3.out, by omega, by omega, by omega, HK3.out⟩
          case measure => simp [intOf]; omega
        · have hb2 : ¬ (i : Int) < (n : Int) := by omega
          go_wp2
          obtain ⟨c0, c1, c2, c3, c4, cf⟩ := five_cells HM.out.book.blk
          generalize hwx : wr = wx at *
          clear hwx
          go_loopw [12] (fun a wr => a = .int .i64 0 ∧ wr = wx) (fun a _ => 0)
          case atStart => exact ⟨rfl, rfl⟩
          case round =>
            obtain ⟨rfl, rfl⟩ := hrel
            go_wp2
            go_ret
            exact ⟨rfl, (HK0.out.join HK.out (R := fun j => B ≤ j) (fun _ _ e => e.elim) (fun _ _ e => e.1)).below _ (by omega) (fun j hj e => by omega)⟩

set_option maxHeartbeats 1000000 in
set_option maxRecDepth 100000 in
theorem records_walk (p : Option Addr) (n cap : Nat) (w : World) (hn : n ≤ 1048576) (hT : Tabs w) (hR : RO w.heap.size w p n (fun _ _ => True)) :
    Calls Tryz.prog 3 #[.slice p n cap] w fun e w' => e = .returned (.bool true) ∧ Below w.heap.size w w' := by
  have HU := hide (upto_c p n cap w hn hT hR)
  clear hT hR
  go_enter Tryz.func3, Tryz.ntmps3
  go_wp2_with fail
  refine HU.out.mono ?_
  rintro e w1 ⟨rfl, hb⟩
  have HB := hide hb
  clear hb
  go_wp2
  go_ret
  exact ⟨rfl, HB.out⟩
end Go.Proofs.YtlfmfhmbkpnjbaaGreatDoor
