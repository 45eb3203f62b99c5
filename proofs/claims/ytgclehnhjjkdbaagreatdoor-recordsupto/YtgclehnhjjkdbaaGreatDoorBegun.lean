import Derived.Test.YtgclehnhjjkdbaaGreatDoorMats
namespace Go.Proofs.YtgclehnhjjkdbaaGreatDoor
open Go.RowKit

theorem info_ptrM : (Tryz.prog.info? 45).map (fun i => (i.zero, i.size, i.bytes)) = some (some (.pointer none), 1, 8) := by kernel_rfl

theorem first_ne (n : Int) : lineL (firstW n) ≠ [] := by unfold lineL; simp
theorem first_len (n : Int) (he : 1 ≤ n ∧ n ≤ 64) : (lineL (firstW n)).length ≤ 1000 := by
  have h3 := join_short (firstW n) (by
    intro x hx
    simp only [firstW, List.mem_cons, List.not_mem_nil, or_false] at hx
    rcases hx with rfl | rfl
    · show (6 : Nat) ≤ 24; decide
    · exact itoaW_short n (by omega))
  have h4 : (firstW n).length = 2 := rfl
  rw [h4] at h3
  unfold lineL
  simp only [List.length_append, List.length_cons, List.length_nil]
  omega

theorem begun_bad (bk : Nat) (n : Int) (w : World) (he : ¬ (1 ≤ n ∧ n ≤ 64)) :
    Calls Tryz.prog 8 #[.pointer (some ⟨bk, 0, none⟩), .int .i64 n] w fun e w' => e = .returned (.bool true) ∧ w' = w := by
  by_cases h1 : n < 1
  · go_enter Tryz.func8, Tryz.ntmps8
    go_wp2_with fail
    refine (newRec_err n w he).mono ?_
    rintro e w1 ⟨rfl, rfl⟩
    go_wp2
    go_ret
    exact ⟨rfl, rfl⟩
  · have h2 : (64 : Int) < n := by omega
    go_enter Tryz.func8, Tryz.ntmps8
    go_wp2_with fail
    refine (newRec_err n w he).mono ?_
    rintro e w1 ⟨rfl, rfl⟩
    go_wp2
    go_ret
    exact ⟨rfl, rfl⟩

/-- A match, as it is laid. -/
def newD (m rb : Nat) (n : Int) (buf : Value) (s : List UInt8) : MD :=
  ⟨m + 2, rb, .slice (some ⟨m, 0, none⟩) 1 1, .slice (some ⟨m + 1, 0, none⟩) 1 1, n, .pointer (some ⟨rb, 3, none⟩), buf, s, ⟨0, none, 0, []⟩, [⟨0, none, 0, []⟩], [s.length]⟩

theorem laid_match {w : World} {rb : Nat} {n : Int} {buf : Value} {s : List UInt8} (R : Rec w rb (.int .i64 n) (.int .i64 0) (.slice none 0 0) (.pointer (some ⟨rb, 3, none⟩)) buf s) (he : 1 ≤ n ∧ n ≤ 64) (hs0 : s ≠ []) (hsl : s.length ≤ 1000) :
    (newD w.heap.size rb n buf s).Ok (((w.alloc (.cells #[.int .i64 0, .slice none 0 0] 56)).alloc (.cells #[.int .i64 (s.length : Int)] 3)).alloc (.cells #[.pointer (some ⟨rb, 0, none⟩), .slice (some ⟨w.heap.size, 0, none⟩) 1 1, .slice (some ⟨w.heap.size + 1, 0, none⟩) 1 1, .string ⟨s.toArray⟩] 71)) := by
  have ka := Kept.alloc w (.cells #[.int .i64 0, .slice none 0 0] 56)
  have ha := heap_alloc_new w (.cells #[.int .i64 0, .slice none 0 0] 56)
  have sa : (w.alloc (.cells #[.int .i64 0, .slice none 0 0] 56)).heap.size = w.heap.size + 1 := by simp
  generalize w.alloc (.cells #[.int .i64 0, .slice none 0 0] 56) = wa at *
  have kb := Kept.alloc wa (.cells #[.int .i64 (s.length : Int)] 3)
  have hb := heap_alloc_new wa (.cells #[.int .i64 (s.length : Int)] 3)
  have sb : (wa.alloc (.cells #[.int .i64 (s.length : Int)] 3)).heap.size = wa.heap.size + 1 := by simp
  generalize wa.alloc (.cells #[.int .i64 (s.length : Int)] 3) = wb at *
  have kc := Kept.alloc wb (.cells #[.pointer (some ⟨rb, 0, none⟩), .slice (some ⟨w.heap.size, 0, none⟩) 1 1, .slice (some ⟨w.heap.size + 1, 0, none⟩) 1 1, .string ⟨s.toArray⟩] 71)
  have hc := heap_alloc_new wb (.cells #[.pointer (some ⟨rb, 0, none⟩), .slice (some ⟨w.heap.size, 0, none⟩) 1 1, .slice (some ⟨w.heap.size + 1, 0, none⟩) 1 1, .string ⟨s.toArray⟩] 71)
  generalize wb.alloc (.cells #[.pointer (some ⟨rb, 0, none⟩), .slice (some ⟨w.heap.size, 0, none⟩) 1 1, .slice (some ⟨w.heap.size + 1, 0, none⟩) 1 1, .string ⟨s.toArray⟩] 71) = wc at *
  have kbc := kb.calm2 kc
  have kall := ka.calm2 kbc
  have hE : ∀ w' : World, Wd.Ok w' ⟨0, none, 0, []⟩ := fun w' => ⟨fun e => absurd rfl e, fun _ => rfl, (fun b off e => by cases e), worldB_true 0 [] ⟨by decide, by decide⟩ (fun j hj _ => absurd hj (Nat.not_lt_zero _))⟩
  refine ⟨?_, R.calm kall, hE _, ?_, ?_, ⟨[], _, rfl, rfl, rfl⟩, ?_, rfl, rfl, ?_, hs0, he⟩
  · show wc.heap[w.heap.size + 2]? = _
    rw [show w.heap.size + 2 = wb.heap.size by omega]
    exact hc
  · refine ⟨rfl, Or.inr ⟨w.heap.size, 1, #[.int .i64 0, .slice none 0 0], rfl, Nat.zero_le _, ?_, Nat.le_refl 1, by decide, rfl, rfl⟩⟩
    rw [kbc.block _ (by omega) (fun e => e)]; exact ha
  · intro x hx
    obtain rfl : x = ⟨0, none, 0, []⟩ := by simpa [newD] using hx
    exact hE _
  · refine ⟨rfl, Or.inr ⟨w.heap.size + 1, 1, #[.int .i64 (s.length : Int)], rfl, Nat.zero_le _, ?_, Nat.le_refl 1, by decide, rfl, rfl⟩⟩
    rw [← sa, kc.block _ (by omega) (fun e => e)]; exact hb
  · show (s.length : Int) ≤ 15001 * 0 + 1000
    omega
theorem newD_foot {w : World} {m rb : Nat} {n : Int} {buf : Value} {s : List UInt8} (hm : w.heap.size ≤ m) (hr : w.heap.size ≤ rb) (hb : ∀ j, buf.ownBlock = some j → w.heap.size ≤ j) (j : Nat) (hj : (newD m rb n buf s).foot j) : w.heap.size ≤ j := by
  rcases hj with e | e | e | e | e
  · have : j = m + 2 := e
    omega
  · have : j = rb := e
    omega
  · exact hb j e
  · have : some m = some j := e
    simp only [Option.some.injEq] at this; omega
  · have : some (m + 1) = some j := e
    simp only [Option.some.injEq] at this; omega

set_option maxHeartbeats 1000000 in
set_option maxRecDepth 100000 in
theorem begun_ok (B bk : Nat) (mv sv : Value) (ms : Int) (ev : Value) (Q : List Els) (D : List MD) (n : Int) (w : World) (h : MInv B w bk mv sv ms ev Q D) (hB : B ≤ w.heap.size) (hT : Tabs w) (hD : D.length ≤ 1000000000) (he : 1 ≤ n ∧ n ≤ 64) :
    Calls Tryz.prog 8 #[.pointer (some ⟨bk, 0, none⟩), .int .i64 n] w fun e w' => e = .returned (.bool true) ∧ ∃ mv' D', MInv B w' bk mv' sv ms ev Q D' ∧ D'.length = D.length + 1 ∧ Kept (Far w B) w w' := by
  obtain ⟨i0, hi, hz0, hz1, hz2⟩ := info_parts info_ptrM
  obtain ⟨ao, cp, rfl⟩ : ∃ ao cp, mv = .slice ao D.length cp := by
    rcases h.list.2 with ⟨rfl, h0⟩ | ⟨g, cp, _, rfl, _⟩
    · exact ⟨none, 0, by rw [h0]⟩
    · exact ⟨_, _, rfl⟩
  have H := hide h
  have HT := hide hT
  clear h hT
  have h1 : ¬ n < 1 := by omega
  have h2 : ¬ (64 : Int) < n := by omega
  go_enter Tryz.func8, Tryz.ntmps8
  go_wp2_with fail
  refine (newRec_c n w he HT.out).mono ?_
  rintro e w1 ⟨rb, buf, rfl, hrb, r1, hbuf, k1⟩
  have R1 := hide r1
  have HBUF := hide hbuf
  have K1 := hide k1
  clear r1 hbuf k1
  go_wp2_with fail
  refine (file_c rb _ _ _ _ buf (lineL (firstW n)) w1 R1.out (first_ne n)).mono ?_
  rintro e w2 ⟨rfl, r2, k2⟩
  have R2 := hide r2
  have K2 : Hid (Kept (fun _ => False) w w2) := K1.out.join k2 (fun _ _ e => e) (fun j hj e => by have := HBUF.out j e; omega)
  clear r2 k2 R1 K1
  have hrl := heap_lt R2.out.blk
  obtain ⟨c0, c1, c2, c3, c4, cf⟩ := five_cells (H.out.calm K2.out).book.blk
  have hbk : bk < w2.heap.size := heap_lt (H.out.calm K2.out).book.blk
  have hsl := first_len n he
  have hsn := hide (first_ne n)
  generalize lineL (firstW n) = s at *
  have OKM := hide (laid_match R2.out he hsn.out hsl)
  have hK3 : Hid (Kept (fun _ => False) w2 (((w2.alloc (.cells #[.int .i64 0, .slice none 0 0] 56)).alloc (.cells #[.int .i64 (s.length : Int)] 3)).alloc (.cells #[.pointer (some ⟨rb, 0, none⟩), .slice (some ⟨w2.heap.size, 0, none⟩) 1 1, .slice (some ⟨w2.heap.size + 1, 0, none⟩) 1 1, .string ⟨s.toArray⟩] 71))) := ((Kept.alloc _ _).calm2 (Kept.alloc _ _)).calm2 (Kept.alloc _ _)
  have hS3 : (((w2.alloc (.cells #[.int .i64 0, .slice none 0 0] 56)).alloc (.cells #[.int .i64 (s.length : Int)] 3)).alloc (.cells #[.pointer (some ⟨rb, 0, none⟩), .slice (some ⟨w2.heap.size, 0, none⟩) 1 1, .slice (some ⟨w2.heap.size + 1, 0, none⟩) 1 1, .string ⟨s.toArray⟩] 71)).heap.size = w2.heap.size + 3 := by simp
  have O3 := hide ((H.out.calm (K2.out.calm2 hK3.out)).list)
  go_wp2_with (at_builtin; refine wpList_append_mine _ rfl (.tmp 37) (.tmp 47) 26 rfl 45 i0 (.pointer none) 1 8 Tryz.underlying26 hi hz0 hz1 hz2 rfl (by decide) _ _ _ rfl (O3.out.alloc _) ⟨w2.heap.size + 3, 0, none⟩ 1 1 [.pointer (some ⟨w2.heap.size + 2, 0, none⟩)] rfl rfl ?c1 ?c2 (by decide) ?c4 ?c5 ?_)
  case c1 => exact new_cells (((w2.alloc (.cells #[.int .i64 0, .slice none 0 0] 56)).alloc (.cells #[.int .i64 (s.length : Int)] 3)).alloc (.cells #[.pointer (some ⟨rb, 0, none⟩), .slice (some ⟨w2.heap.size, 0, none⟩) 1 1, .slice (some ⟨w2.heap.size + 1, 0, none⟩) 1 1, .string ⟨s.toArray⟩] 71)) [.pointer (some ⟨w2.heap.size + 2, 0, none⟩)] _ _ hS3.symm
  case c2 => intro u hu; simp only [List.mem_cons, List.not_mem_nil, or_false] at hu; rw [hu]; rfl
  case c4 => unfold maxLen; omega
  case c5 => omega
  intro g4 cp4 w4 hown4 hgrow4 hG4
  have K4 : Hid (Kept (fun j => (Value.slice ao D.length cp).ownBlock = some j) (((w2.alloc (.cells #[.int .i64 0, .slice none 0 0] 56)).alloc (.cells #[.int .i64 (s.length : Int)] 3)).alloc (.cells #[.pointer (some ⟨rb, 0, none⟩), .slice (some ⟨w2.heap.size, 0, none⟩) 1 1, .slice (some ⟨w2.heap.size + 1, 0, none⟩) 1 1, .string ⟨s.toArray⟩] 71)) w4) := (Kept.alloc _ _).join (Kept.of_grown hgrow4) (R := fun j => (Value.slice ao D.length cp).ownBlock = some j) (fun _ _ e => e.elim) (fun _ _ e => e.symm)
  have hs2 := K2.out.size
  have R := hide (H.out.more hB (K2.out.calm2 hK3.out) OKM.out (newD_foot hs2 hrb HBUF.out) K4.out hown4 (fun j hj => by
    have e : some g4 = some j := hj
    simp only [Option.some.injEq] at e
    subst e
    rcases hG4 with e | e
    · exact Or.inl e
    · right; simp at e ⊢; omega))
  clear hown4 hgrow4 hG4 c0 c1 c2 c3 c4 cf O3 K4 OKM hK3 hS3 R2
  obtain ⟨d0, d1, d2, d3, d4, df⟩ := five_cells R.out.1
  go_wp2
  go_ret
  exact ⟨rfl, _, _, R.out.2.1, by simp, R.out.2.2⟩

theorem begun_c (B bk : Nat) (mv sv : Value) (ms : Int) (ev : Value) (Q : List Els) (D : List MD) (n : Int) (w : World) (h : MInv B w bk mv sv ms ev Q D) (hB : B ≤ w.heap.size) (hT : Tabs w) (hD : D.length ≤ 1000000000) :
    Calls Tryz.prog 8 #[.pointer (some ⟨bk, 0, none⟩), .int .i64 n] w fun e w' => e = .returned (.bool true) ∧ ∃ mv' D', MInv B w' bk mv' sv ms ev Q D' ∧ D.length ≤ D'.length ∧ D'.length ≤ D.length + 1 ∧ (1 ≤ n ∧ n ≤ 64 → 0 < D'.length) ∧ Kept (Far w B) w w' := by
  by_cases he : 1 ≤ n ∧ n ≤ 64
  · refine (begun_ok B bk mv sv ms ev Q D n w h hB hT hD he).mono ?_
    rintro e w' ⟨rfl, mv', D', h1, h2, h3⟩
    exact ⟨rfl, mv', D', h1, by omega, by omega, fun _ => by omega, h3⟩
  · refine (begun_bad bk n w he).mono ?_
    rintro e w' ⟨rfl, rfl⟩
    exact ⟨rfl, mv, D, h, by omega, by omega, fun e => absurd e he, Kept.refl _ _⟩
end Go.Proofs.YtgclehnhjjkdbaaGreatDoor
