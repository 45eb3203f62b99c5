import Derived.Test.YtaheegdfcddlpaaBase
import Derived.Test.YtaheegdfcddlpaaRows
namespace Go.Proofs.Ytaheegdfcddlpaa
open Go.RowKit
theorem info_entry_si : (Try.prog.info? 95).map (fun i => (i.zero, i.size, i.bytes)) = some (some (.agg #[.string ByteArray.empty, .int .i64 0]), 2, 24) := by kernel_rfl

set_option maxHeartbeats 400000 in
set_option maxRecDepth 100000 in
/-- There is room: a place more, of zeros. -/
theorem place_room_si (c : Nat) (cap : Int) (v : Value) (L : List (ByteArray × Int)) (w : World) (hlen : L.length ≤ 64) (hroom : (L.length : Int) < cap)
    (h : CacheAt w 89 95 c cap v L.length (flat Value.string (Value.int .i64) L)) :
    Calls Try.prog 34 #[.pointer (some ⟨c, 0, none⟩)] w fun e w' =>
      e = .returned (.int .i64 L.length) ∧ ∃ v', CacheAt w' 89 95 c cap v' (L.length + 1) (flat Value.string (Value.int .i64) L ++ [.string ByteArray.empty, .int .i64 0]) ∧
        Kept (fun k => k = c ∨ v.ownBlock = some k) w w' ∧ (v'.ownBlock = v.ownBlock ∨ ∃ g, v'.ownBlock = some g ∧ w.heap.size ≤ g) := by
  have hne := h.ne (by decide)
  obtain ⟨hb, hown⟩ := h
  obtain ⟨i0, hi, hz0, hz1, hz2⟩ := info_parts info_entry_si
  obtain ⟨ao, cp, rfl⟩ : ∃ ao cp, v = .slice ao L.length cp := by
    rcases hown.2 with ⟨rfl, h0⟩ | ⟨g, cp, _, rfl, _⟩
    · exact ⟨none, 0, by rw [h0]⟩
    · exact ⟨_, _, rfl⟩
  obtain ⟨c0, c1, -, -⟩ := two_cells hb
  have HO := hide hown
  have HB := hide hb
  have HN := hide hne
  clear hown hb hne
  go_enter Try.func34, Try.ntmps34
  go_wp2
  go_quiet (fail)
  have HW : Hid ((w.drewN nq).heap = w.heap) := drewN_heap w nq
  go_wp2_with (at_builtin; refine wpList_append_mine _ rfl (.tmp 17) (.tmp 19) 87 rfl 95 i0 (.agg #[.string ByteArray.empty, .int .i64 0]) 2 24 Try.underlying87 hi hz0 hz1 hz2 rfl (by decide) _ _ _ rfl ((owns_heap HO.out HW.out).alloc _) ⟨w.heap.size, 0, none⟩ 1 1 [.string ByteArray.empty, .int .i64 0] rfl rfl ?c1 ?c2 (by decide) ?c3 ?c4 ?_)
  case c1 => exact new_two _ _ _ _ _ (by rw [HW.out])
  case c2 => intro u hu; simp at hu; rcases hu with rfl | rfl <;> rfl
  case c3 => unfold maxLen; omega
  case c4 => omega
  intro g cp' w1 hown' hgrow hg'
  obtain ⟨k0, k1, f0, f1⟩ := two_cells (grow_at HB.out HN.out hgrow)
  have R := hide (grow_fin (E := 95) HB.out HN.out hgrow hown' hg')
  clear hown' hgrow hg' c0 c1 k0
  go_wp2
  go_ret
  obtain ⟨r1, r2, r3⟩ := R.out
  refine ⟨ret1 (by go_num), _, r1, r2, ?_⟩
  rcases r3 with r3 | r3
  · exact Or.inl r3.symm
  · exact Or.inr ⟨g, rfl, r3⟩

set_option maxHeartbeats 400000 in
set_option maxRecDepth 100000 in
/-- It is full: the last place. -/
theorem place_full_si (c : Nat) (cap : Int) (v : Value) (L : List (ByteArray × Int)) (w : World) (hlen : L.length ≤ 64) (h1 : 1 ≤ L.length) (hfull : ¬ (L.length : Int) < cap)
    (h : CacheAt w 89 95 c cap v L.length (flat Value.string (Value.int .i64) L)) :
    Calls Try.prog 34 #[.pointer (some ⟨c, 0, none⟩)] w fun e w' =>
      e = .returned (.int .i64 ((L.length : Int) - 1)) ∧ ∃ nq, w' = w.drewN nq := by
  obtain ⟨hb, hown⟩ := h
  obtain ⟨ao, cp, rfl⟩ : ∃ ao cp, v = .slice ao L.length cp := by
    rcases hown.2 with ⟨rfl, h0⟩ | ⟨g, cp, _, rfl, _⟩
    · exact ⟨none, 0, by rw [h0]⟩
    · exact ⟨_, _, rfl⟩
  obtain ⟨c0, c1, -, -⟩ := two_cells hb
  clear hown hb
  go_enter Try.func34, Try.ntmps34
  go_wp2
  go_quiet (fail)
  go_wp2
  go_ret
  exact ⟨ret1 rfl, nq, rfl⟩
end Go.Proofs.Ytaheegdfcddlpaa
