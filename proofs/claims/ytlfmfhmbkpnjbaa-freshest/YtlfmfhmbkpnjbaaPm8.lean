import Derived.Test.YtlfmfhmbkpnjbaaPm1
import Derived.Test.YtlfmfhmbkpnjbaaRows
namespace Go.Proofs.Ytlfmfhmbkpnjbaa
open Go.RowKit

set_option maxHeartbeats 400000 in
theorem find_row_ii (c g cp : Nat) (cap : Int) (k : Int) (L : List (Int × Int)) (w : World) (hlen : L.length ≤ 64)
    (h : CacheAt w 121 125 c cap (.slice (some ⟨g, 0, none⟩) L.length cp) L.length (flat (Value.int .i64) (Value.int .i64) L)) :
    Calls Try.prog 62 #[.pointer (some ⟨c, 0, none⟩), (Value.int .i64) k] w fun e w' =>
      e = .returned (.tuple #[.int .i64 (fAt L k), .bool (fHas L k)]) ∧ w' = w := by
  obtain ⟨hb, hown⟩ := h
  have c1 : w.cell? ⟨c, 1, none⟩ = some (.slice (some ⟨g, 0, none⟩) L.length cp) := by simp [World.cell?, hb]
  clear hb
  go_enter Try.func62, Try.ntmps62
  go_wp2
  go_loop [12] (fun t => ∃ i : Nat, i ≤ L.length ∧ i ≤ idx L k ∧ t = .int .i64 i) (fun t => L.length - (intOf t).toNat)
  case atStart => exact ⟨0, Nat.zero_le _, Nat.zero_le _, rfl⟩
  case round =>
    obtain ⟨i, hi, hx, rfl⟩ := hrel
    by_cases hlt : i < L.length
    · have hc := row_cell hown (i * 2) _ (flat_key _ _ L i hlt)
      clear hown
      by_cases he : L[i].1 = k
      · have hb : (L[i].1 == k) = true := ints_beq _ _ he
        obtain ⟨q1, q2⟩ := fAt_hit L k i hlt hx he
        have Q1 : Hid (fAt L k = i ∧ fHas L k = true) := ⟨q1, q2⟩
        clear q1 q2 he
        go_wp2
        go_ret2
        exact ⟨ret2 (by rw [Q1.out.1]; rfl) (by rw [Q1.out.2]; rfl), rfl⟩
      · have hb : (L[i].1 == k) = false := ints_bne _ _ he
        have Q1 : Hid (i + 1 ≤ idx L k) := idx_miss L k i hlt hx he
        clear he
        go_wp2
        go_round
        case rel => exact ⟨i + 1, by omega, Q1.out, by go_num⟩
        case measure => simp [intOf]; omega
    · obtain ⟨q1, q2⟩ := fAt_out L k (by omega)
      have Q1 : Hid (fAt L k = 0 ∧ fHas L k = false) := ⟨q1, q2⟩
      clear q1 q2
      go_wp2
      go_ret2
      exact ⟨ret2 (by rw [Q1.out.1]; rfl) (by rw [Q1.out.2]; rfl), rfl⟩

set_option maxHeartbeats 400000 in
theorem find_nil_ii (c : Nat) (cap : Int) (k : Int) (w : World)
    (h : w.heap[c]? = some (.cells #[.int .i64 cap, .slice none 0 0] 121 (0, 0))) :
    Calls Try.prog 62 #[.pointer (some ⟨c, 0, none⟩), (Value.int .i64) k] w fun e w' =>
      e = .returned (.tuple #[.int .i64 0, .bool false]) ∧ w' = w := by
  have c1 : w.cell? ⟨c, 1, none⟩ = some (.slice none 0 0) := by simp [World.cell?, h]
  clear h
  go_enter Try.func62, Try.ntmps62
  go_wp2
  refine wp_loop_rounds 1 ?_
  rw [rounds_succ]
  go_wp2
  go_ret2
  exact ⟨rfl, rfl⟩

theorem find_ii (c : Nat) (cap : Int) (v : Value) (k : Int) (L : List (Int × Int)) (w : World) (hlen : L.length ≤ 64)
    (h : CacheAt w 121 125 c cap v L.length (flat (Value.int .i64) (Value.int .i64) L)) :
    Calls Try.prog 62 #[.pointer (some ⟨c, 0, none⟩), (Value.int .i64) k] w fun e w' =>
      e = .returned (.tuple #[.int .i64 (fAt L k), .bool (fHas L k)]) ∧ w' = w := by
  rcases h.2.2 with ⟨rfl, h0⟩ | ⟨g, cp, _, rfl, _⟩
  · obtain rfl : L = [] := List.eq_nil_of_length_eq_zero h0
    exact find_nil_ii c cap k w h.1
  · exact find_row_ii c g cp cap k L w hlen h
end Go.Proofs.Ytlfmfhmbkpnjbaa

namespace Go.Proofs.Ytlfmfhmbkpnjbaa
open Go.RowKit
theorem info_entry_ii : (Try.prog.info? 125).map (fun i => (i.zero, i.size, i.bytes)) = some (some (.agg #[.int .i64 0, .int .i64 0]), 2, 16) := by kernel_rfl

set_option maxHeartbeats 400000 in
set_option maxRecDepth 100000 in
/-- There is room: a place more, of zeros. -/
theorem place_room_ii (c : Nat) (cap : Int) (v : Value) (L : List (Int × Int)) (w : World) (hlen : L.length ≤ 64) (hroom : (L.length : Int) < cap)
    (h : CacheAt w 121 125 c cap v L.length (flat (Value.int .i64) (Value.int .i64) L)) :
    Calls Try.prog 63 #[.pointer (some ⟨c, 0, none⟩)] w fun e w' =>
      e = .returned (.int .i64 L.length) ∧ ∃ v', CacheAt w' 121 125 c cap v' (L.length + 1) (flat (Value.int .i64) (Value.int .i64) L ++ [.int .i64 0, .int .i64 0]) ∧
        Kept (fun k => k = c ∨ v.ownBlock = some k) w w' ∧ (v'.ownBlock = v.ownBlock ∨ ∃ g, v'.ownBlock = some g ∧ w.heap.size ≤ g) := by
  have hne := h.ne (by decide)
  obtain ⟨hb, hown⟩ := h
  obtain ⟨i0, hi, hz0, hz1, hz2⟩ := info_parts info_entry_ii
  obtain ⟨ao, cp, rfl⟩ : ∃ ao cp, v = .slice ao L.length cp := by
    rcases hown.2 with ⟨rfl, h0⟩ | ⟨g, cp, _, rfl, _⟩
    · exact ⟨none, 0, by rw [h0]⟩
    · exact ⟨_, _, rfl⟩
  obtain ⟨c0, c1, -, -⟩ := two_cells hb
  have HO := hide hown
  have HB := hide hb
  have HN := hide hne
  clear hown hb hne
  go_enter Try.func63, Try.ntmps63
  go_wp2
  go_quiet (fail)
  have HW : Hid ((w.drewN nq).heap = w.heap) := drewN_heap w nq
  go_wp2_with (at_builtin; refine wpList_append_mine _ rfl (.tmp 17) (.tmp 19) 119 rfl 125 i0 (.agg #[.int .i64 0, .int .i64 0]) 2 16 Try.underlying119 hi hz0 hz1 hz2 rfl (by decide) _ _ _ rfl ((owns_heap HO.out HW.out).alloc _) ⟨w.heap.size, 0, none⟩ 1 1 [.int .i64 0, .int .i64 0] rfl rfl ?c1 ?c2 (by decide) ?c3 ?c4 ?_)
  case c1 => exact new_two _ _ _ _ _ (by rw [HW.out])
  case c2 => intro u hu; simp at hu; subst hu; rfl
  case c3 => unfold maxLen; omega
  case c4 => omega
  intro g cp' w1 hown' hgrow hg'
  obtain ⟨k0, k1, f0, f1⟩ := two_cells (grow_at HB.out HN.out hgrow)
  have R := hide (grow_fin (E := 125) HB.out HN.out hgrow hown' hg')
  clear hown' hgrow hg' c0 c1 k0
  go_wp2
  go_ret
  obtain ⟨r1, r2, r3⟩ := R.out
  refine ⟨ret1 (by go_num), _, r1, r2, ?_⟩
  rcases r3 with r3 | r3
  · exact Or.inl r3.symm
  · exact Or.inr ⟨g, rfl, r3⟩

set_option maxHeartbeats 400000 in
set_option maxRecDepth 100000 in
/-- It is full: the last place. -/
theorem place_full_ii (c : Nat) (cap : Int) (v : Value) (L : List (Int × Int)) (w : World) (hlen : L.length ≤ 64) (h1 : 1 ≤ L.length) (hfull : ¬ (L.length : Int) < cap)
    (h : CacheAt w 121 125 c cap v L.length (flat (Value.int .i64) (Value.int .i64) L)) :
    Calls Try.prog 63 #[.pointer (some ⟨c, 0, none⟩)] w fun e w' =>
      e = .returned (.int .i64 ((L.length : Int) - 1)) ∧ ∃ nq, w' = w.drewN nq := by
  obtain ⟨hb, hown⟩ := h
  obtain ⟨ao, cp, rfl⟩ : ∃ ao cp, v = .slice ao L.length cp := by
    rcases hown.2 with ⟨rfl, h0⟩ | ⟨g, cp, _, rfl, _⟩
    · exact ⟨none, 0, by rw [h0]⟩
    · exact ⟨_, _, rfl⟩
  obtain ⟨c0, c1, -, -⟩ := two_cells hb
  clear hown hb
  go_enter Try.func63, Try.ntmps63
  go_wp2
  go_quiet (fail)
  go_wp2
  go_ret
  exact ⟨ret1 rfl, nq, rfl⟩
end Go.Proofs.Ytlfmfhmbkpnjbaa

namespace Go.Proofs.Ytlfmfhmbkpnjbaa
open Go.RowKit
theorem size_entry_ii : (Try.prog.info? 125).map (·.size) = some 2 := by kernel_rfl

set_option maxHeartbeats 400000 in
set_option maxRecDepth 100000 in
theorem use_many_ii (c g cp p : Nat) (cap : Int) (k : Int) (v : Int) (L : List (Int × Int)) (w : World) (hlen : L.length ≤ 64) (hp : p < L.length) (hcp1 : ¬ cp = 1)
    (h : CacheAt w 121 125 c cap (.slice (some ⟨g, 0, none⟩) L.length cp) L.length (flat (Value.int .i64) (Value.int .i64) L)) :
    Calls Try.prog 64 #[.pointer (some ⟨c, 0, none⟩), .int .i64 p, .agg #[(Value.int .i64) k, (Value.int .i64) v]] w fun e w' =>
      e = .returned (.tuple #[]) ∧ CacheAt w' 121 125 c cap (.slice (some ⟨g, 0, none⟩) L.length cp) L.length (flat (Value.int .i64) (Value.int .i64) (touch L p (k, v))) ∧ Kept (fun j => j = g) w w' := by
  have hne := h.ne (by decide)
  obtain ⟨hb, hown⟩ := h
  obtain ⟨c0, c1, -, -⟩ := two_cells hb
  obtain ⟨cur, hcp, hcm, hcell, hsz, htk⟩ : ∃ cur : List Value, L.length ≤ cp ∧ cp ≤ maxLen ∧ w.heap[g]? = some (.cells cur.toArray 125 (0, 0)) ∧ cur.length = cp * 2 ∧ cur.take (L.length * 2) = flat (Value.int .i64) (Value.int .i64) L := by
    rcases hown.2 with ⟨h0, _⟩ | ⟨g', cp', cur, e, _, hh, h1, h2, h3, h4⟩
    · cases h0
    · simp only [Value.slice.injEq, Option.some.injEq, Addr.mk.injEq, and_true, true_and] at e
      obtain ⟨rfl, rfl⟩ := e
      exact ⟨cur.toList, h1, h2, hh, by simpa using h3, h4⟩
  have hcg : c < w.heap.size ∧ g < w.heap.size := ⟨heap_lt hb, heap_lt hcell⟩
  obtain ⟨hcs, hgs⟩ := hcg
  have S1 : Hid (∀ o, ((w.alloc o).drew).heap[g]? = some (.cells cur.toArray 125 (0, 0))) := fun o => (Below.heap_alloc w o g hgs).trans hcell
  have S3 : Hid ((flat (Value.int .i64) (Value.int .i64) (L.take p)).length = p * 2) := by
    show _ = _
    rw [flat_length, List.length_take]; congr 1; omega
  have S4 : Hid (2 + (flat (Value.int .i64) (Value.int .i64) (L.take p)).length ≤ cur.length) := by
    show _ ≤ _
    rw [S3.out]; omega
  have S5 : Hid (∀ u ∈ flat (Value.int .i64) (Value.int .i64) (L.take p), u.oneCell' = true) := flat_one _ _ (fun _ => rfl) (fun _ => rfl) _
  have S2 : Hid (∀ o j u, (flat (Value.int .i64) (Value.int .i64) (L.take p))[j]? = some u → ((w.alloc o).drew).cell? ((⟨g, 0, none⟩ : Addr).add j) = some u) := by
    intro o j u hj
    rw [addr_add, cell_block (S1.out o)]
    rw [← flat_take, ← htk] at hj
    have hj' : j < L.length * 2 ∧ j < p * 2 := by
      have := (List.getElem?_eq_some_iff.1 hj).1
      simp only [List.length_take] at this
      omega
    rw [List.getElem?_take_of_lt hj'.2, List.getElem?_take_of_lt hj'.1] at hj
    simpa using hj
  have S6 : Hid (2 ≤ (splice cur 2 (flat (Value.int .i64) (Value.int .i64) (L.take p))).length) := by
    show _ ≤ _
    rw [length_splice _ _ _ S4.out]; omega
  have HG : Hid (g ≠ c) := fun e => hne (by rw [← e]; rfl)
  have HC := hide hcell
  have HO := hide hown
  have HB := hide hb
  have HN := hide hne
  have HM := hide hcm
  clear hown hb hne hcell hcm
  have a1 : IntKind.i64.wrap ((p : Int) + 1) = (p : Int) + 1 := wrap_id _ (by omega)
  have a2 : (0 : Int) ≤ (p : Int) + 1 := by omega
  have a3 : (p : Int) + 1 ≤ (cp : Int) := by omega
  have a4 : (1 : Int) ≤ (p : Int) + 1 := by omega
  have a6 : ((p : Int) + 1).toNat - 1 = p := by omega
  have a7 : (p : Int) ≤ (cp : Int) := by omega
  have a8 : (p : Int).toNat = p := by omega
  go_enter Try.func64, Try.ntmps64
  go_wp2
  go_region_law (refine step_copy_mine rfl (.tmp 12) (.tmp 18) 119 119 rfl 125 2 Try.underlying119 size_entry_ii (some ⟨g, 2, none⟩) (some ⟨g, 0, none⟩) p (cp - 1) p cp (by simp [Act.eval, Act.put]) (by simp [Act.eval, Act.put]) g 2 cur 125 (S1.out _) p (Nat.min_self p) (flat (Value.int .i64) (Value.int .i64) (L.take p)) S3.out (fun _ => ⟨rfl, _, rfl, S2.out _⟩) S4.out S5.out ?_; intro w1 HG1 HK1)
  all_goals
    obtain ⟨k1, k2, k3, k4, k5, k6, k7⟩ := use_facts HB.out HG.out hgs S6.out HG1.out HK1.out
    clear c0 c1
    go_wp2
    go_region
    all_goals go_end0
    exact ⟨rfl, use_fin (Value.int .i64) (Value.int .i64) L p k v hp cur hcp HM.out hsz htk HB.out HG.out hgs HG1.out HK1.out rfl rfl rfl rfl⟩
set_option maxHeartbeats 400000 in
set_option maxRecDepth 100000 in
theorem use_one_ii (c g : Nat) (cap : Int) (k : Int) (v : Int) (L : List (Int × Int)) (w : World) (hp : 0 < L.length)
    (h : CacheAt w 121 125 c cap (.slice (some ⟨g, 0, none⟩) L.length 1) L.length (flat (Value.int .i64) (Value.int .i64) L)) :
    Calls Try.prog 64 #[.pointer (some ⟨c, 0, none⟩), .int .i64 0, .agg #[(Value.int .i64) k, (Value.int .i64) v]] w fun e w' =>
      e = .returned (.tuple #[]) ∧ CacheAt w' 121 125 c cap (.slice (some ⟨g, 0, none⟩) L.length 1) L.length (flat (Value.int .i64) (Value.int .i64) (touch L 0 (k, v))) ∧ Kept (fun j => j = g) w w' := by
  have hne := h.ne (by decide)
  obtain ⟨hb, hown⟩ := h
  obtain ⟨c0, c1, -, -⟩ := two_cells hb
  obtain ⟨cur, hcp, hcell, hsz, htk⟩ : ∃ cur : List Value, L.length ≤ 1 ∧ w.heap[g]? = some (.cells cur.toArray 125 (0, 0)) ∧ cur.length = 2 ∧ cur.take (L.length * 2) = flat (Value.int .i64) (Value.int .i64) L := by
    rcases hown.2 with ⟨h0, _⟩ | ⟨g', cp', cur, e, _, hh, h1, _, h3, h4⟩
    · cases h0
    · simp only [Value.slice.injEq, Option.some.injEq, Addr.mk.injEq, and_true, true_and] at e
      obtain ⟨rfl, rfl⟩ := e
      exact ⟨cur.toList, h1, hh, by simpa using h3, h4⟩
  have hcg : c < w.heap.size ∧ g < w.heap.size := ⟨heap_lt hb, heap_lt hcell⟩
  obtain ⟨hcs, hgs⟩ := hcg
  have S1 : Hid (∀ o, ((w.alloc o).drew).heap[g]? = some (.cells cur.toArray 125 (0, 0))) := fun o => (Below.heap_alloc w o g hgs).trans hcell
  have S3 : Hid ((flat (Value.int .i64) (Value.int .i64) (L.take 0)).length = 0 * 2) := by
    show _ = _
    simp [flat]
  have S4 : Hid (2 + (flat (Value.int .i64) (Value.int .i64) (L.take 0)).length ≤ cur.length) := by
    show _ ≤ _
    rw [S3.out]; omega
  have S5 : Hid (∀ u ∈ flat (Value.int .i64) (Value.int .i64) (L.take 0), u.oneCell' = true) := flat_one _ _ (fun _ => rfl) (fun _ => rfl) _
  have S6 : Hid (2 ≤ (splice cur 2 (flat (Value.int .i64) (Value.int .i64) (L.take 0))).length) := by
    show _ ≤ _
    rw [length_splice _ _ _ S4.out]; omega
  have HG : Hid (g ≠ c) := fun e => hne (by rw [← e]; rfl)
  have HC := hide hcell
  have HO := hide hown
  have HB := hide hb
  have HN := hide hne
  clear hown hb hne hcell
  have a1 : IntKind.i64.wrap (1 : Int) = 1 := wrap_id _ (by omega)
  go_enter Try.func64, Try.ntmps64
  go_wp2
  go_region_law (refine step_copy_mine rfl (.tmp 12) (.tmp 18) 119 119 rfl 125 2 Try.underlying119 size_entry_ii (some ⟨g, 0, none⟩) (some ⟨g, 0, none⟩) 0 0 0 1 (by simp [Act.eval, Act.put]) (by simp [Act.eval, Act.put]) g 2 cur 125 (S1.out _) 0 (Nat.min_self 0) (flat (Value.int .i64) (Value.int .i64) (L.take 0)) S3.out (fun h => absurd h (by decide)) S4.out S5.out ?_; intro w1 HG1 HK1)
  all_goals
    obtain ⟨k1, k2, k3, k4, k5, k6, k7⟩ := use_facts HB.out HG.out hgs S6.out HG1.out HK1.out
    clear c0 c1
    go_wp2
    go_region
    all_goals go_end0
    exact ⟨rfl, use_fin (Value.int .i64) (Value.int .i64) L 0 k v hp cur hcp (by decide) (by omega) htk HB.out HG.out hgs HG1.out HK1.out rfl rfl rfl rfl⟩

theorem use_ii (c p : Nat) (cap : Int) (r : Value) (k : Int) (v : Int) (L : List (Int × Int)) (w : World) (hlen : L.length ≤ 64) (hp : p < L.length)
    (h : CacheAt w 121 125 c cap r L.length (flat (Value.int .i64) (Value.int .i64) L)) :
    Calls Try.prog 64 #[.pointer (some ⟨c, 0, none⟩), .int .i64 p, .agg #[(Value.int .i64) k, (Value.int .i64) v]] w fun e w' =>
      e = .returned (.tuple #[]) ∧ CacheAt w' 121 125 c cap r L.length (flat (Value.int .i64) (Value.int .i64) (touch L p (k, v))) ∧ Kept (fun j => r.ownBlock = some j) w w' := by
  rcases h.2.2 with ⟨_, h0⟩ | ⟨g, cp, _, rfl, _, _, h1, _⟩
  · omega
  · have hm : ∀ (e : Ending) w', (e = .returned (.tuple #[]) ∧ CacheAt w' 121 125 c cap (.slice (some ⟨g, 0, none⟩) L.length cp) L.length (flat (Value.int .i64) (Value.int .i64) (touch L p (k, v))) ∧ Kept (fun j => j = g) w w') →
      (e = .returned (.tuple #[]) ∧ CacheAt w' 121 125 c cap (.slice (some ⟨g, 0, none⟩) L.length cp) L.length (flat (Value.int .i64) (Value.int .i64) (touch L p (k, v))) ∧ Kept (fun j => (Value.slice (some ⟨g, 0, none⟩) L.length cp).ownBlock = some j) w w') :=
      fun _ _ q => ⟨q.1, q.2.1, q.2.2.mono (fun j _ e => by rw [e]; rfl)⟩
    by_cases hc : cp = 1
    · subst hc
      obtain rfl : p = 0 := by omega
      exact (use_one_ii c g cap k v L w hp h).mono hm
    · exact (use_many_ii c g cp p cap k v L w hlen hp hc h).mono hm
end Go.Proofs.Ytlfmfhmbkpnjbaa

namespace Go.Proofs.Ytlfmfhmbkpnjbaa
open Go.RowKit

/-- A cache of the program's: its capacity, its entries. -/
def Isii (w : World) (c : Nat) (r : Value) (n : Nat) (L : List (Int × Int)) : Prop :=
  CacheAt w 121 125 c n r L.length (flat (Value.int .i64) (Value.int .i64) L)

set_option maxHeartbeats 400000 in
set_option maxRecDepth 100000 in
theorem put_has_ii (c n : Nat) (r : Value) (k : Int) (x : Int) (L : List (Int × Int)) (w : World) (hn : n ≤ 64) (hlen : L.length ≤ n) (hf : fHas L k = true) (h : Isii w c r n L) :
    Calls Try.prog 27 #[.pointer (some ⟨c, 0, none⟩), (Value.int .i64) k, (Value.int .i64) x] w fun e w' =>
      e = .returned (.tuple #[]) ∧ ∃ r', Isii w' c r' n (putL n L (k, x)) ∧ Kept (Foot c r) w w' ∧ NewRow w r r' := by
  have hp := fAt_lt L k hf
  have H := hide h
  clear h
  go_enter Try.func27, Try.ntmps27
  go_wp2_with fail
  refine (find_ii c n r k L _ (by omega) H.out).mono ?_
  rintro e w' ⟨rfl, rfl⟩
  go_wp2_with fail
  refine (use_ii c (fAt L k) n r k x L _ (by omega) hp H.out).mono ?_
  rintro e w2 ⟨rfl, q1, q2⟩
  have Q := hide (And.intro q1 q2)
  clear q1 q2
  go_wp2
  go_end0
  obtain ⟨q1, q2⟩ := Q.out
  refine ⟨rfl, r, ?_, q2.mono (fun j _ e => Or.inr e), Or.inl rfl⟩
  unfold Isii
  rw [putL_has n L (k, x) hf, touch_length L _ _ hp]
  exact q1

set_option maxHeartbeats 400000 in
set_option maxRecDepth 100000 in
theorem put_room_ii (c n : Nat) (r : Value) (k : Int) (x : Int) (L : List (Int × Int)) (w : World) (hn : n ≤ 64) (hlen : L.length < n) (hf : fHas L k = false) (h : Isii w c r n L) :
    Calls Try.prog 27 #[.pointer (some ⟨c, 0, none⟩), (Value.int .i64) k, (Value.int .i64) x] w fun e w' =>
      e = .returned (.tuple #[]) ∧ ∃ r', Isii w' c r' n (putL n L (k, x)) ∧ Kept (Foot c r) w w' ∧ NewRow w r r' := by
  have H := hide h
  clear h
  go_enter Try.func27, Try.ntmps27
  go_wp2_with fail
  refine (find_ii c n r k L _ (by omega) H.out).mono ?_
  rintro e w' ⟨rfl, rfl⟩
  go_wp2_with fail
  refine (place_room_ii c n r L _ (by omega) (by omega) H.out).mono ?_
  rintro e w2 ⟨rfl, r', q1, q2, q3⟩
  have q1' : CacheAt w2 121 125 c n r' (L ++ [(0, 0)]).length (flat (Value.int .i64) (Value.int .i64) (L ++ [(0, 0)])) := by
    rw [flat_append, List.length_append]; exact q1
  have Q := hide (And.intro q1' (And.intro q2 q3))
  clear q1 q2 q3 q1'
  go_wp2_with fail
  refine (use_ii c L.length n r' k x (L ++ [(0, 0)]) _ (by simp; omega) (by simp) Q.out.1).mono ?_
  rintro e w3 ⟨rfl, p1, p2⟩
  have R := hide (And.intro p1 p2)
  clear p1 p2
  go_wp2
  go_end0
  obtain ⟨_, q2, q3⟩ := Q.out
  obtain ⟨p1, p2⟩ := R.out
  refine ⟨rfl, r', ?_, q2.join p2 (fun _ _ e => e) (fun j hj e => ?_), q3⟩
  · unfold Isii
    rw [← putL_room n L (k, x) hf hlen (0, 0), touch_length _ _ _ (by simp)]
    exact p1
  · rcases q3 with q3 | ⟨g, q3, q4⟩
    · exact Or.inr (by rw [← q3]; exact e)
    · rw [q3] at e; simp at e; omega

set_option maxHeartbeats 400000 in
set_option maxRecDepth 100000 in
theorem put_full_ii (c n : Nat) (r : Value) (k : Int) (x : Int) (L : List (Int × Int)) (w : World) (hn0 : 1 ≤ n) (hn : n ≤ 64) (hlen : L.length = n) (hf : fHas L k = false) (h : Isii w c r n L) :
    Calls Try.prog 27 #[.pointer (some ⟨c, 0, none⟩), (Value.int .i64) k, (Value.int .i64) x] w fun e w' =>
      e = .returned (.tuple #[]) ∧ ∃ r', Isii w' c r' n (putL n L (k, x)) ∧ Kept (Foot c r) w w' ∧ NewRow w r r' := by
  have H := hide h
  have hL1 : 1 ≤ L.length := by omega
  have hL2 : L.length ≤ 64 := by omega
  have HL := hide hlen
  clear h hlen
  go_enter Try.func27, Try.ntmps27
  go_wp2_with fail
  refine (find_ii c n r k L _ hL2 H.out).mono ?_
  rintro e w' ⟨rfl, rfl⟩
  go_wp2_with fail
  refine (place_full_ii c n r L _ hL2 hL1 (by have := HL.out; omega) H.out).mono ?_
  rintro e w2 ⟨rfl, nq, hw⟩
  have H2 : Hid (CacheAt w2 121 125 c n r L.length (flat (Value.int .i64) (Value.int .i64) L) ∧ Kept (fun _ => False) w' w2) := by
    subst hw
    refine ⟨⟨by rw [drewN_heap]; exact H.out.1, owns_heap H.out.2 (drewN_heap _ _)⟩, Kept.drewN _ _⟩
  clear hw
  go_wp2_with fail
  rw [show ((L.length : Int) - 1) = ((L.length - 1 : Nat) : Int) from by omega]
  refine (use_ii c (L.length - 1) n r k x L _ hL2 (by omega) H2.out.1).mono ?_
  rintro e w3 ⟨rfl, p1, p2⟩
  have R := hide (And.intro p1 p2)
  clear p1 p2
  go_wp2
  go_end0
  obtain ⟨_, q2⟩ := H2.out
  obtain ⟨p1, p2⟩ := R.out
  refine ⟨rfl, r, ?_, q2.join p2 (fun _ _ e => e.elim) (fun j hj e => Or.inr e), Or.inl rfl⟩
  unfold Isii
  rw [← putL_full n L (k, x) hf (by have := HL.out; omega) hL1, touch_length _ _ _ (by omega)]
  exact p1

theorem put_ii (c n : Nat) (r : Value) (k : Int) (x : Int) (L : List (Int × Int)) (w : World) (hn0 : 1 ≤ n) (hn : n ≤ 64) (hlen : L.length ≤ n) (h : Isii w c r n L) :
    Calls Try.prog 27 #[.pointer (some ⟨c, 0, none⟩), (Value.int .i64) k, (Value.int .i64) x] w fun e w' =>
      e = .returned (.tuple #[]) ∧ ∃ r', Isii w' c r' n (putL n L (k, x)) ∧ Kept (Foot c r) w w' ∧ NewRow w r r' := by
  cases hf : fHas L k with
  | true => exact put_has_ii c n r k x L w hn hlen hf h
  | false =>
    by_cases hl : L.length < n
    · exact put_room_ii c n r k x L w hn hl hf h
    · exact put_full_ii c n r k x L w hn0 hn (by omega) hf h
end Go.Proofs.Ytlfmfhmbkpnjbaa

namespace Go.Proofs.Ytlfmfhmbkpnjbaa
open Go.RowKit

set_option maxHeartbeats 400000 in
set_option maxRecDepth 100000 in
theorem get_none_ii (c n : Nat) (r : Value) (k : Int) (L : List (Int × Int)) (w : World) (hn : n ≤ 64) (hlen : L.length ≤ n) (hf : fHas L k = false) (h : Isii w c r n L) :
    Calls Try.prog 28 #[.pointer (some ⟨c, 0, none⟩), (Value.int .i64) k] w fun e w' =>
      e = .returned (.tuple #[.int .i64 0, .bool false]) ∧ w' = w := by
  have H := hide h
  clear h
  go_enter Try.func28, Try.ntmps28
  go_wp2_with fail
  refine (find_ii c n r k L _ (by omega) H.out).mono ?_
  rintro e w' ⟨rfl, rfl⟩
  go_wp2
  go_ret2
  exact ⟨rfl, rfl⟩

set_option maxHeartbeats 400000 in
set_option maxRecDepth 100000 in
theorem get_has_ii (c n p : Nat) (r : Value) (k : Int) (L : List (Int × Int)) (w : World) (hn : n ≤ 64) (hlen : L.length ≤ n) (hf : fHas L k = true) (hp : p < L.length) (hpf : Hid (fAt L k = p)) (h : Isii w c r n L) :
    Calls Try.prog 28 #[.pointer (some ⟨c, 0, none⟩), (Value.int .i64) k] w fun e w' =>
      e = .returned (.tuple #[(Value.int .i64) L[p].2, .bool true]) ∧ Isii w' c r n (touch L p L[p]) ∧ Kept (Foot c r) w w' := by
  obtain ⟨g, cp, rfl⟩ : ∃ g cp, r = .slice (some ⟨g, 0, none⟩) L.length cp := by
    rcases h.2.2 with ⟨_, h0⟩ | ⟨g, cp, _, rfl, _⟩
    · omega
    · exact ⟨_, _, rfl⟩
  obtain ⟨-, c1, -, -⟩ := two_cells h.1
  have hk := row_cell h.2 (p * 2) _ (flat_key _ _ L p hp)
  have hv := row_cell h.2 (p * 2 + 1) _ (flat_val _ _ L p hp)
  have hcs := heap_lt h.1
  have H := hide h
  clear h
  obtain ⟨k', x', he⟩ : ∃ k' x', L[p] = (k', x') := ⟨_, _, rfl⟩
  rw [he]
  rw [he] at hk hv
  simp only at hk hv
  have HE := hide he
  clear he
  go_enter Try.func28, Try.ntmps28
  go_wp2_with fail
  refine (find_ii c n _ k L _ (by omega) H.out).mono ?_
  rintro e w' ⟨rfl, rfl⟩
  rw [hpf.out]
  go_wp2_with fail
  have HA : Hid (CacheAt (w'.alloc (.cells #[(Value.int .i64) k', (Value.int .i64) x'] 125)) 121 125 c n (.slice (some ⟨g, 0, none⟩) L.length cp) L.length (flat (Value.int .i64) (Value.int .i64) L)) := CacheAt.keep H.out (Kept.alloc _ _) (fun _ _ h => h)
  have HL : Hid (∀ j, Foot c (.slice (some ⟨g, 0, none⟩) L.length cp) j → j < w'.heap.size) := CacheAt.lt H.out
  clear c1 hk hv
  refine (use_ii c p n _ k' x' L _ (by omega) hp HA.out).mono ?_
  rintro e w2 ⟨rfl, q1, q2⟩
  obtain ⟨-, d2, -, -⟩ := two_cells (new_kept q2 (fun e => Nat.lt_irrefl _ (HL.out _ (Or.inr e))))
  have Q := hide (And.intro q1 q2)
  clear q1 q2
  go_wp2
  go_ret2
  obtain ⟨q1, q2⟩ := Q.out
  refine ⟨rfl, ?_, (Kept.alloc _ _).join q2 (fun _ _ e => e.elim) (fun _ _ e => Or.inr e)⟩
  unfold Isii
  rw [touch_length L _ _ hp]
  exact q1

/-- What 'Get' answers, and leaves. -/
def getL_ii (L : List (Int × Int)) (k : Int) : Int × Bool × List (Int × Int) :=
  if h : idx L k < L.length then (L[idx L k].2, true, touch L (idx L k) L[idx L k]) else (0, false, L)

theorem get_ii (c n : Nat) (r : Value) (k : Int) (L : List (Int × Int)) (w : World) (hn : n ≤ 64) (hlen : L.length ≤ n) (h : Isii w c r n L) :
    Calls Try.prog 28 #[.pointer (some ⟨c, 0, none⟩), (Value.int .i64) k] w fun e w' =>
      e = .returned (.tuple #[(Value.int .i64) (getL_ii L k).1, .bool (getL_ii L k).2.1]) ∧ Isii w' c r n (getL_ii L k).2.2 ∧ Kept (Foot c r) w w' := by
  by_cases hi : idx L k < L.length
  · have hf : fHas L k = true := by simp [fHas, hi]
    have hp : fAt L k = idx L k := by simp [fAt, hi]
    have e1 : getL_ii L k = (L[idx L k].2, true, touch L (idx L k) L[idx L k]) := by simp [getL_ii, hi]
    rw [e1]
    exact get_has_ii c n (idx L k) r k L w hn hlen hf hi hp h
  · have hf : fHas L k = false := by simp [fHas, hi]
    have e1 : getL_ii L k = (0, false, L) := by simp [getL_ii, hi]
    rw [e1]
    refine (get_none_ii c n r k L w hn hlen hf h).mono ?_
    rintro e w' ⟨rfl, rfl⟩
    exact ⟨rfl, h, Kept.refl _ _⟩
end Go.Proofs.Ytlfmfhmbkpnjbaa

namespace Go.Proofs.Ytlfmfhmbkpnjbaa
open Go.RowKit
theorem info_key_ii : (Try.prog.info? 3).map (fun i => (i.zero, i.size, i.bytes)) = some (some (.int .i64 0), 1, 8) := by kernel_rfl

def keyCells_ii (L : List (Int × Int)) : List Value := L.map (fun p => (Value.int .i64) p.1)
theorem keyCells_len_ii (L : List (Int × Int)) : (keyCells_ii L).length = L.length := by simp [keyCells_ii]

set_option maxHeartbeats 400000 in
set_option maxRecDepth 100000 in
theorem keys_row_ii (c n g cp : Nat) (L : List (Int × Int)) (w : World) (hn : n ≤ 64) (hlen : L.length ≤ n) (h : Isii w c (.slice (some ⟨g, 0, none⟩) L.length cp) n L) :
    Calls Try.prog 29 #[.pointer (some ⟨c, 0, none⟩)] w fun e w' =>
      e = .returned (.slice (some ⟨w.heap.size, 0, none⟩) L.length L.length) ∧ w'.heap[w.heap.size]? = some (.cells (keyCells_ii L).toArray 3 (0, 0)) ∧ Kept (fun _ => False) w w' := by
  obtain ⟨i0, hi, hz0, hz1, hz2⟩ := info_parts info_key_ii
  obtain ⟨-, c1, -, -⟩ := two_cells h.1
  have H := hide h
  clear h
  go_enter Try.func29, Try.ntmps29
  go_wp2_with (at_make; refine wpList_make_full _ rfl (.tmp 9) (.tmp 9) 53 rfl 0 3 i0 (.int .i64 0) 1 Try.underlying53 hi hz0 hz1 .i64 .i64 _ _ L.length rfl rfl rfl rfl ?c1 ?c2 ?c3 ?_)
  case c1 => rw [hz2]; omega
  case c2 => unfold maxLen; omega
  case c3 => omega
  intro w1 hown1 hgrow1
  have HF : Hid (Filling w w1 3 (keyCells_ii L) 0) := Filling.start (by rw [keyCells_len_ii]; exact hown1) hgrow1
  have d1 : w1.cell? ⟨c, 1, none⟩ = some (.slice (some ⟨g, 0, none⟩) L.length cp) := (two_cells (CacheAt.keep H.out HF.out.kept (fun _ _ e => e)).1).2.1
  clear hown1 hgrow1 c1 hi hz0 hz1 hz2
  go_wp2
  go_loopw [16] (fun t wr => ∃ i : Nat, i ≤ L.length ∧ t = .int .i64 i ∧ Hid (Filling w wr 3 (keyCells_ii L) i)) (fun t _ => L.length - (intOf t).toNat)
  case atStart => exact ⟨0, Nat.zero_le _, rfl, HF⟩
  case round =>
    obtain ⟨i, hil, rfl, HR⟩ := hrel
    clear HF d1
    have HC : Hid (Isii wr c (.slice (some ⟨g, 0, none⟩) L.length cp) n L) := CacheAt.keep H.out HR.out.kept (fun _ _ e => e)
    by_cases hlt : i < L.length
    · have d1 := (two_cells HC.out.1).2.1
      have hk := row_cell HC.out.2 (i * 2) _ (flat_key _ _ L i hlt)
      obtain ⟨old, o1, o2⟩ := HR.out.cell (by rw [keyCells_len_ii]; exact hlt)
      have HS : Hid (Filling w (wr.setCell ⟨w.heap.size, i, none⟩ ((Value.int .i64) L[i].1)) 3 (keyCells_ii L) (i + 1)) := HR.out.step _ (by simp [keyCells_ii, hlt])
      clear HC HR
      go_wp2
      go_roundw
      case rel => exact ⟨i + 1, by omega, by go_num, HS⟩
      case measure => simp [intOf]; omega
    · have HD : Hid (wr.heap[w.heap.size]? = some (.cells (keyCells_ii L).toArray 3 (0, 0)) ∧ Kept (fun _ => False) w wr) := HR.out.done (by rw [keyCells_len_ii]; omega)
      clear HC HR
      go_wp2
      go_ret
      exact ⟨rfl, HD.out⟩

set_option maxHeartbeats 400000 in
set_option maxRecDepth 100000 in
theorem keys_nil_ii (c : Nat) (cap : Int) (w : World) (h : w.heap[c]? = some (.cells #[.int .i64 cap, .slice none 0 0] 121 (0, 0))) :
    Calls Try.prog 29 #[.pointer (some ⟨c, 0, none⟩)] w fun e w' =>
      e = .returned (.slice (some ⟨w.heap.size, 0, none⟩) 0 0) ∧ w'.heap[w.heap.size]? = some (.cells #[] 3 (0, 0)) ∧ Kept (fun _ => False) w w' := by
  obtain ⟨i0, hi, hz0, hz1, hz2⟩ := info_parts info_key_ii
  obtain ⟨-, c1, -, -⟩ := two_cells h
  have H := hide h
  clear h
  go_enter Try.func29, Try.ntmps29
  go_wp2_with (at_make; refine wpList_make_full _ rfl (.tmp 9) (.tmp 9) 53 rfl 0 3 i0 (.int .i64 0) 1 Try.underlying53 hi hz0 hz1 .i64 .i64 _ _ 0 rfl rfl rfl rfl ?c1 ?c2 ?c3 ?_)
  case c1 => rw [hz2]; omega
  case c2 => unfold maxLen; omega
  case c3 => omega
  intro w1 hown1 hgrow1
  have HF : Hid (Filling w w1 3 [] 0) := Filling.start hown1 hgrow1
  have d1 : w1.cell? ⟨c, 1, none⟩ = some (.slice none 0 0) := (two_cells (by rw [HF.out.kept.block c (heap_lt H.out) (fun e => e)]; exact H.out)).2.1
  clear hown1 hgrow1 c1 hi hz0 hz1 hz2
  go_wp2
  refine wp_loop_rounds 1 ?_
  rw [rounds_succ]
  go_wp2
  go_ret
  exact ⟨rfl, HF.out.done (Nat.le_refl _)⟩

theorem keys_ii (c n : Nat) (r : Value) (L : List (Int × Int)) (w : World) (hn : n ≤ 64) (hlen : L.length ≤ n) (h : Isii w c r n L) :
    Calls Try.prog 29 #[.pointer (some ⟨c, 0, none⟩)] w fun e w' =>
      e = .returned (.slice (some ⟨w.heap.size, 0, none⟩) L.length L.length) ∧ w'.heap[w.heap.size]? = some (.cells (keyCells_ii L).toArray 3 (0, 0)) ∧ Kept (fun _ => False) w w' := by
  rcases h.2.2 with ⟨rfl, h0⟩ | ⟨g, cp, _, rfl, _⟩
  · obtain rfl : L = [] := List.eq_nil_of_length_eq_zero h0
    exact keys_nil_ii c n w h.1
  · exact keys_row_ii c n g cp L w hn hlen h
end Go.Proofs.Ytlfmfhmbkpnjbaa

namespace Go.Proofs.Ytlfmfhmbkpnjbaa
open Go.RowKit

set_option maxHeartbeats 400000 in
theorem new_bad_ii (n : Int) (w : World) (h : n < 1 ∨ 64 < n) :
    Calls Try.prog 26 #[.int .i64 n] w fun e w' => e = .returned (.tuple #[.pointer none, .int .i64 1]) ∧ w' = w := by
  rcases h with h | h
  · go_enter Try.func26, Try.ntmps26
    go_wp2
    go_ret2
    exact ⟨rfl, rfl⟩
  · have h' : ¬ n < 1 := by omega
    go_enter Try.func26, Try.ntmps26
    go_wp2
    go_ret2
    exact ⟨rfl, rfl⟩

set_option maxHeartbeats 400000 in
theorem new_good_ii (n : Nat) (w : World) (h1 : 1 ≤ n) (h2 : n ≤ 64) :
    Calls Try.prog 26 #[.int .i64 n] w fun e w' => e = .returned (.tuple #[.pointer (some ⟨w.heap.size, 0, none⟩), .int .i64 0]) ∧ Isii w' w.heap.size (.slice none 0 0) n [] ∧ Kept (fun _ => False) w w' := by
  have hw : Hid (Isii (w.alloc (.cells #[.int .i64 n, .slice none 0 0] 121)) w.heap.size (.slice none 0 0) n [] ∧ Kept (fun _ => False) w (w.alloc (.cells #[.int .i64 n, .slice none 0 0] 121))) :=
    ⟨⟨heap_alloc_new w _, World.ownsRow_nil _ _ _ _⟩, Kept.alloc _ _⟩
  have h3 : ¬ (n : Int) < 1 := by omega
  have h4 : ¬ (64 : Int) < (n : Int) := by omega
  go_enter Try.func26, Try.ntmps26
  go_wp2
  go_ret2
  exact ⟨rfl, hw.out⟩
end Go.Proofs.Ytlfmfhmbkpnjbaa
