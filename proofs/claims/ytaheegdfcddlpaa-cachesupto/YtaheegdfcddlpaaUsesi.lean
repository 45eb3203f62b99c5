import Derived.Test.YtaheegdfcddlpaaBase
import Derived.Test.YtaheegdfcddlpaaRows
namespace Go.Proofs.Ytaheegdfcddlpaa
open Go.RowKit
theorem size_entry_si : (Try.prog.info? 95).map (·.size) = some 2 := by kernel_rfl

set_option maxHeartbeats 400000 in
set_option maxRecDepth 100000 in
theorem use_many_si (c g cp p : Nat) (cap : Int) (k : ByteArray) (v : Int) (L : List (ByteArray × Int)) (w : World) (hlen : L.length ≤ 64) (hp : p < L.length) (hcp1 : ¬ cp = 1)
    (h : CacheAt w 89 95 c cap (.slice (some ⟨g, 0, none⟩) L.length cp) L.length (flat Value.string (Value.int .i64) L)) :
    Calls Try.prog 35 #[.pointer (some ⟨c, 0, none⟩), .int .i64 p, .agg #[Value.string k, (Value.int .i64) v]] w fun e w' =>
      e = .returned (.tuple #[]) ∧ CacheAt w' 89 95 c cap (.slice (some ⟨g, 0, none⟩) L.length cp) L.length (flat Value.string (Value.int .i64) (touch L p (k, v))) ∧ Kept (fun j => j = g) w w' := by
  have hne := h.ne (by decide)
  obtain ⟨hb, hown⟩ := h
  obtain ⟨c0, c1, -, -⟩ := two_cells hb
  obtain ⟨cur, hcp, hcm, hcell, hsz, htk⟩ : ∃ cur : List Value, L.length ≤ cp ∧ cp ≤ maxLen ∧ w.heap[g]? = some (.cells cur.toArray 95 (0, 0)) ∧ cur.length = cp * 2 ∧ cur.take (L.length * 2) = flat Value.string (Value.int .i64) L := by
    rcases hown.2 with ⟨h0, _⟩ | ⟨g', cp', cur, e, _, hh, h1, h2, h3, h4⟩
    · cases h0
    · simp only [Value.slice.injEq, Option.some.injEq, Addr.mk.injEq, and_true, true_and] at e
      obtain ⟨rfl, rfl⟩ := e
      exact ⟨cur.toList, h1, h2, hh, by simpa using h3, h4⟩
  have hcg : c < w.heap.size ∧ g < w.heap.size := ⟨heap_lt hb, heap_lt hcell⟩
  obtain ⟨hcs, hgs⟩ := hcg
  have S1 : Hid (∀ o, ((w.alloc o).drew).heap[g]? = some (.cells cur.toArray 95 (0, 0))) := fun o => (Below.heap_alloc w o g hgs).trans hcell
  have S3 : Hid ((flat Value.string (Value.int .i64) (L.take p)).length = p * 2) := by
    show _ = _
    rw [flat_length, List.length_take]; congr 1; omega
  have S4 : Hid (2 + (flat Value.string (Value.int .i64) (L.take p)).length ≤ cur.length) := by
    show _ ≤ _
    rw [S3.out]; omega
  have S5 : Hid (∀ u ∈ flat Value.string (Value.int .i64) (L.take p), u.oneCell' = true) := flat_one _ _ (fun _ => rfl) (fun _ => rfl) _
  have S2 : Hid (∀ o j u, (flat Value.string (Value.int .i64) (L.take p))[j]? = some u → ((w.alloc o).drew).cell? ((⟨g, 0, none⟩ : Addr).add j) = some u) := by
    intro o j u hj
    rw [addr_add, cell_block (S1.out o)]
    rw [← flat_take, ← htk] at hj
    have hj' : j < L.length * 2 ∧ j < p * 2 := by
      have := (List.getElem?_eq_some_iff.1 hj).1
      simp only [List.length_take] at this
      omega
    rw [List.getElem?_take_of_lt hj'.2, List.getElem?_take_of_lt hj'.1] at hj
    simpa using hj
  have S6 : Hid (2 ≤ (splice cur 2 (flat Value.string (Value.int .i64) (L.take p))).length) := by
    show _ ≤ _
    rw [length_splice _ _ _ S4.out]; omega
  have HG : Hid (g ≠ c) := fun e => hne (by rw [← e]; rfl)
  have HC := hide hcell
  have HO := hide hown
  have HB := hide hb
  have HN := hide hne
  have HM := hide hcm
  clear hown hb hne hcell hcm
  have a1 : IntKind.i64.wrap ((p : Int) + 1) = (p : Int) + 1 := wrap_id _ (by omega)
  have a2 : (0 : Int) ≤ (p : Int) + 1 := by omega
  have a3 : (p : Int) + 1 ≤ (cp : Int) := by omega
  have a4 : (1 : Int) ≤ (p : Int) + 1 := by omega
  have a6 : ((p : Int) + 1).toNat - 1 = p := by omega
  have a7 : (p : Int) ≤ (cp : Int) := by omega
  have a8 : (p : Int).toNat = p := by omega
  go_enter Try.func35, Try.ntmps35
  go_wp2
  go_region_law (refine step_copy_mine rfl (.tmp 12) (.tmp 18) 87 87 rfl 95 2 Try.underlying87 size_entry_si (some ⟨g, 2, none⟩) (some ⟨g, 0, none⟩) p (cp - 1) p cp (by simp [Act.eval, Act.put]) (by simp [Act.eval, Act.put]) g 2 cur 95 (S1.out _) p (Nat.min_self p) (flat Value.string (Value.int .i64) (L.take p)) S3.out (fun _ => ⟨rfl, _, rfl, S2.out _⟩) S4.out S5.out ?_; intro w1 HG1 HK1)
  all_goals
    obtain ⟨k1, k2, k3, k4, k5, k6, k7⟩ := use_facts HB.out HG.out hgs S6.out HG1.out HK1.out
    clear c0 c1
    go_wp2
    go_region
    all_goals go_end0
    exact ⟨rfl, use_fin Value.string (Value.int .i64) L p k v hp cur hcp HM.out hsz htk HB.out HG.out hgs HG1.out HK1.out rfl rfl rfl rfl⟩
set_option maxHeartbeats 400000 in
set_option maxRecDepth 100000 in
theorem use_one_si (c g : Nat) (cap : Int) (k : ByteArray) (v : Int) (L : List (ByteArray × Int)) (w : World) (hp : 0 < L.length)
    (h : CacheAt w 89 95 c cap (.slice (some ⟨g, 0, none⟩) L.length 1) L.length (flat Value.string (Value.int .i64) L)) :
    Calls Try.prog 35 #[.pointer (some ⟨c, 0, none⟩), .int .i64 0, .agg #[Value.string k, (Value.int .i64) v]] w fun e w' =>
      e = .returned (.tuple #[]) ∧ CacheAt w' 89 95 c cap (.slice (some ⟨g, 0, none⟩) L.length 1) L.length (flat Value.string (Value.int .i64) (touch L 0 (k, v))) ∧ Kept (fun j => j = g) w w' := by
  have hne := h.ne (by decide)
  obtain ⟨hb, hown⟩ := h
  obtain ⟨c0, c1, -, -⟩ := two_cells hb
  obtain ⟨cur, hcp, hcell, hsz, htk⟩ : ∃ cur : List Value, L.length ≤ 1 ∧ w.heap[g]? = some (.cells cur.toArray 95 (0, 0)) ∧ cur.length = 2 ∧ cur.take (L.length * 2) = flat Value.string (Value.int .i64) L := by
    rcases hown.2 with ⟨h0, _⟩ | ⟨g', cp', cur, e, _, hh, h1, _, h3, h4⟩
    · cases h0
    · simp only [Value.slice.injEq, Option.some.injEq, Addr.mk.injEq, and_true, true_and] at e
      obtain ⟨rfl, rfl⟩ := e
      exact ⟨cur.toList, h1, hh, by simpa using h3, h4⟩
  have hcg : c < w.heap.size ∧ g < w.heap.size := ⟨heap_lt hb, heap_lt hcell⟩
  obtain ⟨hcs, hgs⟩ := hcg
  have S1 : Hid (∀ o, ((w.alloc o).drew).heap[g]? = some (.cells cur.toArray 95 (0, 0))) := fun o => (Below.heap_alloc w o g hgs).trans hcell
  have S3 : Hid ((flat Value.string (Value.int .i64) (L.take 0)).length = 0 * 2) := by
    show _ = _
    simp [flat]
  have S4 : Hid (2 + (flat Value.string (Value.int .i64) (L.take 0)).length ≤ cur.length) := by
    show _ ≤ _
    rw [S3.out]; omega
  have S5 : Hid (∀ u ∈ flat Value.string (Value.int .i64) (L.take 0), u.oneCell' = true) := flat_one _ _ (fun _ => rfl) (fun _ => rfl) _
  have S6 : Hid (2 ≤ (splice cur 2 (flat Value.string (Value.int .i64) (L.take 0))).length) := by
    show _ ≤ _
    rw [length_splice _ _ _ S4.out]; omega
  have HG : Hid (g ≠ c) := fun e => hne (by rw [← e]; rfl)
  have HC := hide hcell
  have HO := hide hown
  have HB := hide hb
  have HN := hide hne
  clear hown hb hne hcell
  have a1 : IntKind.i64.wrap (1 : Int) = 1 := wrap_id _ (by omega)
  go_enter Try.func35, Try.ntmps35
  go_wp2
  go_region_law (refine step_copy_mine rfl (.tmp 12) (.tmp 18) 87 87 rfl 95 2 Try.underlying87 size_entry_si (some ⟨g, 0, none⟩) (some ⟨g, 0, none⟩) 0 0 0 1 (by simp [Act.eval, Act.put]) (by simp [Act.eval, Act.put]) g 2 cur 95 (S1.out _) 0 (Nat.min_self 0) (flat Value.string (Value.int .i64) (L.take 0)) S3.out (fun h => absurd h (by decide)) S4.out S5.out ?_; intro w1 HG1 HK1)
  all_goals
    obtain ⟨k1, k2, k3, k4, k5, k6, k7⟩ := use_facts HB.out HG.out hgs S6.out HG1.out HK1.out
    clear c0 c1
    go_wp2
    go_region
    all_goals go_end0
    exact ⟨rfl, use_fin Value.string (Value.int .i64) L 0 k v hp cur hcp (by decide) (by omega) htk HB.out HG.out hgs HG1.out HK1.out rfl rfl rfl rfl⟩

theorem use_si (c p : Nat) (cap : Int) (r : Value) (k : ByteArray) (v : Int) (L : List (ByteArray × Int)) (w : World) (hlen : L.length ≤ 64) (hp : p < L.length)
    (h : CacheAt w 89 95 c cap r L.length (flat Value.string (Value.int .i64) L)) :
    Calls Try.prog 35 #[.pointer (some ⟨c, 0, none⟩), .int .i64 p, .agg #[Value.string k, (Value.int .i64) v]] w fun e w' =>
      e = .returned (.tuple #[]) ∧ CacheAt w' 89 95 c cap r L.length (flat Value.string (Value.int .i64) (touch L p (k, v))) ∧ Kept (fun j => r.ownBlock = some j) w w' := by
  rcases h.2.2 with ⟨_, h0⟩ | ⟨g, cp, _, rfl, _, _, h1, _⟩
  · omega
  · have hm : ∀ (e : Ending) w', (e = .returned (.tuple #[]) ∧ CacheAt w' 89 95 c cap (.slice (some ⟨g, 0, none⟩) L.length cp) L.length (flat Value.string (Value.int .i64) (touch L p (k, v))) ∧ Kept (fun j => j = g) w w') →
      (e = .returned (.tuple #[]) ∧ CacheAt w' 89 95 c cap (.slice (some ⟨g, 0, none⟩) L.length cp) L.length (flat Value.string (Value.int .i64) (touch L p (k, v))) ∧ Kept (fun j => (Value.slice (some ⟨g, 0, none⟩) L.length cp).ownBlock = some j) w w') :=
      fun _ _ q => ⟨q.1, q.2.1, q.2.2.mono (fun j _ e => by rw [e]; rfl)⟩
    by_cases hc : cp = 1
    · subst hc
      obtain rfl : p = 0 := by omega
      exact (use_one_si c g cap k v L w hp h).mono hm
    · exact (use_many_si c g cp p cap k v L w hlen hp hc h).mono hm
end Go.Proofs.Ytaheegdfcddlpaa
