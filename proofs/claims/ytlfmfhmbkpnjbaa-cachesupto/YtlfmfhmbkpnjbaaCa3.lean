import Derived.Test.YtlfmfhmbkpnjbaaCa1
import Derived.Test.YtlfmfhmbkpnjbaaRows
import Derived.Test.YtlfmfhmbkpnjbaaCa2
namespace Go.Proofs.Ytlfmfhmbkpnjbaa
open Go.RowKit
theorem size_entry_si : (Try.prog.info? 138).map (·.size) = some 2 := by kernel_rfl

set_option maxHeartbeats 400000 in
set_option maxRecDepth 100000 in
theorem use_many_si (c g cp p : Nat) (cap : Int) (k : ByteArray) (v : Int) (L : List (ByteArray × Int)) (w : World) (hlen : L.length ≤ 64) (hp : p < L.length) (hcp1 : ¬ cp = 1)
    (h : CacheAt w 132 138 c cap (.slice (some ⟨g, 0, none⟩) L.length cp) L.length (flat Value.string (Value.int .i64) L)) :
    Calls Try.prog 71 #[.pointer (some ⟨c, 0, none⟩), .int .i64 p, .agg #[Value.string k, (Value.int .i64) v]] w fun e w' =>
      e = .returned (.tuple #[]) ∧ CacheAt w' 132 138 c cap (.slice (some ⟨g, 0, none⟩) L.length cp) L.length (flat Value.string (Value.int .i64) (touch L p (k, v))) ∧ Kept (fun j => j = g) w w' := by
  have hne := h.ne (by decide)
  obtain ⟨hb, hown⟩ := h
  obtain ⟨c0, c1, -, -⟩ := two_cells hb
  obtain ⟨cur, hcp, hcm, hcell, hsz, htk⟩ : ∃ cur : List Value, L.length ≤ cp ∧ cp ≤ maxLen ∧ w.heap[g]? = some (.cells cur.toArray 138 (0, 0)) ∧ cur.length = cp * 2 ∧ cur.take (L.length * 2) = flat Value.string (Value.int .i64) L := by
    rcases hown.2 with ⟨h0, _⟩ | ⟨g', cp', cur, e, _, hh, h1, h2, h3, h4⟩
    · cases h0
    · simp only [Value.slice.injEq, Option.some.injEq, Addr.mk.injEq, and_true, true_and] at e
      obtain ⟨rfl, rfl⟩ := e
      exact ⟨cur.toList, h1, h2, hh, by simpa using h3, h4⟩
  have hcg : c < w.heap.size ∧ g < w.heap.size := ⟨heap_lt hb, heap_lt hcell⟩
  obtain ⟨hcs, hgs⟩ := hcg
  have S1 : Hid (∀ o, ((w.alloc o).drew).heap[g]? = some (.cells cur.toArray 138 (0, 0))) := fun o => (Below.heap_alloc w o g hgs).trans hcell
  have S3 : Hid ((flat Value.string (Value.int .i64) (L.take p)).length = p * 2) := by
    show _ = _
    rw [flat_length, List.length_take]; congr 1; omega
  have S4 : Hid (2 + (flat Value.string (Value.int .i64) (L.take p)).length ≤ cur.length) := by
    show _ ≤ _
    rw [S3.out]; omega
  have S5 : Hid (∀ u ∈ flat Value.string (Value.int .i64) (L.take p), u.oneCell' = true) := flat_one _ _ (fun _ => rfl) (fun _ => rfl) _
  have S2 : Hid (∀ o j u, (flat Value.string (Value.int .i64) (L.take p))[j]? = some u → ((w.alloc o).drew).cell? ((⟨g, 0, none⟩ : Addr).add j) = some u) := by
    intro o j u hj
    rw [addr_add, cell_block (S1.out o)]
    rw [← flat_take, ← htk] at hj
    have hj' : j < L.length * 2 ∧ j < p * 2 := by
      have := (List.getElem?_eq_some_iff.1 hj).1
      simp only [List.length_take] at this
      omega
    rw [List.getElem?_take_of_lt hj'.2, List.getElem?_take_of_lt hj'.1] at hj
    simpa using hj
  have S6 : Hid (2 ≤ (splice cur 2 (flat Value.string (Value.int .i64) (L.take p))).length) := by
    show _ ≤ _
    rw [length_splice _ _ _ S4.out]; omega
  have HG : Hid (g ≠ c) := fun e => hne (by rw [← e]; rfl)
  have HC := hide hcell
  have HO := hide hown
  have HB := hide hb
  have HN := hide hne
  have HM := hide hcm
  clear hown hb hne hcell hcm
  have a1 : IntKind.i64.wrap ((p : Int) + 1) = (p : Int) + 1 := wrap_id _ (by omega)
  have a2 : (0 : Int) ≤ (p : Int) + 1 := by omega
  have a3 : (p : Int) + 1 ≤ (cp : Int) := by omega
  have a4 : (1 : Int) ≤ (p : Int) + 1 := by omega
  have a6 : ((p : Int) + 1).toNat - 1 = p := by omega
  have a7 : (p : Int) ≤ (cp : Int) := by omega
  have a8 : (p : Int).toNat = p := by omega
  go_enter Try.func71, Try.ntmps71
  go_wp2
  go_region_law (refine step_copy_mine rfl (.tmp 12) (.tmp 18) 130 130 rfl 138 2 Try.underlying130 size_entry_si (some ⟨g, 2, none⟩) (some ⟨g, 0, none⟩) p (cp - 1) p cp (by simp [Act.eval, Act.put]) (by simp [Act.eval, Act.put]) g 2 cur 138 (S1.out _) p (Nat.min_self p) (flat Value.string (Value.int .i64) (L.take p)) S3.out (fun _ => ⟨rfl, _, rfl, S2.out _⟩) S4.out S5.out ?_; intro w1 HG1 HK1)
  all_goals
    obtain ⟨k1, k2, k3, k4, k5, k6, k7⟩ := use_facts HB.out HG.out hgs S6.out HG1.out HK1.out
    clear c0 c1
    go_wp2
    go_region
    all_goals go_end0
    exact ⟨rfl, use_fin Value.string (Value.int .i64) L p k v hp cur hcp HM.out hsz htk HB.out HG.out hgs HG1.out HK1.out rfl rfl rfl rfl⟩
set_option maxHeartbeats 400000 in
set_option maxRecDepth 100000 in
theorem use_one_si (c g : Nat) (cap : Int) (k : ByteArray) (v : Int) (L : List (ByteArray × Int)) (w : World) (hp : 0 < L.length)
    (h : CacheAt w 132 138 c cap (.slice (some ⟨g, 0, none⟩) L.length 1) L.length (flat Value.string (Value.int .i64) L)) :
    Calls Try.prog 71 #[.pointer (some ⟨c, 0, none⟩), .int .i64 0, .agg #[Value.string k, (Value.int .i64) v]] w fun e w' =>
      e = .returned (.tuple #[]) ∧ CacheAt w' 132 138 c cap (.slice (some ⟨g, 0, none⟩) L.length 1) L.length (flat Value.string (Value.int .i64) (touch L 0 (k, v))) ∧ Kept (fun j => j = g) w w' := by
  have hne := h.ne (by decide)
  obtain ⟨hb, hown⟩ := h
  obtain ⟨c0, c1, -, -⟩ := two_cells hb
  obtain ⟨cur, hcp, hcell, hsz, htk⟩ : ∃ cur : List Value, L.length ≤ 1 ∧ w.heap[g]? = some (.cells cur.toArray 138 (0, 0)) ∧ cur.length = 2 ∧ cur.take (L.length * 2) = flat Value.string (Value.int .i64) L := by
    rcases hown.2 with ⟨h0, _⟩ | ⟨g', cp', cur, e, _, hh, h1, _, h3, h4⟩
    · cases h0
    · simp only [Value.slice.injEq, Option.some.injEq, Addr.mk.injEq, and_true, true_and] at e
      obtain ⟨rfl, rfl⟩ := e
      exact ⟨cur.toList, h1, hh, by simpa using h3, h4⟩
  have hcg : c < w.heap.size ∧ g < w.heap.size := ⟨heap_lt hb, heap_lt hcell⟩
  obtain ⟨hcs, hgs⟩ := hcg
  have S1 : Hid (∀ o, ((w.alloc o).drew).heap[g]? = some (.cells cur.toArray 138 (0, 0))) := fun o => (Below.heap_alloc w o g hgs).trans hcell
  have S3 : Hid ((flat Value.string (Value.int .i64) (L.take 0)).length = 0 * 2) := by
    show _ = _
    simp [flat]
  have S4 : Hid (2 + (flat Value.string (Value.int .i64) (L.take 0)).length ≤ cur.length) := by
    show _ ≤ _
    rw [S3.out]; omega
  have S5 : Hid (∀ u ∈ flat Value.string (Value.int .i64) (L.take 0), u.oneCell' = true) := flat_one _ _ (fun _ => rfl) (fun _ => rfl) _
  have S6 : Hid (2 ≤ (splice cur 2 (flat Value.string (Value.int .i64) (L.take 0))).length) := by
    show _ ≤ _
    rw [length_splice _ _ _ S4.out]; omega
  have HG : Hid (g ≠ c) := fun e => hne (by rw [← e]; rfl)
  have HC := hide hcell
  have HO := hide hown
  have HB := hide hb
  have HN := hide hne
  clear hown hb hne hcell
  have a1 : IntKind.i64.wrap (1 : Int) = 1 := wrap_id _ (by omega)
  go_enter Try.func71, Try.ntmps71
  go_wp2
  go_region_law (refine step_copy_mine rfl (.tmp 12) (.tmp 18) 130 130 rfl 138 2 Try.underlying130 size_entry_si (some ⟨g, 0, none⟩) (some ⟨g, 0, none⟩) 0 0 0 1 (by simp [Act.eval, Act.put]) (by simp [Act.eval, Act.put]) g 2 cur 138 (S1.out _) 0 (Nat.min_self 0) (flat Value.string (Value.int .i64) (L.take 0)) S3.out (fun h => absurd h (by decide)) S4.out S5.out ?_; intro w1 HG1 HK1)
  all_goals
    obtain ⟨k1, k2, k3, k4, k5, k6, k7⟩ := use_facts HB.out HG.out hgs S6.out HG1.out HK1.out
    clear c0 c1
    go_wp2
    go_region
    all_goals go_end0
    exact ⟨rfl, use_fin Value.string (Value.int .i64) L 0 k v hp cur hcp (by decide) (by omega) htk HB.out HG.out hgs HG1.out HK1.out rfl rfl rfl rfl⟩

theorem use_si (c p : Nat) (cap : Int) (r : Value) (k : ByteArray) (v : Int) (L : List (ByteArray × Int)) (w : World) (hlen : L.length ≤ 64) (hp : p < L.length)
    (h : CacheAt w 132 138 c cap r L.length (flat Value.string (Value.int .i64) L)) :
    Calls Try.prog 71 #[.pointer (some ⟨c, 0, none⟩), .int .i64 p, .agg #[Value.string k, (Value.int .i64) v]] w fun e w' =>
      e = .returned (.tuple #[]) ∧ CacheAt w' 132 138 c cap r L.length (flat Value.string (Value.int .i64) (touch L p (k, v))) ∧ Kept (fun j => r.ownBlock = some j) w w' := by
  rcases h.2.2 with ⟨_, h0⟩ | ⟨g, cp, _, rfl, _, _, h1, _⟩
  · omega
  · have hm : ∀ (e : Ending) w', (e = .returned (.tuple #[]) ∧ CacheAt w' 132 138 c cap (.slice (some ⟨g, 0, none⟩) L.length cp) L.length (flat Value.string (Value.int .i64) (touch L p (k, v))) ∧ Kept (fun j => j = g) w w') →
      (e = .returned (.tuple #[]) ∧ CacheAt w' 132 138 c cap (.slice (some ⟨g, 0, none⟩) L.length cp) L.length (flat Value.string (Value.int .i64) (touch L p (k, v))) ∧ Kept (fun j => (Value.slice (some ⟨g, 0, none⟩) L.length cp).ownBlock = some j) w w') :=
      fun _ _ q => ⟨q.1, q.2.1, q.2.2.mono (fun j _ e => by rw [e]; rfl)⟩
    by_cases hc : cp = 1
    · subst hc
      obtain rfl : p = 0 := by omega
      exact (use_one_si c g cap k v L w hp h).mono hm
    · exact (use_many_si c g cp p cap k v L w hlen hp hc h).mono hm
end Go.Proofs.Ytlfmfhmbkpnjbaa

namespace Go.Proofs.Ytlfmfhmbkpnjbaa
open Go.RowKit

/-- A cache of the program's: its capacity, its entries. -/
def Issi (w : World) (c : Nat) (r : Value) (n : Nat) (L : List (ByteArray × Int)) : Prop :=
  CacheAt w 132 138 c n r L.length (flat Value.string (Value.int .i64) L)

set_option maxHeartbeats 400000 in
set_option maxRecDepth 100000 in
theorem put_has_si (c n : Nat) (r : Value) (k : ByteArray) (x : Int) (L : List (ByteArray × Int)) (w : World) (hn : n ≤ 64) (hlen : L.length ≤ n) (hf : fHas L k = true) (h : Issi w c r n L) :
    Calls Try.prog 36 #[.pointer (some ⟨c, 0, none⟩), Value.string k, (Value.int .i64) x] w fun e w' =>
      e = .returned (.tuple #[]) ∧ ∃ r', Issi w' c r' n (putL n L (k, x)) ∧ Kept (Foot c r) w w' ∧ NewRow w r r' := by
  have hp := fAt_lt L k hf
  have H := hide h
  clear h
  go_enter Try.func36, Try.ntmps36
  go_wp2_with fail
  refine (find_si c n r k L _ (by omega) H.out).mono ?_
  rintro e w' ⟨rfl, rfl⟩
  go_wp2_with fail
  refine (use_si c (fAt L k) n r k x L _ (by omega) hp H.out).mono ?_
  rintro e w2 ⟨rfl, q1, q2⟩
  have Q := hide (And.intro q1 q2)
  clear q1 q2
  go_wp2
  go_end0
  obtain ⟨q1, q2⟩ := Q.out
  refine ⟨rfl, r, ?_, q2.mono (fun j _ e => Or.inr e), Or.inl rfl⟩
  unfold Issi
  rw [putL_has n L (k, x) hf, touch_length L _ _ hp]
  exact q1

set_option maxHeartbeats 400000 in
set_option maxRecDepth 100000 in
theorem put_room_si (c n : Nat) (r : Value) (k : ByteArray) (x : Int) (L : List (ByteArray × Int)) (w : World) (hn : n ≤ 64) (hlen : L.length < n) (hf : fHas L k = false) (h : Issi w c r n L) :
    Calls Try.prog 36 #[.pointer (some ⟨c, 0, none⟩), Value.string k, (Value.int .i64) x] w fun e w' =>
      e = .returned (.tuple #[]) ∧ ∃ r', Issi w' c r' n (putL n L (k, x)) ∧ Kept (Foot c r) w w' ∧ NewRow w r r' := by
  have H := hide h
  clear h
  go_enter Try.func36, Try.ntmps36
  go_wp2_with fail
  refine (find_si c n r k L _ (by omega) H.out).mono ?_
  rintro e w' ⟨rfl, rfl⟩
  go_wp2_with fail
  refine (place_room_si c n r L _ (by omega) (by omega) H.out).mono ?_
  rintro e w2 ⟨rfl, r', q1, q2, q3⟩
  have q1' : CacheAt w2 132 138 c n r' (L ++ [(ByteArray.empty, 0)]).length (flat Value.string (Value.int .i64) (L ++ [(ByteArray.empty, 0)])) := by
    rw [flat_append, List.length_append]; exact q1
  have Q := hide (And.intro q1' (And.intro q2 q3))
  clear q1 q2 q3 q1'
  go_wp2_with fail
  refine (use_si c L.length n r' k x (L ++ [(ByteArray.empty, 0)]) _ (by simp; omega) (by simp) Q.out.1).mono ?_
  rintro e w3 ⟨rfl, p1, p2⟩
  have R := hide (And.intro p1 p2)
  clear p1 p2
  go_wp2
  go_end0
  obtain ⟨_, q2, q3⟩ := Q.out
  obtain ⟨p1, p2⟩ := R.out
  refine ⟨rfl, r', ?_, q2.join p2 (fun _ _ e => e) (fun j hj e => ?_), q3⟩
  · unfold Issi
    rw [← putL_room n L (k, x) hf hlen (ByteArray.empty, 0), touch_length _ _ _ (by simp)]
    exact p1
  · rcases q3 with q3 | ⟨g, q3, q4⟩
    · exact Or.inr (by rw [← q3]; exact e)
    · rw [q3] at e; simp at e; omega

set_option maxHeartbeats 400000 in
set_option maxRecDepth 100000 in
theorem put_full_si (c n : Nat) (r : Value) (k : ByteArray) (x : Int) (L : List (ByteArray × Int)) (w : World) (hn0 : 1 ≤ n) (hn : n ≤ 64) (hlen : L.length = n) (hf : fHas L k = false) (h : Issi w c r n L) :
    Calls Try.prog 36 #[.pointer (some ⟨c, 0, none⟩), Value.string k, (Value.int .i64) x] w fun e w' =>
      e = .returned (.tuple #[]) ∧ ∃ r', Issi w' c r' n (putL n L (k, x)) ∧ Kept (Foot c r) w w' ∧ NewRow w r r' := by
  have H := hide h
  have hL1 : 1 ≤ L.length := by omega
  have hL2 : L.length ≤ 64 := by omega
  have HL := hide hlen
  clear h hlen
  go_enter Try.func36, Try.ntmps36
  go_wp2_with fail
  refine (find_si c n r k L _ hL2 H.out).mono ?_
  rintro e w' ⟨rfl, rfl⟩
  go_wp2_with fail
  refine (place_full_si c n r L _ hL2 hL1 (by have := HL.out; omega) H.out).mono ?_
  rintro e w2 ⟨rfl, nq, hw⟩
  have H2 : Hid (CacheAt w2 132 138 c n r L.length (flat Value.string (Value.int .i64) L) ∧ Kept (fun _ => False) w' w2) := by
    subst hw
    refine ⟨⟨by rw [drewN_heap]; exact H.out.1, owns_heap H.out.2 (drewN_heap _ _)⟩, Kept.drewN _ _⟩
  clear hw
  go_wp2_with fail
  rw [show ((L.length : Int) - 1) = ((L.length - 1 : Nat) : Int) from by omega]
  refine (use_si c (L.length - 1) n r k x L _ hL2 (by omega) H2.out.1).mono ?_
  rintro e w3 ⟨rfl, p1, p2⟩
  have R := hide (And.intro p1 p2)
  clear p1 p2
  go_wp2
  go_end0
  obtain ⟨_, q2⟩ := H2.out
  obtain ⟨p1, p2⟩ := R.out
  refine ⟨rfl, r, ?_, q2.join p2 (fun _ _ e => e.elim) (fun j hj e => Or.inr e), Or.inl rfl⟩
  unfold Issi
  rw [← putL_full n L (k, x) hf (by have := HL.out; omega) hL1, touch_length _ _ _ (by omega)]
  exact p1

theorem put_si (c n : Nat) (r : Value) (k : ByteArray) (x : Int) (L : List (ByteArray × Int)) (w : World) (hn0 : 1 ≤ n) (hn : n ≤ 64) (hlen : L.length ≤ n) (h : Issi w c r n L) :
    Calls Try.prog 36 #[.pointer (some ⟨c, 0, none⟩), Value.string k, (Value.int .i64) x] w fun e w' =>
      e = .returned (.tuple #[]) ∧ ∃ r', Issi w' c r' n (putL n L (k, x)) ∧ Kept (Foot c r) w w' ∧ NewRow w r r' := by
  cases hf : fHas L k with
  | true => exact put_has_si c n r k x L w hn hlen hf h
  | false =>
    by_cases hl : L.length < n
    · exact put_room_si c n r k x L w hn hl hf h
    · exact put_full_si c n r k x L w hn0 hn (by omega) hf h
end Go.Proofs.Ytlfmfhmbkpnjbaa

namespace Go.Proofs.Ytlfmfhmbkpnjbaa
open Go.RowKit

set_option maxHeartbeats 400000 in
set_option maxRecDepth 100000 in
theorem get_none_si (c n : Nat) (r : Value) (k : ByteArray) (L : List (ByteArray × Int)) (w : World) (hn : n ≤ 64) (hlen : L.length ≤ n) (hf : fHas L k = false) (h : Issi w c r n L) :
    Calls Try.prog 40 #[.pointer (some ⟨c, 0, none⟩), Value.string k] w fun e w' =>
      e = .returned (.tuple #[.int .i64 0, .bool false]) ∧ w' = w := by
  have H := hide h
  clear h
  go_enter Try.func40, Try.ntmps40
  go_wp2_with fail
  refine (find_si c n r k L _ (by omega) H.out).mono ?_
  rintro e w' ⟨rfl, rfl⟩
  go_wp2
  go_ret2
  exact ⟨rfl, rfl⟩

set_option maxHeartbeats 400000 in
set_option maxRecDepth 100000 in
theorem get_has_si (c n p : Nat) (r : Value) (k : ByteArray) (L : List (ByteArray × Int)) (w : World) (hn : n ≤ 64) (hlen : L.length ≤ n) (hf : fHas L k = true) (hp : p < L.length) (hpf : Hid (fAt L k = p)) (h : Issi w c r n L) :
    Calls Try.prog 40 #[.pointer (some ⟨c, 0, none⟩), Value.string k] w fun e w' =>
      e = .returned (.tuple #[(Value.int .i64) L[p].2, .bool true]) ∧ Issi w' c r n (touch L p L[p]) ∧ Kept (Foot c r) w w' := by
  obtain ⟨g, cp, rfl⟩ : ∃ g cp, r = .slice (some ⟨g, 0, none⟩) L.length cp := by
    rcases h.2.2 with ⟨_, h0⟩ | ⟨g, cp, _, rfl, _⟩
    · omega
    · exact ⟨_, _, rfl⟩
  obtain ⟨-, c1, -, -⟩ := two_cells h.1
  have hk := row_cell h.2 (p * 2) _ (flat_key _ _ L p hp)
  have hv := row_cell h.2 (p * 2 + 1) _ (flat_val _ _ L p hp)
  have hcs := heap_lt h.1
  have H := hide h
  clear h
  obtain ⟨k', x', he⟩ : ∃ k' x', L[p] = (k', x') := ⟨_, _, rfl⟩
  rw [he]
  rw [he] at hk hv
  simp only at hk hv
  have HE := hide he
  clear he
  go_enter Try.func40, Try.ntmps40
  go_wp2_with fail
  refine (find_si c n _ k L _ (by omega) H.out).mono ?_
  rintro e w' ⟨rfl, rfl⟩
  rw [hpf.out]
  go_wp2_with fail
  have HA : Hid (CacheAt (w'.alloc (.cells #[Value.string k', (Value.int .i64) x'] 138)) 132 138 c n (.slice (some ⟨g, 0, none⟩) L.length cp) L.length (flat Value.string (Value.int .i64) L)) := CacheAt.keep H.out (Kept.alloc _ _) (fun _ _ h => h)
  have HL : Hid (∀ j, Foot c (.slice (some ⟨g, 0, none⟩) L.length cp) j → j < w'.heap.size) := CacheAt.lt H.out
  clear c1 hk hv
  refine (use_si c p n _ k' x' L _ (by omega) hp HA.out).mono ?_
  rintro e w2 ⟨rfl, q1, q2⟩
  obtain ⟨-, d2, -, -⟩ := two_cells (new_kept q2 (fun e => Nat.lt_irrefl _ (HL.out _ (Or.inr e))))
  have Q := hide (And.intro q1 q2)
  clear q1 q2
  go_wp2
  go_ret2
  obtain ⟨q1, q2⟩ := Q.out
  refine ⟨rfl, ?_, (Kept.alloc _ _).join q2 (fun _ _ e => e.elim) (fun _ _ e => Or.inr e)⟩
  unfold Issi
  rw [touch_length L _ _ hp]
  exact q1

/-- What 'Get' answers, and leaves. -/
def getL_si (L : List (ByteArray × Int)) (k : ByteArray) : Int × Bool × List (ByteArray × Int) :=
  if h : idx L k < L.length then (L[idx L k].2, true, touch L (idx L k) L[idx L k]) else (0, false, L)

theorem get_si (c n : Nat) (r : Value) (k : ByteArray) (L : List (ByteArray × Int)) (w : World) (hn : n ≤ 64) (hlen : L.length ≤ n) (h : Issi w c r n L) :
    Calls Try.prog 40 #[.pointer (some ⟨c, 0, none⟩), Value.string k] w fun e w' =>
      e = .returned (.tuple #[(Value.int .i64) (getL_si L k).1, .bool (getL_si L k).2.1]) ∧ Issi w' c r n (getL_si L k).2.2 ∧ Kept (Foot c r) w w' := by
  by_cases hi : idx L k < L.length
  · have hf : fHas L k = true := by simp [fHas, hi]
    have hp : fAt L k = idx L k := by simp [fAt, hi]
    have e1 : getL_si L k = (L[idx L k].2, true, touch L (idx L k) L[idx L k]) := by simp [getL_si, hi]
    rw [e1]
    exact get_has_si c n (idx L k) r k L w hn hlen hf hi hp h
  · have hf : fHas L k = false := by simp [fHas, hi]
    have e1 : getL_si L k = (0, false, L) := by simp [getL_si, hi]
    rw [e1]
    refine (get_none_si c n r k L w hn hlen hf h).mono ?_
    rintro e w' ⟨rfl, rfl⟩
    exact ⟨rfl, h, Kept.refl _ _⟩
end Go.Proofs.Ytlfmfhmbkpnjbaa

namespace Go.Proofs.Ytlfmfhmbkpnjbaa
open Go.RowKit

abbrev Ent := Int × ByteArray
def ek : Int → Value := Value.int .i64
def dropKey (L : List Ent) (k : Int) : List Ent := L.filter (fun p => decide (¬ p.1 = k))
def seek (L : List Ent) (k : Int) : ByteArray × Bool := L.foldl (fun a p => if p.1 = k then (p.2, true) else a) (ByteArray.empty, false)

theorem take_snoc {α : Type} (L : List α) (i : Nat) (h : i < L.length) : L.take (i + 1) = L.take i ++ [L[i]] := List.take_succ_eq_append_getElem h

theorem dropKey_hit (L : List Ent) (k : Int) (i : Nat) (h : i < L.length) (e : L[i].1 = k) : dropKey (L.take (i + 1)) k = dropKey (L.take i) k ∧ seek (L.take (i + 1)) k = (L[i].2, true) := by
  rw [take_snoc L i h]
  constructor
  · unfold dropKey
    rw [List.filter_append, List.filter_cons_of_neg (by simp [e])]; simp
  · unfold seek
    rw [List.foldl_append, List.foldl_cons, if_pos e, List.foldl_nil]
theorem dropKey_miss (L : List Ent) (k : Int) (i : Nat) (h : i < L.length) (e : ¬ L[i].1 = k) : dropKey (L.take (i + 1)) k = dropKey (L.take i) k ++ [L[i]] ∧ seek (L.take (i + 1)) k = seek (L.take i) k := by
  rw [take_snoc L i h]
  constructor
  · unfold dropKey
    rw [List.filter_append, List.filter_cons_of_pos (by simp [e])]; simp
  · unfold seek
    rw [List.foldl_append, List.foldl_cons, if_neg e, List.foldl_nil]
theorem dropKey_len (L : List Ent) (k : Int) : (dropKey L k).length ≤ L.length := List.length_filter_le _ _

/-- The document's cache. -/
def IsRef (w : World) (c : Nat) (r : Value) (n : Nat) (L : List Ent) : Prop :=
  CacheAt w 83 95 c n r L.length (flat (Value.int .i64) Value.string L)

theorem info_ref : (Try.prog.info? 95).map (fun i => (i.zero, i.size, i.bytes)) = some (some (.agg #[.int .i64 0, .string ByteArray.empty]), 2, 24) := by kernel_rfl

set_option maxHeartbeats 400000 in
set_option maxRecDepth 100000 in
theorem without_row (c n g cp : Nat) (k : Int) (L : List Ent) (w : World) (hlen : L.length ≤ 64) (h : IsRef w c (.slice (some ⟨g, 0, none⟩) L.length cp) n L) :
    Calls Try.prog 72 #[.pointer (some ⟨c, 0, none⟩), .int .i64 k] w fun e w' =>
      ∃ lv, e = .returned (.tuple #[lv, .string (seek L k).1, .bool (seek L k).2]) ∧ w'.ownsRow w.heap.size 95 2 lv (dropKey L k).length (flat (Value.int .i64) Value.string (dropKey L k)) ∧ Kept (fun _ => False) w w' := by
  obtain ⟨i0, hi, hz0, hz1, hz2⟩ := info_parts info_ref
  have H := hide h
  clear h
  go_enter Try.func72, Try.ntmps72
  go_wp2
  go_loopw [7, 8, 9, 10] (fun lv v th t wr => ∃ i : Nat, i ≤ L.length ∧ t = .int .i64 i ∧ v = .string (seek (L.take i) k).1 ∧ th = .bool (seek (L.take i) k).2 ∧
      Hid (wr.ownsRow w.heap.size 95 2 lv (dropKey (L.take i) k).length (flat (Value.int .i64) Value.string (dropKey (L.take i) k)) ∧ Kept (fun _ => False) w wr)) (fun _ _ _ t _ => L.length - (intOf t).toNat)
  case atStart => exact ⟨0, Nat.zero_le _, rfl, rfl, rfl, World.ownsRow_nil _ _ _ _, Kept.refl _ _⟩
  case round =>
    obtain ⟨i, hil, rfl, rfl, rfl, HR⟩ := hrel
    have HC : Hid (IsRef wr c (.slice (some ⟨g, 0, none⟩) L.length cp) n L) := CacheAt.keep H.out HR.out.2 (fun _ _ e => e)
    have d1 := (two_cells HC.out.1).2.1
    by_cases hlt : i < L.length
    · have hk := row_cell HC.out.2 (i * 2) _ (flat_key _ _ L i hlt)
      have hv := row_cell HC.out.2 (i * 2 + 1) _ (flat_val _ _ L i hlt)
      by_cases he : L[i].1 = k
      · have hb := ints_beq _ _ he
        obtain ⟨q1, q2⟩ := dropKey_hit L k i hlt he
        have Q := hide (And.intro q1 q2)
        clear q1 q2 he HC
        go_wp2
        go_roundw
        case rel => exact ⟨i + 1, by omega, by go_num, by rw [Q.out.2], by rw [Q.out.2], by rw [Q.out.1]; exact HR⟩
        case measure => simp [intOf]; omega
      · have hb := ints_bne _ _ he
        obtain ⟨q1, q2⟩ := dropKey_miss L k i hlt he
        have Q := hide (And.intro q1 q2)
        have hdl := dropKey_len (L.take i) k
        have hdl2 : (L.take i).length ≤ i := List.length_take_le _ _
        clear q1 q2 he HC
        go_wp2_with (at_builtin; refine wpList_append_own _ rfl (.tmp 38) (.tmp 46) 81 rfl w.heap.size 95 i0 (.agg #[.int .i64 0, .string ByteArray.empty]) 2 24 Try.underlying81 hi hz0 hz1 hz2 rfl (by decide) _ _ _ rfl (HR.out.1.alloc _) ⟨wr.heap.size, 0, none⟩ 1 1 [.int .i64 L[i].1, .string L[i].2] rfl rfl ?c1 ?c2 ?c3 ?c4 ?c5 ?_)
        case c1 => exact new_two _ _ _ _ _ rfl
        case c2 => intro u hu; simp at hu; rcases hu with rfl | rfl <;> rfl
        case c3 => unfold maxLen; omega
        case c4 => omega
        case c5 => have := HR.out.2.size; simp; omega
        intro lv' w1 hown hgrow _
        have hsz := HR.out.2.size
        have HN : Hid (w1.ownsRow w.heap.size 95 2 lv' (dropKey (L.take (i + 1)) k).length (flat (Value.int .i64) Value.string (dropKey (L.take (i + 1)) k)) ∧ Kept (fun _ => False) w w1) := by
          refine ⟨?_, ?_⟩
          · rw [Q.out.1, flat_append, List.length_append]; exact hown
          · refine HR.out.2.join ((Kept.alloc wr _).join (Kept.of_grown hgrow) (R := fun j => w.heap.size ≤ j) (fun _ _ e => e.elim) (fun j _ e => ?_)) (fun _ _ e => e) (fun j hj e => by omega)
            exact (HR.out.1.lt j e.symm).1
        clear hown hgrow HR hk hv d1
        go_wp2
        go_roundw
        case rel => exact ⟨i + 1, by omega, by go_num, by rw [Q.out.2], by rw [Q.out.2], HN⟩
        case measure => simp [intOf]; omega
    · have hii : L.take i = L := List.take_of_length_le (by omega)
      rw [hii] at HR ⊢
      clear HC
      go_wp2
      go_ret3
      exact ⟨_, rfl, HR.out.1, HR.out.2⟩
set_option maxHeartbeats 400000 in
set_option maxRecDepth 100000 in
theorem without_nil (c : Nat) (cap k : Int) (w : World) (h : w.heap[c]? = some (.cells #[.int .i64 cap, .slice none 0 0] 83 (0, 0))) :
    Calls Try.prog 72 #[.pointer (some ⟨c, 0, none⟩), .int .i64 k] w fun e w' =>
      e = .returned (.tuple #[.slice none 0 0, .string ByteArray.empty, .bool false]) ∧ w' = w := by
  have c1 := (two_cells h).2.1
  clear h
  go_enter Try.func72, Try.ntmps72
  go_wp2
  refine wp_loop_rounds 1 ?_
  rw [rounds_succ]
  go_wp2
  go_ret3
  exact ⟨rfl, rfl⟩

theorem without_any (c n : Nat) (r : Value) (k : Int) (L : List Ent) (w : World) (hlen : L.length ≤ 64) (h : IsRef w c r n L) :
    Calls Try.prog 72 #[.pointer (some ⟨c, 0, none⟩), .int .i64 k] w fun e w' =>
      ∃ lv, e = .returned (.tuple #[lv, .string (seek L k).1, .bool (seek L k).2]) ∧ w'.ownsRow w.heap.size 95 2 lv (dropKey L k).length (flat (Value.int .i64) Value.string (dropKey L k)) ∧ Kept (fun _ => False) w w' := by
  rcases h.2.2 with ⟨rfl, h0⟩ | ⟨g, cp, _, rfl, _⟩
  · obtain rfl : L = [] := List.eq_nil_of_length_eq_zero h0
    refine (without_nil c n k w h.1).mono ?_
    rintro e w' ⟨rfl, rfl⟩
    exact ⟨_, rfl, World.ownsRow_nil _ _ _ _, Kept.refl _ _⟩
  · exact without_row c n g cp k L w hlen h
end Go.Proofs.Ytlfmfhmbkpnjbaa

namespace Go.Proofs.Ytlfmfhmbkpnjbaa
open Go.RowKit

def refPutL (n : Nat) (L : List Ent) (e : Ent) : List Ent := (e :: dropKey L e.1).take n

theorem flat_cons (e : Ent) (M : List Ent) : flat (Value.int .i64) Value.string (e :: M) = [.int .i64 e.1, .string e.2] ++ flat (Value.int .i64) Value.string M := rfl

theorem ents_one (M : List Ent) : ∀ u ∈ flat (Value.int .i64) Value.string M, u.oneCell' = true := flat_one _ _ (fun _ => rfl) (fun _ => rfl) M

set_option maxHeartbeats 400000 in
set_option maxRecDepth 100000 in
theorem refput (c n : Nat) (r : Value) (k : Int) (x : ByteArray) (L : List Ent) (w : World) (hn0 : 1 ≤ n) (hn : n ≤ 64) (hlen : L.length ≤ 64) (h : IsRef w c r n L) :
    Calls Try.prog 38 #[.pointer (some ⟨c, 0, none⟩), .int .i64 k, .string x] w fun e w' =>
      e = .returned (.tuple #[]) ∧ ∃ r', IsRef w' c r' n (refPutL n L (k, x)) ∧ Kept (Foot c r) w w' ∧ NewRow w r r' := by
  obtain ⟨i0, hi, hz0, hz1, hz2⟩ := info_parts info_ref
  have H := hide h
  clear h
  go_enter Try.func38, Try.ntmps38
  go_wp2_with fail
  refine (without_any c n r k L _ hlen H.out).mono ?_
  rintro e w1 ⟨lv, rfl, hown, hk⟩
  have hM : (dropKey L k).length ≤ 64 := by have := dropKey_len L k; omega
  obtain ⟨M, hMd⟩ : ∃ M, M = dropKey L k := ⟨_, rfl⟩
  rw [← hMd] at hown hM
  have HM := hide hMd
  clear hMd
  have HO := hide hown
  have HK := hide hk
  have HB : Hid (w1.heap[c]? = some (.cells #[.int .i64 n, r] 83 (0, 0))) := by show _ = _; rw [hk.block c (heap_lt H.out.1) (fun e => e)]; exact H.out.1
  obtain ⟨c0, c1, f0, f1⟩ := two_cells HB.out
  clear hown hk
  have hs1 := HK.out.size
  have hcl : c < w.heap.size := heap_lt H.out.1
  go_wp2_with (at_builtin; refine wpList_append_row _ rfl (.tmp 21) (.tmp 22) 81 rfl w.heap.size 95 i0 (.agg #[.int .i64 0, .string ByteArray.empty]) 2 24 Try.underlying81 hi hz0 hz1 hz2 rfl (by decide) _ 1 [.int .i64 k, .string x] rfl (owns_new w1 w.heap.size _ 2 1 [.int .i64 k, .string x] _ rfl hs1 (by decide) rfl) lv w.heap.size M.length (flat (Value.int .i64) Value.string M) rfl (HO.out.alloc _) (ents_one M) (by decide) ?c3 ?c4 ?c5 ?_)
  case c3 => unfold maxLen; omega
  case c4 => omega
  case c5 => simp; omega
  intro g cp w2 hown2 hgrow
  have hlenM : (((k, x) : Ent) :: M).length = 1 + M.length := by simp; omega
  have hle : 1 + M.length ≤ cp := by
    rcases hown2.2 with ⟨h0, _⟩ | ⟨g', cp', cur, e', _, _, h1, _⟩
    · cases h0
    · simp only [Value.slice.injEq] at e'
      omega
  have HK2 : Hid (Kept (fun _ => False) w w2) := by
    refine (HK.out.join ((Kept.alloc w1 _).join (Kept.of_grown hgrow) (R := fun j => j = w1.heap.size) (fun _ _ e => e.elim) (fun j _ e => ?_)) (fun _ _ e => e) (fun j hj e => by omega))
    simpa [Value.ownBlock] using e
  obtain ⟨d0, d1, e0, e1⟩ := two_cells (show w2.heap[c]? = some (.cells #[.int .i64 n, r] 83 (0, 0)) by rw [HK2.out.block c hcl (fun e => e)]; exact H.out.1)
  by_cases hfit : n < 1 + M.length
  · have HR := hide (relay H.out.1 HK2.out (owns_cut hown2 n (by omega)))
    have hnn : ((n : Nat) : Int) < 1 + (M.length : Int) := by omega
    clear hown2 hgrow c0 c1 f0 f1
    go_wp2
    go_end0
    obtain ⟨r1, r2, r3⟩ := HR.out
    refine ⟨rfl, .slice (some ⟨g, 0, none⟩) n cp, ?_, r2.mono (fun _ _ e => Or.inl e), Or.inr ⟨g, rfl, r3⟩⟩
    have eL : refPutL n L (k, x) = (((k, x) : Ent) :: M).take n := by unfold refPutL; rw [HM.out]
    have el : ((((k, x) : Ent) :: M).take n).length = n := by rw [List.length_take]; omega
    unfold IsRef
    rw [eL, el, ← flat_take]
    exact r1
  · have HR := hide (relay H.out.1 HK2.out hown2)
    have hnn : 1 + (M.length : Int) ≤ ((n : Nat) : Int) := by omega
    clear hown2 hgrow c0 c1 f0 f1
    go_wp2
    go_end0
    obtain ⟨r1, r2, r3⟩ := HR.out
    refine ⟨rfl, .slice (some ⟨g, 0, none⟩) (1 + M.length) cp, ?_, r2.mono (fun _ _ e => Or.inl e), Or.inr ⟨g, rfl, r3⟩⟩
    have eL : refPutL n L (k, x) = ((k, x) : Ent) :: M := by unfold refPutL; rw [← HM.out]; exact List.take_of_length_le (by omega)
    unfold IsRef
    rw [eL, hlenM]
    exact r1

def refGetL (L : List Ent) (k : Int) : List Ent := if (seek L k).2 = true then (k, (seek L k).1) :: dropKey L k else L

set_option maxHeartbeats 400000 in
set_option maxRecDepth 100000 in
theorem refget (c n : Nat) (r : Value) (k : Int) (L : List Ent) (w : World) (hlen : L.length ≤ 64) (h : IsRef w c r n L) :
    Calls Try.prog 41 #[.pointer (some ⟨c, 0, none⟩), .int .i64 k] w fun e w' =>
      e = .returned (.tuple #[.string (seek L k).1, .bool (seek L k).2]) ∧ ∃ r', IsRef w' c r' n (refGetL L k) ∧ Kept (Foot c r) w w' ∧ NewRow w r r' := by
  obtain ⟨i0, hi, hz0, hz1, hz2⟩ := info_parts info_ref
  have H := hide h
  clear h
  obtain ⟨x, hx⟩ : ∃ x, x = (seek L k).1 := ⟨_, rfl⟩
  obtain ⟨b, hb⟩ : ∃ b, b = (seek L k).2 := ⟨_, rfl⟩
  have HX : Hid (x = (seek L k).1 ∧ b = (seek L k).2) := ⟨hx, hb⟩
  rw [← hx, ← hb]
  clear hx hb
  go_enter Try.func41, Try.ntmps41
  go_wp2_with fail
  refine (without_any c n r k L _ hlen H.out).mono ?_
  rintro e w1 ⟨lv, rfl, hown, hk⟩
  rw [← HX.out.1, ← HX.out.2]
  have hM : (dropKey L k).length ≤ 64 := by have := dropKey_len L k; omega
  obtain ⟨M, hMd⟩ : ∃ M, M = dropKey L k := ⟨_, rfl⟩
  rw [← hMd] at hown hM
  have HM := hide hMd
  clear hMd
  have HO := hide hown
  have HK := hide hk
  clear hown hk
  cases b with
  | false =>
    clear HO
    go_wp2
    go_ret2
    have eL : refGetL L k = L := by unfold refGetL; rw [← HX.out.2]; rfl
    rw [eL]
    exact ⟨rfl, r, CacheAt.keep H.out HK.out (fun _ _ e => e), HK.out.mono (fun _ _ e => e.elim), Or.inl rfl⟩
  | true =>
    have HB : Hid (w1.heap[c]? = some (.cells #[.int .i64 n, r] 83 (0, 0))) := by show _ = _; rw [HK.out.block c (heap_lt H.out.1) (fun e => e)]; exact H.out.1
    have hs1 := HK.out.size
    have hcl : c < w.heap.size := heap_lt H.out.1
    go_wp2_with (at_builtin; refine wpList_append_row _ rfl (.tmp 23) (.tmp 24) 81 rfl w.heap.size 95 i0 (.agg #[.int .i64 0, .string ByteArray.empty]) 2 24 Try.underlying81 hi hz0 hz1 hz2 rfl (by decide) _ 1 [.int .i64 k, .string x] rfl (owns_new w1 w.heap.size _ 2 1 [.int .i64 k, .string x] _ rfl hs1 (by decide) rfl) lv w.heap.size M.length (flat (Value.int .i64) Value.string M) rfl (HO.out.alloc _) (ents_one M) (by decide) ?c3 ?c4 ?c5 ?_)
    case c3 => unfold maxLen; omega
    case c4 => omega
    case c5 => simp; omega
    intro g cp w2 hown2 hgrow
    have hlenM : (((k, x) : Ent) :: M).length = 1 + M.length := by simp; omega
    have HK2 : Hid (Kept (fun _ => False) w w2) := by
      refine (HK.out.join ((Kept.alloc w1 _).join (Kept.of_grown hgrow) (R := fun j => j = w1.heap.size) (fun _ _ e => e.elim) (fun j _ e => ?_)) (fun _ _ e => e) (fun j hj e => by omega))
      simpa [Value.ownBlock] using e
    obtain ⟨d0, d1, e0, e1⟩ := two_cells (show w2.heap[c]? = some (.cells #[.int .i64 n, r] 83 (0, 0)) by rw [HK2.out.block c hcl (fun e => e)]; exact H.out.1)
    have HR := hide (relay H.out.1 HK2.out hown2)
    clear hown2 hgrow
    go_wp2
    go_ret2
    obtain ⟨r1, r2, r3⟩ := HR.out
    refine ⟨rfl, .slice (some ⟨g, 0, none⟩) (1 + M.length) cp, ?_, r2.mono (fun _ _ e => Or.inl e), Or.inr ⟨g, rfl, r3⟩⟩
    have eL : refGetL L k = ((k, x) : Ent) :: M := by unfold refGetL; rw [← HX.out.2, ← HX.out.1, ← HM.out]; rfl
    unfold IsRef
    rw [eL, hlenM]
    exact r1
end Go.Proofs.Ytlfmfhmbkpnjbaa
