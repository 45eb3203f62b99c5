import Derived.Test.YtlfmfhmbkpnjbabGreatDoorPy12
import Derived.Test.YtlfmfhmbkpnjbabGreatDoorPy21
import Derived.Test.YtlfmfhmbkpnjbabGreatDoorPy17
import Derived.Test.YtlfmfhmbkpnjbabGreatDoorPy16
namespace Go.Proofs.YtlfmfhmbkpnjbabGreatDoor
open Go.RowKit

/-- A cache of worlds: its capacity, its entries. -/
def IsC (w : World) (c : Nat) (r : Value) (n : Nat) (L : List Ew) : Prop := CacheAt3 w c n r L.length (flat3 L)

set_option maxHeartbeats 400000 in
theorem find_row_iw (c g cp : Nat) (cap : Int) (k : Int) (L : List Ew) (w : World) (hlen : L.length ≤ 64)
    (h : CacheAt3 w c cap (.slice (some ⟨g, 0, none⟩) L.length cp) L.length (flat3 L)) :
    Calls Tryz.prog 40 #[.pointer (some ⟨c, 0, none⟩), .int .i64 k] w fun e w' =>
      e = .returned (.tuple #[.int .i64 (fAt L k), .bool (fHas L k)]) ∧ w' = w := by
  obtain ⟨hb, hown⟩ := h
  have c1 : w.cell? ⟨c, 1, none⟩ = some (.slice (some ⟨g, 0, none⟩) L.length cp) := by simp [World.cell?, hb]
  clear hb
  go_enter Tryz.func40, Tryz.ntmps40
  go_wp2
  go_loop [12] (fun t => ∃ i : Nat, i ≤ L.length ∧ i ≤ idx L k ∧ t = .int .i64 i) (fun t => L.length - (intOf t).toNat)
  case atStart => exact ⟨0, Nat.zero_le _, Nat.zero_le _, rfl⟩
  case round =>
    obtain ⟨i, hi, hx, rfl⟩ := hrel
    by_cases hlt : i < L.length
    · have hc := row_cell hown (i * 3) _ (flat3_get L i hlt).1
      clear hown
      by_cases he : L[i].1 = k
      · have hb : (L[i].1 == k) = true := ints_beq _ _ he
        obtain ⟨q1, q2⟩ := fAt_hit L k i hlt hx he
        have Q1 : Hid (fAt L k = i ∧ fHas L k = true) := ⟨q1, q2⟩
        clear q1 q2 he
        go_wp2
        go_ret2
        exact ⟨ret2 (by rw [Q1.out.1]; rfl) (by rw [Q1.out.2]; rfl), rfl⟩
      · have hb : (L[i].1 == k) = false := ints_bne _ _ he
        have Q1 : Hid (i + 1 ≤ idx L k) := idx_miss L k i hlt hx he
        clear he
        go_wp2
        go_round
        case rel => exact ⟨i + 1, by omega, Q1.out, by go_num⟩
        case measure => simp [intOf]; omega
    · obtain ⟨q1, q2⟩ := fAt_out L k (by omega)
      have Q1 : Hid (fAt L k = 0 ∧ fHas L k = false) := ⟨q1, q2⟩
      clear q1 q2
      go_wp2
      go_ret2
      exact ⟨ret2 (by rw [Q1.out.1]; rfl) (by rw [Q1.out.2]; rfl), rfl⟩

set_option maxHeartbeats 400000 in
theorem find_nil_iw (c : Nat) (cap : Int) (k : Int) (w : World)
    (h : w.heap[c]? = some (.cells #[.int .i64 cap, .slice none 0 0] 77 (0, 0))) :
    Calls Tryz.prog 40 #[.pointer (some ⟨c, 0, none⟩), .int .i64 k] w fun e w' =>
      e = .returned (.tuple #[.int .i64 0, .bool false]) ∧ w' = w := by
  have c1 : w.cell? ⟨c, 1, none⟩ = some (.slice none 0 0) := by simp [World.cell?, h]
  clear h
  go_enter Tryz.func40, Tryz.ntmps40
  go_wp2
  refine wp_loop_rounds 1 ?_
  rw [rounds_succ]
  go_wp2
  go_ret2
  exact ⟨rfl, rfl⟩

theorem find_iw (c : Nat) (cap : Int) (v : Value) (k : Int) (L : List Ew) (w : World) (hlen : L.length ≤ 64) (h : CacheAt3 w c cap v L.length (flat3 L)) :
    Calls Tryz.prog 40 #[.pointer (some ⟨c, 0, none⟩), .int .i64 k] w fun e w' =>
      e = .returned (.tuple #[.int .i64 (fAt L k), .bool (fHas L k)]) ∧ w' = w := by
  rcases h.2.2 with ⟨rfl, h0⟩ | ⟨g, cp, _, rfl, _⟩
  · obtain rfl : L = [] := List.eq_nil_of_length_eq_zero h0
    exact find_nil_iw c cap k w h.1
  · exact find_row_iw c g cp cap k L w hlen h

theorem info_entry_iw : (Tryz.prog.info? 105).map (fun i => (i.zero, i.size, i.bytes)) = some (some (.agg #[.int .i64 0, .int .i64 0, .slice none 0 0]), 3, 40) := by kernel_rfl

set_option maxHeartbeats 400000 in
set_option maxRecDepth 100000 in
/-- There is room: a place more, of zeros. -/
theorem place_room_iw (c : Nat) (cap : Int) (v : Value) (L : List Ew) (w : World) (hlen : L.length ≤ 64) (hroom : (L.length : Int) < cap)
    (h : CacheAt3 w c cap v L.length (flat3 L)) :
    Calls Tryz.prog 41 #[.pointer (some ⟨c, 0, none⟩)] w fun e w' =>
      e = .returned (.int .i64 L.length) ∧ ∃ v', CacheAt3 w' c cap v' (L.length + 1) (flat3 L ++ [.int .i64 0, .int .i64 0, .slice none 0 0]) ∧
        Kept (fun k => k = c ∨ v.ownBlock = some k) w w' ∧ (v'.ownBlock = v.ownBlock ∨ ∃ g, v'.ownBlock = some g ∧ w.heap.size ≤ g) := by
  have hne := h.ne
  obtain ⟨hb, hown⟩ := h
  obtain ⟨i0, hi, hz0, hz1, hz2⟩ := info_parts info_entry_iw
  obtain ⟨ao, cp, rfl⟩ : ∃ ao cp, v = .slice ao L.length cp := by
    rcases hown.2 with ⟨rfl, h0⟩ | ⟨g, cp, _, rfl, _⟩
    · exact ⟨none, 0, by rw [h0]⟩
    · exact ⟨_, _, rfl⟩
  obtain ⟨c0, c1, -, -⟩ := two_cells hb
  have HO := hide hown
  have HB := hide hb
  have HN := hide hne
  clear hown hb hne
  go_enter Tryz.func41, Tryz.ntmps41
  go_wp2
  go_quiet (fail)
  have HW : Hid ((w.drewN nq).heap = w.heap) := drewN_heap w nq
  go_wp2_with (at_builtin; refine wpList_append_mine _ rfl (.tmp 17) (.tmp 19) 75 rfl 105 i0 (.agg #[.int .i64 0, .int .i64 0, .slice none 0 0]) 3 40 Tryz.underlying75 hi hz0 hz1 hz2 rfl (by decide) _ _ _ rfl ((owns_heap HO.out HW.out).alloc _) ⟨w.heap.size, 0, none⟩ 1 1 [.int .i64 0, .int .i64 0, .slice none 0 0] rfl rfl ?c1 ?c2 (by decide) ?c3 ?c4 ?_)
  case c1 => exact new_three _ _ _ _ _ _ (by rw [HW.out])
  case c2 => intro u hu; simp at hu; rcases hu with rfl | rfl <;> rfl
  case c3 => unfold maxLen; omega
  case c4 => omega
  intro g cp' w1 hown' hgrow hg'
  obtain ⟨k0, k1, f0, f1⟩ := two_cells (grow_at HB.out HN.out hgrow)
  have R := hide (grow_fin3 HB.out HN.out hgrow hown' hg')
  clear hown' hgrow hg' c0 c1 k0
  go_wp2
  go_ret
  obtain ⟨r1, r2, r3⟩ := R.out
  refine ⟨ret1 (by go_num), _, r1, r2, ?_⟩
  rcases r3 with r3 | r3
  · exact Or.inl r3.symm
  · exact Or.inr ⟨g, rfl, r3⟩

set_option maxHeartbeats 400000 in
set_option maxRecDepth 100000 in
/-- It is full: the last place. -/
theorem place_full_iw (c : Nat) (cap : Int) (v : Value) (L : List Ew) (w : World) (hlen : L.length ≤ 64) (h1 : 1 ≤ L.length) (hfull : ¬ (L.length : Int) < cap)
    (h : CacheAt3 w c cap v L.length (flat3 L)) :
    Calls Tryz.prog 41 #[.pointer (some ⟨c, 0, none⟩)] w fun e w' =>
      e = .returned (.int .i64 ((L.length : Int) - 1)) ∧ ∃ nq, w' = w.drewN nq := by
  obtain ⟨hb, hown⟩ := h
  obtain ⟨ao, cp, rfl⟩ : ∃ ao cp, v = .slice ao L.length cp := by
    rcases hown.2 with ⟨rfl, h0⟩ | ⟨g, cp, _, rfl, _⟩
    · exact ⟨none, 0, by rw [h0]⟩
    · exact ⟨_, _, rfl⟩
  obtain ⟨c0, c1, -, -⟩ := two_cells hb
  clear hown hb
  go_enter Tryz.func41, Tryz.ntmps41
  go_wp2
  go_quiet (fail)
  go_wp2
  go_ret
  exact ⟨ret1 rfl, nq, rfl⟩

theorem size_entry_iw : (Tryz.prog.info? 105).map (·.size) = some 3 := by kernel_rfl
def Wv.agg (v : Wv) : Value := .agg #[.int .i64 v.t, .slice v.p v.n v.cap]

set_option maxHeartbeats 400000 in
set_option maxRecDepth 100000 in
theorem use_many_iw (c g cp p : Nat) (cap : Int) (k : Int) (v : Wv) (L : List Ew) (w : World) (hlen : L.length ≤ 64) (hp : p < L.length) (hcp1 : ¬ cp = 1)
    (h : CacheAt3 w c cap (.slice (some ⟨g, 0, none⟩) L.length cp) L.length (flat3 L)) :
    Calls Tryz.prog 42 #[.pointer (some ⟨c, 0, none⟩), .int .i64 p, .agg #[.int .i64 k, .int .i64 v.t, .slice v.p v.n v.cap]] w fun e w' =>
      e = .returned (.tuple #[]) ∧ CacheAt3 w' c cap (.slice (some ⟨g, 0, none⟩) L.length cp) L.length (flat3 (touch L p (k, v))) ∧ Kept (fun j => j = g) w w' := by
  have hne := h.ne
  obtain ⟨hb, hown⟩ := h
  obtain ⟨c0, c1, -, -⟩ := two_cells hb
  obtain ⟨cur, hcp, hcm, hcell, hsz, htk⟩ : ∃ cur : List Value, L.length ≤ cp ∧ cp ≤ maxLen ∧ w.heap[g]? = some (.cells cur.toArray 105 (0, 0)) ∧ cur.length = cp * 3 ∧ cur.take (L.length * 3) = flat3 L := by
    rcases hown.2 with ⟨h0, _⟩ | ⟨g', cp', cur, e, _, hh, h1, h2, h3, h4⟩
    · cases h0
    · simp only [Value.slice.injEq, Option.some.injEq, Addr.mk.injEq, and_true, true_and] at e
      obtain ⟨rfl, rfl⟩ := e
      exact ⟨cur.toList, h1, h2, hh, by simpa using h3, h4⟩
  have hcg : c < w.heap.size ∧ g < w.heap.size := ⟨heap_lt hb, heap_lt hcell⟩
  obtain ⟨hcs, hgs⟩ := hcg
  have S1 : Hid (∀ o, ((w.alloc o).drew).heap[g]? = some (.cells cur.toArray 105 (0, 0))) := fun o => (Below.heap_alloc w o g hgs).trans hcell
  have S3 : Hid ((flat3 (L.take p)).length = p * 3) := by
    show _ = _
    rw [flat3_length, List.length_take]; congr 1; omega
  have S4 : Hid (3 + (flat3 (L.take p)).length ≤ cur.length) := by
    show _ ≤ _
    rw [S3.out]; omega
  have S5 : Hid (∀ u ∈ flat3 (L.take p), u.oneCell' = true) := flat3_one _
  have S2 : Hid (∀ o j u, (flat3 (L.take p))[j]? = some u → ((w.alloc o).drew).cell? ((⟨g, 0, none⟩ : Addr).add j) = some u) := by
    intro o j u hj
    rw [addr_add, cell_block (S1.out o)]
    rw [← flat3_take, ← htk] at hj
    have hj' : j < L.length * 3 ∧ j < p * 3 := by
      have := (List.getElem?_eq_some_iff.1 hj).1
      simp only [List.length_take] at this
      omega
    rw [List.getElem?_take_of_lt hj'.2, List.getElem?_take_of_lt hj'.1] at hj
    simpa using hj
  have S6 : Hid (3 ≤ (splice cur 3 (flat3 (L.take p))).length) := by
    show _ ≤ _
    rw [length_splice _ _ _ S4.out]; omega
  have HG : Hid (g ≠ c) := fun e => hne (by rw [← e]; rfl)
  have HC := hide hcell
  have HO := hide hown
  have HB := hide hb
  have HN := hide hne
  have HM := hide hcm
  clear hown hb hne hcell hcm
  have a1 : IntKind.i64.wrap ((p : Int) + 1) = (p : Int) + 1 := wrap_id _ (by omega)
  have a2 : (0 : Int) ≤ (p : Int) + 1 := by omega
  have a3 : (p : Int) + 1 ≤ (cp : Int) := by omega
  have a4 : (1 : Int) ≤ (p : Int) + 1 := by omega
  have a6 : ((p : Int) + 1).toNat - 1 = p := by omega
  have a7 : (p : Int) ≤ (cp : Int) := by omega
  have a8 : (p : Int).toNat = p := by omega
  go_enter Tryz.func42, Tryz.ntmps42
  go_wp2
  go_region_law (refine step_copy_mine rfl (.tmp 12) (.tmp 18) 75 75 rfl 105 3 Tryz.underlying75 size_entry_iw (some ⟨g, 3, none⟩) (some ⟨g, 0, none⟩) p (cp - 1) p cp (by simp [Act.eval, Act.put]) (by simp [Act.eval, Act.put]) g 3 cur 105 (S1.out _) p (Nat.min_self p) (flat3 (L.take p)) S3.out (fun _ => ⟨rfl, _, rfl, S2.out _⟩) S4.out S5.out ?_; intro w1 HG1 HK1)
  all_goals
    obtain ⟨k1, k2, k3, k4, k5, k6, k7, k8, k9, k10⟩ := use_facts3 HB.out HG.out hgs S6.out HG1.out HK1.out
    clear c0 c1
    go_wp2
    go_region
    all_goals go_end0
    exact ⟨rfl, use_fin3 L p k v hp cur hcp HM.out hsz htk HB.out HG.out hgs HG1.out HK1.out rfl rfl rfl rfl⟩
set_option maxHeartbeats 400000 in
set_option maxRecDepth 100000 in
theorem use_one_iw (c g : Nat) (cap : Int) (k : Int) (v : Wv) (L : List Ew) (w : World) (hp : 0 < L.length)
    (h : CacheAt3 w c cap (.slice (some ⟨g, 0, none⟩) L.length 1) L.length (flat3 L)) :
    Calls Tryz.prog 42 #[.pointer (some ⟨c, 0, none⟩), .int .i64 0, .agg #[.int .i64 k, .int .i64 v.t, .slice v.p v.n v.cap]] w fun e w' =>
      e = .returned (.tuple #[]) ∧ CacheAt3 w' c cap (.slice (some ⟨g, 0, none⟩) L.length 1) L.length (flat3 (touch L 0 (k, v))) ∧ Kept (fun j => j = g) w w' := by
  have hne := h.ne
  obtain ⟨hb, hown⟩ := h
  obtain ⟨c0, c1, -, -⟩ := two_cells hb
  obtain ⟨cur, hcp, hcell, hsz, htk⟩ : ∃ cur : List Value, L.length ≤ 1 ∧ w.heap[g]? = some (.cells cur.toArray 105 (0, 0)) ∧ cur.length = 3 ∧ cur.take (L.length * 3) = flat3 L := by
    rcases hown.2 with ⟨h0, _⟩ | ⟨g', cp', cur, e, _, hh, h1, _, h3, h4⟩
    · cases h0
    · simp only [Value.slice.injEq, Option.some.injEq, Addr.mk.injEq, and_true, true_and] at e
      obtain ⟨rfl, rfl⟩ := e
      exact ⟨cur.toList, h1, hh, by simpa using h3, h4⟩
  have hcg : c < w.heap.size ∧ g < w.heap.size := ⟨heap_lt hb, heap_lt hcell⟩
  obtain ⟨hcs, hgs⟩ := hcg
  have S1 : Hid (∀ o, ((w.alloc o).drew).heap[g]? = some (.cells cur.toArray 105 (0, 0))) := fun o => (Below.heap_alloc w o g hgs).trans hcell
  have S3 : Hid ((flat3 (L.take 0)).length = 0 * 3) := by
    show _ = _
    simp [flat3]
  have S4 : Hid (3 + (flat3 (L.take 0)).length ≤ cur.length) := by
    show _ ≤ _
    rw [S3.out]; omega
  have S5 : Hid (∀ u ∈ flat3 (L.take 0), u.oneCell' = true) := flat3_one _
  have S6 : Hid (3 ≤ (splice cur 3 (flat3 (L.take 0))).length) := by
    show _ ≤ _
    rw [length_splice _ _ _ S4.out]; omega
  have HG : Hid (g ≠ c) := fun e => hne (by rw [← e]; rfl)
  have HC := hide hcell
  have HO := hide hown
  have HB := hide hb
  have HN := hide hne
  clear hown hb hne hcell
  have a1 : IntKind.i64.wrap (1 : Int) = 1 := wrap_id _ (by omega)
  go_enter Tryz.func42, Tryz.ntmps42
  go_wp2
  go_region_law (refine step_copy_mine rfl (.tmp 12) (.tmp 18) 75 75 rfl 105 3 Tryz.underlying75 size_entry_iw (some ⟨g, 0, none⟩) (some ⟨g, 0, none⟩) 0 0 0 1 (by simp [Act.eval, Act.put]) (by simp [Act.eval, Act.put]) g 3 cur 105 (S1.out _) 0 (Nat.min_self 0) (flat3 (L.take 0)) S3.out (fun h => absurd h (by decide)) S4.out S5.out ?_; intro w1 HG1 HK1)
  all_goals
    obtain ⟨k1, k2, k3, k4, k5, k6, k7, k8, k9, k10⟩ := use_facts3 HB.out HG.out hgs S6.out HG1.out HK1.out
    clear c0 c1
    go_wp2
    go_region
    all_goals go_end0
    exact ⟨rfl, use_fin3 L 0 k v hp cur hcp (by decide) (by omega) htk HB.out HG.out hgs HG1.out HK1.out rfl rfl rfl rfl⟩

theorem use_iw (c p : Nat) (cap : Int) (r : Value) (k : Int) (v : Wv) (L : List Ew) (w : World) (hlen : L.length ≤ 64) (hp : p < L.length)
    (h : CacheAt3 w c cap r L.length (flat3 L)) :
    Calls Tryz.prog 42 #[.pointer (some ⟨c, 0, none⟩), .int .i64 p, .agg #[.int .i64 k, .int .i64 v.t, .slice v.p v.n v.cap]] w fun e w' =>
      e = .returned (.tuple #[]) ∧ CacheAt3 w' c cap r L.length (flat3 (touch L p (k, v))) ∧ Kept (fun j => r.ownBlock = some j) w w' := by
  rcases h.2.2 with ⟨_, h0⟩ | ⟨g, cp, _, rfl, _, _, h1, _⟩
  · omega
  · have hm : ∀ (e : Ending) w', (e = .returned (.tuple #[]) ∧ CacheAt3 w' c cap (.slice (some ⟨g, 0, none⟩) L.length cp) L.length (flat3 (touch L p (k, v))) ∧ Kept (fun j => j = g) w w') →
      (e = .returned (.tuple #[]) ∧ CacheAt3 w' c cap (.slice (some ⟨g, 0, none⟩) L.length cp) L.length (flat3 (touch L p (k, v))) ∧ Kept (fun j => (Value.slice (some ⟨g, 0, none⟩) L.length cp).ownBlock = some j) w w') :=
      fun _ _ q => ⟨q.1, q.2.1, q.2.2.mono (fun j _ e => by rw [e]; rfl)⟩
    by_cases hc : cp = 1
    · subst hc
      obtain rfl : p = 0 := by omega
      exact (use_one_iw c g cap k v L w hp h).mono hm
    · exact (use_many_iw c g cp p cap k v L w hlen hp hc h).mono hm
end Go.Proofs.YtlfmfhmbkpnjbabGreatDoor

namespace Go.Proofs.YtlfmfhmbkpnjbabGreatDoor
open Go.RowKit

/-- The box of a world that is handed over. -/
def boxW (x : Wv) : Obj := .cells #[.int .i64 x.t, .slice x.p x.n x.cap] 34 (0, 0)
theorem IsC.calm {w w' : World} {c n : Nat} {r : Value} {L : List Ew} (h : IsC w c r n L) (k : Kept (fun _ => False) w w') : IsC w' c r n L := CacheAt3.keep h k (fun _ _ e => e)

set_option maxHeartbeats 400000 in
set_option maxRecDepth 100000 in
theorem put_has_iw (c n : Nat) (r : Value) (k : Int) (x : Wv) (L : List Ew) (w : World) (hn : n ≤ 64) (hlen : L.length ≤ n) (hf : fHas L k = true) (h : IsC w c r n L) :
    Calls Tryz.prog 19 #[.pointer (some ⟨c, 0, none⟩), .int .i64 k, .agg #[.int .i64 x.t, .slice x.p x.n x.cap]] w fun e w' =>
      e = .returned (.tuple #[]) ∧ ∃ r', IsC w' c r' n (putL n L (k, x)) ∧ Kept (Foot c r) w w' ∧ NewRow w r r' := by
  have hp := fAt_lt L k hf
  have H0 := hide h
  have H : Hid (IsC (w.alloc (.cells #[.int .i64 x.t, .slice x.p x.n x.cap] 34)) c r n L) := h.calm (Kept.alloc _ _)
  clear h
  go_enter Tryz.func19, Tryz.ntmps19
  go_wp2_with fail
  refine (find_iw c n r k L _ (by omega) H.out).mono ?_
  rintro e w' ⟨rfl, rfl⟩
  go_wp2_with fail
  refine (use_iw c (fAt L k) n r k x L _ (by omega) hp H.out).mono ?_
  rintro e w2 ⟨rfl, q1, q2⟩
  have Q := hide (And.intro q1 q2)
  clear q1 q2
  go_wp2
  go_end0
  obtain ⟨q1, q2⟩ := Q.out
  refine ⟨rfl, r, ?_, (Kept.alloc w _).join q2 (fun _ _ e => e.elim) (fun j _ e => Or.inr e), Or.inl rfl⟩
  unfold IsC
  rw [putL_has n L (k, x) hf, touch_length L _ _ hp]
  exact q1

set_option maxHeartbeats 400000 in
set_option maxRecDepth 100000 in
theorem put_room_iw (c n : Nat) (r : Value) (k : Int) (x : Wv) (L : List Ew) (w : World) (hn : n ≤ 64) (hlen : L.length < n) (hf : fHas L k = false) (h : IsC w c r n L) :
    Calls Tryz.prog 19 #[.pointer (some ⟨c, 0, none⟩), .int .i64 k, .agg #[.int .i64 x.t, .slice x.p x.n x.cap]] w fun e w' =>
      e = .returned (.tuple #[]) ∧ ∃ r', IsC w' c r' n (putL n L (k, x)) ∧ Kept (Foot c r) w w' ∧ NewRow w r r' := by
  have H : Hid (IsC (w.alloc (.cells #[.int .i64 x.t, .slice x.p x.n x.cap] 34)) c r n L) := h.calm (Kept.alloc _ _)
  have HL : Hid (∀ j, Foot c r j → j < w.heap.size) := CacheAt3.lt h
  clear h
  go_enter Tryz.func19, Tryz.ntmps19
  go_wp2_with fail
  refine (find_iw c n r k L _ (by omega) H.out).mono ?_
  rintro e w' ⟨rfl, rfl⟩
  go_wp2_with fail
  refine (place_room_iw c n r L _ (by omega) (by omega) H.out).mono ?_
  rintro e w2 ⟨rfl, r', q1, q2, q3⟩
  obtain ⟨d1, d2, -, -⟩ := two_cells (new_kept q2 (fun e => Nat.lt_irrefl _ (HL.out _ e)))
  have q1' : CacheAt3 w2 c n r' (L ++ [((0 : Int), (⟨0, none, 0, 0⟩ : Wv))]).length (flat3 (L ++ [((0 : Int), (⟨0, none, 0, 0⟩ : Wv))])) := by
    rw [flat3_append, List.length_append]; exact q1
  have Q := hide (And.intro q1' (And.intro q2 q3))
  clear q1 q2 q3 q1'
  go_wp2_with fail
  refine (use_iw c L.length n r' k x (L ++ [((0 : Int), (⟨0, none, 0, 0⟩ : Wv))]) _ (by simp; omega) (by simp) Q.out.1).mono ?_
  rintro e w3 ⟨rfl, p1, p2⟩
  have R := hide (And.intro p1 p2)
  clear p1 p2
  go_wp2
  go_end0
  obtain ⟨_, q2, q3⟩ := Q.out
  obtain ⟨p1, p2⟩ := R.out
  have q3' : NewRow w r r' := by
    rcases q3 with q3 | ⟨g, q3, q4⟩
    · exact Or.inl q3
    · exact Or.inr ⟨g, q3, Nat.le_trans (by simp) q4⟩
  refine ⟨rfl, r', ?_, (Kept.alloc w _).join (q2.join p2 (fun _ _ e => e) (fun j hj e => ?_)) (fun _ _ e => e.elim) (fun _ _ e => e), q3'⟩
  · unfold IsC
    rw [← putL_room n L (k, x) hf hlen ((0 : Int), (⟨0, none, 0, 0⟩ : Wv)), touch_length _ _ _ (by simp)]
    exact p1
  · rcases q3 with q3 | ⟨g, q3, q4⟩
    · exact Or.inr (by rw [← q3]; exact e)
    · rw [q3] at e; simp only [Option.some.injEq] at e; omega

set_option maxHeartbeats 400000 in
set_option maxRecDepth 100000 in
theorem put_full_iw (c n : Nat) (r : Value) (k : Int) (x : Wv) (L : List Ew) (w : World) (hn0 : 1 ≤ n) (hn : n ≤ 64) (hlen : L.length = n) (hf : fHas L k = false) (h : IsC w c r n L) :
    Calls Tryz.prog 19 #[.pointer (some ⟨c, 0, none⟩), .int .i64 k, .agg #[.int .i64 x.t, .slice x.p x.n x.cap]] w fun e w' =>
      e = .returned (.tuple #[]) ∧ ∃ r', IsC w' c r' n (putL n L (k, x)) ∧ Kept (Foot c r) w w' ∧ NewRow w r r' := by
  have H : Hid (IsC (w.alloc (.cells #[.int .i64 x.t, .slice x.p x.n x.cap] 34)) c r n L) := h.calm (Kept.alloc _ _)
  have hL1 : 1 ≤ L.length := by omega
  have hL2 : L.length ≤ 64 := by omega
  have HL := hide hlen
  clear h hlen
  go_enter Tryz.func19, Tryz.ntmps19
  go_wp2_with fail
  refine (find_iw c n r k L _ hL2 H.out).mono ?_
  rintro e w' ⟨rfl, rfl⟩
  go_wp2_with fail
  refine (place_full_iw c n r L _ hL2 hL1 (by have := HL.out; omega) H.out).mono ?_
  rintro e w2 ⟨rfl, nq, hw⟩
  have H2 : Hid (CacheAt3 w2 c n r L.length (flat3 L) ∧ Kept (fun _ => False) (w.alloc (.cells #[.int .i64 x.t, .slice x.p x.n x.cap] 34)) w2) := by
    subst hw
    refine ⟨⟨by rw [drewN_heap]; exact H.out.1, owns_heap H.out.2 (drewN_heap _ _)⟩, Kept.drewN _ _⟩
  obtain ⟨d1, d2, -, -⟩ := two_cells (new_kept H2.out.2 (fun e => e))
  clear hw
  go_wp2_with fail
  rw [show ((L.length : Int) - 1) = ((L.length - 1 : Nat) : Int) from by omega]
  refine (use_iw c (L.length - 1) n r k x L _ hL2 (by omega) H2.out.1).mono ?_
  rintro e w3 ⟨rfl, p1, p2⟩
  have R := hide (And.intro p1 p2)
  clear p1 p2
  go_wp2
  go_end0
  obtain ⟨_, q2⟩ := H2.out
  obtain ⟨p1, p2⟩ := R.out
  refine ⟨rfl, r, ?_, (Kept.alloc w _).join (q2.join p2 (fun _ _ e => e.elim) (fun j hj e => Or.inr e)) (fun _ _ e => e.elim) (fun _ _ e => e), Or.inl rfl⟩
  unfold IsC
  rw [← putL_full n L (k, x) hf (by have := HL.out; omega) hL1, touch_length _ _ _ (by omega)]
  exact p1

theorem put_iw (c n : Nat) (r : Value) (k : Int) (x : Wv) (L : List Ew) (w : World) (hn0 : 1 ≤ n) (hn : n ≤ 64) (hlen : L.length ≤ n) (h : IsC w c r n L) :
    Calls Tryz.prog 19 #[.pointer (some ⟨c, 0, none⟩), .int .i64 k, .agg #[.int .i64 x.t, .slice x.p x.n x.cap]] w fun e w' =>
      e = .returned (.tuple #[]) ∧ ∃ r', IsC w' c r' n (putL n L (k, x)) ∧ Kept (Foot c r) w w' ∧ NewRow w r r' := by
  cases hf : fHas L k with
  | true => exact put_has_iw c n r k x L w hn hlen hf h
  | false =>
    by_cases hl : L.length < n
    · exact put_room_iw c n r k x L w hn hl hf h
    · exact put_full_iw c n r k x L w hn0 hn (by omega) hf h

theorem two_sets3 {w : World} {c : Nat} {a b : Value} {T : TypeId} (h : w.heap[c]? = some (.cells #[a, b] T (0, 0))) (u v : Value) : ((w.setCell ⟨c, 0, none⟩ u).setCell ⟨c, 1, none⟩ v).heap[c]? = some (.cells #[u, v] T (0, 0)) := by
  have h1 : (w.setCell ⟨c, 0, none⟩ u).heap[c]? = some (.cells #[u, b] T (0, 0)) := by
    rw [setCell_eq_setRow w c 0 #[a, b] T (0, 0) u h]
    exact setRow_heap w c _ _ T _ h
  exact two_set h1 v
theorem two_sets3_kept (w4 : World) (b8 : Nat) (u v : Value) : Kept (fun k => k = b8) w4 ((w4.setCell ⟨b8, 0, none⟩ u).setCell ⟨b8, 1, none⟩ v) := (Kept.setCell w4 _ u).join (Kept.setCell _ _ v) (fun _ _ e => e) (fun _ _ e => e)

set_option maxHeartbeats 400000 in
set_option maxRecDepth 100000 in
theorem get_none_iw (c n : Nat) (r : Value) (k : Int) (L : List Ew) (w : World) (hn : n ≤ 64) (hlen : L.length ≤ n) (hf : fHas L k = false) (h : IsC w c r n L) :
    Calls Tryz.prog 68 #[.pointer (some ⟨c, 0, none⟩), .int .i64 k] w fun e w' =>
      e = .returned (.tuple #[.agg #[.int .i64 0, .slice none 0 0], .bool false]) ∧ Kept (fun _ => False) w w' := by
  have H : Hid (IsC (w.alloc (.cells #[.int .i64 0, .slice none 0 0] 34)) c r n L) := h.calm (Kept.alloc _ _)
  clear h
  go_enter Tryz.func68, Tryz.ntmps68
  go_wp2_with fail
  refine (find_iw c n r k L _ (by omega) H.out).mono ?_
  rintro e w' ⟨rfl, rfl⟩
  go_wp2
  refine bodyPost_ret (v := .tuple #[.agg #[.int .i64 0, .slice none 0 0], .bool false]) (by simp [results, Tryz.results68, go_sem]) rfl ?_
  exact ⟨rfl, (Kept.alloc w _).join (Kept.alloc _ _) (fun _ _ e => e) (fun _ _ e => e)⟩

set_option maxHeartbeats 400000 in
set_option maxRecDepth 100000 in
theorem get_has_iw (c n p : Nat) (r : Value) (k : Int) (L : List Ew) (w : World) (hn : n ≤ 64) (hlen : L.length ≤ n) (hf : fHas L k = true) (hp : p < L.length) (hpf : Hid (fAt L k = p)) (h : IsC w c r n L) :
    Calls Tryz.prog 68 #[.pointer (some ⟨c, 0, none⟩), .int .i64 k] w fun e w' =>
      e = .returned (.tuple #[.agg #[.int .i64 L[p].2.t, .slice L[p].2.p L[p].2.n L[p].2.cap], .bool true]) ∧ IsC w' c r n (touch L p L[p]) ∧ Kept (Foot c r) w w' := by
  have hne := h.ne
  obtain ⟨g, cp, rfl⟩ : ∃ g cp, r = .slice (some ⟨g, 0, none⟩) L.length cp := by
    rcases h.2.2 with ⟨_, h0⟩ | ⟨g, cp, _, rfl, _⟩
    · omega
    · exact ⟨_, _, rfl⟩
  obtain ⟨-, c1, -, -⟩ := two_cells h.1
  have hk := row_cell h.2 (p * 3) _ (flat3_get L p hp).1
  have hv := row_cell h.2 (p * 3 + 1) _ (flat3_get L p hp).2.1
  have hu := row_cell h.2 (p * 3 + 2) _ (flat3_get L p hp).2.2
  have hcs := heap_lt h.1
  have hgs : g < w.heap.size := owns_lt h.2 g rfl
  have H := hide h
  clear h
  obtain ⟨k', x', he⟩ : ∃ k' x', L[p] = (k', x') := ⟨_, _, rfl⟩
  rw [he]
  rw [he] at hk hv hu
  simp only [Wv.sl] at hk hv hu
  have HE := hide he
  clear he
  have A0 := hide (Kept.alloc w (.cells #[.int .i64 0, .slice none 0 0] 34))
  have A1 := hide (Kept.alloc (w.alloc (.cells #[.int .i64 0, .slice none 0 0] 34)) (.cells #[.int .i64 k', .int .i64 x'.t, .slice x'.p x'.n x'.cap] 105))
  have B0 := hide ((Below.heap_alloc _ (.cells #[.int .i64 k', .int .i64 x'.t, .slice x'.p x'.n x'.cap] 105) w.heap.size (by simp)).trans (heap_alloc_new w (.cells #[.int .i64 0, .slice none 0 0] 34)))
  have B1 := hide (heap_alloc_new (w.alloc (.cells #[.int .i64 0, .slice none 0 0] 34)) (.cells #[.int .i64 k', .int .i64 x'.t, .slice x'.p x'.n x'.cap] 105))
  go_enter Tryz.func68, Tryz.ntmps68
  go_wp2_with fail
  refine (find_iw c n _ k L _ (by omega) (H.out.calm A0.out)).mono ?_
  rintro e w' ⟨rfl, rfl⟩
  rw [hpf.out]
  go_wp2_with fail
  refine (use_iw c p n _ k' x' L _ (by omega) hp ((H.out.calm A0.out).calm A1.out)).mono ?_
  rintro e w2 ⟨rfl, q1, q2⟩
  have hb0 : w2.heap[w.heap.size]? = some (.cells #[.int .i64 0, .slice none 0 0] 34 (0, 0)) := by rw [q2.block _ (by simp; omega) (fun e => by simp [Value.ownBlock] at e; omega)]; exact B0.out
  have hb1 : w2.heap[w.heap.size + 1]? = some (.cells #[.int .i64 k', .int .i64 x'.t, .slice x'.p x'.n x'.cap] 105 (0, 0)) := by
    have := B1.out
    rw [World.size_alloc] at this
    rw [q2.block _ (by simp) (fun e => by simp [Value.ownBlock] at e; omega)]
    exact this
  obtain ⟨e0, e1, -, -⟩ := two_cells (two_sets3 hb0 (.int .i64 x'.t) (.slice x'.p x'.n x'.cap))
  obtain ⟨-, f1, f2, -, -, -⟩ := three_cells hb1
  obtain ⟨r0, r1, z0, z1⟩ := two_cells hb0
  have D := hide (And.intro e0 e1)
  have Q := hide (And.intro q1 q2)
  have HB0 := hide hb0
  clear q1 q2 e0 e1 hb0 hb1 c1 hk hv hu
  go_wp2
  obtain ⟨d0, d1⟩ := D.out
  refine bodyPost_ret (v := .tuple #[.agg #[.int .i64 x'.t, .slice x'.p x'.n x'.cap], .bool true]) (by simp [results, Tryz.results68, go_sem, d0, d1]) rfl ?_
  obtain ⟨q1, q2⟩ := Q.out
  have KS := two_sets3_kept w2 w.heap.size (.int .i64 x'.t) (.slice x'.p x'.n x'.cap)
  refine ⟨rfl, ?_, ?_⟩
  · unfold IsC
    rw [touch_length L _ _ hp]
    exact CacheAt3.keep q1 KS (fun j hj e => by
      rcases hj with rfl | hj
      · omega
      · simp [Value.ownBlock] at hj; omega)
  · refine A0.out.join (A1.out.join (q2.join KS (R := fun j => Foot c (.slice (some ⟨g, 0, none⟩) L.length cp) j ∨ j = w.heap.size) (fun _ _ e => Or.inl (Or.inr e)) (fun _ _ e => Or.inr e)) (R := fun j => Foot c (.slice (some ⟨g, 0, none⟩) L.length cp) j ∨ j = w.heap.size) (fun _ _ e => e.elim) (fun _ _ e => e)) (fun _ _ e => e.elim) (fun j hj e => ?_)
    rcases e with e | e
    · exact e
    · omega

/-- What 'Get' answers, and leaves. -/
def getW (L : List Ew) (k : Int) : Wv × Bool × List Ew :=
  if h : idx L k < L.length then (L[idx L k].2, true, touch L (idx L k) L[idx L k]) else (⟨0, none, 0, 0⟩, false, L)

theorem get_iw (c n : Nat) (r : Value) (k : Int) (L : List Ew) (w : World) (hn : n ≤ 64) (hlen : L.length ≤ n) (h : IsC w c r n L) :
    Calls Tryz.prog 68 #[.pointer (some ⟨c, 0, none⟩), .int .i64 k] w fun e w' =>
      e = .returned (.tuple #[.agg #[.int .i64 (getW L k).1.t, .slice (getW L k).1.p (getW L k).1.n (getW L k).1.cap], .bool (getW L k).2.1]) ∧ IsC w' c r n (getW L k).2.2 ∧ Kept (Foot c r) w w' := by
  by_cases hi : idx L k < L.length
  · have hf : fHas L k = true := by simp [fHas, hi]
    have hp : fAt L k = idx L k := by simp [fAt, hi]
    have e1 : getW L k = (L[idx L k].2, true, touch L (idx L k) L[idx L k]) := by simp [getW, hi]
    rw [e1]
    exact get_has_iw c n (idx L k) r k L w hn hlen hf hi hp h
  · have hf : fHas L k = false := by simp [fHas, hi]
    have e1 : getW L k = (⟨0, none, 0, 0⟩, false, L) := by simp [getW, hi]
    rw [e1]
    refine (get_none_iw c n r k L w hn hlen hf h).mono ?_
    rintro e w' ⟨rfl, q⟩
    exact ⟨rfl, h.calm q, q.mono (fun _ _ e => e.elim)⟩

set_option maxHeartbeats 400000 in
theorem new_iw (w : World) :
    Calls Tryz.prog 11 #[.int .i64 64] w fun e w' => e = .returned (.tuple #[.pointer (some ⟨w.heap.size, 0, none⟩), .int .i64 0]) ∧ IsC w' w.heap.size (.slice none 0 0) 64 [] ∧ w'.heap.size = w.heap.size + 1 ∧ Kept (fun _ => False) w w' := by
  have hw : Hid (IsC (w.alloc (.cells #[.int .i64 64, .slice none 0 0] 77)) w.heap.size (.slice none 0 0) 64 [] ∧ (w.alloc (.cells #[.int .i64 64, .slice none 0 0] 77)).heap.size = w.heap.size + 1 ∧ Kept (fun _ => False) w (w.alloc (.cells #[.int .i64 64, .slice none 0 0] 77))) :=
    ⟨⟨heap_alloc_new w _, World.ownsRow_nil _ _ _ _⟩, by simp, Kept.alloc _ _⟩
  go_enter Tryz.func11, Tryz.ntmps11
  go_wp2
  go_ret2
  exact ⟨rfl, hw.out⟩
end Go.Proofs.YtlfmfhmbkpnjbabGreatDoor

namespace Go.Proofs.YtlfmfhmbkpnjbabGreatDoor
open Go.RowKit

/-- A player: where its parts lie. -/
structure PD where
  cv : Value
  wv : Value
  CS : List Cv
  WS : List Wd
  c : Nat
  r : Value
  C : List Ew
/-- A world that is shown. -/
structure Shown (w : World) (F : Nat → Prop) (m : Mt) (e : Ew) : Prop where
  ex : ∃ t : Nat, e.1 = (t : Int) ∧ t ≤ m.cmds.length ∧ e.2.t = (t : Int) ∧ e.2.n = (m.at t).length ∧ Reads w e.2.p (m.at t)
  nil : NilOk e.2.p e.2.cap
  foot : ∀ b off, e.2.p = some ⟨b, off, none⟩ → F b ∧ typ w b 63
structure PL (w : World) (F : Nat → Prop) (pb : Nat) (m : Mt) (k : Nat) (d : PD) : Prop where
  blk : w.heap[pb]? = some (.cells #[.int .i64 (m.ev : Int), d.cv, d.wv, .int .i64 (k : Int), .pointer (some ⟨d.c, 0, none⟩)] 48 (0, 0))
  ok : m.Ok
  row : MRow w F m.ev d.cv d.wv d.CS d.WS
  cmds : d.CS.map Cv.cs = m.cmds
  whole : d.WS.map Wd.L = m.whole
  cache : IsC w d.c d.r 64 d.C
  size : d.C.length ≤ 64
  each : ∀ e ∈ d.C, Shown w F m e
  fp : F pb
  fc : F d.c
  fr : ∀ g, d.r.ownBlock = some g → F g
  lt : ∀ j, F j → j < w.heap.size
  at_ : k ≤ m.cmds.length
theorem Shown.keep {w w' : World} {S F : Nat → Prop} {m : Mt} {e : Ew} (h : Shown w F m e) (k : Kept S w w') (hS : ∀ j, F j → typ w j 63 → ¬ S j) : Shown w' F m e := by
  obtain ⟨t, h1, h2, h3, h4, h5⟩ := h.ex
  exact ⟨⟨t, h1, h2, h3, h4, h5.keep k (fun b off e => hS b (h.foot b off e).1 (h.foot b off e).2)⟩, h.nil, fun b off e => ⟨(h.foot b off e).1, typ_keep (h.foot b off e).2 k (hS b (h.foot b off e).1 (h.foot b off e).2)⟩⟩
theorem Shown.mono {w : World} {F G : Nat → Prop} {m : Mt} {e : Ew} (h : Shown w F m e) (hF : ∀ j, F j → G j) : Shown w G m e := ⟨h.ex, h.nil, fun b off e => ⟨hF _ (h.foot b off e).1, (h.foot b off e).2⟩⟩
/-- Others do not touch it. -/
theorem PL.keep {w w' : World} {S F : Nat → Prop} {pb : Nat} {m : Mt} {k : Nat} {d : PD} (h : PL w F pb m k d) (kk : Kept S w w') (hS : ∀ j, F j → ¬ S j) : PL w' F pb m k d :=
  ⟨by rw [kk.block pb (heap_lt h.blk) (hS _ h.fp)]; exact h.blk, h.ok, h.row.keep kk (fun j hj _ => hS j hj), h.cmds, h.whole, CacheAt3.keep h.cache kk (fun j hj => by rcases hj with rfl | hj; exact hS _ h.fc; exact hS _ (h.fr j hj)), h.size,
    fun e he => (h.each e he).keep kk (fun j hj _ => hS j hj), h.fp, h.fc, h.fr, fun j hj => Nat.lt_of_lt_of_le (h.lt j hj) kk.size, h.at_⟩
theorem PL.calm {w w' : World} {F : Nat → Prop} {pb : Nat} {m : Mt} {k : Nat} {d : PD} (h : PL w F pb m k d) (kk : Kept (fun _ => False) w w') : PL w' F pb m k d := h.keep kk (fun _ _ e => e)

theorem five_all {w : World} {c : Nat} {a b d e f : Value} {T : TypeId} (h : w.heap[c]? = some (.cells #[a, b, d, e, f] T (0, 0))) :
    (w.cell? ⟨c, 0, none⟩ = some a ∧ w.cell? ⟨c, 1, none⟩ = some b ∧ w.cell? ⟨c, 2, none⟩ = some d ∧ w.cell? ⟨c, 3, none⟩ = some e ∧ w.cell? ⟨c, 4, none⟩ = some f) ∧ w.frozen? ⟨c, 3, none⟩ = false := by
  simp [World.cell?, World.frozen?, h]

/-- Behind 'Open'. -/
def OpenPost (s : List UInt8) (w : World) (e : Ending) (w' : World) : Prop :=
  Kept (fun _ => False) w w' ∧ ((matchL s = none ∧ e = .returned (.tuple #[.pointer none, .int .i64 3])) ∨
    ∃ m pb d, matchL s = some m ∧ e = .returned (.tuple #[.pointer (some ⟨pb, 0, none⟩), .int .i64 0]) ∧ PL w' (fun j => w.heap.size ≤ j ∧ j < w'.heap.size) pb m 0 d)

set_option maxHeartbeats 1000000 in
set_option maxRecDepth 100000 in
theorem open_c (s : List UInt8) (w : World) (hl : s.length ≤ 140737488355328) (hM : Mine w.heap.size) (hE : Errs w) :
    Calls Tryz.prog 4 #[.string (baL s)] w (OpenPost s w) := by
  have HE := hide hE
  have HM := hide hM
  have HL := hide hl
  clear hE hM hl
  go_enter Tryz.func4, Tryz.ntmps4
  go_wp2_with fail
  refine (matchOf_c s w HL.out HM.out HE.out).mono ?_
  rintro e w1 ⟨k1, h⟩
  have K1 := hide k1
  clear k1
  rcases h with ⟨hn, rfl⟩ | ⟨m, cv, wv, CS, WS, hm, hok, rfl, hrow, hc, hw⟩
  · have HN := hide hn
    clear hn
    go_wp2
    go_ret2
    exact ⟨K1.out.calm2 (Kept.alloc _ _), Or.inl ⟨HN.out, rfl⟩⟩
  · obtain ⟨ao, cp, rfl⟩ : ∃ ao cp, cv = .slice ao CS.length cp := by
      rcases hrow.rowc.2 with ⟨rfl, h0⟩ | ⟨g, cp, _, rfl, _⟩
      · exact ⟨none, 0, by rw [h0]⟩
      · exact ⟨_, _, rfl⟩
    obtain ⟨bo, bp, rfl⟩ : ∃ bo bp, wv = .slice bo WS.length bp := by
      rcases hrow.roww.2 with ⟨rfl, h0⟩ | ⟨g, cp, _, rfl, _⟩
      · exact ⟨none, 0, by rw [h0]⟩
      · exact ⟨_, _, rfl⟩
    have HH := hide (And.intro hm (And.intro hok (And.intro hrow (And.intro hc hw))))
    clear hm hok hrow hc hw
    have KA := hide (Kept.alloc w1 (.cells #[.int .i64 (m.ev : Int), .slice ao CS.length cp, .slice bo WS.length bp] 41))
    have BA : Hid ((w1.alloc (.cells #[.int .i64 (m.ev : Int), .slice ao CS.length cp, .slice bo WS.length bp] 41)).heap[w1.heap.size]? = some (.cells #[.int .i64 (m.ev : Int), .slice ao CS.length cp, .slice bo WS.length bp] 41 (0, 0))) := heap_alloc_new w1 _
    go_wp2_with fail
    refine (new_iw _).mono ?_
    rintro e w2 ⟨rfl, hc2, hs2, k2⟩
    have C2 := hide hc2
    have K2 := hide k2
    have hs2' : w2.heap.size = w1.heap.size + 2 := by rw [hs2]; simp
    obtain ⟨a0, a1, a2, -, -, -⟩ := three_cells (show w2.heap[w1.heap.size]? = some (.cells #[.int .i64 (m.ev : Int), .slice ao CS.length cp, .slice bo WS.length bp] 41 (0, 0)) by rw [k2.block _ (by simp) (fun e => e)]; exact BA.out)
    rw [World.size_alloc] at C2
    have HS2 := hide hs2'
    clear hc2 k2 hs2 hs2'
    go_wp2
    go_ret2
    have hs2' := HS2.out
    have hs1 := K1.out.size
    have k3 := Kept.alloc w2 (.cells #[.int .i64 (m.ev : Int), .slice ao CS.length cp, .slice bo WS.length bp, .int .i64 0, .pointer (some ⟨w1.heap.size + 1, 0, none⟩)] 48)
    obtain ⟨hm, hok, hrow, hc, hw⟩ := HH.out
    refine ⟨((K1.out.calm2 KA.out).calm2 K2.out).calm2 k3, Or.inr ⟨m, w2.heap.size, ⟨.slice ao CS.length cp, .slice bo WS.length bp, CS, WS, w1.heap.size + 1, .slice none 0 0, []⟩, hm, rfl, ?_⟩⟩
    have hrow1 := ((hrow.calm KA.out).calm K2.out).calm k3
    have F : ∀ j, w.heap.size ≤ j → MTyp w1 j → w.heap.size ≤ j ∧ j < (w2.alloc (.cells #[.int .i64 (m.ev : Int), .slice ao CS.length cp, .slice bo WS.length bp, .int .i64 0, .pointer (some ⟨w1.heap.size + 1, 0, none⟩)] 48)).heap.size := by
      intro j hj ht
      refine ⟨hj, ?_⟩
      have : j < w1.heap.size := by rcases ht with ht | ht | ht | ht <;> exact typ_lt ht
      simp
      omega
    refine ⟨heap_alloc_new w2 _, hok, ?_, hc, hw, C2.out.calm k3, Nat.zero_le _, fun e he => (by cases he), ⟨by omega, by simp⟩, ⟨by show w.heap.size ≤ w1.heap.size + 1; omega, by show w1.heap.size + 1 < _; simp; omega⟩, fun g hg => (by cases hg), fun j hj => hj.2, Nat.zero_le _⟩
    exact ⟨hrow1.rowc, fun c hc => ⟨(hrow1.eachc c hc).1, F _ (hrow.eachc c hc).2 (Or.inr (Or.inl (typ_blk (hrow.eachc c hc).1)))⟩, hrow1.ticks, hrow1.roww, fun d hd => ⟨(hrow1.eachw d hd).1, (hrow1.eachw d hd).2.1, fun b off e => ⟨F _ ((hrow.eachw d hd).2.2 b off e).1 (Or.inr (Or.inr (Or.inr ((hrow.eachw d hd).2.2 b off e).2))), ((hrow1.eachw d hd).2.2 b off e).2⟩⟩,
      fun g hg => F _ (hrow.footc g hg) (Or.inl (typ_own hrow.rowc g hg)), fun g hg => F _ (hrow.footw g hg) (Or.inr (Or.inr (Or.inl (typ_own hrow.roww g hg))))⟩

set_option maxHeartbeats 400000 in
theorem ticks_c (F : Nat → Prop) (pb : Nat) (m : Mt) (k : Nat) (d : PD) (w : World) (h : PL w F pb m k d) :
    Calls Tryz.prog 6 #[.pointer (some ⟨pb, 0, none⟩)] w fun e w' => e = .returned (.int .i64 (m.cmds.length : Int)) ∧ w' = w := by
  obtain ⟨⟨c0, c1, c2, c3, c4⟩, -⟩ := five_all h.blk
  obtain ⟨ao, cp, hcv⟩ : ∃ ao cp, d.cv = .slice ao m.cmds.length cp := by
    have hl : m.cmds.length = d.CS.length := by rw [← h.cmds]; simp
    rw [hl]
    rcases h.row.rowc.2 with ⟨e, h0⟩ | ⟨g, cp, _, e, _⟩
    · exact ⟨none, 0, by rw [e, h0]⟩
    · exact ⟨_, _, e⟩
  rw [hcv] at c1
  clear h hcv
  go_enter Tryz.func6, Tryz.ntmps6
  go_wp2
  go_ret
  exact ⟨rfl, rfl⟩
end Go.Proofs.YtlfmfhmbkpnjbabGreatDoor

namespace Go.Proofs.YtlfmfhmbkpnjbabGreatDoor
open Go.RowKit

set_option maxHeartbeats 1000000 in
set_option maxRecDepth 100000 in
theorem clone_nil (w : World) :
    Calls Tryz.prog 43 #[.slice none 0 0] w fun e w' => e = .returned (.slice none 0 0) ∧ Kept (fun _ => False) w w' := by
  have hnil : ∀ w : World, (binOp .eql 32 (.slice none 0 0) (.slice none 0 0)).run Tryz.prog w = .ok (.bool true) w := fun w => Lib.run_eql_slice_nil_nil w _ _ Tryz.underlying32
  go_enter Tryz.func43, Tryz.ntmps43
  go_wp2
  go_ret
  exact ⟨rfl, Kept.refl _ _⟩

theorem Fresh.none (w : World) (B : Nat) : Fresh w B none 0 0 [] := ⟨fun h => absurd rfl h, Or.inl ⟨rfl, rfl, rfl⟩, fun j off e => by cases e⟩

set_option maxHeartbeats 1000000 in
set_option maxRecDepth 100000 in
theorem copyOf_nil (t : Int) (w : World) :
    Calls Tryz.prog 20 #[.agg #[.int .i64 t, .slice none 0 0]] w fun e w' => e = .returned (.agg #[.int .i64 t, .slice none 0 0]) ∧ Kept (fun _ => False) w w' := by
  have LT := hide (laid_two w t (.slice none 0 0))
  go_enter Tryz.func20, Tryz.ntmps20
  go_wp2
  generalize (w.alloc (.cells #[.int .i64 t, .slice none 0 0] 34)).alloc (.cells #[.int .i64 0, .slice none 0 0] 34) = wa at *
  have ha0 := heap_lt LT.out.2.1
  have ha1 := heap_lt LT.out.2.2
  obtain ⟨a0, a1, -, -⟩ := two_cells LT.out.2.1
  obtain ⟨b0, b1, -, -⟩ := two_cells LT.out.2.2
  go_region_held3 (fun w' => w'.cell? ⟨w.heap.size, 0, none⟩ = some (.int .i64 t) ∧ w'.cell? ⟨w.heap.size, 1, none⟩ = some (.slice none 0 0)) (go_keep)
    ((go_at_call 43; refine (clone_nil wa.drew).mono ?_; rintro e w1 ⟨rfl, k1⟩; have K1 := hide ((Kept.drew wa).calm2 k1); clear k1; have A1 : Hid (w1.heap[w.heap.size]? = some (.cells #[.int .i64 t, .slice none 0 0] 34 (0, 0))) := (by show _ = _; rw [K1.out.block _ ha0 (fun e => e)]; exact LT.out.2.1); have B1 : Hid (w1.heap[w.heap.size + 1]? = some (.cells #[.int .i64 0, .slice none 0 0] 34 (0, 0))) := (by show _ = _; rw [K1.out.block _ ha1 (fun e => e)]; exact LT.out.2.2); obtain ⟨x0, x1, -, -⟩ := two_cells A1.out; obtain ⟨c0, c1, fz0, fz1⟩ := two_cells B1.out))
  all_goals
    clear a0 a1 b0 b1 x0 x1 c0 c1 fz0 fz1
    obtain ⟨d0, d1, -, -⟩ := two_cells (two_sets B1.out (.int .i64 t) (.slice none 0 0))
    have hsl := LT.out.1.size
    go_wp2
    refine bodyPost_ret (v := .agg #[.int .i64 t, .slice none 0 0]) (by simp [results, Tryz.results20, go_sem, d0, d1]) rfl ?_
    exact ⟨rfl, two_kept (LT.out.1.calm2 K1.out) (by omega) _ _⟩

/-- A copy of a world, whatever it is. -/
theorem copy_any (t : Int) (p : Option Addr) (cap : Nat) (X : List Mob) (w : World) (hl : X.length ≤ 100) (h : Reads w p X) (hp : NilOk p cap) :
    Calls Tryz.prog 20 #[.agg #[.int .i64 t, .slice p X.length cap]] w fun e w' => ∃ q cq, e = .returned (.agg #[.int .i64 t, .slice q X.length cq]) ∧ Fresh w' w.heap.size q X.length cq X ∧ Kept (fun _ => False) w w' := by
  cases p with
  | none =>
    obtain rfl : cap = 0 := hp.1 rfl
    obtain rfl : X = [] := by
      apply Classical.byContradiction
      intro hne
      obtain ⟨b, off, e, _⟩ := h hne
      cases e
    refine (copyOf_nil t w).mono ?_
    rintro e w' ⟨rfl, k⟩
    exact ⟨none, 0, rfl, Fresh.none _ _, k⟩
  | some a =>
    obtain ⟨b, rfl⟩ := hp.2 a rfl
    exact copyOf_c t b cap X w hl h
end Go.Proofs.YtlfmfhmbkpnjbabGreatDoor
