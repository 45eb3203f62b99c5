import Derived.Test.YtlfmfhmbkpnjbabGreatDoorPy22
import Derived.Deep.Cut
import Derived.Test.YtlfmfhmbkpnjbabGreatDoorPy8
import Derived.Test.YtlfmfhmbkpnjbabGreatDoorPy15
namespace Go.Proofs.YtlfmfhmbkpnjbabGreatDoor
open Go.RowKit

theorem fromM_zero (css : List (List Cmd)) (b : Nat) (L : List Mob) : fromM css b L 0 = L := rfl
theorem Mt.at_base (m : Mt) (h : 1 ≤ m.ev) (q : Nat) : m.at (q * m.ev) = m.whole.getD q [] := by
  unfold Mt.at
  rw [Nat.mul_div_cancel _ (by omega), Nat.mul_mod_left, fromM_zero]
theorem same_div {u t e : Nat} (he : 1 ≤ e) (h1 : t / e * e ≤ u) (h2 : u ≤ t) : u / e = t / e := by
  have a := Nat.div_le_div_right (c := e) h2
  have b : t / e ≤ u / e := by
    rw [Nat.le_div_iff_mul_le (by omega)]
    exact h1
  omega
/-- A tick on. -/
theorem Mt.at_succ (m : Mt) (h : 1 ≤ m.ev) {u t : Nat} (h1 : t / m.ev * m.ev ≤ u) (h2 : u < t) : m.at (u + 1) = stepL (m.cmds.getD u []) (m.at u) := by
  have e1 := same_div h h1 (Nat.le_of_lt h2)
  have e2 := same_div h (Nat.le_trans h1 (Nat.le_succ u)) (show u + 1 ≤ t by omega)
  have d1 := Nat.div_add_mod u m.ev
  have d2 := Nat.div_add_mod (u + 1) m.ev
  rw [e1] at d1
  rw [e2] at d2
  have hm : (u + 1) % m.ev = u % m.ev + 1 := by omega
  unfold Mt.at
  rw [e1, e2, hm]
  show stepL (m.cmds.getD (t / m.ev * m.ev + u % m.ev) []) _ = _
  rw [show t / m.ev * m.ev + u % m.ev = u from by rw [Nat.mul_comm]; omega]
theorem PL.good {w : World} {F : Nat → Prop} {pb : Nat} {m : Mt} {k : Nat} {d : PD} (h : PL w F pb m k d) (t : Nat) (ht : t ≤ m.cmds.length) : worldB (t : Int) (m.at t) = true := by
  have hev := h.ok.ev
  have key : ∀ s, t / m.ev * m.ev + s ≤ t → worldB ((t / m.ev * m.ev + s : Nat) : Int) (m.at (t / m.ev * m.ev + s)) = true := by
    intro s
    induction s with
    | zero =>
      intro _
      rw [Nat.add_zero, Mt.at_base m hev.1]
      have hq : t / m.ev < m.whole.length := by rw [h.ok.count]; have := Nat.div_le_div_right (c := m.ev) ht; omega
      rw [show m.whole.getD (t / m.ev) [] = m.whole[t / m.ev] from by simp [List.getD, hq]]
      exact h.ok.good _ hq
    | succ s ih =>
      intro hs
      have := worldB_next (m.cmds.getD (t / m.ev * m.ev + s) []) (ih (by omega)) (by have := h.ok.len; omega)
      rw [← Nat.add_assoc, Mt.at_succ m hev.1 (t := t) (by omega) (by omega)]
      exact this
  have hd := Nat.div_add_mod t m.ev
  have := key (t % m.ev) (by rw [Nat.mul_comm]; omega)
  rwa [show t / m.ev * m.ev + t % m.ev = t from by rw [Nat.mul_comm]; omega] at this

/-- A world of the player's that stands at a tick. -/
structure Stand (w : World) (F : Nat → Prop) (m : Mt) (u : Nat) (p : Option Addr) (cap : Nat) : Prop where
  reads : Reads w p (m.at u)
  nil : NilOk p cap
  foot : ∀ b off, p = some ⟨b, off, none⟩ → F b ∧ typ w b 63
theorem Stand.keep {w w' : World} {S F : Nat → Prop} {m : Mt} {u : Nat} {p : Option Addr} {cap : Nat} (h : Stand w F m u p cap) (k : Kept S w w') (hS : ∀ j, F j → typ w j 63 → ¬ S j) : Stand w' F m u p cap :=
  ⟨h.reads.keep k (fun b off e => hS b (h.foot b off e).1 (h.foot b off e).2), h.nil, fun b off e => ⟨(h.foot b off e).1, typ_keep (h.foot b off e).2 k (hS b (h.foot b off e).1 (h.foot b off e).2)⟩⟩
theorem Stand.calm {w w' : World} {F : Nat → Prop} {m : Mt} {u : Nat} {p : Option Addr} {cap : Nat} (h : Stand w F m u p cap) (k : Kept (fun _ => False) w w') : Stand w' F m u p cap := h.keep k (fun _ _ _ e => e)
/-- The whole world of a tick. -/
theorem PL.base {w : World} {F : Nat → Prop} {pb : Nat} {m : Mt} {k : Nat} {d : PD} (h : PL w F pb m k d) (q : Nat) (hq : q < m.whole.length) :
    ∃ p cap g cp, d.wv = .slice (some ⟨g, 0, none⟩) d.WS.length cp ∧ q < d.WS.length ∧ w.cell? ⟨g, q * 2, none⟩ = some (.int .i64 ((q * m.ev : Nat) : Int)) ∧ w.cell? ⟨g, q * 2 + 1, none⟩ = some (.slice p (m.at (q * m.ev)).length cap) ∧ Stand w F m (q * m.ev) p cap := by
  have hl : m.whole.length = d.WS.length := by rw [← h.whole]; simp
  have hq' : q < d.WS.length := by omega
  obtain ⟨g, cp, hwv⟩ : ∃ g cp, d.wv = .slice (some ⟨g, 0, none⟩) d.WS.length cp := by
    rcases h.row.roww.2 with ⟨_, h0⟩ | ⟨g, cp, _, e, _⟩
    · omega
    · exact ⟨g, cp, e⟩
  have hrow := h.row.roww
  rw [hwv] at hrow
  obtain ⟨r1, r2⟩ := rowW_get d.WS q hq'
  have c1 := row_cell hrow (q * 2) _ r1
  have c2 := row_cell hrow (q * 2 + 1) _ r2
  rw [h.row.ticks q hq'] at c1
  have hL : d.WS[q].L = m.at (q * m.ev) := by
    rw [Mt.at_base m h.ok.ev.1, ← h.whole]
    simp [List.getD, hq']
  obtain ⟨e1, e2, e3⟩ := h.row.eachw d.WS[q] (List.getElem_mem hq')
  rw [hL] at c2 e1
  exact ⟨d.WS[q].p, d.WS[q].cap, g, cp, hwv, hq', c1, c2, e1, e2, e3⟩
/-- The commands of a tick. -/
theorem PL.cmdAt {w : World} {F : Nat → Prop} {pb : Nat} {m : Mt} {k : Nat} {d : PD} (h : PL w F pb m k d) (u : Nat) (hu : u < m.cmds.length) :
    ∃ g cp g2, d.cv = .slice (some ⟨g, 0, none⟩) d.CS.length cp ∧ u < d.CS.length ∧ w.cell? ⟨g, u, none⟩ = some (.slice (some ⟨g2, 0, none⟩) (m.cmds.getD u []).length (m.cmds.getD u []).length) ∧ ReadsC w (some ⟨g2, 0, none⟩) (m.cmds.getD u []) ∧ (m.cmds.getD u []).length ≤ 64 := by
  have hl : m.cmds.length = d.CS.length := by rw [← h.cmds]; simp
  have hu' : u < d.CS.length := by omega
  obtain ⟨g, cp, hcv⟩ : ∃ g cp, d.cv = .slice (some ⟨g, 0, none⟩) d.CS.length cp := by
    rcases h.row.rowc.2 with ⟨_, h0⟩ | ⟨g, cp, _, e, _⟩
    · omega
    · exact ⟨g, cp, e⟩
  have hrow := h.row.rowc
  rw [hcv] at hrow
  have c1 := row_cell hrow u _ (rowV_get d.CS u hu')
  have hL : d.CS[u].cs = m.cmds.getD u [] := by
    rw [← h.cmds]
    simp [List.getD, hu']
  obtain ⟨e1, e2⟩ := h.row.eachc d.CS[u] (List.getElem_mem hu')
  rw [hL] at c1 e1
  refine ⟨g, cp, d.CS[u].g, hcv, hu', c1, fun _ => ⟨d.CS[u].g, 0, rfl, heap_lt e1, fun j v hv => ?_⟩, ?_⟩
  · rw [cell_block e1, Nat.zero_add]
    simpa using hv
  · have hmem : m.cmds.getD u [] ∈ m.cmds := by
      rw [show m.cmds.getD u [] = m.cmds[u] from by simp [List.getD, hu]]
      exact List.getElem_mem hu
    exact h.ok.cmds _ hmem
end Go.Proofs.YtlfmfhmbkpnjbabGreatDoor

namespace Go.Proofs.YtlfmfhmbkpnjbabGreatDoor
open Go.RowKit

/-- The cache is asked. -/
theorem PL.touched {w w' : World} {F : Nat → Prop} {pb : Nat} {m : Mt} {k : Nat} {d : PD} {C' : List Ew} {r' : Value} (h : PL w F pb m k d) (kk : Kept (Foot d.c d.r) w w') (hc : IsC w' d.c r' 64 C') (hl : C'.length ≤ 64) (hm : ∀ e ∈ C', e ∈ d.C) (hr : r' = d.r) : PL w' F pb m k { d with C := C' } := by
  subst hr
  have hcT : typ w d.c 77 := typ_blk h.cache.1
  have hne : ∀ j T, Foot d.c d.r j → typ w j T → T = 77 ∨ T = 105 := by
    intro j T hj ht
    rcases hj with rfl | hj
    · left; apply Classical.byContradiction; intro hn; exact typ_ne ht hcT hn rfl
    · right; apply Classical.byContradiction; intro hn; exact typ_ne ht (typ_own h.cache.2 j hj) hn rfl
  refine ⟨?_, h.ok, h.row.keep kk (fun j _ ht e => ?_), h.cmds, h.whole, hc, hl, fun e he => (h.each e (hm e he)).keep kk (fun j _ ht e => ?_), h.fp, h.fc, h.fr, fun j hj => Nat.lt_of_lt_of_le (h.lt j hj) kk.size, h.at_⟩
  · rw [kk.block pb (heap_lt h.blk) (fun e => ?_)]
    · exact h.blk
    · rcases hne pb _ e (typ_blk h.blk) with e | e <;> exact absurd e (by decide)
  · rcases ht with ht | ht | ht | ht <;> (rcases hne j _ e ht with e | e <;> exact absurd e (by decide))
  · rcases hne j _ e ht with e | e <;> exact absurd e (by decide)
theorem touch_mem {α : Type} (L : List α) (p : Nat) (h : p < L.length) : ∀ e ∈ touch L p L[p], e ∈ L := by
  intro e he
  unfold touch at he
  rcases List.mem_cons.1 he with rfl | he
  · exact List.getElem_mem h
  · rcases List.mem_append.1 he with he | he
    · exact List.mem_of_mem_take he
    · exact List.mem_of_mem_drop he
theorem idx_key {K V : Type} [DecidableEq K] (L : List (K × V)) (k : K) (h : idx L k < L.length) : L[idx L k].1 = k := by
  induction L with
  | nil => simp at h
  | cons p r ih =>
    simp only [idx] at h ⊢
    by_cases e : p.1 = k
    · simp [e]
    · simp only [e, if_false, List.length_cons] at h ⊢
      simpa using ih (by omega)

/-- What a player writes to. -/
theorem PL.wf {w : World} {F : Nat → Prop} {pb : Nat} {m : Mt} {k : Nat} {d : PD} (h : PL w F pb m k d) (j : Nat) (hj : j = pb ∨ Foot d.c d.r j) : F j := by
  rcases hj with rfl | rfl | hj
  · exact h.fp
  · exact h.fc
  · exact h.fr j hj
/-- Behind 'lastAtHand'. -/
def HandPost (F : Nat → Prop) (pb : Nat) (m : Mt) (k : Nat) (t : Nat) (d : PD) (w : World) (e : Ending) (w' : World) : Prop :=
  ∃ (u : Nat) (p : Option Addr) (cap : Nat) (d' : PD), e = .returned (.agg #[.int .i64 (u : Int), .slice p (m.at u).length cap]) ∧ t / m.ev * m.ev ≤ u ∧ u ≤ t ∧ Stand w' F m u p cap ∧ PL w' F pb m k d' ∧ (d'.c = d.c ∧ d'.r = d.r) ∧ Kept (Foot d.c d.r) w w'

set_option maxHeartbeats 1000000 in
set_option maxRecDepth 100000 in
theorem hand_c (F : Nat → Prop) (pb : Nat) (m : Mt) (k : Nat) (d : PD) (t : Nat) (w : World) (ht : t ≤ m.cmds.length) (h : PL w F pb m k d) :
    Calls Tryz.prog 39 #[.pointer (some ⟨pb, 0, none⟩), .int .i64 (t : Int)] w (HandPost F pb m k t d w) := by
  have hev := h.ok.ev
  have hlen := h.ok.len
  have hq : t / m.ev < m.whole.length := by rw [h.ok.count]; have := Nat.div_le_div_right (c := m.ev) ht; omega
  have KA := hide (Kept.alloc w (.cells #[.int .i64 0, .slice none 0 0] 34))
  have HA := hide (h.calm KA.out)
  have BA : Hid ((w.alloc (.cells #[.int .i64 0, .slice none 0 0] 34)).heap[w.heap.size]? = some (.cells #[.int .i64 0, .slice none 0 0] 34 (0, 0))) := heap_alloc_new w _
  have HW : Hid (w.heap.size < (w.alloc (.cells #[.int .i64 0, .slice none 0 0] 34)).heap.size) := by show _ < _; simp
  have H := hide h
  have hpbw := h.lt pb h.fp
  clear h
  go_enter Tryz.func39, Tryz.ntmps39
  go_wp2_with fail
  obtain ⟨wA, hwA⟩ : ∃ wA, w.alloc (.cells #[.int .i64 0, .slice none 0 0] 34) = wA := ⟨_, rfl⟩
  rw [hwA] at KA HA BA HW ⊢
  clear hwA
  obtain ⟨p, cap, g, cp, hwv, hqW, c1, c2, st⟩ := HA.out.base (t / m.ev) hq
  obtain ⟨⟨a0, a1, a2, a3, a4⟩, -⟩ := five_all HA.out.blk
  rw [hwv] at a2
  have ST := hide st
  clear st
  have hev0 : ((m.ev : Int) == 0) = false := by simp; omega
  have hdv : ((t : Int) / (m.ev : Int)) = ((t / m.ev : Nat) : Int) := by rw [Int.natCast_ediv]
  have hdt : ((t : Int).tdiv (m.ev : Int)) = ((t / m.ev : Nat) : Int) := by rw [Int.tdiv_eq_ediv_of_nonneg (by omega), Int.natCast_ediv]
  have hb2 : ((t / m.ev : Nat) : Int) < (d.WS.length : Int) := by omega
  have hwAs := HW.out
  have hgs : g < wA.heap.size := World.block_lt_of_cell? wA ⟨g, t / m.ev * 2, none⟩ c1
  have hq5 : t / m.ev ≤ 500 := by have := Nat.div_le_self t m.ev; omega
  have hbt : t / m.ev * m.ev ≤ t := Nat.div_mul_le_self t m.ev
  generalize hB : t / m.ev * m.ev = base at *
  generalize hQ : t / m.ev = q at *
  have hev1 : ¬ m.ev = 0 := by omega
  have hwr : IntKind.i64.wrap (q : Int) = (q : Int) := wrap_id _ (by omega)
  have hpA : pb < wA.heap.size := by omega
  have hn1 := World.new_ne wA ⟨pb, 0, none⟩ a0
  have hn2 := World.new_ne wA ⟨pb, 2, none⟩ a2
  have hn3 := World.new_ne wA ⟨g, q * 2, none⟩ c1
  have hn4 := World.new_ne wA ⟨g, q * 2 + 1, none⟩ c2
  go_cut [5] from 9 (fun s5 wx => ∃ B5, s5 = .pointer (some ⟨B5, 0, none⟩) ∧ wA.heap.size ≤ B5 ∧ Hid (wx.heap[B5]? = some (.cells #[.int .i64 (base : Int), .slice p (m.at base).length cap] 34 (0, 0))) ∧ Hid (Kept (fun _ => False) wA wx))
  case first =>
    go_region_held3 (fun w' => w'.cell? ⟨pb, 0, none⟩ = some (.int .i64 (m.ev : Int)) ∧ w'.cell? ⟨pb, 2, none⟩ = some (.slice (some ⟨g, 0, none⟩) d.WS.length cp) ∧ w'.cell? ⟨g, q * 2, none⟩ = some (.int .i64 (base : Int)) ∧ w'.cell? ⟨g, q * 2 + 1, none⟩ = some (.slice p (m.at base).length cap)) (go_keep) (fail)
    go_wp2_with fail
    go_meet
    have N := heap_alloc_new wA (.cells #[.int .i64 (base : Int), .slice p (m.at base).length cap] 34)
    exact ⟨wA.heap.size, rfl, Nat.le_refl _, N, (Kept.alloc wA _).calm2 (Kept.drew _)⟩
  case rest =>
    obtain ⟨B5, rfl, hB5, N5, K5⟩ := hcut
    clear a0 a1 a2 a3 a4 c1 c2 hn1 hn2 hn3 hn4
    have hszc := K5.out.size
    have R0 : Hid (PL wc F pb m k d ∧ wc.heap[w.heap.size]? = some (.cells #[.int .i64 0, .slice none 0 0] 34 (0, 0)) ∧ Kept (fun _ => False) w wc) := ⟨HA.out.calm K5.out, by rw [K5.out.block _ (heap_lt BA.out) (fun e => e)]; exact BA.out, KA.out.calm2 K5.out⟩
    have STc := hide (ST.out.calm K5.out)
    go_wp2_with fail
    go_loopw [6] (fun s6 wr => ∃ x : Nat, base ≤ x ∧ x ≤ t ∧ s6 = .int .i64 (x : Int) ∧ Hid (PL wr F pb m k d) ∧ Hid (wr.heap[B5]? = some (.cells #[.int .i64 (base : Int), .slice p (m.at base).length cap] 34 (0, 0))) ∧ Hid (wr.heap[w.heap.size]? = some (.cells #[.int .i64 0, .slice none 0 0] 34 (0, 0))) ∧ Hid (Kept (Foot d.c d.r) w wr) ∧ Hid (Stand wr F m base p cap)) (fun s6 _ => (intOf s6).toNat)
    case atStart => exact ⟨t, hbt, Nat.le_refl _, rfl, R0.out.1, N5, R0.out.2.1, R0.out.2.2.mono (fun _ _ e => e.elim), STc⟩
    case round =>
      obtain ⟨x, hx1, hx2, rfl, HP, HN, HR, HK, HT⟩ := hrel
      obtain ⟨n0, n1, -, -⟩ := two_cells HN.out
      obtain ⟨r0, r1, z0, z1⟩ := two_cells HR.out
      obtain ⟨⟨a0, a1, a2, a3, a4⟩, -⟩ := five_all HP.out.blk
      have hsw := HK.out.size
      by_cases hlt : base < x
      · have hlt' : (base : Int) < (x : Int) := by omega
        go_wp2_with fail
        refine (get_iw d.c 64 d.r (x : Int) d.C wr (by decide) HP.out.size HP.out.cache).mono ?_
        rintro e w2 ⟨rfl, q1, q2⟩
        have hFw : ∀ j, F j → j < w.heap.size := fun j hj => H.out.lt j hj
        have hfo : ∀ j, Foot d.c d.r j → F j := fun j hj => by rcases hj with rfl | hj; exact HP.out.fc; exact HP.out.fr j hj
        have N2 : Hid (w2.heap[B5]? = some (.cells #[.int .i64 (base : Int), .slice p (m.at base).length cap] 34 (0, 0))) := by show _ = _; rw [q2.block _ (heap_lt HN.out) (fun e => by have := hFw _ (hfo _ e); omega)]; exact HN.out
        have R2 : Hid (w2.heap[w.heap.size]? = some (.cells #[.int .i64 0, .slice none 0 0] 34 (0, 0))) := by show _ = _; rw [q2.block _ (heap_lt HR.out) (fun e => by have := hFw _ (hfo _ e); omega)]; exact HR.out
        have T2 : Hid (Stand w2 F m base p cap) := HT.out.keep q2 (fun j hj ht e => by
          rcases e with rfl | e
          · exact typ_ne ht (typ_blk HP.out.cache.1) (by decide) rfl
          · exact typ_ne ht (typ_own HP.out.cache.2 j e) (by decide) rfl)
        have K2 : Hid (Kept (Foot d.c d.r) w w2) := HK.out.join q2 (fun _ _ e => e) (fun _ _ e => e)
        clear n0 n1 r0 r1 z0 z1 a0 a1 a2 a3 a4
        obtain ⟨r0, r1, z0, z1⟩ := two_cells R2.out
        have hr2 := heap_lt R2.out
        by_cases hi : idx d.C (x : Int) < d.C.length
        · have hg : getW d.C (x : Int) = (d.C[idx d.C (x : Int)].2, true, touch d.C (idx d.C (x : Int)) d.C[idx d.C (x : Int)]) := by simp [getW, hi]
          rw [hg] at q1 ⊢
          have P2 := hide (HP.out.touched q2 q1 (by rw [touch_length _ _ _ hi]; exact HP.out.size) (touch_mem _ _ hi) rfl)
          have hk := idx_key d.C (x : Int) hi
          have hmem := List.getElem_mem hi
          obtain ⟨E, hE⟩ : ∃ E, d.C[idx d.C (x : Int)] = E := ⟨_, rfl⟩
          rw [hE] at hk hmem ⊢
          have sh := HP.out.each E hmem
          obtain ⟨t0, e1, e2, e3, e4, e5⟩ := sh.ex
          obtain rfl : t0 = x := by rw [hk] at e1; omega
          obtain ⟨k0, ⟨tt, pp, nn, cc⟩⟩ := E
          simp only at e3 e4 e5
          subst e3 e4
          have S2 : Hid (Stand w2 F m t0 pp cc) := (Stand.mk e5 sh.nil sh.foot).keep q2 (fun j hj ht e => by
            rcases e with rfl | e
            · exact typ_ne ht (typ_blk HP.out.cache.1) (by decide) rfl
            · exact typ_ne ht (typ_own HP.out.cache.2 j e) (by decide) rfl)
          have SS := hide (two_sets R2.out (.int .i64 (t0 : Int)) (.slice pp (m.at t0).length cc))
          have KS := hide (two_sets_kept w2 w.heap.size (.int .i64 (t0 : Int)) (.slice pp (m.at t0).length cc))
          clear q1 q2 hg hk hmem sh e1 e2 e5 hE
          go_wp2
          obtain ⟨d0, d1, -, -⟩ := two_cells ((Below.heap_alloc _ (.cells #[.int .i64 (t0 : Int), .slice pp (m.at t0).length cc] 34) w.heap.size (heap_lt SS.out)).trans SS.out)
          refine bodyPost_ret (v := .agg #[.int .i64 (t0 : Int), .slice pp (m.at t0).length cc]) (by simp [results, Tryz.results39, go_sem, d0, d1]) rfl ?_
          have kf : Kept (fun j => j = w.heap.size) w2 _ := KS.out.join (Kept.alloc _ (.cells #[.int .i64 (t0 : Int), .slice pp (m.at t0).length cc] 34)) (fun _ _ e => e) (fun _ _ e => e.elim)
          exact ⟨t0, pp, cc, _, rfl, by rw [hQ, hB]; exact hx1, hx2, S2.out.keep kf (fun j hj _ e => by have := hFw j hj; omega), P2.out.keep kf (fun j hj e => by have := hFw j hj; omega), ⟨rfl, rfl⟩, K2.out.join kf (fun _ _ e => e) (fun j hj e => by omega)⟩
        · have hg : getW d.C (x : Int) = (⟨0, none, 0, 0⟩, false, d.C) := by simp [getW, hi]
          rw [hg] at q1 ⊢
          have P2 : Hid (PL w2 F pb m k d) := HP.out.touched q2 q1 HP.out.size (fun _ e => e) rfl
          clear q1 q2 hg
          go_wp2
          go_roundw
          case rel => exact ⟨x - 1, by omega, by omega, by rw [show ((x - 1 : Nat) : Int) = (x : Int) - 1 from by omega], P2.out.calm (Kept.alloc _ _), (Below.heap_alloc _ _ _ (heap_lt N2.out)).trans N2.out, (Below.heap_alloc _ _ _ hr2).trans R2.out, K2.out.join (Kept.alloc _ _) (fun _ _ e => e) (fun _ _ e => e.elim), T2.out.calm (Kept.alloc _ _)⟩
          case measure => simp [intOf]; omega
      · have hge : ¬ (base : Int) < (x : Int) := by omega
        have hxe : x = base := by omega
        have SS := hide (two_sets HR.out (.int .i64 (base : Int)) (.slice p (m.at base).length cap))
        have KS := hide (two_sets_kept wr w.heap.size (.int .i64 (base : Int)) (.slice p (m.at base).length cap))
        have hFw : ∀ j, F j → j < w.heap.size := fun j hj => H.out.lt j hj
        go_wp2
        obtain ⟨d0, d1, -, -⟩ := two_cells SS.out
        refine bodyPost_ret (v := .agg #[.int .i64 (base : Int), .slice p (m.at base).length cap]) (by simp [results, Tryz.results39, go_sem, d0, d1]) rfl ?_
        exact ⟨base, p, cap, d, rfl, by rw [hQ, hB]; exact Nat.le_refl _, by omega, HT.out.keep KS.out (fun j hj _ e => by have := hFw j hj; omega), HP.out.keep KS.out (fun j hj e => by have := hFw j hj; omega), ⟨rfl, rfl⟩, HK.out.join KS.out (fun _ _ e => e) (fun j hj e => by omega)⟩
end Go.Proofs.YtlfmfhmbkpnjbabGreatDoor

namespace Go.Proofs.YtlfmfhmbkpnjbabGreatDoor
open Go.RowKit

theorem PL.grow {w : World} {F G : Nat → Prop} {pb : Nat} {m : Mt} {k : Nat} {d : PD} (h : PL w F pb m k d) (hF : ∀ j, F j → G j) (hG : ∀ j, G j → j < w.heap.size) : PL w G pb m k d :=
  ⟨h.blk, h.ok, h.row.mono hF, h.cmds, h.whole, h.cache, h.size, fun e he => (h.each e he).mono hF, hF _ h.fp, hF _ h.fc, fun g hg => hF _ (h.fr g hg), hG, h.at_⟩
theorem Stand.mono {w : World} {F G : Nat → Prop} {m : Mt} {u : Nat} {p : Option Addr} {cap : Nat} (h : Stand w F m u p cap) (hF : ∀ j, F j → G j) : Stand w G m u p cap := ⟨h.reads, h.nil, fun b off e => ⟨hF _ (h.foot b off e).1, (h.foot b off e).2⟩⟩
theorem Stand.of_ent {w : World} {F : Nat → Prop} {m : Mt} {u g : Nat} {cur : List Value} (h : EntAt w g (m.at u) cur) (hF : F g) : Stand w F m u (some ⟨g, 0, none⟩) 32 :=
  ⟨h.reads, ⟨fun e => (by cases e), fun a e => ⟨g, (by cases e; rfl)⟩⟩, fun b off e => by cases e; exact ⟨hF, typ_blk h.blk⟩⟩
/-- Behind 'worldAt'. -/
def WatPost (F : Nat → Prop) (pb : Nat) (m : Mt) (k : Nat) (t : Nat) (d : PD) (w : World) (e : Ending) (w' : World) : Prop :=
  ∃ (p : Option Addr) (cap : Nat) (d' : PD), e = .returned (.agg #[.int .i64 (t : Int), .slice p (m.at t).length cap]) ∧ Stand w' (fun j => F j ∨ w.heap.size ≤ j) m t p cap ∧ PL w' F pb m k d' ∧ (d'.c = d.c ∧ d'.r = d.r) ∧ Kept (Foot d.c d.r) w w'

set_option maxHeartbeats 2000000 in
set_option maxRecDepth 100000 in
theorem wat_c (F : Nat → Prop) (pb : Nat) (m : Mt) (k : Nat) (d : PD) (t : Nat) (w : World) (ht : t ≤ m.cmds.length) (h : PL w F pb m k d) :
    Calls Tryz.prog 18 #[.pointer (some ⟨pb, 0, none⟩), .int .i64 (t : Int)] w (WatPost F pb m k t d w) := by
  have hev := h.ok.ev
  have hlen := h.ok.len
  have KA := hide (Kept.alloc w (.cells #[.int .i64 0, .slice none 0 0] 34))
  have HA := hide (h.calm KA.out)
  have BA : Hid ((w.alloc (.cells #[.int .i64 0, .slice none 0 0] 34)).heap[w.heap.size]? = some (.cells #[.int .i64 0, .slice none 0 0] 34 (0, 0))) := heap_alloc_new w _
  have HFw : Hid (∀ j, F j → j < w.heap.size) := fun j hj => h.lt j hj
  have HFT : Hid (∀ j, Foot d.c d.r j → j < w.heap.size) := fun j hj => h.lt j (h.wf j (Or.inr hj))
  have GOOD := hide (fun (u : Nat) (hu : u ≤ m.cmds.length) => h.good u hu)
  clear h
  go_enter Tryz.func18, Tryz.ntmps18
  go_wp2_with fail
  refine (hand_c F pb m k d t _ ht HA.out).mono ?_
  rintro e w1 ⟨u0, p0, cap0, d1, rfl, hu1, hu2, st, pl, hd1, kk⟩
  have B1 : Hid (w1.heap[w.heap.size]? = some (.cells #[.int .i64 0, .slice none 0 0] 34 (0, 0))) := by show _ = _; rw [kk.block _ (heap_lt BA.out) (fun e => by have := HFT.out _ e; omega)]; exact BA.out
  have K1 : Hid (Kept (Foot d.c d.r) w w1) := KA.out.join kk (fun _ _ e => e.elim) (fun _ _ e => e)
  have hs1 := K1.out.size
  have hb1 := heap_lt B1.out
  have K2 := hide (Kept.alloc w1 (.cells #[.int .i64 (u0 : Int), .slice p0 (m.at u0).length cap0] 34))
  have N2 : Hid ((w1.alloc (.cells #[.int .i64 (u0 : Int), .slice p0 (m.at u0).length cap0] 34)).heap[w1.heap.size]? = some (.cells #[.int .i64 (u0 : Int), .slice p0 (m.at u0).length cap0] 34 (0, 0))) := heap_alloc_new w1 _
  have R0 : Hid (PL (w1.alloc (.cells #[.int .i64 (u0 : Int), .slice p0 (m.at u0).length cap0] 34)) F pb m k d1 ∧ Stand (w1.alloc (.cells #[.int .i64 (u0 : Int), .slice p0 (m.at u0).length cap0] 34)) (fun j => F j ∨ w.heap.size ≤ j) m u0 p0 cap0 ∧ (w1.alloc (.cells #[.int .i64 (u0 : Int), .slice p0 (m.at u0).length cap0] 34)).heap[w.heap.size]? = some (.cells #[.int .i64 0, .slice none 0 0] 34 (0, 0)) ∧ Kept (Foot d.c d.r) w (w1.alloc (.cells #[.int .i64 (u0 : Int), .slice p0 (m.at u0).length cap0] 34))) :=
    ⟨pl.calm K2.out, (st.calm K2.out).mono (fun j e => Or.inl e), by rw [K2.out.block _ hb1 (fun e => e)]; exact B1.out, K1.out.join K2.out (fun _ _ e => e) (fun _ _ e => e.elim)⟩
  clear st pl kk
  go_wp2_with fail
  go_loopw [] (fun wr => ∃ (u : Nat) (p : Option Addr) (cap : Nat), t / m.ev * m.ev ≤ u ∧ u ≤ t ∧ Hid (wr.heap[w1.heap.size]? = some (.cells #[.int .i64 (u : Int), .slice p (m.at u).length cap] 34 (0, 0))) ∧ Hid (PL wr F pb m k d1) ∧ Hid (Stand wr (fun j => F j ∨ w.heap.size ≤ j) m u p cap) ∧ Hid (wr.heap[w.heap.size]? = some (.cells #[.int .i64 0, .slice none 0 0] 34 (0, 0))) ∧ Hid (Kept (Foot d.c d.r) w wr)) (fun wr => t - (intOf ((wr.cell? ⟨w1.heap.size, 0, none⟩).getD undef)).toNat)
  case atStart => exact ⟨u0, p0, cap0, hu1, hu2, N2, R0.out.1, R0.out.2.1, R0.out.2.2.1, R0.out.2.2.2⟩
  case round =>
    obtain ⟨u, p, cap, hx1, hx2, HN, HP, HT, HR, HK⟩ := hrel
    obtain ⟨n0, n1, zn0, zn1⟩ := two_cells HN.out
    obtain ⟨r0, r1, z0, z1⟩ := two_cells HR.out
    have hnl := heap_lt HN.out
    have hrl := heap_lt HR.out
    have hpl := heap_lt HP.out.blk
    by_cases hlt : u < t
    · have hlt' : (u : Int) < (t : Int) := by omega
      obtain ⟨g, cp, g2, hcv, hul, c1, rc, hfew⟩ := HP.out.cmdAt u (by omega)
      have hat0 := Mt.at_succ m hev.1 hx1 hlt
      obtain ⟨cs, hcs⟩ : ∃ cs, m.cmds.getD u [] = cs := ⟨_, rfl⟩
      rw [hcs] at c1 rc hfew hat0
      have HAT := hide hat0
      clear hcs hat0
      obtain ⟨⟨a0, a1, a2, a3, a4⟩, -⟩ := five_all HP.out.blk
      rw [hcv] at a1
      have hgl : g < wr.heap.size := World.block_lt_of_cell? wr ⟨g, u, none⟩ c1
      have hb1' : (0 : Int) ≤ (u : Int) := by omega
      have hb2' : (u : Int) < (d1.CS.length : Int) := by omega
      have RC := hide rc
      have HW := hide (GOOD.out u (by omega))
      have hshort := (worldB_fine HW.out).2.2.short
      clear rc
      go_wp2_with fail
      go_region_law (refine step_call2 rfl 17 14 23 34 54 rfl (enters_of Tryz.func17 (by kernel_rfl) rfl) (.agg #[.int .i64 (u : Int), .slice p (m.at u).length cap]) (.slice (some ⟨g2, 0, none⟩) cs.length cs.length) (by simp [Act.eval]) (by simp [Act.eval]) (step_ok (u : Int) p (some ⟨g2, 0, none⟩) cap cs.length (m.at u) cs _ (by omega) (HT.out.reads.calm (Kept.drew wr)) HT.out.nil.1 (RC.out.keep (Kept.drew wr) (fun _ _ _ _ e => e)) HW.out (by omega) hfew) ?_; rintro e w2 ⟨g', cur, hg', rfl, hent, k2⟩; refine ⟨_, rfl, ?_⟩; have KK := hide ((Kept.drew wr).calm2 k2); have EN := hide hent; have hg'' : wr.heap.size ≤ g' := hg'; obtain ⟨y0, y1, zy0, zy1⟩ := two_cells (show w2.heap[w1.heap.size]? = some (.cells #[.int .i64 (u : Int), .slice p (m.at u).length cap] 34 (0, 0)) by rw [KK.out.block _ hnl (fun e => e)]; exact HN.out); clear hent k2)
      all_goals
        have SS := two_sets (show w2.heap[w1.heap.size]? = some (.cells #[.int .i64 (u : Int), .slice p (m.at u).length cap] 34 (0, 0)) by rw [KK.out.block _ hnl (fun e => e)]; exact HN.out) (.int .i64 ((u + 1 : Nat) : Int)) (.slice (some ⟨g', 0, none⟩) (m.at (u + 1)).length 32)
        have KS := two_sets_kept w2 w1.heap.size (.int .i64 ((u + 1 : Nat) : Int)) (.slice (some ⟨g', 0, none⟩) (m.at (u + 1)).length 32)
        have hat := HAT.out
        have E2 := EN.out
        rw [← hat] at E2 ⊢
        have hgn : g' ≠ w1.heap.size := by omega
        have G := hide (And.intro SS (And.intro KS E2))
        clear SS KS E2 hat
        go_wp2_with fail
        go_roundw
        case rel =>
          obtain ⟨SS, KS, E2⟩ := G.out
          refine ⟨u + 1, some ⟨g', 0, none⟩, 32, by omega, by omega, SS, (HP.out.calm KK.out).keep KS (fun j hj e => by have := HFw.out j hj; omega), (Stand.of_ent E2 (Or.inr (by have := HK.out.size; omega))).keep KS (fun j _ ht e => ?_), ?_, (HK.out.join KK.out (fun _ _ e => e) (fun _ _ e => e.elim)).join KS (fun _ _ e => e) (fun j hj e => by omega)⟩
          · have hT := typ_keep (typ_blk HN.out) KK.out (fun e => e)
            exact typ_ne ht hT (by decide) e
          · have hlt2 : w.heap.size < w2.heap.size := Nat.lt_of_lt_of_le hrl KK.out.size
            have hne2 : ¬ w.heap.size = w1.heap.size := by omega
            exact (KS.block w.heap.size hlt2 hne2).trans ((KK.out.block _ hrl (fun e => e)).trans HR.out)
        case measure =>
          obtain ⟨SS, -, -⟩ := G.out
          obtain ⟨s0, -, -, -⟩ := two_cells SS
          rw [show ((u + 1 : Nat) : Int) = (u : Int) + 1 from rfl] at s0
          rw [s0, n0]
          simp [intOf]
          omega
    · obtain rfl : u = t := by omega
      have hge : ¬ (u : Int) < (u : Int) := by omega
      have SS := hide (two_sets HR.out (.int .i64 (u : Int)) (.slice p (m.at u).length cap))
      have KS := hide (two_sets_kept wr w.heap.size (.int .i64 (u : Int)) (.slice p (m.at u).length cap))
      have hne : ¬ w.heap.size = w1.heap.size := by omega
      go_wp2
      obtain ⟨e0, e1, -, -⟩ := two_cells SS.out
      refine bodyPost_ret (v := .agg #[.int .i64 (u : Int), .slice p (m.at u).length cap]) (by simp [results, Tryz.results18, go_sem, e0, e1]) rfl ?_
      refine ⟨p, cap, d1, rfl, HT.out.keep KS.out (fun j _ ht e => ?_), HP.out.keep KS.out (fun j hj e => by have := HFw.out j hj; omega), hd1, HK.out.join KS.out (fun _ _ e => e) (fun j hj e => by omega)⟩
      exact typ_ne ht (typ_blk HR.out) (by decide) e
end Go.Proofs.YtlfmfhmbkpnjbabGreatDoor
