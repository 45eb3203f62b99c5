import Derived.Test.YtlfmfhmbkpnjbaaGreatDoorPz39
import Derived.Test.YtlfmfhmbkpnjbaaGreatDoorPz37
import Derived.Test.YtlfmfhmbkpnjbaaGreatDoorPz22
import Derived.Test.YtlfmfhmbkpnjbaaGreatDoorPz41
import Derived.Deep.Cut
namespace Go.Proofs.YtlfmfhmbkpnjbaaGreatDoor
open Go.RowKit

set_option maxHeartbeats 2000000 in
set_option maxRecDepth 100000 in
theorem plays_told (B bk : Nat) (mv sv ev : Value) (Q : List Els) (D : List MD) (X : List SD) (q : Nat) (hq : q < X.length) (o : OpD) (w : World) (h : AInv B w bk mv sv ev Q D X) (h4 : o.k ≠ 4) (h5 : o.k ≠ 5) :
    Calls Tryz.prog 18 #[.pointer (some ⟨bk, 0, none⟩), ptrS X[q], o.val] w fun e w' => e = .returned (.bool true) ∧ Kept (fun _ => False) w w' := by
  obtain ⟨k, a, n, p, cap, cs⟩ := o
  unfold OpD.val ptrS
  dsimp only at h4 h5 ⊢
  have n4 : (k == 4) = false := by simp [h4]
  have n5 : (k == 5) = false := by simp [h5]
  have KA := hide (Kept.alloc w (.cells #[.int .i64 k, .int .i64 a, .int .i64 n, .slice p cs.length cap] 54))
  have HA := hide (h.calm KA.out)
  clear h
  have OX := hide (HA.out.each q hq)
  obtain ⟨s0, s1, s2, -⟩ := show_cells OX.out.blk
  have hw1 : IntKind.i64.wrap (((X[q].m.cmds.length + 1 : Nat) : Int) - 1) = (X[q].m.cmds.length : Int) := by have := OX.out.pl.ok.len; rw [wrap_id _ (by omega)]; omega
  have hw2 : IntKind.i64.wrap ((X[q].m.cmds.length : Int) + 1 - 1) = (X[q].m.cmds.length : Int) := by have := OX.out.pl.ok.len; rw [wrap_id _ (by omega)]; omega
  have hw3 : IntKind.i64.wrap (X[q].m.cmds.length : Int) = (X[q].m.cmds.length : Int) := by have := OX.out.pl.ok.len; rw [wrap_id _ (by omega)]
  have e1 : ((X[q].m.cmds.length : Int) == (X[q].m.cmds.length : Int)) = true := by simp
  have e2 : ((X[q].k : Int) == (X[q].k : Int)) = true := by simp
  go_enter Tryz.func18, Tryz.ntmps18
  go_wp2_with fail
  refine (ticks_c _ _ _ _ _ _ OX.out.pl).mono ?_
  rintro e w1 ⟨rfl, rfl⟩
  go_wp2_with fail
  refine (atP_c _ _ _ _ _ _ OX.out.pl).mono ?_
  rintro e w1 ⟨rfl, rfl⟩
  go_wp2
  go_ret
  exact ⟨rfl, KA.out⟩

theorem plays_c (B bk : Nat) (mv sv ev : Value) (Q : List Els) (D : List MD) (X : List SD) (q : Nat) (hq : q < X.length) (o : OpD) (w : World) (h : AInv B w bk mv sv ev Q D X) (hB : B ≤ w.heap.size) (hQ : Q.length ≤ 1000000000) :
    Calls Tryz.prog 18 #[.pointer (some ⟨bk, 0, none⟩), ptrS X[q], o.val] w (PlayPost B bk mv sv Q D X w) := by
  by_cases h4 : o.k = 4
  · exact plays_seek B bk mv sv ev Q D X q hq o w h hB hQ h4
  · by_cases h5 : o.k = 5
    · exact plays_move B bk mv sv ev Q D X q hq o w h hB hQ h5
    · refine (plays_told B bk mv sv ev Q D X q hq o w h h4 h5).mono ?_
      rintro e w' ⟨rfl, k⟩
      exact PlayPost.calm h k
end Go.Proofs.YtlfmfhmbkpnjbaaGreatDoor

namespace Go.Proofs.YtlfmfhmbkpnjbaaGreatDoor
open Go.RowKit

theorem info_ptrS : (Tryz.prog.info? 61).map (fun i => (i.zero, i.size, i.bytes)) = some (some (.pointer none), 1, 8) := by kernel_rfl

/-- Behind 'opened'. -/
def OpdPost (B bk : Nat) (mv : Value) (ev : Value) (Q : List Els) (D : List MD) (X : List SD) (w : World) (e : Ending) (w' : World) : Prop :=
  e = .returned (.bool true) ∧ ∃ sv' X', AInv B w' bk mv sv' ev Q D X' ∧ X'.length ≤ X.length + 1 ∧ Kept (Far w B) w w'

theorem rowN_get (ys : List Nat) (j : Nat) (h : j < ys.length) : (rowN ys)[j]? = some (.int .i64 (ys[j] : Int)) := by simp [rowN, h]

set_option maxHeartbeats 8000000 in
set_option maxRecDepth 100000 in
theorem opened_c (B bk : Nat) (mv sv ev : Value) (Q : List Els) (D : List MD) (X : List SD) (q : Nat) (hq : q < D.length) (cut : Int) (w : World) (h : AInv B w bk mv sv ev Q D X) (hB : B ≤ w.heap.size) (hE : Errs w) (hX : X.length ≤ 1000000000) (hcut : -9223372036854775808 ≤ cut ∧ cut ≤ 9223372036854775807) :
    Calls Tryz.prog 32 #[.pointer (some ⟨bk, 0, none⟩), ptrM D[q], .int .i64 cut] w (OpdPost B bk mv ev Q D X w) := by
  obtain ⟨i0, hi, hz0, hz1, hz2⟩ := info_parts info_ptrS
  obtain ⟨ao, cp, rfl⟩ : ∃ ao cp, sv = .slice ao X.length cp := by
    rcases h.list.2 with ⟨rfl, h0⟩ | ⟨g, cp, _, rfl, _⟩
    · exact ⟨none, 0, by rw [h0]⟩
    · exact ⟨_, _, rfl⟩
  obtain ⟨css, hh⟩ := h.hist q hq
  have od := h.m.each q hq
  have hwl := hh.len
  have hyl := od.ylen
  obtain ⟨-, -, h5⟩ := hh.now od
  obtain ⟨gw, cpw, hwv⟩ : ∃ g cp, D[q].wv = .slice (some ⟨g, 0, none⟩) D[q].ws.length cp := by
    rcases od.worlds.2 with ⟨_, h0⟩ | ⟨g, cp, _, e, _⟩
    · omega
    · exact ⟨g, cp, e⟩
  obtain ⟨gs, cps, hsv⟩ : ∃ g cp, D[q].stv = .slice (some ⟨g, 0, none⟩) D[q].ys.length cp := by
    rcases od.stands.2 with ⟨_, h0⟩ | ⟨g, cp, _, e, _⟩
    · omega
    · exact ⟨g, cp, e⟩
  have hcapw : D[q].ws.length ≤ cpw := by
    rcases od.worlds.2 with ⟨_, h0⟩ | ⟨g, cp, cur, e, _, _, hle, _⟩
    · omega
    · rw [hwv] at e
      have : cpw = cp := by injection e
      omega
  have CY : Hid (∀ j (hj : j < D[q].ys.length), w.cell? ⟨gs, j, none⟩ = some (.int .i64 (D[q].ys[j] : Int))) := fun j hj => by
    have hr := od.stands
    rw [hsv] at hr
    exact row_cell hr j _ (rowN_get _ j hj)
  have hgs : gs < w.heap.size := owns_lt od.stands gs (by rw [hsv]; rfl)
  have tW : typ w gw 38 := typ_own od.worlds gw (by rw [hwv]; rfl)
  have CW : Hid (∀ t, t < D[q].ys.length → ∃ p c, w.cell? ⟨gw, t * 2, none⟩ = some (.int .i64 (t : Int)) ∧ w.cell? ⟨gw, t * 2 + 1, none⟩ = some (.slice p (mobsAt css t).length c) ∧ Reads w p (mobsAt css t) ∧ ∀ b off, p = some ⟨b, off, none⟩ → typ w b 83) := fun t ht0 => by
    have ht : t < D[q].ws.length := by omega
    have hr := od.worlds
    rw [hwv] at hr
    obtain ⟨r0, r1⟩ := rowW_get D[q].ws t ht
    obtain ⟨m1, m2⟩ := hh.mob t ht
    have oo := od.each D[q].ws[t] (List.getElem_mem ht)
    rw [m1] at r0
    rw [m2] at r1
    have rd := oo.reads
    rw [m2] at rd
    exact ⟨_, _, row_cell hr _ _ r0, row_cell hr _ _ r1, rd, oo.typ⟩
  have HCUT := hide (fun (n M : Nat) (hM : M < D[q].ys.length) h1 h2 => hh.cut od n M hM h1 h2)
  have HC0 := hide (fun (n : Nat) h0 h1 => hh.cut0 od n h0 h1)
  have HM := hide hE.mine_size
  have HE := hide hE
  have H := hide h
  have hlong := od.long
  have ht5 : D[q].now.t ≤ 500 := (worldB_fine od.nowOk.good).2.1
  obtain ⟨m0, m1, m2, m3, -⟩ := match_cells od.blk
  rw [hwv] at m1
  rw [hsv] at m2
  have hmb : D[q].mb < w.heap.size := heap_lt od.blk
  have HMB := hide od.blk
  have HYM : Hid (∀ j j' (hj : j < D[q].ys.length) (hj' : j' < D[q].ys.length), j ≤ j' → D[q].ys[j] ≤ D[q].ys[j']) := fun j j' hj hj' hle => by
    rw [hh.st j hj, hh.st j' hj']
    have := file_mono D[q].ev css j (j' - j)
    rwa [show j + (j' - j) = j' by omega] at this
  have HPRE : Hid (∀ (M : Nat), M < D[q].ys.length → ∀ i' (h' : i' < D.length), D[i'].wv.ownBlock = some gw → M + 1 ≤ D[i'].ws.length) := fun M hM i' h' e => by
    by_cases e2 : i' = q
    · subst e2; omega
    · exact absurd (show D[q].foot gw from Or.inr (Or.inr (Or.inr (Or.inl (by rw [hwv]; rfl))))) (h.m.apart i' h' q hq e2 gw (Or.inr (Or.inr (Or.inr (Or.inl e)))))
  have hy0 : 0 < D[q].ys.length := by omega
  have hy5 : D[q].ys.length ≤ 501 := by omega
  have hcapy : D[q].ys.length ≤ cpw := by omega
  have hs14 : D[q].s.length ≤ 100000000 := by omega
  clear hwl hyl hcapw h5
  obtain ⟨c0, c1, c2, c3, c4, cf⟩ := five_cells h.m.book.blk
  have hbk : bk < w.heap.size := heap_lt h.m.book.blk
  clear h hE od hh
  have HPK := hide (fun (w : World) => pick_law cut ((D[q].s.length : Int) + 1) (D[q].s.length + 1) w hcut.1 hcut.2 (by omega) (by omega) (by omega))
  have hpl := pickN_lt_law cut (D[q].s.length + 1) (by omega)
  obtain ⟨n, hn⟩ : ∃ n : Nat, (D[q].s.length : Int) - (pickN_law cut (D[q].s.length + 1) : Int) = (n : Int) := ⟨((D[q].s.length : Int) - (pickN_law cut (D[q].s.length + 1) : Int)).toNat, by omega⟩
  have hwn : IntKind.i64.wrap ((D[q].s.length : Int) - (pickN_law cut (D[q].s.length + 1) : Int)) = (n : Int) := by rw [hn]; exact wrap_id _ (by omega)
  have hnl : n ≤ D[q].s.length := by omega
  have hw1 : IntKind.i64.wrap ((D[q].s.length : Int) + 1) = (D[q].s.length : Int) + 1 := wrap_id _ (by omega)
  have hn0 : (0 : Int) ≤ (n : Int) := by omega
  have hnS : (n : Int) ≤ (D[q].s.length : Int) := by omega
  clear hn hpl hlong ht5
  have HOX : Hid (∀ w' : World, Kept (fun _ => False) w w' → Calls Tryz.prog 9 #[.string ((⟨D[q].s.toArray⟩ : ByteArray).extract 0 n)] w' (OpenPost (D[q].s.take n) w')) := fun w' k => by
    have e : (⟨D[q].s.toArray⟩ : ByteArray).extract 0 n = baL (D[q].s.take n) := by
      show (baL D[q].s).extract 0 n = _
      rw [Lib.extract_eq]; simp
    rw [e]
    exact open_c _ w' (by rw [List.length_take]; omega) (HM.out.up k.size) (HE.out.calm k)
  unfold ptrM
  generalize hde : D[q] = d at *
  have HDE := hide hde
  clear hde
  obtain ⟨S, hS⟩ : ∃ S : ByteArray, (⟨d.s.toArray⟩ : ByteArray) = S := ⟨_, rfl⟩
  have hSz : S.size = d.s.length := by rw [← hS]; show d.s.toArray.size = _; simp
  rw [hS] at m3 HOX
  clear hS
  rw [← hSz] at HPK hwn hnl hw1 hnS
  have HW1 := hide hw1
  have HW64 : Hid (wrap64 ((S.size : Int) + 1) = (S.size : Int) + 1) := by show _ = _; unfold wrap64; omega
  have HSZ := hide hSz
  clear hw1 hSz
  go_enter Tryz.func32, Tryz.ntmps32
  go_wp2_with fail
  go_quiet ((go_at_call 30; first | (rw [HW64.out]; exact Calls.quiet_of_same (HPK.out _)) | (rw [HW1.out]; exact Calls.quiet_of_same (HPK.out _)) | exact Calls.quiet_of_same (HPK.out _)))
  have K1 : Hid (Kept (fun _ => False) w (w.drewN nq)) := Kept.drewN _ _
  have e1 : (w.drewN nq).cell? ⟨d.mb, 1, none⟩ = some (.slice (some ⟨gw, 0, none⟩) d.ws.length cpw) := m1
  have e2 : (w.drewN nq).cell? ⟨d.mb, 2, none⟩ = some (.slice (some ⟨gs, 0, none⟩) d.ys.length cps) := m2
  have e3 : (w.drewN nq).cell? ⟨d.mb, 3, none⟩ = some (.string S) := m3
  clear m0 m1 m2 m3 HPK
  generalize w.drewN nq = w1 at *
  go_wp2_with fail
  refine (HOX.out w1 K1.out).mono ?_
  rintro e w2 ⟨k2, ho⟩
  have K2 := hide (K1.out.calm2 k2)
  clear k2 e1 e2 e3 c0 c1 c2 c3 c4 cf HOX
  have hs2 := K2.out.size
  have MB2 : Hid (w2.heap[d.mb]? = some (.cells #[.pointer (some ⟨d.rb, 0, none⟩), d.wv, d.stv, .string ⟨d.s.toArray⟩] 134 (0, 0))) := by show _ = _; rw [K2.out.block _ hmb (fun e => e)]; exact HMB.out
  obtain ⟨m0, m1, m2, m3, -⟩ := match_cells MB2.out
  rw [hwv] at m1
  rw [hsv] at m2
  have CY2 : Hid (∀ j (hj : j < d.ys.length), w2.cell? ⟨gs, j, none⟩ = some (.int .i64 (d.ys[j] : Int))) := fun j hj => by rw [cell_keep K2.out hgs (fun e => e)]; exact CY.out j hj
  have cy0 := CY2.out 0 hy0
  have hyp : (0 : Int) < (d.ys.length : Int) := by omega
  by_cases hlt : n < d.ys[0]
  · have hmn := HC0.out n hy0 hlt
    have hlt' : (n : Int) < (d.ys[0] : Int) := by omega
    rcases ho with ⟨-, rfl⟩ | ⟨m, pb, pd, hmm, _⟩
    · clear hmn
      have FIN : Hid (OpdPost B bk mv ev Q D X w (.returned (.bool true)) w2) := ⟨rfl, _, X, H.out.calm K2.out, by omega, K2.out.far⟩
      go_wp2
      go_ret
      exact FIN.out
    · rw [hmn] at hmm
      cases hmm
  · obtain ⟨M, hMK, hfM, hMx⟩ := most_ex (fun j => d.ys.getD j 0) (d.ys.length - 1) n (by simp only [List.getD, List.getElem?_eq_getElem hy0, Option.getD_some]; omega)
    have hMl : M < d.ys.length := by omega
    have hgd : ∀ j (hj : j < d.ys.length), d.ys.getD j 0 = d.ys[j] := fun j hj => by simp [List.getD, hj]
    have HFM : Hid (d.ys[M] ≤ n) := by have := hfM; simp only [hgd M hMl] at this; exact this
    have HMX : Hid (∀ j (hj : j < d.ys.length), M < j → n < d.ys[j]) := fun j hj h1 => by
      have := hMx j h1 (by omega)
      simp only [hgd j hj] at this
      exact this
    have HLE : Hid (∀ j (hj : j < d.ys.length), (d.ys[j] ≤ n ↔ j ≤ M)) := fun j hj => by
      constructor
      · intro h1
        apply Classical.byContradiction
        intro h2
        have := HMX.out j hj (by omega)
        omega
      · intro h1
        have := HYM.out j M hj hMl h1
        have := HFM.out
        omega
    clear hfM hMx hgd
    obtain ⟨ev0, hev0⟩ := HCUT.out n M hMl HFM.out HMX.out
    rcases ho with ⟨hn', -⟩ | ⟨m, pb, pd, hmm, rfl, pl⟩
    · rw [hev0] at hn'
      cases hn'
    · rw [hev0] at hmm
      obtain rfl : recM ev0 css M = m := by injection hmm
      have hml : (recM ev0 css M).cmds.length = M := recM_len _ _ _
      have HAT : Hid (∀ t, t ≤ M → (recM ev0 css M).at t = mobsAt css t) := fun t ht => recM_at _ _ _ t ht
      have PLH := hide pl
      clear pl hmm hev0 HCUT HC0
      have hlt' : ¬ (n : Int) < (d.ys[0] : Int) := by omega
      go_wp2
      go_loopw [10, 11] (fun a b wr => ∃ (i l : Nat), i ≤ d.ys.length ∧ b = .int .i64 i ∧ a = .int .i64 l ∧ l = min (i - 1) M ∧ wr = w2) (fun _ b _ => d.ys.length - (intOf b).toNat)
      case atStart => exact ⟨0, 0, Nat.zero_le _, rfl, rfl, by omega, rfl⟩
      case round =>
        obtain ⟨i, l, hi', rfl, rfl, hl, rfl⟩ := hrel
        by_cases hil : i < d.ys.length
        · have cyi := CY2.out i hil
          have hb1 : (0 : Int) ≤ (i : Int) := by omega
          have hb2 : (i : Int) < (d.ys.length : Int) := by omega
          have hle := HLE.out i hil
          by_cases hc : d.ys[i] ≤ n
          · have hc' : (d.ys[i] : Int) ≤ (n : Int) := by omega
            have hiM := hle.1 hc
            clear hle
            go_wp2
            go_roundw
            case rel => exact ⟨i + 1, i, by omega, by go_num, rfl, by omega, trivial⟩
            case measure => simp [intOf]; omega
          · have hc' : ¬ (d.ys[i] : Int) ≤ (n : Int) := by omega
            have hiM : ¬ i ≤ M := fun e => hc (hle.2 e)
            clear hle
            go_wp2
            go_roundw
            case rel => exact ⟨i + 1, l, by omega, by go_num, rfl, by omega, trivial⟩
            case measure => simp [intOf]; omega
        · have hb2 : ¬ (i : Int) < (d.ys.length : Int) := by omega
          obtain rfl : l = M := by omega
          clear hl
          have H2 := hide (H.out.calm K2.out)
          obtain ⟨c0, c1, c2, c3, c4, cf⟩ := five_cells H2.out.m.book.blk
          have hbk2 : bk < wr.heap.size := heap_lt H2.out.m.book.blk
          have hmb2 : d.mb < wr.heap.size := heap_lt MB2.out
          have hwl1 : IntKind.i64.wrap ((l : Int) + 1) = ((l + 1 : Nat) : Int) := by rw [wrap_id _ (by omega)]; omega
          have hg1 : (0 : Int) ≤ ((l + 1 : Nat) : Int) := by omega
          have hg2 : ((l + 1 : Nat) : Int) ≤ (cpw : Int) := by omega
          have hg3 : l + 1 ≤ cpw := by omega
          have hg4 : (0 : Int) ≤ (l : Int) + 1 := by omega
          have hg5 : (l : Int) + 1 ≤ (cpw : Int) := by omega
          go_wp2_with fail
          go_cut [] from 12 (fun wx => Hid (OpdPost B bk mv ev Q D X w (.returned (.bool true)) wx))
          case first =>
            have KB : Hid (Kept (fun _ => False) wr (wr.drew.alloc (.cells #[.pointer (some ⟨pb, 0, none⟩), .slice (some ⟨gw, 0, none⟩) (l + 1) cpw, .int .i64 0] 91))) := (Kept.drew wr).calm2 (Kept.alloc _ _)
            have OG : Hid (((wr.drew.alloc (.cells #[.pointer (some ⟨pb, 0, none⟩), .slice (some ⟨gw, 0, none⟩) (l + 1) cpw, .int .i64 0] 91)).alloc (.cells #[.pointer (some ⟨wr.heap.size, 0, none⟩)] 61)).ownsRow 0 61 1 (.slice ao X.length cp) X.length (X.map ptrS)) := by
              have h1 := H2.out.list
              exact owns_block h1 (fun j hj => ((KB.out).calm2 (Kept.alloc _ _)).block j (owns_lt h1 j hj) (fun e => e))
            have XOK : Hid (SD.Ok (wr.drew.alloc (.cells #[.pointer (some ⟨pb, 0, none⟩), .slice (some ⟨gw, 0, none⟩) (l + 1) cpw, .int .i64 0] 91)) ⟨wr.heap.size, pb, fun j => w1.heap.size ≤ j ∧ j < wr.heap.size, recM ev0 css l, 0, pd, gw, cpw⟩) := by
              refine ⟨?_, PLH.out.calm KB.out, typ_keep tW (K2.out.calm2 KB.out) (fun e => e), fun t ht => ?_⟩
              · show _ = _
                rw [hml]
                exact heap_alloc_new wr.drew _
              · dsimp only at ht ⊢
                rw [hml] at ht
                rw [HAT.out t ht]
                obtain ⟨p, c, x1, x2, x3, x4⟩ := CW.out t (by omega)
                have kk := K2.out.calm2 KB.out
                exact ⟨p, c, by rw [cell_keep kk (typ_lt tW) (fun e => e)]; exact x1, by rw [cell_keep kk (typ_lt tW) (fun e => e)]; exact x2, x3.calm kk, fun b off e => typ_keep (x4 b off e) kk (fun e => e)⟩
            have hsz1 := K1.out.size
            have hwsz : w.heap.size ≤ wr.heap.size := K2.out.size
            go_region_law (refine step_append_mine rfl (.tmp 79) (.tmp 90) 46 rfl 61 i0 (.pointer none) 1 8 Tryz.underlying46 hi hz0 hz1 hz2 rfl (by decide) (.slice ao X.length cp) X.length (X.map ptrS) (by simp [Act.eval]) OG.out ⟨wr.heap.size + 1, 0, none⟩ 1 1 [.pointer (some ⟨wr.heap.size, 0, none⟩)] (by simp [Act.eval]) rfl (new_cells (wr.drew.alloc (.cells #[.pointer (some ⟨pb, 0, none⟩), .slice (some ⟨gw, 0, none⟩) (l + 1) cpw, .int .i64 0] 91)) [.pointer (some ⟨wr.heap.size, 0, none⟩)] 61 (wr.heap.size + 1) (by simp)) (by intro u hu; simp only [List.mem_cons, List.not_mem_nil, or_false] at hu; rw [hu]; rfl) (by decide) (by unfold maxLen; omega) (by omega) ?_; intro g4 cap4 w4 hown4 hgr4 hg4 hold4; have AO := hide (H.out.opened (x := ⟨wr.heap.size, pb, fun j => w1.heap.size ≤ j ∧ j < wr.heap.size, recM ev0 css l, 0, pd, gw, cpw⟩) (sv' := .slice (some ⟨g4, 0, none⟩) (X.length + 1) cap4) hB (K2.out.calm2 KB.out) XOK.out (fun j hj => by rcases hj with e | e; (· have e' : w1.heap.size ≤ j ∧ j < wr.heap.size := e; omega); (· have e' : j = wr.heap.size := e; omega)) (fun i' h' e => by show (recM ev0 css l).cmds.length + 1 ≤ _; rw [hml]; exact HPRE.out l hMl i' h' e) ((Kept.alloc _ (.cells #[.pointer (some ⟨wr.heap.size, 0, none⟩)] 61)).join (Kept.of_grown hgr4.out) (R := fun j => (Value.slice ao X.length cp).ownBlock = some j) (fun _ _ e => e.elim) (fun _ _ e => e.symm)) hown4.out (fun j hj => by have e : some g4 = some j := hj; simp only [Option.some.injEq] at e; subst e; rcases hg4.out with e | e; (· exact Or.inl e); (· right; simp at e ⊢; omega))); clear hown4 hgr4 hg4 hold4; obtain ⟨n0, n1, n2, n3, n4, nf⟩ := five_cells AO.out.1)
            all_goals (go_wp2_with fail; go_meet; exact ⟨rfl, _, _, AO.out.2.1, by simp, AO.out.2.2⟩)
          case rest =>
            have FIN := hide hcut.out
            clear hcut
            go_wp2
            go_ret
            exact FIN.out
end Go.Proofs.YtlfmfhmbkpnjbaaGreatDoor

namespace Go.Proofs.YtlfmfhmbkpnjbaaGreatDoor
open Go.RowKit

/-- Behind a step. -/
def StepA (B bk : Nat) (Q : List Els) (D : List MD) (X : List SD) (o : OpD) (w : World) (e : Ending) (w' : World) : Prop :=
  e = .returned (.bool true) ∧ ∃ mv' sv' ev' Q' D' X', AInv B w' bk mv' sv' ev' Q' D' X' ∧ D.length ≤ D'.length ∧ D'.length ≤ D.length + 1 ∧ X'.length ≤ X.length + 1 ∧ (o.k = 1 ∧ 1 ≤ o.n ∧ o.n ≤ 64 → 0 < D'.length) ∧ Q'.length ≤ Q.length + 4 ∧ Kept (Far w B) w w'

set_option maxHeartbeats 2000000 in
set_option maxRecDepth 100000 in
theorem stepA_none (B bk : Nat) (mv sv ev : Value) (Q : List Els) (D : List MD) (X : List SD) (o : OpD) (w : World) (h : AInv B w bk mv sv ev Q D X) (hk : o.k < 1 ∨ 6 < o.k) :
    Calls Tryz.prog 16 #[.pointer (some ⟨bk, 0, none⟩), o.val] w (StepA B bk Q D X o w) := by
  have fin : ∀ w', Kept (fun _ => False) w w' → StepA B bk Q D X o w (.returned (.bool true)) w' := fun w' k => ⟨rfl, mv, sv, ev, Q, D, X, h.calm k, Nat.le_refl _, by omega, by omega, fun e => by omega, by omega, k.far⟩
  have FIN := hide fin
  obtain ⟨c0, c1, c2, c3, c4, cf⟩ := five_cells h.m.book.blk
  have hbk : bk < w.heap.size := heap_lt h.m.book.blk
  have H := hide h
  clear h fin
  obtain ⟨k, a, n, p, cap, cs⟩ := o
  unfold OpD.val
  dsimp only at hk ⊢
  rcases hk with hk | hk
  · have hd : decide (k < 1) = true := by simp [hk]
    go_enter Tryz.func16, Tryz.ntmps16
    go_wp2_with fail
    go_quiet (fail)
    go_wp2
    go_ret
    exact FIN.out _ ((Kept.alloc _ _).calm2 (Kept.drewN _ _))
  · have hd : decide (k < 1) = false := by simp; omega
    have hd2 : decide (6 < k) = true := by simp [hk]
    go_enter Tryz.func16, Tryz.ntmps16
    go_wp2_with fail
    go_quiet (fail)
    go_wp2
    go_ret
    exact FIN.out _ ((Kept.alloc _ _).calm2 (Kept.drewN _ _))

set_option maxHeartbeats 2000000 in
set_option maxRecDepth 100000 in
theorem stepA_new (B bk : Nat) (mv sv ev : Value) (Q : List Els) (D : List MD) (X : List SD) (o : OpD) (w : World) (h : AInv B w bk mv sv ev Q D X) (hB : B ≤ w.heap.size) (hT : Tabs w) (hD : D.length ≤ 1000000000) (hk : o.k = 1) :
    Calls Tryz.prog 16 #[.pointer (some ⟨bk, 0, none⟩), o.val] w (StepA B bk Q D X o w) := by
  obtain ⟨c0, c1, c2, c3, c4, cf⟩ := five_cells h.m.book.blk
  have hbk : bk < w.heap.size := heap_lt h.m.book.blk
  have H := hide h
  have HT := hide hT
  clear h hT
  obtain ⟨k, a, n, p, cap, cs⟩ := o
  unfold OpD.val
  dsimp only at hk ⊢
  subst hk
  have hd : decide ((1 : Int) < 1) = false := by decide
  have hd2 : decide ((6 : Int) < 1) = false := by decide
  go_enter Tryz.func16, Tryz.ntmps16
  go_wp2_with fail
  go_quiet (fail)
  have K1 : Hid (Kept (fun _ => False) w ((w.alloc (.cells #[.int .i64 1, .int .i64 a, .int .i64 n, .slice p cs.length cap] 54)).drewN nq)) := (Kept.alloc _ _).calm2 (Kept.drewN _ _)
  obtain ⟨o0, o1, o2, o3⟩ := op_cells (w := (w.alloc (.cells #[.int .i64 1, .int .i64 a, .int .i64 n, .slice p cs.length cap] 54)).drewN nq) (c := w.heap.size) (heap_alloc_new w _)
  generalize (w.alloc (.cells #[.int .i64 1, .int .i64 a, .int .i64 n, .slice p cs.length cap] 54)).drewN nq = w1 at *
  have hs := K1.out.size
  have HB : Hid (Calls Tryz.prog 29 #[.pointer (some ⟨bk, 0, none⟩), .int .i64 n] w1 fun e w' => e = .returned (.bool true) ∧ StepA B bk Q D X ⟨1, a, n, p, cap, cs⟩ w (.returned (.bool true)) w') := by
    by_cases he : 1 ≤ n ∧ n ≤ 64
    · refine (begun_ok B bk mv sv 6 ev Q D n w1 (H.out.calm K1.out).m (by omega) (HT.out.calm K1.out) hD he).mono ?_
      rintro e w' ⟨rfl, mv', d, hm, ⟨e1, e2, e3, e4⟩, hnew, hfar, hkk⟩
      have hh : Hist d [] := ⟨by rw [e1, e2]; rfl, by rw [e3]; rfl, fun j hj => by
        have hj0 : j = 0 := by rw [e3] at hj; simpa using hj
        subst hj0
        simp only [e3]
        exact ⟨rfl, rfl⟩, fun j hj => by
        have hj0 : j = 0 := by rw [e4] at hj; simpa using hj
        subst hj0
        simp only [e4, e1, e2]
        rfl, cs_nil⟩
      exact ⟨rfl, rfl, mv', sv, ev, Q, _, X, (H.out.calm K1.out).begun hm hh hnew hkk, by simp, by simp, by omega, fun _ => by simp, by omega, Far.join K1.out.far hfar⟩
    · refine (begun_bad bk n w1 he).mono ?_
      rintro e w' ⟨rfl, rfl⟩
      exact ⟨rfl, rfl, mv, sv, ev, Q, D, X, H.out.calm K1.out, Nat.le_refl _, by omega, by omega, fun e => absurd e.2 he, by omega, K1.out.far⟩
  go_wp2_with fail
  refine HB.out.mono ?_
  rintro e w2 ⟨rfl, fin⟩
  have FIN := hide fin
  clear fin
  go_wp2
  go_ret
  exact FIN.out

set_option maxHeartbeats 4000000 in
set_option maxRecDepth 100000 in
theorem stepA_rec (B bk : Nat) (mv sv ev : Value) (Q : List Els) (D : List MD) (X : List SD) (o : OpD) (w : World) (h : AInv B w bk mv sv ev Q D X) (hB : B ≤ w.heap.size) (hE : Errs w) (hB4 : 6 < B) (hB2 : 4 < B)
    (hD : D.length ≤ 1000000000) (hX : X.length ≤ 1000000000) (hD0 : 0 < D.length) (hQ : Q.length ≤ 1000000000) (ho : o.Ok B w) (hk : o.k = 2 ∨ o.k = 3) :
    Calls Tryz.prog 16 #[.pointer (some ⟨bk, 0, none⟩), o.val] w (StepA B bk Q D X o w) := by
  obtain ⟨c0, c1, c2, c3, c4, cf⟩ := five_cells h.m.book.blk
  have hbk : bk < w.heap.size := heap_lt h.m.book.blk
  have hq := pickN_lt_law o.a D.length hD0
  obtain ⟨g, cp, hmv⟩ : ∃ g cp, mv = .slice (some ⟨g, 0, none⟩) D.length cp := by
    rcases h.m.list.2 with ⟨_, h0⟩ | ⟨g, cp, _, e, _⟩
    · omega
    · exact ⟨g, cp, e⟩
  subst hmv
  have cg : w.cell? ⟨g, pickN_law o.a D.length, none⟩ = some (ptrM (D[pickN_law o.a D.length]'hq)) := by
    have h2 := h.m.list.cells (g := g) rfl (pickN_law o.a D.length) (ptrM (D[pickN_law o.a D.length]'hq)) (by simp [hq])
    rwa [addr_add2, Nat.zero_add] at h2
  have hgl : g < w.heap.size := owns_lt h.m.list g rfl
  have H := hide h
  have HE := hide hE
  have HO := hide ho
  have ha1 := ho.at1
  have ha2 := ho.at2
  clear h hE ho
  have HP := hide (fun (w : World) => pick_law o.a (D.length : Int) D.length w ha1 ha2 rfl hD0 hD)
  clear ha1 ha2
  generalize hqn : pickN_law o.a D.length = q at *
  -- 'recorded' and 'opened', in one form
  have HR : Hid (∀ w', Kept (fun _ => False) w w' → Calls Tryz.prog 31 #[.pointer (some ⟨bk, 0, none⟩), ptrM (D[q]'hq), .slice o.p o.cs.length o.cap] w' fun e w2 => e = .returned (.bool true) ∧ StepA B bk Q D X o w (.returned (.bool true)) w2) := fun w' k => by
    have h' := H.out.calm k
    have o' := HO.out.calm k
    have hsz := k.size
    refine (recorded_walk B bk (.slice (some ⟨g, 0, none⟩) D.length cp) sv 6 ev Q (D[q]'hq) o.p o.cap o.cs w' h'.m.book (h'.m.each q hq) (h'.m.low q hq) (HE.out.calm k).tabs hB4 hB2 o'.reads o'.low o'.int o'.short hQ).mono ?_
    rintro e w2 ⟨rfl, d', ev', Q', od, gr, hf, kk, hb, hQ', hev, hold⟩
    obtain ⟨css, hh⟩ := h'.hist q hq
    obtain ⟨⟨css', hh'⟩, hws⟩ := hh.grew (h'.m.each q hq) gr o'.int o'.f32
    obtain ⟨m1, m2⟩ := h'.m.turn (by omega) q hq od gr.mb hf kk hb hev
    exact ⟨rfl, rfl, _, sv, ev', Q', _, X, h'.recd q hq m1 hh' hws hf kk hold, by simp, by simp, by omega, fun e => by rcases hk with hk | hk <;> omega, by omega, Far.join k.far m2⟩
  have HV : Hid (∀ w', Kept (fun _ => False) w w' → Calls Tryz.prog 32 #[.pointer (some ⟨bk, 0, none⟩), ptrM (D[q]'hq), .int .i64 o.n] w' fun e w2 => e = .returned (.bool true) ∧ StepA B bk Q D X o w (.returned (.bool true)) w2) := fun w' k => by
    have h' := H.out.calm k
    have hsz := k.size
    refine (opened_c B bk (.slice (some ⟨g, 0, none⟩) D.length cp) sv ev Q D X q hq o.n w' h' (by omega) (HE.out.calm k) hX ⟨HO.out.n1, HO.out.n2⟩).mono ?_
    rintro e w2 ⟨rfl, sv', X', h1, h2, h3⟩
    exact ⟨rfl, rfl, _, sv', ev, Q, D, X', h1, Nat.le_refl _, by omega, h2, fun e => by rcases hk with hk | hk <;> omega, by omega, Far.join k.far h3⟩
  obtain ⟨k, a, n, p, cap, cs⟩ := o
  unfold OpD.val
  dsimp only at hk HP HR HV ⊢
  have hq1 : (0 : Int) ≤ (q : Int) := by omega
  have hq2 : (q : Int) < (D.length : Int) := by omega
  have hd : decide (k < 1) = false := by simp; omega
  have hd2 : decide (6 < k) = false := by simp; omega
  have hk1 : (k == 1) = false := by simp; omega
  go_enter Tryz.func16, Tryz.ntmps16
  go_wp2_with fail
  go_quiet (fail)
  have K1 : Hid (Kept (fun _ => False) w ((w.alloc (.cells #[.int .i64 k, .int .i64 a, .int .i64 n, .slice p cs.length cap] 54)).drewN nq)) := (Kept.alloc _ _).calm2 (Kept.drewN _ _)
  obtain ⟨o0, o1, o2, o3⟩ := op_cells (w := (w.alloc (.cells #[.int .i64 k, .int .i64 a, .int .i64 n, .slice p cs.length cap] 54)).drewN nq) (c := w.heap.size) (heap_alloc_new w _)
  generalize (w.alloc (.cells #[.int .i64 k, .int .i64 a, .int .i64 n, .slice p cs.length cap] 54)).drewN nq = w1 at *
  have d0 : w1.cell? ⟨bk, 0, none⟩ = some (.slice (some ⟨g, 0, none⟩) D.length cp) := by rw [cell_keep K1.out hbk (fun e => e)]; exact c0
  have dg : w1.cell? ⟨g, q, none⟩ = some (ptrM (D[q]'hq)) := by rw [cell_keep K1.out hgl (fun e => e)]; exact cg
  have hob := World.block_lt_of_cell? w1 ⟨w.heap.size, 0, none⟩ o0
  clear c0 c1 c2 c3 c4 cf cg H HE HO
  generalize hpm : ptrM (D[q]'hq) = pm at *
  rcases hk with hk | hk
  · subst hk
    clear HV
    have e2 : ((2 : Int) == 2) = true := rfl
    go_wp2_with fail
    go_quiet ((go_at_call 30; exact Calls.quiet_of_same (HP.out _)))
    have K2 : Hid (Kept (fun _ => False) w (w1.drewN nq)) := K1.out.calm2 (Kept.drewN _ _)
    have e3 : (w1.drewN nq).cell? ⟨w.heap.size, 3, none⟩ = some (.slice p cs.length cap) := o3
    have e0 : (w1.drewN nq).cell? ⟨w.heap.size, 0, none⟩ = some (.int .i64 2) := o0
    generalize w1.drewN nq = w2 at *
    have HC2 := hide (HR.out w2 K2.out)
    clear HR o0 o1 o2 o3 d0 dg K1 K2
    go_wp2_with fail
    refine HC2.out.mono ?_
    rintro e w3 ⟨rfl, fin⟩
    have FIN := hide fin
    clear fin
    go_wp2
    go_ret
    exact FIN.out
  · subst hk
    clear HR
    have e2 : ((3 : Int) == 2) = false := rfl
    have e2' : ((3 : Int) == 3) = true := rfl
    go_wp2_with fail
    go_quiet ((go_at_call 30; exact Calls.quiet_of_same (HP.out _)))
    have K2 : Hid (Kept (fun _ => False) w (w1.drewN nq)) := K1.out.calm2 (Kept.drewN _ _)
    have e3 : (w1.drewN nq).cell? ⟨w.heap.size, 2, none⟩ = some (.int .i64 n) := o2
    have e0 : (w1.drewN nq).cell? ⟨w.heap.size, 0, none⟩ = some (.int .i64 3) := o0
    generalize w1.drewN nq = w2 at *
    have HC2 := hide (HV.out w2 K2.out)
    clear HV o0 o1 o2 o3 d0 dg K1 K2
    go_wp2_with fail
    refine HC2.out.mono ?_
    rintro e w3 ⟨rfl, fin⟩
    have FIN := hide fin
    clear fin
    go_wp2
    go_ret
    exact FIN.out

set_option maxHeartbeats 4000000 in
set_option maxRecDepth 100000 in
theorem stepA_play (B bk : Nat) (mv sv ev : Value) (Q : List Els) (D : List MD) (X : List SD) (o : OpD) (w : World) (h : AInv B w bk mv sv ev Q D X) (hB : B ≤ w.heap.size)
    (hX : X.length ≤ 1000000000) (hQ : Q.length ≤ 1000000000) (ho : o.Ok B w) (hk : 4 ≤ o.k ∧ o.k ≤ 6) :
    Calls Tryz.prog 16 #[.pointer (some ⟨bk, 0, none⟩), o.val] w (StepA B bk Q D X o w) := by
  obtain ⟨c0, c1, c2, c3, c4, cf⟩ := five_cells h.m.book.blk
  have hbk : bk < w.heap.size := heap_lt h.m.book.blk
  have fin : ∀ w', Kept (fun _ => False) w w' → StepA B bk Q D X o w (.returned (.bool true)) w' := fun w' k => ⟨rfl, mv, sv, ev, Q, D, X, h.calm k, Nat.le_refl _, by omega, by omega, fun e => by omega, by omega, k.far⟩
  have FINF := hide fin
  clear fin
  have H := hide h
  have HO := hide ho
  have ha1 := ho.at1
  have ha2 := ho.at2
  clear ho
  obtain ⟨ao, cp, rfl⟩ : ∃ ao cp, sv = .slice ao X.length cp := by
    rcases h.list.2 with ⟨rfl, h0⟩ | ⟨g, cp, _, rfl, _⟩
    · exact ⟨none, 0, by rw [h0]⟩
    · exact ⟨_, _, rfl⟩
  by_cases hX0 : X.length = 0
  · clear h
    obtain ⟨k, a, n, p, cap, cs⟩ := o
    unfold OpD.val
    dsimp only at hk ⊢
    have hd : decide (k < 1) = false := by simp; omega
    have hd2 : decide (6 < k) = false := by simp; omega
    have hk1 : (k == 1) = false := by simp; omega
    have hk2 : (k == 2) = false := by simp; omega
    have hk3 : (k == 3) = false := by simp; omega
    have hx0 : ((X.length : Int) == 0) = true := by simp [hX0]
    have K1 : Hid (∀ m, Kept (fun _ => False) w ((w.alloc (.cells #[.int .i64 k, .int .i64 a, .int .i64 n, .slice p cs.length cap] 54)).drewN m)) := fun m => (Kept.alloc _ _).calm2 (Kept.drewN _ _)
    have CC : Hid (∀ m, ((w.alloc (.cells #[.int .i64 k, .int .i64 a, .int .i64 n, .slice p cs.length cap] 54)).drewN m).cell? ⟨bk, 1, none⟩ = some (.slice ao X.length cp)) := fun m => by rw [cell_keep (K1.out m) hbk (fun e => e)]; exact c1
    go_enter Tryz.func16, Tryz.ntmps16
    go_wp2_with fail
    go_quiet (fail)
    obtain ⟨o0, o1, o2, o3⟩ := op_cells (w := (w.alloc (.cells #[.int .i64 k, .int .i64 a, .int .i64 n, .slice p cs.length cap] 54)).drewN nq) (c := w.heap.size) (heap_alloc_new w _)
    have d1 := CC.out nq
    have FIN := hide (FINF.out _ (K1.out nq))
    clear CC K1 FINF c0 c1 c2 c3 c4 cf
    generalize (w.alloc (.cells #[.int .i64 k, .int .i64 a, .int .i64 n, .slice p cs.length cap] 54)).drewN nq = w1 at *
    clear hX0
    go_wp2
    go_ret
    exact FIN.out
  · have hX1 : 0 < X.length := by omega
    have hq := pickN_lt_law o.a X.length hX1
    obtain ⟨g, hao⟩ : ∃ g, ao = some ⟨g, 0, none⟩ := by
      rcases h.list.2 with ⟨_, h0⟩ | ⟨g, cp', _, e, _⟩
      · omega
      · injection e with e1
        exact ⟨g, e1⟩
    subst hao
    have cgf : ∀ (w' : World) (X' : List SD), w'.ownsRow 0 61 1 (.slice (some ⟨g, 0, none⟩) X.length cp) X'.length (X'.map ptrS) → X'.map ptrS = X.map ptrS → X'.length = X.length → w'.cell? ⟨g, pickN_law o.a X.length, none⟩ = some (ptrS (X[pickN_law o.a X.length]'hq)) := fun w' X' hl he hn => by
      rw [he, hn] at hl
      have h2 := hl.cells (g := g) rfl (pickN_law o.a X.length) (ptrS (X[pickN_law o.a X.length]'hq)) (by simp [hq])
      rwa [addr_add2, Nat.zero_add] at h2
    have cg := cgf w X h.list rfl rfl
    have hgl : g < w.heap.size := owns_lt h.list g rfl
    have HP := hide (fun (w : World) => pick_law o.a (X.length : Int) X.length w ha1 ha2 rfl hX1 hX)
    have HPL : Hid (∀ w', Kept (fun _ => False) w w' → Calls Tryz.prog 18 #[.pointer (some ⟨bk, 0, none⟩), ptrS (X[pickN_law o.a X.length]'hq), o.val] w' fun e w2 => e = .returned (.bool true) ∧ StepA B bk Q D X o w (.returned (.bool true)) w2 ∧ w2.cell? ⟨bk, 1, none⟩ = some (.slice (some ⟨g, 0, none⟩) X.length cp) ∧ Kept (Far w' B) w' w2 ∧ w2.cell? ⟨g, pickN_law o.a X.length, none⟩ = w'.cell? ⟨g, pickN_law o.a X.length, none⟩) := fun w' k => by
      have h' := H.out.calm k
      have hsz := k.size
      refine (plays_c B bk mv (.slice (some ⟨g, 0, none⟩) X.length cp) ev Q D X (pickN_law o.a X.length) hq o w' h' (by omega) hQ).mono ?_
      rintro e w2 ⟨rfl, ev', Q', X', h1, h2, h3, h4, h5⟩
      obtain ⟨-, b1, -⟩ := five_cells h1.m.book.blk
      refine ⟨rfl, ⟨rfl, mv, _, ev', Q', D, X', h1, Nat.le_refl _, by omega, by omega, fun e => by omega, h3, Far.join k.far h4⟩, b1, h4, ?_⟩
      rw [cgf w2 X' (by have := h1.list; rwa [h2] at this ⊢) h5 h2, cgf w' X h'.list rfl rfl]
    clear ha1 ha2 h
    generalize hqn : pickN_law o.a X.length = q at *
    obtain ⟨k, a, n, p, cap, cs⟩ := o
    unfold OpD.val at HPL ⊢
    dsimp only at hk HP HPL ⊢
    have hq1 : (0 : Int) ≤ (q : Int) := by omega
    have hq2 : (q : Int) < (X.length : Int) := by omega
    have hd : decide (k < 1) = false := by simp; omega
    have hd2 : decide (6 < k) = false := by simp; omega
    have hk1 : (k == 1) = false := by simp; omega
    have hk2 : (k == 2) = false := by simp; omega
    have hk3 : (k == 3) = false := by simp; omega
    have hx0 : ((X.length : Int) == 0) = false := by rw [beq_eq_false_iff_ne]; omega
    go_enter Tryz.func16, Tryz.ntmps16
    go_wp2_with fail
    go_quiet (fail)
    have K1 : Hid (Kept (fun _ => False) w ((w.alloc (.cells #[.int .i64 k, .int .i64 a, .int .i64 n, .slice p cs.length cap] 54)).drewN nq)) := (Kept.alloc _ _).calm2 (Kept.drewN _ _)
    have OB : Hid (((w.alloc (.cells #[.int .i64 k, .int .i64 a, .int .i64 n, .slice p cs.length cap] 54)).drewN nq).heap[w.heap.size]? = some (.cells #[.int .i64 k, .int .i64 a, .int .i64 n, .slice p cs.length cap] 54 (0, 0))) := heap_alloc_new w _
    obtain ⟨o0, o1, o2, o3⟩ := op_cells OB.out
    generalize (w.alloc (.cells #[.int .i64 k, .int .i64 a, .int .i64 n, .slice p cs.length cap] 54)).drewN nq = w1 at *
    have d1 : w1.cell? ⟨bk, 1, none⟩ = some (.slice (some ⟨g, 0, none⟩) X.length cp) := by rw [cell_keep K1.out hbk (fun e => e)]; exact c1
    have dg : w1.cell? ⟨g, q, none⟩ = some (ptrS (X[q]'hq)) := by rw [cell_keep K1.out hgl (fun e => e)]; exact cg
    clear c0 c1 c2 c3 c4 cf cg cgf H HO FINF hX0
    have hob := heap_lt OB.out
    generalize hpm : ptrS (X[q]'hq) = pm at *
    obtain ⟨pa, hpa⟩ : ∃ pa, pm = .pointer (some pa) := ⟨_, hpm.symm⟩
    subst hpa
    clear hpm
    go_wp2_with fail
    have CE : Hid (∀ w', Kept (Far w1 B) w1 w' → w'.cell? ⟨w.heap.size, 0, none⟩ = some (.int .i64 k) ∧ w'.cell? ⟨w.heap.size, 1, none⟩ = some (.int .i64 a) ∧ w'.cell? ⟨w.heap.size, 2, none⟩ = some (.int .i64 n) ∧ w'.cell? ⟨w.heap.size, 3, none⟩ = some (.slice p cs.length cap)) := fun w' kk => by
      have hn : ¬ Far w1 B w.heap.size := fun f => f.2.1 (typ_blk OB.out)
      exact ⟨by rw [cell_keep kk hob hn]; exact o0, by rw [cell_keep kk hob hn]; exact o1, by rw [cell_keep kk hob hn]; exact o2, by rw [cell_keep kk hob hn]; exact o3⟩
    go_region_held3 (fun w' => w'.cell? ⟨bk, 1, none⟩ = some (.slice (some ⟨g, 0, none⟩) X.length cp) ∧ w'.cell? ⟨g, q, none⟩ = some (.pointer (some pa)) ∧ w'.cell? ⟨w.heap.size, 0, none⟩ = some (.int .i64 k) ∧ w'.cell? ⟨w.heap.size, 1, none⟩ = some (.int .i64 a) ∧ w'.cell? ⟨w.heap.size, 2, none⟩ = some (.int .i64 n) ∧ w'.cell? ⟨w.heap.size, 3, none⟩ = some (.slice p cs.length cap)) (go_keep)
      (first
        | (go_at_call 30; refine (HP.out _).mono ?_; rintro e w2 ⟨rfl, rfl⟩)
        | (go_at_call 18; refine (HPL.out _ (K1.out.calm2 (Kept.drew w1))).mono ?_; rintro e w2 ⟨rfl, fin, f1, f2, f3⟩; have FIN := hide fin; obtain ⟨y0, y1, y2, y3⟩ := CE.out w2 (Far.join (Kept.drew w1).far f2); have f4 : w2.cell? ⟨g, q, none⟩ = some (.pointer (some pa)) := (by rw [f3]; exact dg); clear fin f2 f3))
    all_goals
      clear y0 y1 y2 y3 f1 f4
      go_wp2
      go_ret
      exact FIN.out

theorem stepA_c (B bk : Nat) (mv sv ev : Value) (Q : List Els) (D : List MD) (X : List SD) (o : OpD) (w : World) (h : AInv B w bk mv sv ev Q D X) (hB : B ≤ w.heap.size) (hE : Errs w) (hB4 : 6 < B) (hB2 : 4 < B)
    (hD : D.length ≤ 1000000000) (hX : X.length ≤ 1000000000) (hD0 : o.k = 2 ∨ o.k = 3 → 0 < D.length) (hQ : Q.length ≤ 1000000000) (ho : o.Ok B w) :
    Calls Tryz.prog 16 #[.pointer (some ⟨bk, 0, none⟩), o.val] w (StepA B bk Q D X o w) := by
  by_cases h1 : o.k = 1
  · exact stepA_new B bk mv sv ev Q D X o w h hB hE.tabs hD h1
  · by_cases h2 : o.k = 2 ∨ o.k = 3
    · exact stepA_rec B bk mv sv ev Q D X o w h hB hE hB4 hB2 hD hX (hD0 h2) hQ ho h2
    · by_cases h3 : 4 ≤ o.k ∧ o.k ≤ 6
      · exact stepA_play B bk mv sv ev Q D X o w h hB hX hQ ho h3
      · exact stepA_none B bk mv sv ev Q D X o w h (by omega)
end Go.Proofs.YtlfmfhmbkpnjbaaGreatDoor
