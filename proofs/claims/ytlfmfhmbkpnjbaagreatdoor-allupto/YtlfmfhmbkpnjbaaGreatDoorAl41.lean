import Derived.Test.YtlfmfhmbkpnjbaaGreatDoorAl40
import Derived.Test.YtlfmfhmbkpnjbaaGreatDoorAl39
import Derived.Test.YtlfmfhmbkpnjbaaGreatDoorAl38
import Derived.Test.YtlfmfhmbkpnjbaaGreatDoorAl23
import Derived.Deep.Cut
namespace Go.Proofs.YtlfmfhmbkpnjbaaGreatDoor
open Go.RowKit

set_option maxHeartbeats 2000000 in
set_option maxRecDepth 100000 in
theorem plays_told (B bk : Nat) (mv sv ev : Value) (Q : List Els) (D : List MD) (X : List SD) (q : Nat) (hq : q < X.length) (o : OpD) (w : World) (h : AInv B w bk mv sv ev Q D X) (h4 : o.k ≠ 4) (h5 : o.k ≠ 5) :
    Calls Tryz.prog 18 #[.pointer (some ⟨bk, 0, none⟩), ptrS X[q], o.val] w fun e w' => e = .returned (.bool true) ∧ Kept (fun _ => False) w w' := by
  obtain ⟨k, a, n, p, cap, cs⟩ := o
  unfold OpD.val ptrS
  dsimp only at h4 h5 ⊢
  have n4 : (k == 4) = false := by simp [h4]
  have n5 : (k == 5) = false := by simp [h5]
  have KA := hide (Kept.alloc w (.cells #[.int .i64 k, .int .i64 a, .int .i64 n, .slice p cs.length cap] 54))
  have HA := hide (h.calm KA.out)
  clear h
  have OX := hide (HA.out.each q hq)
  obtain ⟨s0, s1, s2, -⟩ := show_cells OX.out.blk
  have hw1 : IntKind.i64.wrap (((X[q].m.cmds.length + 1 : Nat) : Int) - 1) = (X[q].m.cmds.length : Int) := by have := OX.out.pl.ok.len; rw [wrap_id _ (by omega)]; omega
  have hw2 : IntKind.i64.wrap ((X[q].m.cmds.length : Int) + 1 - 1) = (X[q].m.cmds.length : Int) := by have := OX.out.pl.ok.len; rw [wrap_id _ (by omega)]; omega
  have hw3 : IntKind.i64.wrap (X[q].m.cmds.length : Int) = (X[q].m.cmds.length : Int) := by have := OX.out.pl.ok.len; rw [wrap_id _ (by omega)]
  have e1 : ((X[q].m.cmds.length : Int) == (X[q].m.cmds.length : Int)) = true := by simp
  have e2 : ((X[q].k : Int) == (X[q].k : Int)) = true := by simp
  go_enter Tryz.func18, Tryz.ntmps18
  go_wp2_with fail
  refine (ticks_c _ _ _ _ _ _ OX.out.pl).mono ?_
  rintro e w1 ⟨rfl, rfl⟩
  go_wp2_with fail
  refine (atP_c _ _ _ _ _ _ OX.out.pl).mono ?_
  rintro e w1 ⟨rfl, rfl⟩
  go_wp2
  go_ret
  exact ⟨rfl, KA.out⟩

theorem plays_c (B bk : Nat) (mv sv ev : Value) (Q : List Els) (D : List MD) (X : List SD) (q : Nat) (hq : q < X.length) (o : OpD) (w : World) (h : AInv B w bk mv sv ev Q D X) (hB : B ≤ w.heap.size) (hQ : Q.length ≤ 1000000000) :
    Calls Tryz.prog 18 #[.pointer (some ⟨bk, 0, none⟩), ptrS X[q], o.val] w (PlayPost B bk mv sv Q D X w) := by
  by_cases h4 : o.k = 4
  · exact plays_seek B bk mv sv ev Q D X q hq o w h hB hQ h4
  · by_cases h5 : o.k = 5
    · exact plays_move B bk mv sv ev Q D X q hq o w h hB hQ h5
    · refine (plays_told B bk mv sv ev Q D X q hq o w h h4 h5).mono ?_
      rintro e w' ⟨rfl, k⟩
      exact PlayPost.calm h k
end Go.Proofs.YtlfmfhmbkpnjbaaGreatDoor

namespace Go.Proofs.YtlfmfhmbkpnjbaaGreatDoor
open Go.RowKit

/-- A file that opens. -/
theorem open_ok (s : List UInt8) (m : Mt) (w : World) (hm : matchL s = some m) (hl : s.length ≤ 140737488355328) (hM : Mine w.heap.size) (hE : Errs w) :
    Calls Tryz.prog 9 #[.string (baL s)] w fun e w' => ∃ pb d, e = .returned (.tuple #[.pointer (some ⟨pb, 0, none⟩), .int .i64 0]) ∧ PL w' (fun j => w.heap.size ≤ j ∧ j < w'.heap.size) pb m 0 d ∧ Kept (fun _ => False) w w' := by
  refine (open_c s w hl hM hE).mono ?_
  rintro e w' ⟨k, h⟩
  rcases h with ⟨hn, _⟩ | ⟨m', pb, d, h1, h2, h3⟩
  · rw [hm] at hn; cases hn
  · rw [hm] at h1
    cases h1
    exact ⟨pb, d, h2, h3, k⟩
/-- Two players of one file. -/
theorem Duo.mk2 {w1 w2 w3 : World} {pa pb : Nat} {ma mb : Mt} {da db : PD} (h1 : PL w2 (fun j => w1.heap.size ≤ j ∧ j < w2.heap.size) pa ma 0 da) (h2 : PL w3 (fun j => w2.heap.size ≤ j ∧ j < w3.heap.size) pb mb 0 db) (k1 : Kept (fun _ => False) w1 w2) (k2 : Kept (fun _ => False) w2 w3) :
    Duo w1.heap.size w3 pa pb ma mb 0 0 (fun j => w1.heap.size ≤ j ∧ j < w2.heap.size) (fun j => w2.heap.size ≤ j ∧ j < w3.heap.size) :=
  ⟨⟨da, h1.calm k2⟩, ⟨db, h2⟩, fun j hj => hj.1, fun j hj => by have := k1.size; omega, fun j hj hk => by omega⟩
end Go.Proofs.YtlfmfhmbkpnjbaaGreatDoor

namespace Go.Proofs.YtlfmfhmbkpnjbaaGreatDoor
open Go.RowKit

theorem file_mono (ev : Int) (css : List (List Cmd)) (j d : Nat) : (fileAt ev css j).length ≤ (fileAt ev css (j + d)).length := by
  induction d with
  | zero => exact Nat.le_refl _
  | succ d ih =>
    have : (fileAt ev css (j + d)).length ≤ (fileAt ev css (j + (d + 1))).length := by
      show _ ≤ (fileAt ev css (j + d) ++ _).length
      rw [List.length_append]
      omega
    omega
/-- How many ticks lie wholly in the first n bytes. -/
theorem most_ex (f : Nat → Nat) (K n : Nat) (h0 : f 0 ≤ n) : ∃ M, M ≤ K ∧ f M ≤ n ∧ ∀ j, M < j → j ≤ K → n < f j := by
  induction K with
  | zero => exact ⟨0, Nat.le_refl _, h0, fun j h1 h2 => by omega⟩
  | succ k ih =>
    by_cases h : f (k + 1) ≤ n
    · exact ⟨k + 1, Nat.le_refl _, h, fun j h1 h2 => by omega⟩
    · obtain ⟨M, h1, h2, h3⟩ := ih
      refine ⟨M, by omega, h2, fun j h4 h5 => ?_⟩
      by_cases e : j = k + 1
      · subst e; omega
      · exact h3 j h4 (by omega)
theorem stands_cell {w : World} {B gs sc k : Nat} {ev : Int} {css : List (List Cmd)} (h : w.ownsRow B 3 1 (.slice (some ⟨gs, 0, none⟩) (k + 1) sc) (k + 1) (standsV ev css k)) (j : Nat) (hj : j ≤ k) :
    gs < w.heap.size ∧ w.cell? ⟨gs, j, none⟩ = some (.int .i64 ((fileAt ev css j).length : Int)) := by
  have e : (standsV ev css k)[j]? = some (.int .i64 ((fileAt ev css j).length : Int)) := by
    unfold standsV
    rw [List.getElem?_map, List.getElem?_range (by omega)]
    rfl
  exact ⟨(h.lt gs rfl).2, row_cell (owns_base h) j _ e⟩
theorem cut_opens (every : Int) (zss : List (List Int)) (n M : Nat) (hM : M ≤ min 60 zss.length) (h1 : (fileAt (1 + (pickN_keep every 20 : Int)) (zss.map cmdsOf) M).length ≤ n) (h2 : ∀ j, M < j → j ≤ min 60 zss.length → n < (fileAt (1 + (pickN_keep every 20 : Int)) (zss.map cmdsOf) j).length) :
    matchL ((fileAt (1 + (pickN_keep every 20 : Int)) (zss.map cmdsOf) (min 60 zss.length)).take n) = some (recM (1 + pickN_keep every 20) (zss.map cmdsOf) M) := by
  have h20 := pickN_lt_keep every 20 (by decide)
  obtain ⟨t, ht, hc⟩ := file_cut (1 + (pickN_keep every 20 : Int)) (zss.map cmdsOf) (min 60 zss.length) M n hM h1 (by
    by_cases e : M = min 60 zss.length
    · exact Or.inl e
    · exact Or.inr (h2 (M + 1) (by omega) (by omega)))
  rw [ht]
  have := matchL_file (1 + pickN_keep every 20) (zss.map cmdsOf) M t ⟨by omega, by omega⟩ (by omega) (css_ok zss) hc
  simpa using this
end Go.Proofs.YtlfmfhmbkpnjbaaGreatDoor

namespace Go.Proofs.YtlfmfhmbkpnjbaaGreatDoor
open Go.RowKit

theorem info_ptrS : (Tryz.prog.info? 61).map (fun i => (i.zero, i.size, i.bytes)) = some (some (.pointer none), 1, 8) := by kernel_rfl

/-- Behind 'opened'. -/
def OpdPost (B bk : Nat) (mv : Value) (ev : Value) (Q : List Els) (D : List MD) (X : List SD) (w : World) (e : Ending) (w' : World) : Prop :=
  e = .returned (.bool true) ∧ ∃ sv' X', AInv B w' bk mv sv' ev Q D X' ∧ X'.length ≤ X.length + 1 ∧ Kept (Far w B) w w'

theorem rowN_get (ys : List Nat) (j : Nat) (h : j < ys.length) : (rowN ys)[j]? = some (.int .i64 (ys[j] : Int)) := by simp [rowN, h]

set_option maxHeartbeats 8000000 in
set_option maxRecDepth 100000 in
theorem opened_c (B bk : Nat) (mv sv ev : Value) (Q : List Els) (D : List MD) (X : List SD) (q : Nat) (hq : q < D.length) (cut : Int) (w : World) (h : AInv B w bk mv sv ev Q D X) (hB : B ≤ w.heap.size) (hE : Errs w) (hX : X.length ≤ 1000000000) (hcut : -9223372036854775808 ≤ cut ∧ cut ≤ 9223372036854775807) :
    Calls Tryz.prog 32 #[.pointer (some ⟨bk, 0, none⟩), ptrM D[q], .int .i64 cut] w (OpdPost B bk mv ev Q D X w) := by
  obtain ⟨i0, hi, hz0, hz1, hz2⟩ := info_parts info_ptrS
  obtain ⟨ao, cp, rfl⟩ : ∃ ao cp, sv = .slice ao X.length cp := by
    rcases h.list.2 with ⟨rfl, h0⟩ | ⟨g, cp, _, rfl, _⟩
    · exact ⟨none, 0, by rw [h0]⟩
    · exact ⟨_, _, rfl⟩
  obtain ⟨css, hh⟩ := h.hist q hq
  have od := h.m.each q hq
  have hwl := hh.len
  have hyl := od.ylen
  obtain ⟨-, -, h5⟩ := hh.now od
  obtain ⟨gw, cpw, hwv⟩ : ∃ g cp, D[q].wv = .slice (some ⟨g, 0, none⟩) D[q].ws.length cp := by
    rcases od.worlds.2 with ⟨_, h0⟩ | ⟨g, cp, _, e, _⟩
    · omega
    · exact ⟨g, cp, e⟩
  obtain ⟨gs, cps, hsv⟩ : ∃ g cp, D[q].stv = .slice (some ⟨g, 0, none⟩) D[q].ys.length cp := by
    rcases od.stands.2 with ⟨_, h0⟩ | ⟨g, cp, _, e, _⟩
    · omega
    · exact ⟨g, cp, e⟩
  have hcapw : D[q].ws.length ≤ cpw := by
    rcases od.worlds.2 with ⟨_, h0⟩ | ⟨g, cp, cur, e, _, _, hle, _⟩
    · omega
    · rw [hwv] at e
      have : cpw = cp := by injection e
      omega
  have CY : Hid (∀ j (hj : j < D[q].ys.length), w.cell? ⟨gs, j, none⟩ = some (.int .i64 (D[q].ys[j] : Int))) := fun j hj => by
    have hr := od.stands
    rw [hsv] at hr
    exact row_cell hr j _ (rowN_get _ j hj)
  have hgs : gs < w.heap.size := owns_lt od.stands gs (by rw [hsv]; rfl)
  have tW : typ w gw 38 := typ_own od.worlds gw (by rw [hwv]; rfl)
  have CW : Hid (∀ t, t < D[q].ys.length → ∃ p c, w.cell? ⟨gw, t * 2, none⟩ = some (.int .i64 (t : Int)) ∧ w.cell? ⟨gw, t * 2 + 1, none⟩ = some (.slice p (mobsAt css t).length c) ∧ Reads w p (mobsAt css t) ∧ ∀ b off, p = some ⟨b, off, none⟩ → typ w b 83) := fun t ht0 => by
    have ht : t < D[q].ws.length := by omega
    have hr := od.worlds
    rw [hwv] at hr
    obtain ⟨r0, r1⟩ := rowW_get D[q].ws t ht
    obtain ⟨m1, m2⟩ := hh.mob t ht
    have oo := od.each D[q].ws[t] (List.getElem_mem ht)
    rw [m1] at r0
    rw [m2] at r1
    have rd := oo.reads
    rw [m2] at rd
    exact ⟨_, _, row_cell hr _ _ r0, row_cell hr _ _ r1, rd, oo.typ⟩
  have HCUT := hide (fun (n M : Nat) (hM : M < D[q].ys.length) h1 h2 => hh.cut od n M hM h1 h2)
  have HC0 := hide (fun (n : Nat) h0 h1 => hh.cut0 od n h0 h1)
  have HM := hide hE.mine_size
  have HE := hide hE
  have H := hide h
  have hlong := od.long
  have ht5 : D[q].now.t ≤ 500 := (worldB_fine od.nowOk.good).2.1
  obtain ⟨m0, m1, m2, m3, -⟩ := match_cells od.blk
  rw [hwv] at m1
  rw [hsv] at m2
  have hmb : D[q].mb < w.heap.size := heap_lt od.blk
  have HMB := hide od.blk
  have HYM : Hid (∀ j j' (hj : j < D[q].ys.length) (hj' : j' < D[q].ys.length), j ≤ j' → D[q].ys[j] ≤ D[q].ys[j']) := fun j j' hj hj' hle => by
    rw [hh.st j hj, hh.st j' hj']
    have := file_mono D[q].ev css j (j' - j)
    rwa [show j + (j' - j) = j' by omega] at this
  have HPRE : Hid (∀ (M : Nat), M < D[q].ys.length → ∀ i' (h' : i' < D.length), D[i'].wv.ownBlock = some gw → M + 1 ≤ D[i'].ws.length) := fun M hM i' h' e => by
    by_cases e2 : i' = q
    · subst e2; omega
    · exact absurd (show D[q].foot gw from Or.inr (Or.inr (Or.inr (Or.inl (by rw [hwv]; rfl))))) (h.m.apart i' h' q hq e2 gw (Or.inr (Or.inr (Or.inr (Or.inl e)))))
  have hy0 : 0 < D[q].ys.length := by omega
  have hy5 : D[q].ys.length ≤ 501 := by omega
  have hcapy : D[q].ys.length ≤ cpw := by omega
  have hs14 : D[q].s.length ≤ 100000000 := by omega
  clear hwl hyl hcapw h5
  obtain ⟨c0, c1, c2, c3, c4, cf⟩ := five_cells h.m.book.blk
  have hbk : bk < w.heap.size := heap_lt h.m.book.blk
  clear h hE od hh
  have HPK := hide (fun (w : World) => pick_law cut ((D[q].s.length : Int) + 1) (D[q].s.length + 1) w hcut.1 hcut.2 (by omega) (by omega) (by omega))
  have hpl := pickN_lt_law cut (D[q].s.length + 1) (by omega)
  obtain ⟨n, hn⟩ : ∃ n : Nat, (D[q].s.length : Int) - (pickN_law cut (D[q].s.length + 1) : Int) = (n : Int) := ⟨((D[q].s.length : Int) - (pickN_law cut (D[q].s.length + 1) : Int)).toNat, by omega⟩
  have hwn : IntKind.i64.wrap ((D[q].s.length : Int) - (pickN_law cut (D[q].s.length + 1) : Int)) = (n : Int) := by rw [hn]; exact wrap_id _ (by omega)
  have hnl : n ≤ D[q].s.length := by omega
  have hw1 : IntKind.i64.wrap ((D[q].s.length : Int) + 1) = (D[q].s.length : Int) + 1 := wrap_id _ (by omega)
  have hn0 : (0 : Int) ≤ (n : Int) := by omega
  have hnS : (n : Int) ≤ (D[q].s.length : Int) := by omega
  clear hn hpl hlong ht5
  have HOX : Hid (∀ w' : World, Kept (fun _ => False) w w' → Calls Tryz.prog 9 #[.string ((⟨D[q].s.toArray⟩ : ByteArray).extract 0 n)] w' (OpenPost (D[q].s.take n) w')) := fun w' k => by
    have e : (⟨D[q].s.toArray⟩ : ByteArray).extract 0 n = baL (D[q].s.take n) := by
      show (baL D[q].s).extract 0 n = _
      rw [Lib.extract_eq]; simp
    rw [e]
    exact open_c _ w' (by rw [List.length_take]; omega) (HM.out.up k.size) (HE.out.calm k)
  unfold ptrM
  generalize hde : D[q] = d at *
  have HDE := hide hde
  clear hde
  obtain ⟨S, hS⟩ : ∃ S : ByteArray, (⟨d.s.toArray⟩ : ByteArray) = S := ⟨_, rfl⟩
  have hSz : S.size = d.s.length := by rw [← hS]; show d.s.toArray.size = _; simp
  rw [hS] at m3 HOX
  clear hS
  rw [← hSz] at HPK hwn hnl hw1 hnS
  have HW1 := hide hw1
  have HW64 : Hid (wrap64 ((S.size : Int) + 1) = (S.size : Int) + 1) := by show _ = _; unfold wrap64; omega
  have HSZ := hide hSz
  clear hw1 hSz
  go_enter Tryz.func32, Tryz.ntmps32
  go_wp2_with fail
  go_quiet ((go_at_call 30; first | (rw [HW64.out]; exact Calls.quiet_of_same (HPK.out _)) | (rw [HW1.out]; exact Calls.quiet_of_same (HPK.out _)) | exact Calls.quiet_of_same (HPK.out _)))
  have K1 : Hid (Kept (fun _ => False) w (w.drewN nq)) := Kept.drewN _ _
  have e1 : (w.drewN nq).cell? ⟨d.mb, 1, none⟩ = some (.slice (some ⟨gw, 0, none⟩) d.ws.length cpw) := m1
  have e2 : (w.drewN nq).cell? ⟨d.mb, 2, none⟩ = some (.slice (some ⟨gs, 0, none⟩) d.ys.length cps) := m2
  have e3 : (w.drewN nq).cell? ⟨d.mb, 3, none⟩ = some (.string S) := m3
  clear m0 m1 m2 m3 HPK
  generalize w.drewN nq = w1 at *
  go_wp2_with fail
  refine (HOX.out w1 K1.out).mono ?_
  rintro e w2 ⟨k2, ho⟩
  have K2 := hide (K1.out.calm2 k2)
  clear k2 e1 e2 e3 c0 c1 c2 c3 c4 cf HOX
  have hs2 := K2.out.size
  have MB2 : Hid (w2.heap[d.mb]? = some (.cells #[.pointer (some ⟨d.rb, 0, none⟩), d.wv, d.stv, .string ⟨d.s.toArray⟩] 134 (0, 0))) := by show _ = _; rw [K2.out.block _ hmb (fun e => e)]; exact HMB.out
  obtain ⟨m0, m1, m2, m3, -⟩ := match_cells MB2.out
  rw [hwv] at m1
  rw [hsv] at m2
  have CY2 : Hid (∀ j (hj : j < d.ys.length), w2.cell? ⟨gs, j, none⟩ = some (.int .i64 (d.ys[j] : Int))) := fun j hj => by rw [cell_keep K2.out hgs (fun e => e)]; exact CY.out j hj
  have cy0 := CY2.out 0 hy0
  have hyp : (0 : Int) < (d.ys.length : Int) := by omega
  by_cases hlt : n < d.ys[0]
  · have hmn := HC0.out n hy0 hlt
    have hlt' : (n : Int) < (d.ys[0] : Int) := by omega
    rcases ho with ⟨-, rfl⟩ | ⟨m, pb, pd, hmm, _⟩
    · clear hmn
      have FIN : Hid (OpdPost B bk mv ev Q D X w (.returned (.bool true)) w2) := ⟨rfl, _, X, H.out.calm K2.out, by omega, K2.out.far⟩
      go_wp2
      go_ret
      exact FIN.out
    · rw [hmn] at hmm
      cases hmm
  · obtain ⟨M, hMK, hfM, hMx⟩ := most_ex (fun j => d.ys.getD j 0) (d.ys.length - 1) n (by simp only [List.getD, List.getElem?_eq_getElem hy0, Option.getD_some]; omega)
    have hMl : M < d.ys.length := by omega
    have hgd : ∀ j (hj : j < d.ys.length), d.ys.getD j 0 = d.ys[j] := fun j hj => by simp [List.getD, hj]
    have HFM : Hid (d.ys[M] ≤ n) := by have := hfM; simp only [hgd M hMl] at this; exact this
    have HMX : Hid (∀ j (hj : j < d.ys.length), M < j → n < d.ys[j]) := fun j hj h1 => by
      have := hMx j h1 (by omega)
      simp only [hgd j hj] at this
      exact this
    have HLE : Hid (∀ j (hj : j < d.ys.length), (d.ys[j] ≤ n ↔ j ≤ M)) := fun j hj => by
      constructor
      · intro h1
        apply Classical.byContradiction
        intro h2
        have := HMX.out j hj (by omega)
        omega
      · intro h1
        have := HYM.out j M hj hMl h1
        have := HFM.out
        omega
    clear hfM hMx hgd
    obtain ⟨ev0, hev0⟩ := HCUT.out n M hMl HFM.out HMX.out
    rcases ho with ⟨hn', -⟩ | ⟨m, pb, pd, hmm, rfl, pl⟩
    · rw [hev0] at hn'
      cases hn'
    · rw [hev0] at hmm
      obtain rfl : recM ev0 css M = m := by injection hmm
      have hml : (recM ev0 css M).cmds.length = M := recM_len _ _ _
      have HAT : Hid (∀ t, t ≤ M → (recM ev0 css M).at t = mobsAt css t) := fun t ht => recM_at _ _ _ t ht
      have PLH := hide pl
      clear pl hmm hev0 HCUT HC0
      have hlt' : ¬ (n : Int) < (d.ys[0] : Int) := by omega
      go_wp2
      go_loopw [10, 11] (fun a b wr => ∃ (i l : Nat), i ≤ d.ys.length ∧ b = .int .i64 i ∧ a = .int .i64 l ∧ l = min (i - 1) M ∧ wr = w2) (fun _ b _ => d.ys.length - (intOf b).toNat)
      case atStart => exact ⟨0, 0, Nat.zero_le _, rfl, rfl, by omega, rfl⟩
      case round =>
        obtain ⟨i, l, hi', rfl, rfl, hl, rfl⟩ := hrel
        by_cases hil : i < d.ys.length
        · have cyi := CY2.out i hil
          have hb1 : (0 : Int) ≤ (i : Int) := by omega
          have hb2 : (i : Int) < (d.ys.length : Int) := by omega
          have hle := HLE.out i hil
          by_cases hc : d.ys[i] ≤ n
          · have hc' : (d.ys[i] : Int) ≤ (n : Int) := by omega
            have hiM := hle.1 hc
            clear hle
            go_wp2
            go_roundw
            case rel => exact ⟨i + 1, i, by omega, by go_num, rfl, by omega, trivial⟩
            case measure => simp [intOf]; omega
          · have hc' : ¬ (d.ys[i] : Int) ≤ (n : Int) := by omega
            have hiM : ¬ i ≤ M := fun e => hc (hle.2 e)
            clear hle
            go_wp2
            go_roundw
            case rel => exact ⟨i + 1, l, by omega, by go_num, rfl, by omega, trivial⟩
            case measure => simp [intOf]; omega
        · have hb2 : ¬ (i : Int) < (d.ys.length : Int) := by omega
          obtain rfl : l = M := by omega
          clear hl
          have H2 := hide (H.out.calm K2.out)
          obtain ⟨c0, c1, c2, c3, c4, cf⟩ := five_cells H2.out.m.book.blk
          have hbk2 : bk < wr.heap.size := heap_lt H2.out.m.book.blk
          have hmb2 : d.mb < wr.heap.size := heap_lt MB2.out
          have hwl1 : IntKind.i64.wrap ((l : Int) + 1) = ((l + 1 : Nat) : Int) := by rw [wrap_id _ (by omega)]; omega
          have hg1 : (0 : Int) ≤ ((l + 1 : Nat) : Int) := by omega
          have hg2 : ((l + 1 : Nat) : Int) ≤ (cpw : Int) := by omega
          have hg3 : l + 1 ≤ cpw := by omega
          have hg4 : (0 : Int) ≤ (l : Int) + 1 := by omega
          have hg5 : (l : Int) + 1 ≤ (cpw : Int) := by omega
          go_wp2_with fail
          go_cut [] from 12 (fun wx => Hid (OpdPost B bk mv ev Q D X w (.returned (.bool true)) wx))
          case first =>
            have KB : Hid (Kept (fun _ => False) wr (wr.drew.alloc (.cells #[.pointer (some ⟨pb, 0, none⟩), .slice (some ⟨gw, 0, none⟩) (l + 1) cpw, .int .i64 0] 91))) := (Kept.drew wr).calm2 (Kept.alloc _ _)
            have OG : Hid (((wr.drew.alloc (.cells #[.pointer (some ⟨pb, 0, none⟩), .slice (some ⟨gw, 0, none⟩) (l + 1) cpw, .int .i64 0] 91)).alloc (.cells #[.pointer (some ⟨wr.heap.size, 0, none⟩)] 61)).ownsRow 0 61 1 (.slice ao X.length cp) X.length (X.map ptrS)) := by
              have h1 := H2.out.list
              exact owns_block h1 (fun j hj => ((KB.out).calm2 (Kept.alloc _ _)).block j (owns_lt h1 j hj) (fun e => e))
            have XOK : Hid (SD.Ok (wr.drew.alloc (.cells #[.pointer (some ⟨pb, 0, none⟩), .slice (some ⟨gw, 0, none⟩) (l + 1) cpw, .int .i64 0] 91)) ⟨wr.heap.size, pb, fun j => w1.heap.size ≤ j ∧ j < wr.heap.size, recM ev0 css l, 0, pd, gw, cpw⟩) := by
              refine ⟨?_, PLH.out.calm KB.out, typ_keep tW (K2.out.calm2 KB.out) (fun e => e), fun t ht => ?_⟩
              · show _ = _
                rw [hml]
                exact heap_alloc_new wr.drew _
              · dsimp only at ht ⊢
                rw [hml] at ht
                rw [HAT.out t ht]
                obtain ⟨p, c, x1, x2, x3, x4⟩ := CW.out t (by omega)
                have kk := K2.out.calm2 KB.out
                exact ⟨p, c, by rw [cell_keep kk (typ_lt tW) (fun e => e)]; exact x1, by rw [cell_keep kk (typ_lt tW) (fun e => e)]; exact x2, x3.calm kk, fun b off e => typ_keep (x4 b off e) kk (fun e => e)⟩
            have hsz1 := K1.out.size
            have hwsz : w.heap.size ≤ wr.heap.size := K2.out.size
            go_region_law (refine step_append_mine rfl (.tmp 79) (.tmp 90) 46 rfl 61 i0 (.pointer none) 1 8 Tryz.underlying46 hi hz0 hz1 hz2 rfl (by decide) (.slice ao X.length cp) X.length (X.map ptrS) (by simp [Act.eval]) OG.out ⟨wr.heap.size + 1, 0, none⟩ 1 1 [.pointer (some ⟨wr.heap.size, 0, none⟩)] (by simp [Act.eval]) rfl (new_cells (wr.drew.alloc (.cells #[.pointer (some ⟨pb, 0, none⟩), .slice (some ⟨gw, 0, none⟩) (l + 1) cpw, .int .i64 0] 91)) [.pointer (some ⟨wr.heap.size, 0, none⟩)] 61 (wr.heap.size + 1) (by simp)) (by intro u hu; simp only [List.mem_cons, List.not_mem_nil, or_false] at hu; rw [hu]; rfl) (by decide) (by unfold maxLen; omega) (by omega) ?_; intro g4 cap4 w4 hown4 hgr4 hg4 hold4; have AO := hide (H.out.opened (x := ⟨wr.heap.size, pb, fun j => w1.heap.size ≤ j ∧ j < wr.heap.size, recM ev0 css l, 0, pd, gw, cpw⟩) (sv' := .slice (some ⟨g4, 0, none⟩) (X.length + 1) cap4) hB (K2.out.calm2 KB.out) XOK.out (fun j hj => by rcases hj with e | e; (· have e' : w1.heap.size ≤ j ∧ j < wr.heap.size := e; omega); (· have e' : j = wr.heap.size := e; omega)) (fun i' h' e => by show (recM ev0 css l).cmds.length + 1 ≤ _; rw [hml]; exact HPRE.out l hMl i' h' e) ((Kept.alloc _ (.cells #[.pointer (some ⟨wr.heap.size, 0, none⟩)] 61)).join (Kept.of_grown hgr4.out) (R := fun j => (Value.slice ao X.length cp).ownBlock = some j) (fun _ _ e => e.elim) (fun _ _ e => e.symm)) hown4.out (fun j hj => by have e : some g4 = some j := hj; simp only [Option.some.injEq] at e; subst e; rcases hg4.out with e | e; (· exact Or.inl e); (· right; simp at e ⊢; omega))); clear hown4 hgr4 hg4 hold4; obtain ⟨n0, n1, n2, n3, n4, nf⟩ := five_cells AO.out.1)
            all_goals (go_wp2_with fail; go_meet; exact ⟨rfl, _, _, AO.out.2.1, by simp, AO.out.2.2⟩)
          case rest =>
            have FIN := hide hcut.out
            clear hcut
            go_wp2
            go_ret
            exact FIN.out
end Go.Proofs.YtlfmfhmbkpnjbaaGreatDoor
