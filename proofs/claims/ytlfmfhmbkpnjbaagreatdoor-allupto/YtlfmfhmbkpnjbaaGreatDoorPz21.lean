import Derived.Test.YtlfmfhmbkpnjbaaGreatDoorPz20
import Derived.Deep.Cut
import Derived.BigQuiet
import Derived.Test.YtlfmfhmbkpnjbaaGreatDoorPz19
namespace Go.Proofs.YtlfmfhmbkpnjbaaGreatDoor
open Go.RowKit

/-- How a match has grown. -/
structure Grew (d d' : MD) (cs : List Cmd) : Prop where
  mb : d'.mb = d.mb
  ev : d'.ev = d.ev
  or : ((stepR d.now.t d.now.L cs).e ≠ 0 ∧ d'.s = d.s ∧ d'.ws = d.ws ∧ d'.ys = d.ys) ∨
    ((stepR d.now.t d.now.L cs).e = 0 ∧ ∃ y : Wd, d'.ws = d.ws ++ [y] ∧ y.t = (stepR d.now.t d.now.L cs).t ∧ y.L = (stepR d.now.t d.now.L cs).X ∧ d'.s = d.s ++ lineL (tickW cs (stepR d.now.t d.now.L cs).t (stepR d.now.t d.now.L cs).X d.ev) ∧ d'.ys = d.ys ++ [d'.s.length])

theorem cut_text (a b : List UInt8) : ((⟨(a ++ b).toArray⟩ : ByteArray).extract 0 a.length).toList = a := by
  have h : ((⟨(a ++ b).toArray⟩ : ByteArray).extract 0 a.length) = ⟨a.toArray⟩ := by
    apply ByteArray.ext
    simp [ByteArray.data_extract]
  rw [h]; simp

theorem info_worldM : (Tryz.prog.info? 38).map (fun i => (i.zero, i.size, i.bytes)) = some (some (.agg #[.int .i64 0, .slice none 0 0]), 2, 32) := by kernel_rfl
theorem info_intM : (Tryz.prog.info? 3).map (fun i => (i.zero, i.size, i.bytes)) = some (some (.int .i64 0), 1, 8) := by kernel_rfl

set_option maxHeartbeats 8000000 in
set_option maxRecDepth 100000 in
theorem recorded_walk (B bk : Nat) (mv sv : Value) (ms : Int) (ev : Value) (Q : List Els) (d : MD) (pc : Option Addr) (capc : Nat) (cs : List Cmd) (w : World)
    (hb : BookF w bk mv sv ms ev Q) (hd : d.Ok w) (hlow : ∀ j, d.foot j → B ≤ j) (hT : Tabs w) (hB4 : 6 < B) (hB2 : 4 < B) (hC : ReadsC w pc cs)
    (hpc : cs ≠ [] → ∀ b off, pc = some ⟨b, off, none⟩ → b < B ∨ typ w b 57) (hIC : ∀ c ∈ cs, IntC c) (hcl : cs.length ≤ 1048576) (hQ : Q.length ≤ 1000000000) :
    Calls Tryz.prog 31 #[.pointer (some ⟨bk, 0, none⟩), .pointer (some ⟨d.mb, 0, none⟩), .slice pc cs.length capc] w fun e w' => e = .returned (.bool true) ∧ ∃ d' ev' Q', d'.Ok w' ∧ Grew d d' cs ∧ (∀ j, d'.foot j → d.foot j ∨ w.heap.size ≤ j) ∧
      Kept (fun j => d.foot j ∨ j = bk ∨ ev.ownBlock = some j) w w' ∧ BookF w' bk mv sv ms ev' Q' ∧ Q'.length = Q.length + 4 ∧ (∀ j, ev'.ownBlock = some j → ev.ownBlock = some j ∨ w.heap.size ≤ j) ∧ (∀ b, d.wv.ownBlock = some b → OldRow w' b d.ws) := by
  obtain ⟨i0, hi, hz0, hz1, hz2⟩ := info_parts info_worldM
  obtain ⟨i1, hi1, hy0, hy1, hy2⟩ := info_parts info_intM
  obtain ⟨r, x, hws, hxt, hxL⟩ := hd.last
  have hwl : d.ws.length = r.length + 1 := by rw [hws]; simp
  have htl := hd.len
  obtain ⟨ht0, ht5, -⟩ := worldB_fine hd.nowOk.good
  obtain ⟨gw, cpw, hwv⟩ : ∃ g cp, d.wv = .slice (some ⟨g, 0, none⟩) d.ws.length cp := by
    rcases hd.worlds.2 with ⟨_, h0⟩ | ⟨g, cp, _, e, _⟩
    · omega
    · exact ⟨g, cp, e⟩
  have hyl := hd.ylen
  obtain ⟨gs, cps, hsv⟩ : ∃ g cp, d.stv = .slice (some ⟨g, 0, none⟩) d.ys.length cp := by
    rcases hd.stands.2 with ⟨_, h0⟩ | ⟨g, cp, _, e, _⟩
    · omega
    · exact ⟨g, cp, e⟩
  have hk5 : r.length ≤ 500 := by omega
  have hxO := hide (hd.each x (by rw [hws]; simp))
  have cw : w.cell? ⟨gw, r.length * 2, none⟩ = some (.int .i64 d.now.t) ∧ w.cell? ⟨gw, r.length * 2 + 1, none⟩ = some (.slice x.p d.now.L.length x.cap) := by
    have h := fun j u hu => hd.worlds.cells (g := gw) (by rw [hwv]; rfl) j u hu
    obtain ⟨r0, r1⟩ := rowW_get d.ws r.length (by omega)
    have hx : d.ws[r.length] = x := by simp [hws]
    rw [hx] at r0 r1
    have h0 := h _ _ r0
    have h1 := h _ _ r1
    rw [addr_add2, Nat.zero_add] at h0 h1
    rw [← hxt, ← hxL]
    exact ⟨h0, h1⟩
  have tM : typ w d.mb 134 := typ_blk hd.blk
  have tW : typ w gw 38 := typ_own hd.worlds gw (by rw [hwv]; rfl)
  have nR : Hid (∀ j T, T ≠ 98 → T ≠ 5 → typ w j T → ¬ (j = d.rb ∨ d.buf.ownBlock = some j)) := fun j T h1 h2 ht e => by
    rcases e with e | e
    · rw [e] at ht
      exact typ_ne ht (typ_blk hd.reco.blk) h1 rfl
    · exact typ_ne (typ_ownF hd.reco.own _ e) ht (fun e => h2 e.symm) rfl
  have CF : Hid (∀ w', Kept (fun j => j = d.rb ∨ d.buf.ownBlock = some j) w w' → w'.cell? ⟨d.mb, 0, none⟩ = some (.pointer (some ⟨d.rb, 0, none⟩)) ∧ w'.cell? ⟨d.mb, 1, none⟩ = some (.slice (some ⟨gw, 0, none⟩) (r.length + 1) cpw) ∧ w'.cell? ⟨gw, r.length * 2, none⟩ = some (.int .i64 d.now.t) ∧ w'.cell? ⟨gw, r.length * 2 + 1, none⟩ = some (.slice x.p d.now.L.length x.cap)) := fun w' k => by
    have n1 := nR.out d.mb _ (by decide) (by decide) tM
    have n2 := nR.out gw _ (by decide) (by decide) tW
    obtain ⟨m0, m1, -⟩ := match_cells hd.blk
    rw [hwv, hwl] at m1
    exact ⟨by rw [cell_keep k (typ_lt tM) n1]; exact m0, by rw [cell_keep k (typ_lt tM) n1]; exact m1, by rw [cell_keep k (typ_lt tW) n2]; exact cw.1, by rw [cell_keep k (typ_lt tW) n2]; exact cw.2⟩
  have HBK := hide hb
  have HD := hide hd
  have HT := hide hT
  have HC := hide hC
  have HIC := hide hIC
  have HLOW := hide hlow
  have hBr : B ≤ d.rb := hlow d.rb (Or.inr (Or.inl rfl))
  have hBb : Hid (∀ j, d.buf.ownBlock = some j → B ≤ j) := fun j hj => hlow j (Or.inr (Or.inr (Or.inl hj)))
  have RC : Hid (∀ w', Kept (fun j => j = d.rb ∨ d.buf.ownBlock = some j) w w' → ReadsC w' pc cs) := fun w' k hne => (hC.keep k (fun b off e hb2 e2 => by
    rcases hpc hne b off e with h | h
    · rcases e2 with e2 | e2
      · omega
      · have := hlow b (Or.inr (Or.inr (Or.inl e2))); omega
    · exact nR.out b _ (by decide) (by decide) h e2)) hne
  have hrbl : d.rb < w.heap.size := heap_lt hd.reco.blk
  have hmbl : d.mb < w.heap.size := heap_lt hd.blk
  have hgwl : gw < w.heap.size := typ_lt tW
  have hsl := hd.long
  have HXL := hide hxL
  have HWS := hide hws
  have HXT := hide hxt
  have NGW : Hid (gw ≠ d.mb) := typ_ne tW tM (by decide)
  have NGS : Hid (gw ≠ gs) := typ_ne tW (typ_own hd.stands gs (by rw [hsv]; rfl)) (by decide)
  clear hb hd hT hC hpc hIC hlow hxt hxL hws cw
  have HSM := hide (stepR_small d.now.t d.now.L cs)
  obtain ⟨S, hS⟩ : ∃ S, stepR d.now.t d.now.L cs = S := ⟨_, rfl⟩
  rw [hS] at HSM
  have HS := hide hS
  clear hS
  have hk1 : (0 : Int) ≤ (cs.length : Int) := by omega
  have hk2 : (cs.length : Int) ≤ ((cs.length + 8 : Nat) : Int) := by omega
  have hk3 : (cs.length : Int) ≤ (cs.length : Int) + 8 := by omega
  go_enter Tryz.func31, Tryz.ntmps31
  go_wp2_with fail
  refine (lentC_c pc capc cs w (by omega) HC.out).mono ?_
  rintro e wl ⟨rfl, hOC, kl⟩
  have KL := hide kl
  have OCL := hide hOC
  have hOC0 := heap_lt hOC
  have KLR : Hid (Kept (fun j => j = d.rb ∨ d.buf.ownBlock = some j) w wl) := kl.mono (fun _ _ e => e.elim)
  clear kl hOC
  generalize hOCn : w.heap.size = OC at *
  have ROC : Hid (ReadsC wl (some ⟨OC, 0, none⟩) (lentC cs)) := fun _ => ⟨OC, 0, rfl, hOC0, fun j u hu => by rw [Nat.zero_add, cell_block OCL.out]; simpa using hu⟩
  have ROCs : Hid (ReadsC wl (some ⟨OC, 0, none⟩) cs) := fun hne => ⟨OC, 0, rfl, hOC0, fun j u hu => by
    rw [Nat.zero_add, cell_block OCL.out]
    have h2 : (rowC (lentC cs))[j]? = some u := by
      unfold lentC
      rw [rowC_append, List.getElem?_append_left (List.getElem?_eq_some_iff.1 hu).1]; exact hu
    simpa using h2⟩
  have tOC : typ wl OC 57 := typ_blk OCL.out
  have DL := hide (HD.out.calm KL.out)
  have hCne : Hid (∀ b off, some (⟨OC, 0, none⟩ : Addr) = some ⟨b, off, none⟩ → b ≠ d.rb ∧ d.buf.ownBlock ≠ some b) := fun b off e => by
    cases e
    exact ⟨typ_ne tOC (typ_blk DL.out.reco.blk) (by decide), fun e2 => typ_ne (typ_ownF DL.out.reco.own _ e2) tOC (by decide) rfl⟩
  obtain ⟨c0, c1, c2, c3⟩ := CF.out wl KLR.out
  have hsl2 : d.s.length ≤ 100000000000000 := by omega
  go_upto_region 2 with fail
  go_cut [8, 9] from 15 (fun s8 s9 wx => ∃ (q : Option Addr) (cq : Nat) (now' : Wd) (ad' buf' : Value) (s' : List UInt8) (T12 : Nat), s8 = .pointer (some ⟨T12, 0, none⟩) ∧ s9 = .int .i64 S.e ∧ Hid (RecPost wl wx d.rb d.ev d.now d.buf d.s cs S q cq now' ad' buf' s') ∧ Hid (wx.heap[T12]? = some (.cells #[.int .i64 S.t, .slice q S.X.length cq] 38 (0, 0))) ∧ wl.heap.size ≤ T12)
  case first =>
    go_region_held3 (fun w' => w'.cell? ⟨d.mb, 0, none⟩ = some (.pointer (some ⟨d.rb, 0, none⟩))) (go_keep)
      (first
        | (go_at_call 22; refine (record_any B d.rb d.ev d.now d.ad d.buf d.s (some ⟨OC, 0, none⟩) (cs.length + 8) cs wl.drew hB4 hB2 hBr hBb.out (DL.out.reco.calm (Kept.drew wl)) (DL.out.nowOk.keep (Kept.drew wl) (fun _ _ e => e)) (ROCs.out.calm (Kept.drew wl)) (HT.out.calm (KL.out.calm2 (Kept.drew wl))) HD.out.every HIC.out hsl2 hCne.out).mono ?_; rw [HS.out]; rintro e wa ⟨q, cq, now', ad', buf', s', rfl, post⟩; have PA := hide post; obtain ⟨f0, -⟩ := CF.out wa ((KL.out.calm2 (Kept.drew wl)).join post.kept (fun _ _ e => e.elim) (fun _ _ e => e)); clear post)
        | (go_at_call 22; refine (record_any B d.rb d.ev d.now d.ad d.buf d.s (some ⟨OC, 0, none⟩) (cs.length + 8) cs (wl.drew.alloc (.cells #[.int .i64 0, .slice none 0 0] 38)) hB4 hB2 hBr hBb.out (DL.out.reco.calm ((Kept.drew wl).calm2 (Kept.alloc _ _))) (DL.out.nowOk.keep ((Kept.drew wl).calm2 (Kept.alloc _ _)) (fun _ _ e => e)) (ROCs.out.calm ((Kept.drew wl).calm2 (Kept.alloc _ _))) (HT.out.calm (KL.out.calm2 ((Kept.drew wl).calm2 (Kept.alloc _ _)))) HD.out.every HIC.out hsl2 hCne.out).mono ?_; rw [HS.out]; rintro e wa ⟨q, cq, now', ad', buf', s', rfl, post⟩; have PA := hide post; obtain ⟨f0, -⟩ := CF.out wa ((KL.out.calm2 ((Kept.drew wl).calm2 (Kept.alloc _ _))).join post.kept (fun _ _ e => e.elim) (fun _ _ e => e)); have T8 : Hid (wa.heap[wl.heap.size]? = some (.cells #[.int .i64 0, .slice none 0 0] 38 (0, 0))) := (by show _ = _; rw [post.kept.block wl.heap.size (by simp) (fun e => by rcases e with e | e; (· have := KL.out.size; omega); (· have := typ_lt (typ_ownF DL.out.reco.own _ e); omega))]; exact heap_alloc_new wl.drew _); obtain ⟨j0, j1, j2, j3⟩ := two_cells T8.out; have x1 : d.mb ≠ wl.heap.size := (by have := KL.out.size; omega); have x3 := x1.symm; clear post))
    all_goals
      first
        | (have LA := hide (rec_set ((Kept.drew wl).calm2 (Kept.alloc _ _)) PA.out (Nat.le_refl _) T8.out (.int .i64 S.t) (.slice q S.X.length cq))
           clear T8 j0 j1 j2 j3 x1 x3 f0 c0 c1 c2 c3
           go_wp2_with fail
           go_meet
           exact ⟨q, cq, now', ad', buf', s', _, rfl, rfl, LA.out.1, LA.out.2.1, LA.out.2.2⟩)
        | (have LA := hide (rec_new (Kept.drew wl) PA.out (.int .i64 S.t) (.slice q S.X.length cq))
           clear f0 c0 c1 c2 c3
           go_wp2_with fail
           go_meet
           exact ⟨q, cq, now', ad', buf', s', _, rfl, rfl, LA.out.1, LA.out.2.1, LA.out.2.2⟩)
  case rest =>
    obtain ⟨q, cq, now', ad', buf', s', T12, rfl, rfl, LA, T12m, hT12⟩ := hcut
    generalize hwm : wc = wm at *
    clear hwm wc
    clear c0 c1 c2 c3
    have KM : Hid (Kept (fun j => j = d.rb ∨ d.buf.ownBlock = some j) w wm) := KL.out.join LA.out.kept (fun _ _ e => e.elim) (fun _ _ e => e)
    have XM : Hid (x.Ok wm) := hxO.out.keep KM.out (fun j hj => nR.out j _ (by decide) (by decide) hj)
    have XR : Hid (Reads wm x.p d.now.L) := by show Reads _ _ _; rw [← HXL.out]; exact XM.out.reads
    obtain ⟨c0, c1, c2, c3⟩ := CF.out wm KM.out
    have hsm1 := LA.out.kept.size
    have hwk2 : IntKind.i64.wrap (r.length : Int) = (r.length : Int) := wrap_id _ (by omega)
    have hwk : IntKind.i64.wrap ((r.length : Int) + 1 - 1) = (r.length : Int) := by rw [show (r.length : Int) + 1 - 1 = (r.length : Int) by omega]; exact hwk2
    have hki1 : (0 : Int) ≤ (r.length : Int) := by omega
    have hki2 : (r.length : Int) < (r.length : Int) + 1 := by omega
    have CG : Hid (∀ w', Kept (fun _ => False) wm w' → w'.cell? ⟨d.mb, 1, none⟩ = some (.slice (some ⟨gw, 0, none⟩) (r.length + 1) cpw) ∧ w'.cell? ⟨gw, r.length * 2, none⟩ = some (.int .i64 d.now.t) ∧ w'.cell? ⟨gw, r.length * 2 + 1, none⟩ = some (.slice x.p d.now.L.length x.cap)) := fun w' k => (CF.out w' (KM.out.join k (fun _ _ e => e) (fun _ _ e => e.elim))).2
    go_upto_region 3 with fail
    go_cut [10, 11] from 15 (fun s10 s11 wx => ∃ (q' : Option Addr) (cq' T14 : Nat), s10 = .pointer (some ⟨T14, 0, none⟩) ∧ s11 = .int .i64 S.e ∧ Hid (Laid wm wx T14 (.int .i64 S.t) (.slice q' S.X.length cq') q' S.X) ∧ wm.heap.size ≤ T14 ∧ Hid (q' = none → cq' = 0) ∧ Hid (∀ j, HB q' j → wm.heap.size ≤ j))
    case first =>
      go_region_held3 (fun w' => w'.cell? ⟨d.mb, 1, none⟩ = some (.slice (some ⟨gw, 0, none⟩) (r.length + 1) cpw) ∧ w'.cell? ⟨gw, r.length * 2, none⟩ = some (.int .i64 d.now.t) ∧ w'.cell? ⟨gw, r.length * 2 + 1, none⟩ = some (.slice x.p d.now.L.length x.cap)) (go_keep)
        (first
          | (go_at_call 58; refine (rstep_any d.now.t x.p pc x.cap capc d.now.L cs wm.drew (by have := HD.out.nowOk.short; omega) (XR.out.calm (Kept.drew wm)) XM.out.nil (RC.out _ (KM.out.join (Kept.drew wm) (fun _ _ e => e) (fun _ _ e => e.elim)))).mono ?_; rw [HS.out]; rintro e wa ⟨q', cq', rfl, own, k⟩; have Kc := hide ((Kept.drew wm).calm2 k); have OW := hide own; have FB : Hid (∀ j, HB q' j → wm.heap.size ≤ j) := (fun j hj => (own.lt j hj).1); obtain ⟨f0, f1, f2⟩ := CG.out wa Kc.out; clear own k)
          | (go_at_call 58; refine (rstep_any d.now.t x.p pc x.cap capc d.now.L cs (wm.drew.alloc (.cells #[.int .i64 0, .slice none 0 0] 38)) (by have := HD.out.nowOk.short; omega) (XR.out.calm ((Kept.drew wm).calm2 (Kept.alloc _ _))) XM.out.nil (RC.out _ (KM.out.join ((Kept.drew wm).calm2 (Kept.alloc _ _)) (fun _ _ e => e) (fun _ _ e => e.elim)))).mono ?_; rw [HS.out]; rintro e wa ⟨q', cq', rfl, own, k⟩; have Kc := hide (((Kept.drew wm).calm2 (Kept.alloc _ (.cells #[.int .i64 0, .slice none 0 0] 38))).calm2 k); have OW := hide own; have FB : Hid (∀ j, HB q' j → wm.heap.size ≤ j) := (fun j hj => by have := (own.lt j hj).1; simp at this; omega); have T8 : Hid (wa.heap[wm.heap.size]? = some (.cells #[.int .i64 0, .slice none 0 0] 38 (0, 0))) := new_calm (w := wm.drew) k; obtain ⟨f0, f1, f2⟩ := CG.out wa Kc.out; obtain ⟨j0, j1, j2, j3⟩ := two_cells T8.out; have x1 : d.mb ≠ wm.heap.size := (by omega); have x2 : gw ≠ wm.heap.size := (by omega); have x3 := x1.symm; have x4 := x2.symm; clear own k))
      all_goals
        clear f0 f1 f2 c0 c1 c2 c3 CG
        have HQ0 := hide OW.out.cap0
        have hkc := Kc.out.size
        first
          | (have LB := hide (laid_set Kc.out (Nat.le_refl _) T8.out OW.out.reads OW.out.typs (.int .i64 S.t) (.slice q' S.X.length cq'))
             clear T8 j0 j1 j2 j3 x1 x2 x3 x4
             go_wp2_with fail
             go_meet
             exact ⟨q', cq', _, rfl, rfl, LB, Nat.le_refl _, HQ0, FB⟩)
          | (have LB := hide (laid_new Kc.out OW.out.reads OW.out.typs (.int .i64 S.t) (.slice q' S.X.length cq'))
             go_wp2_with fail
             go_meet
             exact ⟨q', cq', _, rfl, rfl, LB, hkc, HQ0, FB⟩)
    case rest =>
      obtain ⟨q', cq', T14, rfl, rfl, LB, hT14, HQ0, FB⟩ := hcut
      generalize hwn : wc = wn at *
      clear hwn wc c0 c1 c2 c3 CG
      have T12n : Hid (wn.heap[T12]? = some (.cells #[.int .i64 S.t, .slice q S.X.length cq] 38 (0, 0))) := by show _ = _; rw [LB.out.kept.block _ (heap_lt T12m.out) (fun e => e)]; exact T12m.out
      obtain ⟨a0, a1, -, -⟩ := two_cells T12n.out
      obtain ⟨b0, b1, -, -⟩ := two_cells LB.out.blk
      go_wp2_with fail
      refine (same_c S.t q q' cq cq' S.X wn (LA.out.reads.calm LB.out.kept) LB.out.reads HSM.out.1 HSM.out.2).mono ?_
      rintro e ws ⟨rfl, ks⟩
      have Kms := hide (LB.out.kept.calm2 ks)
      have Kns := hide ks
      have KWs : Hid (Kept (fun j => j = d.rb ∨ d.buf.ownBlock = some j) w ws) := KM.out.join Kms.out (fun _ _ e => e) (fun _ _ e => e.elim)
      have KLs : Hid (Kept (fun j => j = d.rb ∨ d.buf.ownBlock = some j) wl ws) := LA.out.kept.join Kms.out (fun _ _ e => e) (fun _ _ e => e.elim)
      have nOC : Hid (¬ (OC = d.rb ∨ d.buf.ownBlock = some OC)) := fun e => by
        have := hCne.out OC 0 rfl
        rcases e with e | e
        · exact this.1 e
        · exact this.2 e
      clear ks a0 a1 b0 b1
      go_wp2_with fail
      refine (keptC_c (some ⟨OC, 0, none⟩) pc (cs.length + 8) capc cs ws (by omega) (RC.out ws KWs.out) (ROC.out.keep KLs.out (fun b off e _ => by cases e; exact nOC.out))).mono ?_
      rintro e wk ⟨rfl, kk⟩
      have Kmk := hide (Kms.out.calm2 kk)
      have Knk := hide (Kns.out.calm2 kk)
      have KWk : Hid (Kept (fun j => j = d.rb ∨ d.buf.ownBlock = some j) w wk) := KM.out.join Kmk.out (fun _ _ e => e) (fun _ _ e => e.elim)
      have PK := hide (LA.out.calm Kmk.out)
      have T12k : Hid (wk.heap[T12]? = some (.cells #[.int .i64 S.t, .slice q S.X.length cq] 38 (0, 0))) := by show _ = _; rw [Kmk.out.block _ (heap_lt T12m.out) (fun e => e)]; exact T12m.out
      have T14k : Hid (wk.heap[T14]? = some (.cells #[.int .i64 S.t, .slice q' S.X.length cq'] 38 (0, 0))) := by show _ = _; rw [Knk.out.block _ (heap_lt LB.out.blk) (fun e => e)]; exact LB.out.blk
      have RBk := hide (LB.out.reads.calm Knk.out)
      have TYk : Hid (∀ j, HB q' j → typ wk j 83) := fun j hj => typ_keep (LB.out.typs j hj) Knk.out (fun e => e)
      have HQL : Hid (∀ j, HB q j → j < wm.heap.size) := fun j hj => typ_lt (LA.out.raw.typ j hj)
      have BKk : Hid (BookF wk bk mv sv ms ev Q) := HBK.out.keep KWk.out (nR.out bk _ (by decide) (by decide) (typ_blk HBK.out.blk)) (fun j hj => nR.out j _ (by decide) (by decide) (typ_own HBK.out.own j hj)) (fun j hj => nR.out j _ (by decide) (by decide) hj)
      have hX32 := HSM.out.1
      have GQ : Hid (∀ i (h : i < Q.length) j, HB Q[i].1 j → ¬ HB q j) := fun i h j hj e => by
        have h1 := typ_lt (HBK.out.here i h j hj)
        have h2 := LA.out.fresh j e
        omega
      have hsmk := Kmk.out.size
      clear kk Kms Kns Knk KWs KLs nOC T12n LB KM KLR
      obtain ⟨a0, a1, -, -⟩ := two_cells T12k.out
      go_wp2
      go_region_held3 (fun w' => w'.cell? ⟨T12, 1, none⟩ = some (.slice q S.X.length cq)) (go_keep)
        ((go_at_call 61; refine (keepF bk S.X.length cq mv sv ms q ev Q wk.drew (by omega) (by omega) (BKk.out.still (Kept.drew wk)) (PK.out.raw.keep (Kept.drew wk) (fun _ _ e => e)) GQ.out).mono ?_; rintro e we ⟨rfl, ev', Q', hb', hQ', ke0, hev0⟩; have HBe := hide hb'; have KE : Hid (Kept (fun j => HB q j ∨ j = bk ∨ ev.ownBlock = some j) wk we) := (Kept.drew wk).join ke0 (fun _ _ e => e.elim) (fun _ _ e => e); have HV := hide hev0; have f1 : we.cell? ⟨T12, 1, none⟩ = some (.slice q S.X.length cq) := (by rw [cell_keep KE.out (heap_lt T12k.out) (fun e => by rcases e with e | e | e; (· exact typ_ne (PK.out.raw.typ _ e) (typ_blk T12k.out) (by decide) rfl); (· exact typ_ne (typ_blk BKk.out.blk) (typ_blk T12k.out) (by decide) e.symm); (· exact typ_ne (typ_own BKk.out.own _ e) (typ_blk T12k.out) (by decide) rfl))]; exact a1); clear hb' ke0 hev0))
      have RE := hide (rec_after PK.out BKk.out KE.out)
      have HNE := hide (file_ne PK.out HD.out.ne)
      have ME := hide (ms_of HD.out KL.out PK.out BKk.out KE.out HBe.out HV.out (Kept.refl _ _) RE.out)
      obtain ⟨m0, -⟩ := match_cells ME.out.pre.blk
      clear a0 a1
      go_wp2_with fail
      refine (file_c d.rb _ _ _ ad' buf' s' we RE.out HNE.out).mono ?_
      rintro e wf ⟨rfl, rf, kf⟩
      have MF := hide (ms_of HD.out KL.out PK.out BKk.out KE.out HBe.out HV.out kf rf)
      have YF := hide (made_after PK.out BKk.out KE.out kf RBk.out TYk.out HQL.out FB.out HQ0.out T14k.out)
      have PG := hide PK.out.good
      have PB := hide PK.out.bad
      clear rf kf m0 ME RE HNE PK RBk TYk HQL FB HQ0 T14k T12k BKk KE HBe HV GQ Kmk KWk LA XM XR hxO ROC ROCs OCL CF RC hCne DL KL
      obtain ⟨m0, m1, m2, m3, mf⟩ := match_cells MF.out.pre.blk
      dsimp only at m0 m1 m2 m3 mf
      rw [hwv] at m1
      rw [hsv] at m2
      obtain ⟨b0, b1, -, -⟩ := two_cells YF.out.1
      have hse : (S.e != S.e) = false := by simp
      have hse2 : (S.e == S.e) = true := by simp
      have hd0 : (0 : Int) ≤ (d.s.length : Int) := by omega
      by_cases hS0 : S.e = 0
      · obtain ⟨g1, g2, g3, g4, g5⟩ := PG.out hS0
        have hS1 : (S.e == 0) = true := by simp [hS0]
        have YO := hide (YF.out.2 hS0)
        have hln : 1 ≤ (lineL (tickW cs S.t S.X d.ev)).length := List.length_pos_iff.2 (line_ne _)
        have hsl : s'.length = d.s.length + (lineL (tickW cs S.t S.X d.ev)).length := by rw [g4, List.length_append]
        have hlt : (d.s.length : Int) < (s'.length : Int) := by omega
        have hle : (d.s.length : Int) ≤ (s'.length : Int) := by omega
        have hlf : decide ((s'.length : Int) < (d.s.length : Int)) = false := by simp; omega
        have hltd : decide ((d.s.length : Int) < (s'.length : Int)) = true := by simp; omega
        have hlfN : decide (s'.length < d.s.length) = false := by simp; omega
        have hltN : decide (d.s.length < s'.length) = true := by simp; omega
        have hleN : d.s.length ≤ s'.length := by omega
        have hex : (((⟨s'.toArray⟩ : ByteArray).extract 0 d.s.length).toList == d.s) = true := by rw [g4, cut_text d.s]; simp
        have HG := hide (And.intro g1 (And.intro g2 (And.intro g3 (And.intro g4 g5))))
        have HSL := hide hsl
        clear g1 g2 g3 g4 g5 hsl hln
        go_wp2_with fail
        go_quiet (fail)
        generalize hwd : wf.drewN _ = wd at *
        have KD : Hid (Kept (fun _ => False) wf wd) := by rw [← hwd]; exact Kept.drewN _ _
        clear hwd m0 m1 m2 m3 mf b0 b1
        have MG := hide (MF.out.calm KD.out)
        have TG : Hid (wd.heap[T14]? = some (.cells #[.int .i64 S.t, .slice q' S.X.length cq'] 38 (0, 0))) := by show _ = _; rw [KD.out.block _ (heap_lt YF.out.1) (fun e => e)]; exact YF.out.1
        have YG : Hid (Wd.Ok wd ⟨S.t, q', cq', S.X⟩) := YO.out.keep KD.out (fun _ _ e => e)
        clear MF YF YO KD
        obtain ⟨m0, m1, m2, m3, mf⟩ := match_cells MG.out.pre.blk
        dsimp only at m0 m1 m2 m3 mf
        rw [hwv] at m1
        rw [hsv] at m2
        obtain ⟨b0, b1, -, -⟩ := two_cells TG.out
        have hmd : d.mb < wd.heap.size := heap_lt MG.out.pre.blk
        have hTd : T14 < wd.heap.size := heap_lt TG.out
        have hmd1 : d.mb ≠ wd.heap.size := by omega
        have hmd2 : wd.heap.size ≠ d.mb := by omega
        have HWL := hide hwl
        have HTL := hide htl
        have HYL := hide hyl
        have hw5 : d.ws.length ≤ 501 := by omega
        have hy5 : d.ys.length ≤ 501 := by omega
        clear hwl htl hyl
        go_upto_region 11 with fail
        go_cut [] from 15 (fun wx => ∃ wv' : Value, Hid (OldRow wx gw d.ws) ∧ Hid (MS w wx bk mv sv ms ev ev' Q' d { mb := d.mb, rb := d.rb, wv := wv', stv := d.stv, ev := d.ev, ad := ad', buf := buf', s := s', now := now', ws := d.ws ++ [⟨S.t, q', cq', S.X⟩], ys := d.ys } d.s))
        case first =>
          have OG : Hid ((wd.drew.alloc (.cells #[.int .i64 S.t, .slice q' S.X.length cq'] 38)).ownsRow 0 38 2 (.slice (some ⟨gw, 0, none⟩) d.ws.length cpw) d.ws.length (rowW d.ws)) := by
            have h1 := MG.out.pre.worlds
            dsimp only at h1
            rw [hwv] at h1
            exact owns_block h1 (fun j hj => ((Kept.drew wd).calm2 (Kept.alloc _ _)).block j (owns_lt h1 j hj) (fun e => e))
          go_region_law (refine step_append_mine rfl (.tmp 117) (.tmp 119) 27 rfl 38 i0 (.agg #[.int .i64 0, .slice none 0 0]) 2 32 Tryz.underlying27 hi hz0 hz1 hz2 rfl (by decide) (.slice (some ⟨gw, 0, none⟩) d.ws.length cpw) d.ws.length (rowW d.ws) (by simp [Act.eval]) OG.out ⟨wd.heap.size, 0, none⟩ 1 1 (rowW [⟨S.t, q', cq', S.X⟩]) (by simp [Act.eval]) rfl (new_cells wd.drew (rowW [⟨S.t, q', cq', S.X⟩]) 38 wd.heap.size rfl) (rowW_one _) (by decide) (by unfold maxLen; omega) (by omega) ?_; intro g4 cap4 w4 hown4 hgr4 hg4 hold4; have HO4 : Hid (OldRow (w4.setCell ⟨d.mb, 1, none⟩ (.slice (some ⟨g4, 0, none⟩) (d.ws.length + 1) cap4)) gw d.ws) := (show OldRow w4 gw d.ws from hold4.out gw rfl).keep (Kept.setCell w4 ⟨d.mb, 1, none⟩ _) NGW.out; clear hold4; have MW := hide (MS.worlds (wv' := .slice (some ⟨g4, 0, none⟩) (d.ws.length + 1) cap4) MG.out YG.out (((Kept.drew wd).calm2 (Kept.alloc _ (.cells #[.int .i64 S.t, .slice q' S.X.length cq'] 38))).join (Kept.of_grown hgr4.out) (R := fun j => d.wv.ownBlock = some j) (fun _ _ e => e.elim) (fun _ _ e => by rw [hwv]; exact e.symm)) hown4.out (fun j hj => by rw [hwv]; have e : some g4 = some j := hj; simp only [Option.some.injEq] at e; subst e; rcases hg4.out with e | e; (· exact Or.inl e); (· right; simp at e; omega))); clear hown4 hgr4 hg4; obtain ⟨n0, n1, n2, n3, nf⟩ := match_cells MW.out.1; dsimp only at n0 n1 n2 n3 nf)
          all_goals (go_wp2_with fail; go_meet; exact ⟨_, HO4.out, MW.out.2⟩)
        case rest =>
          obtain ⟨wv', HO4, MW⟩ := hcut
          clear m0 m1 m2 m3 mf b0 b1 MG TG YG
          obtain ⟨m0, m1, m2, m3, mf⟩ := match_cells MW.out.pre.blk
          dsimp only at m0 m1 m2 m3 mf
          rw [hsv] at m2
          have OS : Hid (wc.ownsRow 0 3 1 (.slice (some ⟨gs, 0, none⟩) d.ys.length cps) d.ys.length (rowN d.ys)) := by
            have h1 := MW.out.pre.stands
            dsimp only at h1
            rw [hsv] at h1
            exact h1
          have hmc : d.mb < wc.heap.size := heap_lt MW.out.pre.blk
          have hmc1 : d.mb ≠ wc.heap.size := by omega
          have hmc2 : wc.heap.size ≠ d.mb := by omega
          go_wp2_with (at_builtin; refine wpList_append_mine _ rfl (.tmp 127) (.tmp 130) 26 rfl 3 i1 (.int .i64 0) 1 8 Tryz.underlying26 hi1 hy0 hy1 hy2 rfl (by decide) _ _ _ rfl (OS.out.alloc _) ⟨wc.heap.size, 0, none⟩ 1 1 [.int .i64 (s'.length : Int)] rfl rfl ?c1 ?c2 (by decide) ?c4 ?c5 ?_)
          case c1 => exact new_cells wc [.int .i64 (s'.length : Int)] 3 wc.heap.size rfl
          case c2 => intro u hu; simp only [List.mem_cons, List.not_mem_nil, or_false] at hu; rw [hu]; rfl
          case c4 => unfold maxLen; omega
          case c5 => omega
          intro g4 cp4 w4 hown4 hgrow4 hG4
          have HO5 : Hid (OldRow w4 gw d.ws) := HO4.out.keep ((Kept.alloc wc (.cells #[.int .i64 (s'.length : Int)] 3)).join (Kept.of_grown hgrow4) (R := fun j => j = gs) (fun _ _ e => e.elim) (fun j _ e => by have e' : some j = some gs := e; exact Option.some.inj e')) NGS.out
          have MZ := hide (MS.stands (n := s'.length) (sv' := .slice (some ⟨g4, 0, none⟩) (d.ys.length + 1) cp4) MW.out ((Kept.alloc wc (.cells #[.int .i64 (s'.length : Int)] 3)).join (Kept.of_grown hgrow4) (R := fun j => d.stv.ownBlock = some j) (fun _ _ e => e.elim) (fun _ _ e => by rw [hsv]; exact e.symm)) hown4 (fun j hj => by
            dsimp only
            rw [hsv]
            have e : some g4 = some j := hj
            simp only [Option.some.injEq] at e
            subst e
            rcases hG4 with e | e
            · exact Or.inl e
            · exact Or.inr (by omega)))
          clear hown4 hgrow4 hG4 OS m0 m1 m2 m3 mf MW
          obtain ⟨n0, n1, n2, n3, nf⟩ := match_cells MZ.out.1
          dsimp only at n0 n1 n2 n3 nf
          go_wp2
          go_ret
          have M2 := hide (MZ.out.2.file s')
          have hl1 := HTL.out
          have hl2 := HYL.out
          have hl3 := HSL.out
          obtain ⟨g1, g2, g3, g4', g5⟩ := HG.out
          have OKd := hide (MD.Pre.ok M2.out.pre ⟨d.ws, ⟨S.t, q', cq', S.X⟩, rfl, g2.symm, g3.symm⟩ (by simp; omega) (by simp; omega) (by dsimp only; omega) (by dsimp only; intro e; rw [e] at hlt; simp at hlt; omega) HD.out.every)
          refine ⟨rfl, _, OKd.out, ⟨rfl, rfl, Or.inr ⟨by rw [HS.out]; exact hS0, _, rfl, by rw [HS.out], by rw [HS.out], by rw [HS.out]; exact g4', rfl⟩⟩, fun j hj => ?_, M2.out.kept, ev', Q', M2.out.book, hQ', ?_⟩
          · rw [← hOCn]; exact M2.out.foot j hj
          · refine ⟨fun j hj => by rw [← hOCn]; exact M2.out.nev j hj, fun b hb => ?_⟩
            (try rw [hwv] at hb)
            have e : gw = b := by simpa [Value.ownBlock] using hb
            subst e
            exact (HO5.out.keep (Kept.setCell w4 ⟨d.mb, 2, none⟩ _) NGW.out).keep (Kept.setCell _ ⟨d.mb, 3, none⟩ _) NGW.out
      · obtain ⟨g1, g2⟩ := PB.out hS0
        have hS1 : (S.e == 0) = false := by simp [hS0]
        have HS0 := hide hS0
        have hex : (((⟨d.s.toArray⟩ : ByteArray).extract 0 d.s.length).toList == d.s) = true := by
          have := cut_text d.s []
          rw [List.append_nil] at this
          rw [this]; simp
        clear hS0
        rw [g2] at MF ⊢
        go_wp2_with fail
        go_quiet (fail)
        generalize hwd : wf.drewN _ = wd at *
        have KD : Hid (Kept (fun _ => False) wf wd) := by rw [← hwd]; exact Kept.drewN _ _
        clear hwd
        go_wp2
        go_ret
        have M2 := MF.out.calm KD.out
        rw [g1] at M2
        refine ⟨rfl, _, ev', Q', M2.pre.ok ?_ HD.out.len HD.out.ylen HD.out.long HD.out.ne HD.out.every, ⟨rfl, rfl, Or.inl ⟨by rw [HS.out]; exact HS0.out, rfl, rfl, rfl⟩⟩, M2.foot, M2.kept, M2.book, hQ', M2.nev, fun b hb => ?_⟩
        · exact ⟨r, x, HWS.out, HXT.out, HXL.out⟩
        · have h1 : wd.ownsRow 0 38 2 d.wv d.ws.length (rowW d.ws) := M2.pre.worlds
          rw [hwv] at h1
          (try rw [hwv] at hb)
          have e : gw = b := by simpa [Value.ownBlock] using hb
          subst e
          exact ⟨typ_own h1 gw rfl, fun j u hu => row_cell h1 j u hu⟩
end Go.Proofs.YtlfmfhmbkpnjbaaGreatDoor

namespace Go.Proofs.YtlfmfhmbkpnjbaaGreatDoor
open Go.RowKit

theorem info_ptrM : (Tryz.prog.info? 85).map (fun i => (i.zero, i.size, i.bytes)) = some (some (.pointer none), 1, 8) := by kernel_rfl

theorem first_ne (n : Int) : lineL (firstW n) ≠ [] := by unfold lineL; simp
theorem first_len (n : Int) (he : 1 ≤ n ∧ n ≤ 64) : (lineL (firstW n)).length ≤ 1000 := by
  have h3 := join_short (firstW n) (by
    intro x hx
    simp only [firstW, List.mem_cons, List.not_mem_nil, or_false] at hx
    rcases hx with rfl | rfl
    · show (6 : Nat) ≤ 24; decide
    · exact itoaW_short n (by omega))
  have h4 : (firstW n).length = 2 := rfl
  rw [h4] at h3
  unfold lineL
  simp only [List.length_append, List.length_cons, List.length_nil]
  omega

theorem begun_bad (bk : Nat) (n : Int) (w : World) (he : ¬ (1 ≤ n ∧ n ≤ 64)) :
    Calls Tryz.prog 29 #[.pointer (some ⟨bk, 0, none⟩), .int .i64 n] w fun e w' => e = .returned (.bool true) ∧ w' = w := by
  by_cases h1 : n < 1
  · go_enter Tryz.func29, Tryz.ntmps29
    go_wp2_with fail
    refine (newRec_err n w he).mono ?_
    rintro e w1 ⟨rfl, rfl⟩
    go_wp2
    go_ret
    exact ⟨rfl, rfl⟩
  · have h2 : (64 : Int) < n := by omega
    go_enter Tryz.func29, Tryz.ntmps29
    go_wp2_with fail
    refine (newRec_err n w he).mono ?_
    rintro e w1 ⟨rfl, rfl⟩
    go_wp2
    go_ret
    exact ⟨rfl, rfl⟩

/-- A match, as it is laid. -/
def newD (m rb : Nat) (n : Int) (buf : Value) (s : List UInt8) : MD :=
  ⟨m + 2, rb, .slice (some ⟨m, 0, none⟩) 1 1, .slice (some ⟨m + 1, 0, none⟩) 1 1, n, .pointer (some ⟨rb, 3, none⟩), buf, s, ⟨0, none, 0, []⟩, [⟨0, none, 0, []⟩], [s.length]⟩

theorem laid_match {w : World} {rb : Nat} {n : Int} {buf : Value} {s : List UInt8} (R : Rec w rb (.int .i64 n) (.int .i64 0) (.slice none 0 0) (.pointer (some ⟨rb, 3, none⟩)) buf s) (he : 1 ≤ n ∧ n ≤ 64) (hs0 : s ≠ []) (hsl : s.length ≤ 1000) :
    (newD w.heap.size rb n buf s).Ok (((w.alloc (.cells #[.int .i64 0, .slice none 0 0] 38)).alloc (.cells #[.int .i64 (s.length : Int)] 3)).alloc (.cells #[.pointer (some ⟨rb, 0, none⟩), .slice (some ⟨w.heap.size, 0, none⟩) 1 1, .slice (some ⟨w.heap.size + 1, 0, none⟩) 1 1, .string ⟨s.toArray⟩] 134)) := by
  have ka := Kept.alloc w (.cells #[.int .i64 0, .slice none 0 0] 38)
  have ha := heap_alloc_new w (.cells #[.int .i64 0, .slice none 0 0] 38)
  have sa : (w.alloc (.cells #[.int .i64 0, .slice none 0 0] 38)).heap.size = w.heap.size + 1 := by simp
  generalize w.alloc (.cells #[.int .i64 0, .slice none 0 0] 38) = wa at *
  have kb := Kept.alloc wa (.cells #[.int .i64 (s.length : Int)] 3)
  have hb := heap_alloc_new wa (.cells #[.int .i64 (s.length : Int)] 3)
  have sb : (wa.alloc (.cells #[.int .i64 (s.length : Int)] 3)).heap.size = wa.heap.size + 1 := by simp
  generalize wa.alloc (.cells #[.int .i64 (s.length : Int)] 3) = wb at *
  have kc := Kept.alloc wb (.cells #[.pointer (some ⟨rb, 0, none⟩), .slice (some ⟨w.heap.size, 0, none⟩) 1 1, .slice (some ⟨w.heap.size + 1, 0, none⟩) 1 1, .string ⟨s.toArray⟩] 134)
  have hc := heap_alloc_new wb (.cells #[.pointer (some ⟨rb, 0, none⟩), .slice (some ⟨w.heap.size, 0, none⟩) 1 1, .slice (some ⟨w.heap.size + 1, 0, none⟩) 1 1, .string ⟨s.toArray⟩] 134)
  generalize wb.alloc (.cells #[.pointer (some ⟨rb, 0, none⟩), .slice (some ⟨w.heap.size, 0, none⟩) 1 1, .slice (some ⟨w.heap.size + 1, 0, none⟩) 1 1, .string ⟨s.toArray⟩] 134) = wc at *
  have kbc := kb.calm2 kc
  have kall := ka.calm2 kbc
  have hE : ∀ w' : World, Wd.Ok w' ⟨0, none, 0, []⟩ := fun w' => ⟨fun e => absurd rfl e, fun _ => rfl, (fun b off e => by cases e), worldB_true 0 [] ⟨by decide, by decide⟩ (fun j hj _ => absurd hj (Nat.not_lt_zero _))⟩
  refine ⟨?_, R.calm kall, hE _, ?_, ?_, ⟨[], _, rfl, rfl, rfl⟩, ?_, rfl, rfl, ?_, hs0, he⟩
  · show wc.heap[w.heap.size + 2]? = _
    rw [show w.heap.size + 2 = wb.heap.size by omega]
    exact hc
  · refine ⟨rfl, Or.inr ⟨w.heap.size, 1, #[.int .i64 0, .slice none 0 0], rfl, Nat.zero_le _, ?_, Nat.le_refl 1, by decide, rfl, rfl⟩⟩
    rw [kbc.block _ (by omega) (fun e => e)]; exact ha
  · intro x hx
    obtain rfl : x = ⟨0, none, 0, []⟩ := by simpa [newD] using hx
    exact hE _
  · refine ⟨rfl, Or.inr ⟨w.heap.size + 1, 1, #[.int .i64 (s.length : Int)], rfl, Nat.zero_le _, ?_, Nat.le_refl 1, by decide, rfl, rfl⟩⟩
    rw [← sa, kc.block _ (by omega) (fun e => e)]; exact hb
  · show (s.length : Int) ≤ 15001 * 0 + 1000
    omega
theorem newD_foot {w : World} {m rb : Nat} {n : Int} {buf : Value} {s : List UInt8} (hm : w.heap.size ≤ m) (hr : w.heap.size ≤ rb) (hb : ∀ j, buf.ownBlock = some j → w.heap.size ≤ j) (j : Nat) (hj : (newD m rb n buf s).foot j) : w.heap.size ≤ j := by
  rcases hj with e | e | e | e | e
  · have : j = m + 2 := e
    omega
  · have : j = rb := e
    omega
  · exact hb j e
  · have : some m = some j := e
    simp only [Option.some.injEq] at this; omega
  · have : some (m + 1) = some j := e
    simp only [Option.some.injEq] at this; omega

set_option maxHeartbeats 1000000 in
set_option maxRecDepth 100000 in
theorem begun_ok (B bk : Nat) (mv sv : Value) (ms : Int) (ev : Value) (Q : List Els) (D : List MD) (n : Int) (w : World) (h : MInv B w bk mv sv ms ev Q D) (hB : B ≤ w.heap.size) (hT : Tabs w) (hD : D.length ≤ 1000000000) (he : 1 ≤ n ∧ n ≤ 64) :
    Calls Tryz.prog 29 #[.pointer (some ⟨bk, 0, none⟩), .int .i64 n] w fun e w' => e = .returned (.bool true) ∧ ∃ mv' d, MInv B w' bk mv' sv ms ev Q (D ++ [d]) ∧ (d.s = lineL (firstW n) ∧ d.ev = n ∧ d.ws = [⟨0, none, 0, []⟩] ∧ d.ys = [d.s.length]) ∧ (∀ j, d.foot j → w.heap.size ≤ j) ∧ Kept (Far w B) w w' ∧ Kept (fun j => mv.ownBlock = some j ∨ j = bk) w w' := by
  obtain ⟨i0, hi, hz0, hz1, hz2⟩ := info_parts info_ptrM
  obtain ⟨ao, cp, rfl⟩ : ∃ ao cp, mv = .slice ao D.length cp := by
    rcases h.list.2 with ⟨rfl, h0⟩ | ⟨g, cp, _, rfl, _⟩
    · exact ⟨none, 0, by rw [h0]⟩
    · exact ⟨_, _, rfl⟩
  have H := hide h
  have HT := hide hT
  clear h hT
  have h1 : ¬ n < 1 := by omega
  have h2 : ¬ (64 : Int) < n := by omega
  go_enter Tryz.func29, Tryz.ntmps29
  go_wp2_with fail
  refine (newRec_c n w he HT.out).mono ?_
  rintro e w1 ⟨rb, buf, rfl, hrb, r1, hbuf, k1⟩
  have R1 := hide r1
  have HBUF := hide hbuf
  have K1 := hide k1
  clear r1 hbuf k1
  go_wp2_with fail
  refine (file_c rb _ _ _ _ buf (lineL (firstW n)) w1 R1.out (first_ne n)).mono ?_
  rintro e w2 ⟨rfl, r2, k2⟩
  have R2 := hide r2
  have K2 : Hid (Kept (fun _ => False) w w2) := K1.out.join k2 (fun _ _ e => e) (fun j hj e => by have := HBUF.out j e; omega)
  clear r2 k2 R1 K1
  have hrl := heap_lt R2.out.blk
  obtain ⟨c0, c1, c2, c3, c4, cf⟩ := five_cells (H.out.calm K2.out).book.blk
  have hbk : bk < w2.heap.size := heap_lt (H.out.calm K2.out).book.blk
  have hsl := first_len n he
  have hsn := hide (first_ne n)
  generalize hsE : lineL (firstW n) = s at *
  have HSE := hide hsE
  clear hsE
  have OKM := hide (laid_match R2.out he hsn.out hsl)
  have hK3 : Hid (Kept (fun _ => False) w2 (((w2.alloc (.cells #[.int .i64 0, .slice none 0 0] 38)).alloc (.cells #[.int .i64 (s.length : Int)] 3)).alloc (.cells #[.pointer (some ⟨rb, 0, none⟩), .slice (some ⟨w2.heap.size, 0, none⟩) 1 1, .slice (some ⟨w2.heap.size + 1, 0, none⟩) 1 1, .string ⟨s.toArray⟩] 134))) := ((Kept.alloc _ _).calm2 (Kept.alloc _ _)).calm2 (Kept.alloc _ _)
  have hS3 : (((w2.alloc (.cells #[.int .i64 0, .slice none 0 0] 38)).alloc (.cells #[.int .i64 (s.length : Int)] 3)).alloc (.cells #[.pointer (some ⟨rb, 0, none⟩), .slice (some ⟨w2.heap.size, 0, none⟩) 1 1, .slice (some ⟨w2.heap.size + 1, 0, none⟩) 1 1, .string ⟨s.toArray⟩] 134)).heap.size = w2.heap.size + 3 := by simp
  have O3 := hide ((H.out.calm (K2.out.calm2 hK3.out)).list)
  go_wp2_with (at_builtin; refine wpList_append_mine _ rfl (.tmp 37) (.tmp 47) 45 rfl 85 i0 (.pointer none) 1 8 Tryz.underlying45 hi hz0 hz1 hz2 rfl (by decide) _ _ _ rfl (O3.out.alloc _) ⟨w2.heap.size + 3, 0, none⟩ 1 1 [.pointer (some ⟨w2.heap.size + 2, 0, none⟩)] rfl rfl ?c1 ?c2 (by decide) ?c4 ?c5 ?_)
  case c1 => exact new_cells (((w2.alloc (.cells #[.int .i64 0, .slice none 0 0] 38)).alloc (.cells #[.int .i64 (s.length : Int)] 3)).alloc (.cells #[.pointer (some ⟨rb, 0, none⟩), .slice (some ⟨w2.heap.size, 0, none⟩) 1 1, .slice (some ⟨w2.heap.size + 1, 0, none⟩) 1 1, .string ⟨s.toArray⟩] 134)) [.pointer (some ⟨w2.heap.size + 2, 0, none⟩)] _ _ hS3.symm
  case c2 => intro u hu; simp only [List.mem_cons, List.not_mem_nil, or_false] at hu; rw [hu]; rfl
  case c4 => unfold maxLen; omega
  case c5 => omega
  intro g4 cp4 w4 hown4 hgrow4 hG4
  have K4 : Hid (Kept (fun j => (Value.slice ao D.length cp).ownBlock = some j) (((w2.alloc (.cells #[.int .i64 0, .slice none 0 0] 38)).alloc (.cells #[.int .i64 (s.length : Int)] 3)).alloc (.cells #[.pointer (some ⟨rb, 0, none⟩), .slice (some ⟨w2.heap.size, 0, none⟩) 1 1, .slice (some ⟨w2.heap.size + 1, 0, none⟩) 1 1, .string ⟨s.toArray⟩] 134)) w4) := (Kept.alloc _ _).join (Kept.of_grown hgrow4) (R := fun j => (Value.slice ao D.length cp).ownBlock = some j) (fun _ _ e => e.elim) (fun _ _ e => e.symm)
  have hs2 := K2.out.size
  have R := hide (H.out.more hB (K2.out.calm2 hK3.out) OKM.out (newD_foot hs2 hrb HBUF.out) K4.out hown4 (fun j hj => by
    have e : some g4 = some j := hj
    simp only [Option.some.injEq] at e
    subst e
    rcases hG4 with e | e
    · exact Or.inl e
    · right; simp at e ⊢; omega))
  clear hown4 hgrow4 hG4 c0 c1 c2 c3 c4 cf O3 K4 OKM hK3 hS3 R2
  obtain ⟨d0, d1, d2, d3, d4, df⟩ := five_cells R.out.1
  go_wp2
  go_ret
  refine ⟨rfl, _, _, R.out.2.1, ⟨?_, rfl, rfl, rfl⟩, newD_foot hs2 hrb HBUF.out, R.out.2.2.1, ?_⟩
  · first | rfl | exact HSE.out.symm
  · exact R.out.2.2.2

theorem begun_c (B bk : Nat) (mv sv : Value) (ms : Int) (ev : Value) (Q : List Els) (D : List MD) (n : Int) (w : World) (h : MInv B w bk mv sv ms ev Q D) (hB : B ≤ w.heap.size) (hT : Tabs w) (hD : D.length ≤ 1000000000) :
    Calls Tryz.prog 29 #[.pointer (some ⟨bk, 0, none⟩), .int .i64 n] w fun e w' => e = .returned (.bool true) ∧ ∃ mv' D', MInv B w' bk mv' sv ms ev Q D' ∧ D.length ≤ D'.length ∧ D'.length ≤ D.length + 1 ∧ (1 ≤ n ∧ n ≤ 64 → 0 < D'.length) ∧ Kept (Far w B) w w' := by
  by_cases he : 1 ≤ n ∧ n ≤ 64
  · refine (begun_ok B bk mv sv ms ev Q D n w h hB hT hD he).mono ?_
    rintro e w' ⟨rfl, mv', d, h1, -, -, h3, -⟩
    exact ⟨rfl, mv', _, h1, by simp, by simp, fun _ => by simp, h3⟩
  · refine (begun_bad bk n w he).mono ?_
    rintro e w' ⟨rfl, rfl⟩
    exact ⟨rfl, mv, D, h, by omega, by omega, fun e => absurd e he, Kept.refl _ _⟩
end Go.Proofs.YtlfmfhmbkpnjbaaGreatDoor
