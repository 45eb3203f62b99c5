import Derived.Test.YtlfmfhmbkpnjbaaGreatDoorPz17
namespace Go.Proofs.YtlfmfhmbkpnjbaaGreatDoor
open Go.RowKit

set_option maxHeartbeats 1000000 in
set_option maxRecDepth 100000 in
theorem done_push (base : Nat) (p : Option Addr) (cap : Nat) (L : List Mob) (c : Cmd) (w : World) (hl : L.length ≤ 100) (h : OwnE w base p cap L) (_hbase : base ≤ w.heap.size) (hrs : Rises L) (hk : c.kind = 2) (hf : findB L c.id = true) (hp : pushB c.x c.y = true) (hql : findI L c.id < L.length) (hvx : okV L[findI L c.id].vx) (hvy : okV L[findI L c.id].vy) :
    Calls Tryz.prog 89 #[.slice p L.length cap, .agg #[.int .i64 c.kind, .int .i64 c.id, .int .i64 c.team, .float .f32 c.x, .float .f32 c.y, .int .i64 c.n]] w (DoneP w base p (L.set (findI L c.id) { L[findI L c.id] with vx := fadd L[findI L c.id].vx c.x, vy := fadd L[findI L c.id].vy c.y })) := by
  have hsf := store_float Tryz.prog
  have HO := hide h
  clear h
  have K0 := hide (Kept.alloc w (.cells #[.int .i64 c.kind, .int .i64 c.id, .int .i64 c.team, .float .f32 c.x, .float .f32 c.y, .int .i64 c.n] 57))
  have HN := hide (heap_alloc_new w (.cells #[.int .i64 c.kind, .int .i64 c.id, .int .i64 c.team, .float .f32 c.x, .float .f32 c.y, .int .i64 c.n] 57))
  obtain ⟨s0, s1, s2, s3, s4, s5⟩ := six_cells HN.out
  obtain ⟨hq, hqid, hpl⟩ := pl_some hrs hf
  have HPL := hide hpl
  clear hpl hqid
  have hq0 : ¬ ((findI L c.id : Nat) : Int) < 0 := by omega
  have hq1 : (0 : Int) ≤ ((findI L c.id : Nat) : Int) := by omega
  have hq2 : ((findI L c.id : Nat) : Int) < (L.length : Int) := by omega
  generalize findI L c.id = q at *
  have hk1 : (c.kind == 1) = false := by simp [hk]
  have hk2 : (c.kind == 2) = true := by simp [hk]
  clear hk
  have hp' : fitsB c.x 1120403456 = true ∧ fitsB c.y 1120403456 = true := by simpa [pushB] using hp
  obtain ⟨hp1, hp2⟩ := hp'
  have hx := push_num hp1
  have hy := push_num hp2
  clear hp
  have r1 : ∀ w, (binOp .add 55 (.float .f32 L[q].vx) (.float .f32 c.x)).run Tryz.prog w = .ok (.float .f32 (fadd L[q].vx c.x)) w := fun w => run_float_arith w .add _ .f32 _ _ _ (fadd_ok' hx hvx).1
  have r2 : ∀ w, (binOp .add 55 (.float .f32 L[q].vy) (.float .f32 c.y)).run Tryz.prog w = .ok (.float .f32 (fadd L[q].vy c.y)) w := fun w => run_float_arith w .add _ .f32 _ _ _ (fadd_ok' hy hvy).1
  obtain ⟨g, cur, rfl, hbg, hcm, hr⟩ := HO.out.there q hq
  have HR := hide (hr.calm' K0.out)
  have hgw : Hid (w.heap.size ≠ g) := by show _ ≠ _; have := heap_lt hr.blk; omega
  clear hr
  go_enter Tryz.func89, Tryz.ntmps89
  go_wp2_with fail
  refine (place_c (some ⟨g, 0, none⟩) cap c.id L _ (by omega) (HO.out.reads.calm K0.out)).mono ?_
  rw [HPL.out]
  rintro e w1 ⟨rfl, rfl⟩
  go_wp2_with fail
  refine (rfits_c c.x 1120403456 _).mono ?_
  rw [hp1]
  rintro e w2 ⟨rfl, rfl⟩
  go_wp2_with fail
  refine (rfits_c c.y 1120403456 _).mono ?_
  rw [hp2]
  rintro e w2 ⟨rfl, rfl⟩
  generalize w.alloc (.cells #[.int .i64 c.kind, .int .i64 c.id, .int .i64 c.team, .float .f32 c.x, .float .f32 c.y, .int .i64 c.n] 57) = W at *
  obtain ⟨c0, c1, c2, c3, c4, c5, c6⟩ := HR.out.at7 q hql
  have f4 := HR.out.warm (q * 7 + 4)
  have HF : Hid (RowAt (W.setCell ⟨g, q * 7 + 4, none⟩ (.float .f32 (fadd L[q].vx c.x))).drew g (L.set q { L[q] with vx := fadd L[q].vx c.x }) cap (cur.set (q * 7 + 4) (.float .f32 (fadd L[q].vx c.x)))) :=
    (HR.out.store (q * 7 + 4) (.float .f32 (fadd L[q].vx c.x)) (by simp) (setvx L q hql _)).calm (Kept.drew _)
  have HK : Hid (Kept (fun k => k = g) W (W.setCell ⟨g, q * 7 + 4, none⟩ (.float .f32 (fadd L[q].vx c.x))).drew) := (Kept.setCell W _ _).join (Kept.drew _) (fun _ _ e => e) (fun _ _ e => e.elim)
  clear c0 c1 c2 c3 c5 c6
  go_wp2
  go_region
  all_goals
    clear c4 f4 s0 s1 s2 s3 s4 s5
    generalize (W.setCell ⟨g, q * 7 + 4, none⟩ (.float .f32 (fadd L[q].vx c.x))).drew = w3 at *
    obtain ⟨s0, s1, s2, s3, s4, s5⟩ := six_cells (show w3.heap[w.heap.size]? = some (.cells #[.int .i64 c.kind, .int .i64 c.id, .int .i64 c.team, .float .f32 c.x, .float .f32 c.y, .int .i64 c.n] 57 (0, 0)) by rw [HK.out.block _ (heap_lt HN.out) hgw.out]; exact HN.out)
    have hql1 : q < (L.set q { L[q] with vx := fadd L[q].vx c.x }).length := by simpa using hql
    obtain ⟨c0, c1, c2, c3, c4, c5, c6⟩ := HF.out.at7 q hql1
    have f5 := HF.out.warm (q * 7 + 5)
    have HG := hide (HF.out.store (q * 7 + 5) (.float .f32 (fadd L[q].vy c.y)) (by simp) (setvy _ q hql1 _))
    simp only [List.getElem_set_self] at c5
    clear c0 c1 c2 c3 c4 c6
    go_wp2
    go_region
    all_goals
      go_wp2
      go_ret
      refine ⟨some ⟨g, 0, none⟩, cap, ret1 (by rw [List.length_set]; rfl), ?_, ?_⟩
      · have q := HG.out
        simp only [List.getElem_set_self, List.set_set] at q
        exact Or.inr ⟨g, _, rfl, hbg, hcm, q.calm (Kept.drew _)⟩
      · have kk := ((((K0.out.join HK.out (R := fun k => k = g) (fun _ _ e => e.elim) (fun _ _ e => e))).join (Kept.setCell w3 ⟨g, q * 7 + 5, none⟩ (.float .f32 (fadd L[q].vy c.y))) (fun _ _ e => e) (fun _ _ e => e)).join (Kept.drew _) (fun _ _ e => e) (fun _ _ e => e.elim))
        exact kk.mono (fun k _ e => by subst e; exact ⟨0, rfl⟩)

set_option maxHeartbeats 1000000 in
set_option maxRecDepth 100000 in
theorem done_hit (base : Nat) (p : Option Addr) (cap : Nat) (L : List Mob) (c : Cmd) (w : World) (hl : L.length ≤ 100) (h : OwnE w base p cap L) (_hbase : base ≤ w.heap.size) (hrs : Rises L) (hk : c.kind = 3) (hf : findB L c.id = true) (hp : hitB c.n = true) (hql : findI L c.id < L.length) (hh : -10000 ≤ L[findI L c.id].health ∧ L[findI L c.id].health ≤ 100) :
    Calls Tryz.prog 89 #[.slice p L.length cap, .agg #[.int .i64 c.kind, .int .i64 c.id, .int .i64 c.team, .float .f32 c.x, .float .f32 c.y, .int .i64 c.n]] w (DoneP w base p (L.set (findI L c.id) { L[findI L c.id] with health := L[findI L c.id].health - c.n })) := by
  have hsf := store_float Tryz.prog
  have HO := hide h
  clear h
  have K0 := hide (Kept.alloc w (.cells #[.int .i64 c.kind, .int .i64 c.id, .int .i64 c.team, .float .f32 c.x, .float .f32 c.y, .int .i64 c.n] 57))
  have HN := hide (heap_alloc_new w (.cells #[.int .i64 c.kind, .int .i64 c.id, .int .i64 c.team, .float .f32 c.x, .float .f32 c.y, .int .i64 c.n] 57))
  obtain ⟨s0, s1, s2, s3, s4, s5⟩ := six_cells HN.out
  obtain ⟨hq, hqid, hpl⟩ := pl_some hrs hf
  have HPL := hide hpl
  clear hpl hqid
  have hq0 : ¬ ((findI L c.id : Nat) : Int) < 0 := by omega
  have hq1 : (0 : Int) ≤ ((findI L c.id : Nat) : Int) := by omega
  have hq2 : ((findI L c.id : Nat) : Int) < (L.length : Int) := by omega
  generalize findI L c.id = q at *
  have hk1 : (c.kind == 1) = false := by simp [hk]
  have hk2 : (c.kind == 2) = false := by simp [hk]
  have hk3 : (c.kind == 3) = true := by simp [hk]
  clear hk
  have hn : 1 ≤ c.n ∧ c.n ≤ 100 := by simpa [hitB] using hp
  obtain ⟨hn1, hn2⟩ := hn
  clear hp
  have hwr : IntKind.i64.wrap (L[q].health - c.n) = L[q].health - c.n := wrap_id _ (by omega)
  obtain ⟨g, cur, rfl, hbg, hcm, hr⟩ := HO.out.there q hq
  have HR := hide (hr.calm' K0.out)
  have hgw : Hid (w.heap.size ≠ g) := by show _ ≠ _; have := heap_lt hr.blk; omega
  clear hr
  go_enter Tryz.func89, Tryz.ntmps89
  go_wp2_with fail
  refine (place_c (some ⟨g, 0, none⟩) cap c.id L _ (by omega) (HO.out.reads.calm K0.out)).mono ?_
  rw [HPL.out]
  rintro e w1 ⟨rfl, rfl⟩
  generalize w.alloc (.cells #[.int .i64 c.kind, .int .i64 c.id, .int .i64 c.team, .float .f32 c.x, .float .f32 c.y, .int .i64 c.n] 57) = W at *
  obtain ⟨c0, c1, c2, c3, c4, c5, c6⟩ := HR.out.at7 q hql
  have f6 := HR.out.warm (q * 7 + 6)
  have HF := hide ((HR.out.store (q * 7 + 6) (.int .i64 (L[q].health - c.n)) (by simp) (sethealth L q hql _)).calm (Kept.drew _))
  clear c0 c1 c2 c3 c4 c5
  go_wp2
  go_region
  all_goals
    go_wp2
    go_ret
    refine ⟨some ⟨g, 0, none⟩, cap, ret1 (by rw [List.length_set]; rfl), ?_, ?_⟩
    · exact Or.inr ⟨g, _, rfl, hbg, hcm, HF.out⟩
    · have kk := ((K0.out.join (Kept.setCell W ⟨g, q * 7 + 6, none⟩ (.int .i64 (L[q].health - c.n))) (R := fun k => k = g) (fun _ _ e => e.elim) (fun _ _ e => e))).join (Kept.drew _) (fun _ _ e => e) (fun _ _ e => e.elim)
      exact kk.mono (fun k _ e => by subst e; exact ⟨0, rfl⟩)

set_option maxHeartbeats 1000000 in
set_option maxRecDepth 100000 in
theorem done_leave (base : Nat) (p : Option Addr) (cap : Nat) (L : List Mob) (c : Cmd) (w : World) (hl : L.length ≤ 100) (h : OwnE w base p cap L) (_hbase : base ≤ w.heap.size) (hrs : Rises L) (hk : c.kind = 4) (hf : findB L c.id = true) :
    Calls Tryz.prog 89 #[.slice p L.length cap, .agg #[.int .i64 c.kind, .int .i64 c.id, .int .i64 c.team, .float .f32 c.x, .float .f32 c.y, .int .i64 c.n]] w (DoneP w base p (L.take (findI L c.id) ++ L.drop (findI L c.id + 1))) := by
  have hsf := store_float Tryz.prog
  have HO := hide h
  clear h
  have K0 := hide (Kept.alloc w (.cells #[.int .i64 c.kind, .int .i64 c.id, .int .i64 c.team, .float .f32 c.x, .float .f32 c.y, .int .i64 c.n] 57))
  have HN := hide (heap_alloc_new w (.cells #[.int .i64 c.kind, .int .i64 c.id, .int .i64 c.team, .float .f32 c.x, .float .f32 c.y, .int .i64 c.n] 57))
  obtain ⟨s0, s1, s2, s3, s4, s5⟩ := six_cells HN.out
  obtain ⟨hq, hqid, hpl⟩ := pl_some hrs hf
  have HPL := hide hpl
  clear hpl hqid
  have hq0 : ¬ ((findI L c.id : Nat) : Int) < 0 := by omega
  have hq1 : (0 : Int) ≤ ((findI L c.id : Nat) : Int) := by omega
  have hq2 : ((findI L c.id : Nat) : Int) < (L.length : Int) := by omega
  generalize findI L c.id = q at *
  have hk1 : (c.kind == 1) = false := by simp [hk]
  have hk2 : (c.kind == 2) = false := by simp [hk]
  have hk3 : (c.kind == 3) = false := by simp [hk]
  have hk4 : (c.kind == 4) = true := by simp [hk]
  clear hk
  obtain ⟨g, cur, rfl, hbg, hcm, hr⟩ := HO.out.there q hq
  have HR := hide (hr.calm' K0.out)
  have hgw : Hid (w.heap.size ≠ g) := by show _ ≠ _; have := heap_lt hr.blk; omega
  clear hr
  have HTL : Hid ((L.take q).length = q) := by show _ = _; rw [List.length_take]; omega
  have HDL : Hid ((L.drop (q + 1)).length = L.length - (q + 1)) := by show _ = _; rw [List.length_drop]
  have RT : Hid (Reads (w.alloc (.cells #[.int .i64 c.kind, .int .i64 c.id, .int .i64 c.team, .float .f32 c.x, .float .f32 c.y, .int .i64 c.n] 57)) (some ⟨g, 0, none⟩) (L.take q)) := HR.out.reads.take q
  have RD : Hid (Reads (w.alloc (.cells #[.int .i64 c.kind, .int .i64 c.id, .int .i64 c.team, .float .f32 c.x, .float .f32 c.y, .int .i64 c.n] 57)) (some ⟨g, (q + 1) * 7, none⟩) (L.drop (q + 1))) := by have := HR.out.reads.drop (q + 1); rw [Nat.zero_add] at this; exact this
  have hcap := HR.out.short
  have hb1 : ((q : Nat) : Int) ≤ (cap : Int) := by omega
  have hb2 : ((q : Nat) : Int) + 1 ≤ (L.length : Int) := by omega
  have hb3 : (L.length : Int) ≤ (cap : Int) := by omega
  have hw1 : IntKind.i64.wrap ((q : Int) + 1) = (q : Int) + 1 := wrap_id _ (by omega)
  have hsz := K0.out.size
  go_enter Tryz.func89, Tryz.ntmps89
  go_wp2_with fail
  refine (place_c (some ⟨g, 0, none⟩) cap c.id L _ (by omega) (HO.out.reads.calm K0.out)).mono ?_
  rw [HPL.out]
  rintro e w1 ⟨rfl, rfl⟩
  generalize w.alloc (.cells #[.int .i64 c.kind, .int .i64 c.id, .int .i64 c.team, .float .f32 c.x, .float .f32 c.y, .int .i64 c.n] 57) = W at *
  generalize L.take q = T at *
  have hTl : T.length ≤ 100 := by rw [HTL.out]; omega
  have hDl : (L.drop (q + 1)).length ≤ 100 := by rw [HDL.out]; omega
  generalize hD : L.drop (q + 1) = D at *
  clear hD
  go_wp2_with (at_builtin; refine wpList_append_list _ rfl (.tmp 103) (.tmp 106) rfl W.heap.size none 0 [] rfl (OwnE.nil _ _) (some ⟨g, 0, none⟩) cap T (by rw [HTL.out]; rfl) (fun e => by cases e) RT.out (by simp; omega) (Nat.le_refl _) ?_)
  intro p2 cap2 w2 T2 HT2 O2 HK2
  have K2 : Hid (Kept (fun _ => False) W w2) := HK2.out.mono (fun _ _ e => by obtain ⟨_, e⟩ := e; cases e)
  have hT2 : T2.length ≤ 100 := by rw [HT2.out]; exact hTl
  have hs2 := K2.out.size
  clear HK2
  by_cases hlc : q + 1 = cap
  · have hD0 : D = [] := List.eq_nil_of_length_eq_zero (by rw [HDL.out]; omega)
    have hLc : L.length = cap := by omega
    have hlc' : (q : Int) + 1 = (cap : Int) := by omega
    subst hD0
    subst hLc
    go_wp2_with (at_builtin; refine wpList_append_list _ rfl (.tmp 108) (.tmp 112) rfl W.heap.size p2 cap2 T2 rfl O2.out (some ⟨g, 0, none⟩) 0 [] rfl (fun e => by cases e) (fun e => absurd rfl e) (by simp; omega) (by omega) ?_)
    intro p3 cap3 w3 R HR3 O3 HK3
    have K3 : Hid (Kept (fun _ => False) W w3) := K2.out.join HK3.out (fun _ _ e => e) (fun j hj e => by have := (O2.out.lt j e).1; omega)
    have HRI : Hid (R = T) := by show _ = _; rw [HR3.out, HT2.out]
    clear HK3
    go_wp2
    go_ret
    rw [List.append_nil, ← HRI.out]
    exact ⟨p3, cap3, rfl, O3.out.low (by omega), (K0.out.calm2 K3.out).mono (fun _ _ e => e.elim)⟩
  · have hb5 : (q : Int) + 1 < (cap : Int) := by omega
    go_wp2_with (at_builtin; refine wpList_append_list _ rfl (.tmp 108) (.tmp 112) rfl W.heap.size p2 cap2 T2 rfl O2.out (some ⟨g, (q + 1) * 7, none⟩) (cap - (q + 1)) D (by rw [HDL.out]; rfl) (fun e => by cases e) (RD.out.calm K2.out) (by omega) (by omega) ?_)
    intro p3 cap3 w3 R HR3 O3 HK3
    have K3 : Hid (Kept (fun _ => False) W w3) := K2.out.join HK3.out (fun _ _ e => e) (fun j hj e => by have := (O2.out.lt j e).1; omega)
    have HRI : Hid (R = T ++ D) := by show _ = _; rw [HR3.out, HT2.out]
    clear HK3
    go_wp2
    go_ret
    rw [← HRI.out]
    exact ⟨p3, cap3, rfl, O3.out.low (by omega), (K0.out.calm2 K3.out).mono (fun _ _ e => e.elim)⟩
end Go.Proofs.YtlfmfhmbkpnjbaaGreatDoor

namespace Go.Proofs.YtlfmfhmbkpnjbaaGreatDoor
open Go.RowKit

/-- A command, done by the document. -/
theorem rdone_c (base k : Nat) (p : Option Addr) (cap : Nat) (L : List Mob) (c : Cmd) (w : World) (hk : k ≤ 64) (hF : Fine k L) (h : OwnE w base p cap L) (hbase : base ≤ w.heap.size) :
    Calls Tryz.prog 89 #[.slice p L.length cap, .agg #[.int .i64 c.kind, .int .i64 c.id, .int .i64 c.team, .float .f32 c.x, .float .f32 c.y, .int .i64 c.n]] w (DoneP w base p (doM L c)) := by
  have hsh := hF.short
  have hrs := rises_of hF.rises
  have hl : L.length ≤ 100 := by omega
  unfold doM
  split
  · rename_i k1
    split
    · rename_i q; exact done_put base p cap L c w hl h hbase hrs k1 q.2 q.1
    · rename_i q; exact done_noput base p cap L c w hl h hbase hrs k1 q
  · rename_i k1
    cases hf : findB L c.id
    · have e := done_none base p cap L c w hl h hbase hrs k1 hf
      simp only [Bool.false_eq_true, and_false, if_false]
      split
      · exact e
      · split
        · exact e
        · split <;> exact e
    · simp only [and_true, if_true]
      have hql := findB_lt hf
      have hm := hF.mob L[findI L c.id] (List.getElem_mem hql)
      split
      · rename_i k2
        split
        · rename_i q
          rw [setAt_eq _ _ _ hql]
          exact done_push base p cap L c w hl h hbase hrs k2 hf q hql hm.vx hm.vy
        · rename_i q; exact done_nopush base p cap L c w hl h hbase hrs k2 hf (by simpa using q)
      · rename_i k2
        split
        · rename_i k3
          split
          · rename_i q
            rw [setAt_eq _ _ _ hql]
            exact done_hit base p cap L c w hl h hbase hrs k3 hf q hql ⟨by have := hm.low; omega, hm.high⟩
          · rename_i q; exact done_nohit base p cap L c w hl h hbase hrs k3 hf (by simpa using q)
        · rename_i k3
          split
          · rename_i k4; exact done_leave base p cap L c w hl h hbase hrs k4 hf
          · rename_i k4; exact done_other base p cap L c w hl h hbase hrs k1 k2 k3 k4 hf

set_option maxHeartbeats 4000000 in
set_option maxRecDepth 100000 in
theorem rstep_bad (t : Int) (p pc : Option Addr) (cap n capc : Nat) (L : List Mob) (w : World) (hl : (L.length : Int) ≤ 4611686018427387903) (h : Reads w p L) (hb : worldB t L = false) :
    Calls Tryz.prog 58 #[.agg #[.int .i64 t, .slice p L.length cap], .slice pc n capc] w fun e w' =>
      e = .returned (.tuple #[.agg #[.int .i64 0, .slice none 0 0], .int .i64 2]) ∧ Kept (fun _ => False) w w' := by
  have HR := hide h
  clear h
  have LT := hide (laid_two w t (.slice p L.length cap))
  go_enter Tryz.func58, Tryz.ntmps58
  go_wp2_with fail
  refine (worldOK_c t p cap L _ (by omega) (HR.out.calm LT.out.1)).mono ?_
  rw [hb]
  rintro e w1 ⟨rfl, q1⟩
  have K1 := hide (LT.out.1.calm2 q1)
  have A1 : Hid (w1.heap[w.heap.size]? = some (.cells #[.int .i64 t, .slice p L.length cap] 38 (0, 0))) := by show _ = _; rw [q1.block _ (heap_lt LT.out.2.1) (fun e => e)]; exact LT.out.2.1
  have B1 : Hid (w1.heap[w.heap.size + 1]? = some (.cells #[.int .i64 0, .slice none 0 0] 38 (0, 0))) := by show _ = _; rw [q1.block _ (heap_lt LT.out.2.2) (fun e => e)]; exact LT.out.2.2
  clear q1 LT
  obtain ⟨a0, a1, -, -⟩ := two_cells A1.out
  obtain ⟨c0, c1, f0, f1⟩ := two_cells B1.out
  obtain ⟨d0, d1, -, -⟩ := two_cells (two_sets B1.out (.int .i64 0) (.slice none 0 0))
  go_wp2
  refine bodyPost_ret (v := .tuple #[.agg #[.int .i64 0, .slice none 0 0], .int .i64 2]) (by simp [results, Tryz.results58, go_sem, d0, d1]) rfl ?_
  exact ⟨rfl, two_kept K1.out (by omega) _ _⟩

set_option maxHeartbeats 4000000 in
set_option maxRecDepth 100000 in
theorem rstep_last (p pc : Option Addr) (cap n capc : Nat) (L : List Mob) (w : World) (hl : (L.length : Int) ≤ 4611686018427387903) (h : Reads w p L) (hb : worldB 500 L = true) :
    Calls Tryz.prog 58 #[.agg #[.int .i64 500, .slice p L.length cap], .slice pc n capc] w fun e w' =>
      e = .returned (.tuple #[.agg #[.int .i64 0, .slice none 0 0], .int .i64 2]) ∧ Kept (fun _ => False) w w' := by
  have HR := hide h
  clear h
  have LT := hide (laid_two w 500 (.slice p L.length cap))
  go_enter Tryz.func58, Tryz.ntmps58
  go_wp2_with fail
  refine (worldOK_c 500 p cap L _ (by omega) (HR.out.calm LT.out.1)).mono ?_
  rw [hb]
  rintro e w1 ⟨rfl, q1⟩
  have K1 := hide (LT.out.1.calm2 q1)
  have A1 : Hid (w1.heap[w.heap.size]? = some (.cells #[.int .i64 500, .slice p L.length cap] 38 (0, 0))) := by show _ = _; rw [q1.block _ (heap_lt LT.out.2.1) (fun e => e)]; exact LT.out.2.1
  have B1 : Hid (w1.heap[w.heap.size + 1]? = some (.cells #[.int .i64 0, .slice none 0 0] 38 (0, 0))) := by show _ = _; rw [q1.block _ (heap_lt LT.out.2.2) (fun e => e)]; exact LT.out.2.2
  clear q1 LT
  obtain ⟨a0, a1, -, -⟩ := two_cells A1.out
  obtain ⟨c0, c1, f0, f1⟩ := two_cells B1.out
  obtain ⟨d0, d1, -, -⟩ := two_cells (two_sets B1.out (.int .i64 0) (.slice none 0 0))
  go_wp2
  refine bodyPost_ret (v := .tuple #[.agg #[.int .i64 0, .slice none 0 0], .int .i64 2]) (by simp [results, Tryz.results58, go_sem, d0, d1]) rfl ?_
  exact ⟨rfl, two_kept K1.out (by omega) _ _⟩

set_option maxHeartbeats 4000000 in
set_option maxRecDepth 100000 in
theorem rstep_many (t : Int) (p pc : Option Addr) (cap n capc : Nat) (L : List Mob) (w : World) (hl : (L.length : Int) ≤ 4611686018427387903) (h : Reads w p L) (hb : worldB t L = true) (ht : t ≠ 500) (hn : 64 < n) :
    Calls Tryz.prog 58 #[.agg #[.int .i64 t, .slice p L.length cap], .slice pc n capc] w fun e w' =>
      e = .returned (.tuple #[.agg #[.int .i64 0, .slice none 0 0], .int .i64 1]) ∧ Kept (fun _ => False) w w' := by
  have HR := hide h
  clear h
  have ht' : (t == 500) = false := by simp [ht]
  have hn' : (64 : Int) < (n : Int) := by omega
  have LT := hide (laid_two w t (.slice p L.length cap))
  go_enter Tryz.func58, Tryz.ntmps58
  go_wp2_with fail
  refine (worldOK_c t p cap L _ (by omega) (HR.out.calm LT.out.1)).mono ?_
  rw [hb]
  rintro e w1 ⟨rfl, q1⟩
  have K1 := hide (LT.out.1.calm2 q1)
  have A1 : Hid (w1.heap[w.heap.size]? = some (.cells #[.int .i64 t, .slice p L.length cap] 38 (0, 0))) := by show _ = _; rw [q1.block _ (heap_lt LT.out.2.1) (fun e => e)]; exact LT.out.2.1
  have B1 : Hid (w1.heap[w.heap.size + 1]? = some (.cells #[.int .i64 0, .slice none 0 0] 38 (0, 0))) := by show _ = _; rw [q1.block _ (heap_lt LT.out.2.2) (fun e => e)]; exact LT.out.2.2
  clear q1 LT
  obtain ⟨a0, a1, -, -⟩ := two_cells A1.out
  obtain ⟨c0, c1, f0, f1⟩ := two_cells B1.out
  obtain ⟨d0, d1, -, -⟩ := two_cells (two_sets B1.out (.int .i64 0) (.slice none 0 0))
  go_wp2
  refine bodyPost_ret (v := .tuple #[.agg #[.int .i64 0, .slice none 0 0], .int .i64 1]) (by simp [results, Tryz.results58, go_sem, d0, d1]) rfl ?_
  exact ⟨rfl, two_kept K1.out (by omega) _ _⟩

theorem take_step (M : List Mob) (i : Nat) (hi : i < M.length) : (keepL (M.take (i + 1))).map moveM = (keepL (M.take i)).map moveM ++ (if liveB M[i] = true then [moveM M[i]] else []) := by
  rw [take_keep M i hi, List.map_append]
  congr 1
  split <;> rfl

theorem seven_two {w : World} {c : Nat} {a b d e f g k : Value} {T : TypeId} (h : w.heap[c]? = some (.cells #[a, b, d, e, f, g, k] T (0, 0))) (u v : Value) :
    ((w.setCell ⟨c, 2, none⟩ u).setCell ⟨c, 4, none⟩ v).heap[c]? = some (.cells #[a, b, u, e, v, g, k] T (0, 0)) ∧ ((w.setCell ⟨c, 3, none⟩ u).setCell ⟨c, 5, none⟩ v).heap[c]? = some (.cells #[a, b, d, u, f, v, k] T (0, 0)) := by
  have one : ∀ (w : World) (xs : Array Value) (j : Nat) (u : Value), w.heap[c]? = some (.cells xs T (0, 0)) → (w.setCell ⟨c, j, none⟩ u).heap[c]? = some (.cells (xs.setIfInBounds j u) T (0, 0)) := fun w xs j u h => by
    rw [setCell_eq_setRow w c j _ T (0, 0) u h]
    exact setRow_heap w c xs (xs.setIfInBounds j u) T (0, 0) h
  exact ⟨one _ _ 4 v (one _ _ 2 u h), one _ _ 5 v (one _ _ 3 u h)⟩
theorem kept_two (w : World) (c i j : Nat) (u v : Value) : Kept (fun k => k = c) w ((w.setCell ⟨c, i, none⟩ u).setCell ⟨c, j, none⟩ v) := (Kept.setCell w _ u).join (Kept.setCell _ _ v) (fun _ _ e => e) (fun _ _ e => e)

set_option maxHeartbeats 8000000 in
set_option maxRecDepth 100000 in
theorem rstep_ok (t : Int) (p pc : Option Addr) (cap capc : Nat) (L : List Mob) (cs : List Cmd) (w : World) (h : Reads w p L) (hp : p = none → cap = 0) (hc : ReadsC w pc cs) (hb : worldB t L = true) (ht : t ≠ 500) (hn : cs.length ≤ 64) :
    Calls Tryz.prog 58 #[.agg #[.int .i64 t, .slice p L.length cap], .slice pc cs.length capc] w fun e w' =>
      ∃ q cq, e = .returned (.tuple #[.agg #[.int .i64 (t + 1), .slice q (stepL cs L).length cq], .int .i64 0]) ∧ OwnE w' w.heap.size q cq (stepL cs L) ∧ Kept (fun _ => False) w w' := by
  obtain ⟨ht0, ht1, hF⟩ := worldB_fine hb
  have hsh := hF.short
  have HF := hide hF
  have HR := hide h
  have HC := hide hc
  have HP := hide hp
  have hsf := store_float Tryz.prog
  have ht' : (t == 500) = false := by simp [ht]
  have hn' : ¬ (64 : Int) < (cs.length : Int) := by omega
  have htw : IntKind.i64.wrap (t + 1) = t + 1 := wrap_id _ (by omega)
  clear h hc hp ht hF
  have LT := hide (laid_two w t (.slice p L.length cap))
  go_enter Tryz.func58, Tryz.ntmps58
  go_wp2_with fail
  refine (worldOK_c t p cap L _ (by omega) (HR.out.calm LT.out.1)).mono ?_
  rw [hb]
  rintro e w1 ⟨rfl, q1⟩
  have K1 := hide (LT.out.1.calm2 q1)
  have A1 : Hid (w1.heap[w.heap.size]? = some (.cells #[.int .i64 t, .slice p L.length cap] 38 (0, 0))) := by show _ = _; rw [q1.block _ (heap_lt LT.out.2.1) (fun e => e)]; exact LT.out.2.1
  have B1 : Hid (w1.heap[w.heap.size + 1]? = some (.cells #[.int .i64 0, .slice none 0 0] 38 (0, 0))) := by show _ = _; rw [q1.block _ (heap_lt LT.out.2.2) (fun e => e)]; exact LT.out.2.2
  clear q1 LT
  obtain ⟨a0, a1, -, -⟩ := two_cells A1.out
  go_wp2_with (at_builtin; refine wpList_append_list _ rfl (.tmp 26) (.tmp 28) rfl w1.heap.size none 0 [] rfl (OwnE.nil _ _) p cap L rfl HP.out (HR.out.calm K1.out) (by simp; omega) (Nat.le_refl _) ?_)
  intro p0 cp0 w2 R0 HR0 O2 HK2
  have hR0 : L = R0 := by simpa using HR0.out.symm
  subst hR0
  have K12 : Hid (Kept (fun _ => False) w1 w2) := HK2.out.mono (fun _ _ e => by obtain ⟨_, e⟩ := e; cases e)
  clear HR0 HK2 a0 a1
  go_wp2
  go_loopw [7, 8] (fun s a wr => ∃ i : Nat, ∃ p' cap', i ≤ cs.length ∧ a = .int .i64 i ∧ s = .slice p' ((cs.take i).foldl doM L).length cap' ∧ Hid (OwnE wr w1.heap.size p' cap' ((cs.take i).foldl doM L)) ∧ Hid (Kept (fun _ => False) w1 wr)) (fun _ a _ => cs.length - (intOf a).toNat)
  case atStart => exact ⟨0, p0, cp0, Nat.zero_le _, rfl, rfl, O2, K12⟩
  case round =>
    obtain ⟨i, p', cap', hil, rfl, rfl, HE, HK⟩ := hrel
    clear O2 K12
    have HKW := hide (K1.out.calm2 HK.out)
    have hsz1 := HK.out.size
    by_cases hlt : i < cs.length
    · obtain ⟨b, off, rfl, hb', c0, c1, c2, c3, c4, c5⟩ := (HC.out.calm HKW.out).at i hlt
      have hFi := fold_fine (cs.take i) L HF.out
      rw [List.length_take, show 0 + min i cs.length = i from by omega] at hFi
      have HFi := hide hFi
      have HT := hide (fold_take cs L i hlt)
      clear hFi
      generalize (cs.take i).foldl doM L = Li at *
      have hb1 : (0 : Int) ≤ (i : Int) := by omega
      have hb2 : (i : Int) < (cs.length : Int) := by omega
      go_wp2_with fail
      refine (rdone_c w1.heap.size i p' cap' Li cs[i] wr (by omega) HFi.out HE.out hsz1).mono ?_
      rintro e w3 ⟨p3, cp3, rfl, o3, k3⟩
      have O3 := hide o3
      have K3 : Hid (Kept (fun _ => False) w1 w3) := HK.out.join k3 (fun _ _ e => e) (fun j hj e => by have := (HE.out.lt j e).1; omega)
      clear o3 k3 c0 c1 c2 c3 c4 c5
      go_wp2
      go_roundw
      case rel => exact ⟨i + 1, p3, cp3, by omega, by go_num, by rw [HT.out], by rw [HT.out]; exact O3, K3⟩
      case measure => simp [intOf]; omega
    · obtain rfl : i = cs.length := by omega
      rw [List.take_length] at HE
      rw [List.take_length]
      have hFM := fold_fine cs L HF.out
      have HFM := hide hFM
      have hMl := hFM.short
      clear hFM
      have HSL : Hid (stepL cs L = (keepL (cs.foldl doM L)).map moveM) := rfl
      generalize cs.foldl doM L = M at *
      have A2 : Hid (wr.heap[w.heap.size]? = some (.cells #[.int .i64 t, .slice p L.length cap] 38 (0, 0))) := by show _ = _; rw [HK.out.block _ (heap_lt A1.out) (fun e => e)]; exact A1.out
      have B2 : Hid (wr.heap[w.heap.size + 1]? = some (.cells #[.int .i64 0, .slice none 0 0] 38 (0, 0))) := by show _ = _; rw [HK.out.block _ (heap_lt B1.out) (fun e => e)]; exact B1.out
      obtain ⟨a0, a1, -, -⟩ := two_cells A2.out
      have KO := hide (Kept.alloc wr (.cells #[.int .i64 (t + 1), .slice none 0 0] 38))
      have HOB := hide (heap_alloc_new wr (.cells #[.int .i64 (t + 1), .slice none 0 0] 38))
      go_wp2
      clear a0 a1
      generalize wr.alloc (.cells #[.int .i64 (t + 1), .slice none 0 0] 38) = W at *
      have hWB := heap_lt B2.out
      have hWo := heap_lt HOB.out
      generalize hob : wr.heap.size = ob at *
      have HM : Hid (OwnE W w1.heap.size p' cap' M) := HE.out.calm KO.out
      have KW := hide (HKW.out.calm2 KO.out)
      have B3 : Hid (W.heap[w.heap.size + 1]? = some (.cells #[.int .i64 0, .slice none 0 0] 38 (0, 0))) := by show _ = _; rw [KO.out.block _ (by omega) (fun e => e)]; exact B2.out
      have hMo : Hid (∀ j, HB p' j → j < ob) := fun j hj => by have := (HE.out.lt j hj).2; omega
      clear HE A2 B2 KO HK A1 B1
      go_loopw [10] (fun a wr => ∃ i : Nat, ∃ q cq, ∃ X : List Mob, i ≤ M.length ∧ a = .int .i64 i ∧ Hid (X = (keepL (M.take i)).map moveM) ∧ Hid (wr.heap[ob]? = some (.cells #[.int .i64 (t + 1), .slice q X.length cq] 38 (0, 0))) ∧ Hid (OwnE wr W.heap.size q cq X) ∧ Hid (Kept (fun k => k = ob) W wr)) (fun a _ => M.length - (intOf a).toNat)
      case atStart => exact ⟨0, none, 0, [], Nat.zero_le _, rfl, rfl, HOB, OwnE.nil _ _, Kept.refl _ _⟩
      case round =>
        clear HOB
        obtain ⟨i, q, cq, X, hil, rfl, HX, HO, HE, HK⟩ := hrel
        have hXl : X.length ≤ 32 := by rw [HX.out, List.length_map]; exact Nat.le_trans (List.length_filter_le _ _) (by rw [List.length_take]; omega)
        have hsR := HK.out.size
        by_cases hlt : i < M.length
        · have HMr : Hid (OwnE wr w1.heap.size p' cap' M) := HM.out.keep HK.out (fun j hj e => by have := hMo.out j hj; omega)
          obtain ⟨b, off, rfl, hbs, c0, c1, c2, c3, c4, c5, c6⟩ := HMr.out.reads.at i hlt
          have hm := HFM.out.mob M[i] (List.getElem_mem hlt)
          have HTS := hide (take_step M i hlt)
          have hb1 : (0 : Int) ≤ (i : Int) := by omega
          have hb2 : (i : Int) < (M.length : Int) := by omega
          have KN := hide (Kept.alloc wr (.cells #[.int .i64 M[i].id, .int .i64 M[i].team, .float .f32 M[i].x, .float .f32 M[i].y, .float .f32 M[i].vx, .float .f32 M[i].vy, .int .i64 M[i].health] 83))
          have HN := hide (heap_alloc_new wr (.cells #[.int .i64 M[i].id, .int .i64 M[i].team, .float .f32 M[i].x, .float .f32 M[i].y, .float .f32 M[i].vx, .float .f32 M[i].vy, .int .i64 M[i].health] 83))
          have hor := heap_lt HO.out
          cases hlv : liveB M[i]
          · rw [hlv] at HTS
            simp only [Bool.false_eq_true, if_false, List.append_nil] at HTS
            have hle : M[i].health ≤ 0 := by simpa [liveB] using hlv
            go_wp2
            go_roundw
            case rel =>
              refine ⟨i + 1, q, cq, X, by omega, by go_num, (by show _ = _; rw [HTS.out]; exact HX.out), ?_, ?_, ?_⟩
              · show _ = _
                rw [KN.out.block _ hor (fun e => e)]; exact HO.out
              · exact HE.out.calm KN.out
              · exact HK.out.join KN.out (fun _ _ e => e) (fun _ _ e => e.elim)
            case measure => simp [intOf]; omega
          · rw [hlv] at HTS
            simp only [if_true] at HTS
            have hle : ¬ M[i].health ≤ 0 := by simpa [liveB] using hlv
            have MX := fun w => rmove_c M[i].x M[i].vx w hm.px hm.vx
            have MY := fun w => rmove_c M[i].y M[i].vy w hm.py hm.vy
            obtain ⟨n0, n1, n2, n3, n4, n5, n6⟩ := seven_cells HN.out
            clear hm hlv
            generalize M[i] = mi at *
            obtain ⟨o0, o1, fo0, fo1⟩ := two_cells HO.out
            go_wp2_with fail
            refine (MX _).mono ?_
            rintro e w4 ⟨rfl, rfl⟩
            have H2 := hide (seven_two HN.out (.float .f32 (movedF mi.x mi.vx).1) (.float .f32 (movedF mi.x mi.vx).2)).1
            generalize wr.alloc (.cells #[.int .i64 mi.id, .int .i64 mi.team, .float .f32 mi.x, .float .f32 mi.y, .float .f32 mi.vx, .float .f32 mi.vy, .int .i64 mi.health] 83) = wa at *
            have ffz : ∀ j, wa.frozen? ⟨wr.heap.size, j, none⟩ = false := fun j => by simp [World.frozen?, HN.out]
            go_wp2_with fail
            refine (MY _).mono ?_
            rintro e w4 ⟨rfl, rfl⟩
            have K2 := hide (kept_two wa wr.heap.size 2 4 (.float .f32 (movedF mi.x mi.vx).1) (.float .f32 (movedF mi.x mi.vx).2))
            have H3 := hide (seven_two H2.out (.float .f32 (movedF mi.y mi.vy).1) (.float .f32 (movedF mi.y mi.vy).2)).2
            clear n0 n1 n2 n3 n4 n5 n6 ffz MX MY
            generalize (wa.setCell ⟨wr.heap.size, 2, none⟩ (.float .f32 (movedF mi.x mi.vx).1)).setCell ⟨wr.heap.size, 4, none⟩ (.float .f32 (movedF mi.x mi.vx).2) = wb at *
            have ffz : ∀ j, wb.frozen? ⟨wr.heap.size, j, none⟩ = false := fun j => by simp [World.frozen?, H2.out]
            obtain ⟨n0, n1, n2, n3, n4, n5, n6⟩ := seven_cells H2.out
            obtain ⟨z0, z1, z2, z3, z4, z5, z6⟩ := seven_cells H3.out
            have Kb : Hid (Kept (fun _ => False) wr wb) := KN.out.join K2.out (fun _ _ e => e) (fun j hj e => by omega)
            have Kc : Hid (Kept (fun _ => False) wr ((wb.setCell ⟨wr.heap.size, 3, none⟩ (.float .f32 (movedF mi.y mi.vy).1)).setCell ⟨wr.heap.size, 5, none⟩ (.float .f32 (movedF mi.y mi.vy).2))) := Kb.out.join (kept_two wb wr.heap.size 3 5 _ _) (fun _ _ e => e) (fun j hj e => by omega)
            have HOc : Hid (((wb.setCell ⟨wr.heap.size, 3, none⟩ (.float .f32 (movedF mi.y mi.vy).1)).setCell ⟨wr.heap.size, 5, none⟩ (.float .f32 (movedF mi.y mi.vy).2)).heap[ob]? = some (.cells #[.int .i64 (t + 1), .slice q X.length cq] 38 (0, 0))) := by show _ = _; rw [Kc.out.block _ hor (fun e => e)]; exact HO.out
            clear o0 o1 fo0 fo1
            obtain ⟨o0, o1, fo0, fo1⟩ := two_cells HOc.out
            have RN : Hid (Reads (((wb.setCell ⟨wr.heap.size, 3, none⟩ (.float .f32 (movedF mi.y mi.vy).1)).setCell ⟨wr.heap.size, 5, none⟩ (.float .f32 (movedF mi.y mi.vy).2)).alloc (.cells #[.int .i64 mi.id, .int .i64 mi.team, .float .f32 (movedF mi.x mi.vx).1, .float .f32 (movedF mi.y mi.vy).1, .float .f32 (movedF mi.x mi.vx).2, .float .f32 (movedF mi.y mi.vy).2, .int .i64 mi.health] 83)) (some ⟨wb.heap.size, 0, none⟩) [moveM mi]) := by
              have h1 : ((wb.setCell ⟨wr.heap.size, 3, none⟩ (.float .f32 (movedF mi.y mi.vy).1)).setCell ⟨wr.heap.size, 5, none⟩ (.float .f32 (movedF mi.y mi.vy).2)).heap.size = wb.heap.size := by simp
              have h2 := block_reads (M := [moveM mi]) (heap_alloc_new ((wb.setCell ⟨wr.heap.size, 3, none⟩ (.float .f32 (movedF mi.y mi.vy).1)).setCell ⟨wr.heap.size, 5, none⟩ (.float .f32 (movedF mi.y mi.vy).2)) (.cells (rowM [moveM mi]).toArray 83))
              rw [h1] at h2
              exact h2
            have hsw := Kb.out.size
            go_wp2_with (at_builtin; refine wpList_append_list _ rfl (.tmp 80) (.tmp 82) rfl W.heap.size q cq X rfl (HE.out.calm (Kc.out.calm2 (Kept.alloc _ _))) (some ⟨wb.heap.size, 0, none⟩) 1 [moveM mi] rfl (fun e => by cases e) RN.out (by simp; omega) (by simp; omega) ?_)
            intro q2 cq2 w5 X2 HX2 O5 HK5
            have K5 : Hid (Kept (HB q) wr w5) := (Kc.out.calm2 (Kept.alloc _ _)).join HK5.out (fun _ _ e => e.elim) (fun _ _ e => e)
            have HO5 : Hid (w5.heap[ob]? = some (.cells #[.int .i64 (t + 1), .slice q X.length cq] 38 (0, 0))) := by show _ = _; rw [K5.out.block _ hor (fun e => by have := (HE.out.lt _ e).1; omega)]; exact HO.out
            clear o0 o1 fo0 fo1 n0 n1 n2 n3 n4 n5 n6 z0 z1 z2 z3 z4 z5 z6 ffz RN Kc HOc HK5
            obtain ⟨o0, o1, fo0, fo1⟩ := two_cells HO5.out
            have hX2 : Hid (X2 = (keepL (M.take (i + 1))).map moveM) := by show _ = _; rw [HX2.out, HTS.out, HX.out]
            go_wp2
            go_roundw
            case rel =>
              refine ⟨i + 1, q2, cq2, X2, by omega, by go_num, hX2, two_set HO5.out _, ?_, ?_⟩
              · exact O5.out.keep (Kept.setCell w5 _ _) (fun j hj e => by have e' : j = ob := e; have := (O5.out.lt j hj).1; omega)
              · exact (HK.out.join K5.out (R := fun k => k = ob) (fun _ _ e => e) (fun j hj e => by have := (HE.out.lt j e).1; omega)).join (Kept.setCell w5 _ _) (fun _ _ e => e) (fun _ _ e => e)
            case measure => simp [intOf]; omega
        · obtain rfl : i = M.length := by omega
          rw [List.take_length] at HX
          have HXS : Hid (X = stepL cs L) := by show _ = _; rw [HX.out, HSL.out]
          have BF : Hid (wr.heap[w.heap.size + 1]? = some (.cells #[.int .i64 0, .slice none 0 0] 38 (0, 0))) := by show _ = _; rw [HK.out.block _ (heap_lt B3.out) (by omega)]; exact B3.out
          have KF : Hid (Kept (fun _ => False) w wr) := KW.out.join HK.out (fun _ _ e => e) (fun j hj e => by omega)
          obtain ⟨c0, c1, f0, f1⟩ := two_cells BF.out
          obtain ⟨o0, o1, -, -⟩ := two_cells HO.out
          obtain ⟨d0, d1, -, -⟩ := two_cells (two_sets BF.out (.int .i64 (t + 1)) (.slice q X.length cq))
          go_wp2
          refine bodyPost_ret (v := .tuple #[.agg #[.int .i64 (t + 1), .slice q X.length cq], .int .i64 0]) (by simp [results, Tryz.results58, go_sem, d0, d1]) rfl ?_
          rw [← HXS.out]
          refine ⟨q, cq, rfl, ?_, two_kept KF.out (by omega) _ _⟩
          exact (HE.out.keep (sets_kept wr (w.heap.size + 1) _ _) (fun j hj e => by have := (HE.out.lt j hj).1; omega)).low (by omega)
end Go.Proofs.YtlfmfhmbkpnjbaaGreatDoor

namespace Go.Proofs.YtlfmfhmbkpnjbaaGreatDoor
open Go.RowKit

/-- What a step answers: tick, entities, error. -/
noncomputable def stepR (t : Int) (L : List Mob) (cs : List Cmd) : Sn :=
  if worldB t L = false then ⟨0, [], 2⟩ else if t = 500 then ⟨0, [], 2⟩ else if 64 < cs.length then ⟨0, [], 1⟩ else ⟨t + 1, stepL cs L, 0⟩

theorem stepR_small (t : Int) (L : List Mob) (cs : List Cmd) : (stepR t L cs).X.length ≤ 32 ∧ ∀ m ∈ (stepR t L cs).X, eqM m m = true := by
  unfold stepR
  split
  · exact ⟨Nat.zero_le _, fun m hm => by cases hm⟩
  · rename_i hb
    have hb : worldB t L = true := by simpa using hb
    split
    · exact ⟨Nat.zero_le _, fun m hm => by cases hm⟩
    · rename_i ht
      split
      · exact ⟨Nat.zero_le _, fun m hm => by cases hm⟩
      · have h2 := worldB_next cs hb ht
        refine ⟨(worldB_fine h2).2.2.short, fun m hm => ?_⟩
        exact fine_eq ((worldB_fine h2).2.2.mob m hm)

/-- Where the answer is OK, it is a world's list again, and no longer than it was, or than a world's is. -/
theorem stepR_len (t : Int) (L : List Mob) (cs : List Cmd) : (stepR t L cs).X.length ≤ 32 := (stepR_small t L cs).1

theorem step_any (t : Int) (p pc : Option Addr) (cap capc : Nat) (L : List Mob) (cs : List Cmd) (w : World) (hl : (L.length : Int) ≤ 4611686018427387903) (h : Reads w p L) (hp : p = none → cap = 0) (hc : ReadsC w pc cs) :
    Calls Tryz.prog 23 #[.agg #[.int .i64 t, .slice p L.length cap], .slice pc cs.length capc] w fun e w' =>
      ∃ q cq, e = .returned (.tuple #[.agg #[.int .i64 (stepR t L cs).t, .slice q (stepR t L cs).X.length cq], .int .i64 (stepR t L cs).e]) ∧ Raw w' q (stepR t L cs).X.length cq ∧ Reads w' q (stepR t L cs).X ∧ (∀ j, HB q j → w.heap.size ≤ j) ∧ Kept (fun _ => False) w w' := by
  have none_ok : ∀ w' : World, Raw w' none 0 0 ∧ Reads w' none [] ∧ (∀ j, HB none j → w.heap.size ≤ j) := fun w' => ⟨Or.inl ⟨rfl, rfl, rfl⟩, fun h => absurd rfl h, fun j hj => by obtain ⟨_, e⟩ := hj; cases e⟩
  unfold stepR
  split
  · rename_i hb
    refine (step_bad t p pc cap cs.length capc L w hl h hb).mono ?_
    rintro e w' ⟨rfl, hk⟩
    exact ⟨none, 0, rfl, (none_ok w').1, (none_ok w').2.1, (none_ok w').2.2, hk⟩
  · rename_i hb
    have hb : worldB t L = true := by simpa using hb
    split
    · rename_i ht
      subst ht
      refine (step_last p pc cap cs.length capc L w hl h hb).mono ?_
      rintro e w' ⟨rfl, hk⟩
      exact ⟨none, 0, rfl, (none_ok w').1, (none_ok w').2.1, (none_ok w').2.2, hk⟩
    · rename_i ht
      split
      · rename_i hn
        refine (step_many t p pc cap cs.length capc L w hl h hb ht hn).mono ?_
        rintro e w' ⟨rfl, hk⟩
        exact ⟨none, 0, rfl, (none_ok w').1, (none_ok w').2.1, (none_ok w').2.2, hk⟩
      · rename_i hn
        refine (step_ok t p pc cap capc L cs w hl h hp hc hb ht (by omega)).mono ?_
        rintro e w' ⟨g, cur, hg, rfl, hr, hk⟩
        exact ⟨some ⟨g, 0, none⟩, 32, rfl, Or.inr ⟨g, cur, rfl, hr.blk, hr.len, hr.short⟩, hr.reads, fun j hj => by obtain ⟨_, e⟩ := hj; cases e; exact hg, hk⟩

theorem rstep_any (t : Int) (p pc : Option Addr) (cap capc : Nat) (L : List Mob) (cs : List Cmd) (w : World) (hl : (L.length : Int) ≤ 4611686018427387903) (h : Reads w p L) (hp : p = none → cap = 0) (hc : ReadsC w pc cs) :
    Calls Tryz.prog 58 #[.agg #[.int .i64 t, .slice p L.length cap], .slice pc cs.length capc] w fun e w' =>
      ∃ q cq, e = .returned (.tuple #[.agg #[.int .i64 (stepR t L cs).t, .slice q (stepR t L cs).X.length cq], .int .i64 (stepR t L cs).e]) ∧ OwnE w' w.heap.size q cq (stepR t L cs).X ∧ Kept (fun _ => False) w w' := by
  unfold stepR
  split
  · rename_i hb
    refine (rstep_bad t p pc cap cs.length capc L w hl h hb).mono ?_
    rintro e w' ⟨rfl, hk⟩
    exact ⟨none, 0, rfl, OwnE.nil _ _, hk⟩
  · rename_i hb
    have hb : worldB t L = true := by simpa using hb
    split
    · rename_i ht
      subst ht
      refine (rstep_last p pc cap cs.length capc L w hl h hb).mono ?_
      rintro e w' ⟨rfl, hk⟩
      exact ⟨none, 0, rfl, OwnE.nil _ _, hk⟩
    · rename_i ht
      split
      · rename_i hn
        refine (rstep_many t p pc cap cs.length capc L w hl h hb ht hn).mono ?_
        rintro e w' ⟨rfl, hk⟩
        exact ⟨none, 0, rfl, OwnE.nil _ _, hk⟩
      · rename_i hn
        exact rstep_ok t p pc cap capc L cs w h hp hc hb ht (by omega)

/-- The document's second example. -/
def k1 : Cmd := { kind := 1, id := 3, team := 0, x := 1092616192, y := 1148829696, n := 0 }
def k2 : Cmd := { kind := 2, id := 3, team := 0, x := 1082130432, y := 1073741824, n := 0 }
def km : Mob := { id := 3, team := 0, x := 1096810496, y := 1148846080, vx := 1077936128, vy := 3208642560, health := 100 }

theorem known_step : stepR 0 [] [k1, k2] = ⟨1, [km], 0⟩ := by
  unfold stepR
  rw [if_neg (by rw [worldB_true 0 [] ⟨by decide, by decide⟩ (fun j hj _ => absurd hj (Nat.not_lt_zero _))]; decide), if_neg (by decide), if_neg (by decide)]
  congr 1
end Go.Proofs.YtlfmfhmbkpnjbaaGreatDoor
