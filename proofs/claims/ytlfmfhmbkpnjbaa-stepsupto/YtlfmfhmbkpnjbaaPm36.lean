import Derived.Test.YtlfmfhmbkpnjbaaPm35
namespace Go.Proofs.Ytlfmfhmbkpnjbaa
open Go.RowKit

def DoneP (w : World) (base : Nat) (p : Option Addr) (R : List Mob) : Ending → World → Prop := fun e w' => ∃ p' cap', e = .returned (.slice p' R.length cap') ∧ OwnE w' base p' cap' R ∧ Kept (HB p) w w'

theorem spawn_ref (i t : Int) (x y : Nat) : mobB (newM i t x y) = spawnB i t x y := by
  have h0 : finB 0 = true := by kernel_rfl
  unfold mobB spawnB newM
  simp [h0]

set_option maxHeartbeats 1000000 in
set_option maxRecDepth 100000 in
theorem done_put (base : Nat) (p : Option Addr) (cap : Nat) (L : List Mob) (c : Cmd) (w : World) (hl : L.length ≤ 100) (h : OwnE w base p cap L) (_hbase : base ≤ w.heap.size) (hrs : Rises L) (hk : c.kind = 1) (hf : findB L c.id = false) (hs : spawnB c.id c.team c.x c.y = true) :
    Calls Try.prog 54 #[.slice p L.length cap, .agg #[.int .i64 c.kind, .int .i64 c.id, .int .i64 c.team, .float .f32 c.x, .float .f32 c.y, .int .i64 c.n]] w (DoneP w base p (insM L (newM c.id c.team c.x c.y))) := by
  have hsf := store_float Try.prog
  have HO := hide h
  clear h
  have K0 := hide (Kept.alloc w (.cells #[.int .i64 c.kind, .int .i64 c.id, .int .i64 c.team, .float .f32 c.x, .float .f32 c.y, .int .i64 c.n] 99))
  have HN := hide (heap_alloc_new w (.cells #[.int .i64 c.kind, .int .i64 c.id, .int .i64 c.team, .float .f32 c.x, .float .f32 c.y, .int .i64 c.n] 99))
  obtain ⟨s0, s1, s2, s3, s4, s5⟩ := six_cells HN.out
  have HPL : Hid (plR L c.id = -1) := pl_none hrs hf
  have hk1 : (c.kind == 1) = true := by simp [hk]
  clear hk
  have HM : Hid (mobB (newM c.id c.team c.x c.y) = true) := by show _ = _; rw [spawn_ref]; exact hs
  go_enter Try.func54, Try.ntmps54
  go_wp2_with fail
  refine (place_c p cap c.id L _ (by omega) (HO.out.reads.calm K0.out)).mono ?_
  rw [HPL.out]
  rintro e w1 ⟨rfl, rfl⟩
  have K1 := hide (K0.out.calm2 (Kept.alloc (w.alloc (.cells #[.int .i64 c.kind, .int .i64 c.id, .int .i64 c.team, .float .f32 c.x, .float .f32 c.y, .int .i64 c.n] 99)) (.cells #[.int .i64 c.id, .int .i64 c.team, .float .f32 c.x, .float .f32 c.y, .float .f32 0, .float .f32 0, .int .i64 100] 57)))
  have HM1 := hide (heap_alloc_new (w.alloc (.cells #[.int .i64 c.kind, .int .i64 c.id, .int .i64 c.team, .float .f32 c.x, .float .f32 c.y, .int .i64 c.n] 99)) (.cells #[.int .i64 c.id, .int .i64 c.team, .float .f32 c.x, .float .f32 c.y, .float .f32 0, .float .f32 0, .int .i64 100] 57))
  go_wp2_with fail
  refine (entityOK_c (newM c.id c.team c.x c.y) _).mono ?_
  rw [HM.out]
  rintro e w2 ⟨rfl, q2⟩
  have K2 := hide (K1.out.calm2 q2)
  have HM2 : Hid (w2.heap[w.heap.size + 1]? = some (.cells #[.int .i64 c.id, .int .i64 c.team, .float .f32 c.x, .float .f32 c.y, .float .f32 0, .float .f32 0, .int .i64 100] 57 (0, 0))) := by
    show _ = _
    have h1 := HM1.out
    have h2 := heap_lt h1
    rw [← q2.block _ h2 (fun e => e)] at h1
    simpa using h1
  obtain ⟨n0, n1, n2, n3, n4, n5, n6⟩ := seven_cells HM2.out
  clear q2 HM1 s0 s1 s2 s3 s4 s5
  go_wp2_with fail
  refine (rput_c base p cap L (newM c.id c.team c.x c.y) w2 hl (HO.out.calm K2.out)).mono ?_
  rintro e w3 ⟨p', cap', rfl, o3, k3⟩
  have O3 := hide o3
  have K3 := hide (K2.out.calm2 k3)
  clear o3 k3
  have hsz := K2.out.size
  go_wp2
  go_ret
  exact ⟨p', cap', rfl, O3.out.low (by omega), K3.out.mono (fun _ _ e => e.elim)⟩

set_option maxHeartbeats 1000000 in
set_option maxRecDepth 100000 in
theorem done_noput (base : Nat) (p : Option Addr) (cap : Nat) (L : List Mob) (c : Cmd) (w : World) (hl : L.length ≤ 100) (h : OwnE w base p cap L) (_hbase : base ≤ w.heap.size) (hrs : Rises L) (hk : c.kind = 1) (hs : ¬ (spawnB c.id c.team c.x c.y = true ∧ findB L c.id = false)) :
    Calls Try.prog 54 #[.slice p L.length cap, .agg #[.int .i64 c.kind, .int .i64 c.id, .int .i64 c.team, .float .f32 c.x, .float .f32 c.y, .int .i64 c.n]] w (DoneP w base p L) := by
  have hsf := store_float Try.prog
  have HO := hide h
  clear h
  have K0 := hide (Kept.alloc w (.cells #[.int .i64 c.kind, .int .i64 c.id, .int .i64 c.team, .float .f32 c.x, .float .f32 c.y, .int .i64 c.n] 99))
  have HN := hide (heap_alloc_new w (.cells #[.int .i64 c.kind, .int .i64 c.id, .int .i64 c.team, .float .f32 c.x, .float .f32 c.y, .int .i64 c.n] 99))
  obtain ⟨s0, s1, s2, s3, s4, s5⟩ := six_cells HN.out
  have hk1 : (c.kind == 1) = true := by simp [hk]
  clear hk
  have HM : Hid (mobB (newM c.id c.team c.x c.y) = spawnB c.id c.team c.x c.y) := spawn_ref _ _ _ _
  have K1 := hide (K0.out.calm2 (Kept.alloc (w.alloc (.cells #[.int .i64 c.kind, .int .i64 c.id, .int .i64 c.team, .float .f32 c.x, .float .f32 c.y, .int .i64 c.n] 99)) (.cells #[.int .i64 c.id, .int .i64 c.team, .float .f32 c.x, .float .f32 c.y, .float .f32 0, .float .f32 0, .int .i64 100] 57)))
  cases hf : findB L c.id
  · have hs' : spawnB c.id c.team c.x c.y = false := by
      cases hh : spawnB c.id c.team c.x c.y
      · rfl
      · exact absurd ⟨hh, hf⟩ hs
    have HPL : Hid (plR L c.id = -1) := pl_none hrs hf
    clear hs
    go_enter Try.func54, Try.ntmps54
    go_wp2_with fail
    refine (place_c p cap c.id L _ (by omega) (HO.out.reads.calm K0.out)).mono ?_
    rw [HPL.out]
    rintro e w1 ⟨rfl, rfl⟩
    go_wp2_with fail
    refine (entityOK_c (newM c.id c.team c.x c.y) _).mono ?_
    rw [HM.out, hs']
    rintro e w2 ⟨rfl, q2⟩
    have K2 := hide (K1.out.calm2 q2)
    clear q2
    go_wp2
    go_ret
    exact ⟨p, cap, rfl, HO.out.calm K2.out, (K2.out).mono (fun _ _ e => e.elim)⟩
  · obtain ⟨hq, hqid, hpl⟩ := pl_some hrs hf
    have HPL := hide hpl
    have hq0 : ¬ ((findI L c.id : Nat) : Int) < 0 := by omega
    clear hpl hqid hs
    generalize findI L c.id = q at *
    go_enter Try.func54, Try.ntmps54
    go_wp2_with fail
    refine (place_c p cap c.id L _ (by omega) (HO.out.reads.calm K0.out)).mono ?_
    rw [HPL.out]
    rintro e w1 ⟨rfl, rfl⟩
    go_wp2_with fail
    refine (entityOK_c (newM c.id c.team c.x c.y) _).mono ?_
    rw [HM.out]
    rintro e w2 ⟨rfl, q2⟩
    have K2 := hide (K1.out.calm2 q2)
    clear q2
    go_wp2
    go_ret
    exact ⟨p, cap, rfl, HO.out.calm K2.out, (K2.out).mono (fun _ _ e => e.elim)⟩

set_option maxHeartbeats 1000000 in
set_option maxRecDepth 100000 in
theorem done_none (base : Nat) (p : Option Addr) (cap : Nat) (L : List Mob) (c : Cmd) (w : World) (hl : L.length ≤ 100) (h : OwnE w base p cap L) (_hbase : base ≤ w.heap.size) (hrs : Rises L) (hk : c.kind ≠ 1) (hf : findB L c.id = false) :
    Calls Try.prog 54 #[.slice p L.length cap, .agg #[.int .i64 c.kind, .int .i64 c.id, .int .i64 c.team, .float .f32 c.x, .float .f32 c.y, .int .i64 c.n]] w (DoneP w base p L) := by
  have hsf := store_float Try.prog
  have HO := hide h
  clear h
  have K0 := hide (Kept.alloc w (.cells #[.int .i64 c.kind, .int .i64 c.id, .int .i64 c.team, .float .f32 c.x, .float .f32 c.y, .int .i64 c.n] 99))
  have HN := hide (heap_alloc_new w (.cells #[.int .i64 c.kind, .int .i64 c.id, .int .i64 c.team, .float .f32 c.x, .float .f32 c.y, .int .i64 c.n] 99))
  obtain ⟨s0, s1, s2, s3, s4, s5⟩ := six_cells HN.out
  have HPL : Hid (plR L c.id = -1) := pl_none hrs hf
  have hk1 : (c.kind == 1) = false := by simp [hk]
  clear hk
  go_enter Try.func54, Try.ntmps54
  go_wp2_with fail
  refine (place_c p cap c.id L _ (by omega) (HO.out.reads.calm K0.out)).mono ?_
  rw [HPL.out]
  rintro e w1 ⟨rfl, rfl⟩
  go_wp2
  go_ret
  exact ⟨p, cap, rfl, HO.out.calm K0.out, (K0.out).mono (fun _ _ e => e.elim)⟩

set_option maxHeartbeats 1000000 in
set_option maxRecDepth 100000 in
theorem done_nopush (base : Nat) (p : Option Addr) (cap : Nat) (L : List Mob) (c : Cmd) (w : World) (hl : L.length ≤ 100) (h : OwnE w base p cap L) (_hbase : base ≤ w.heap.size) (hrs : Rises L) (hk : c.kind = 2) (hf : findB L c.id = true) (hp : pushB c.x c.y = false) :
    Calls Try.prog 54 #[.slice p L.length cap, .agg #[.int .i64 c.kind, .int .i64 c.id, .int .i64 c.team, .float .f32 c.x, .float .f32 c.y, .int .i64 c.n]] w (DoneP w base p L) := by
  have hsf := store_float Try.prog
  have HO := hide h
  clear h
  have K0 := hide (Kept.alloc w (.cells #[.int .i64 c.kind, .int .i64 c.id, .int .i64 c.team, .float .f32 c.x, .float .f32 c.y, .int .i64 c.n] 99))
  have HN := hide (heap_alloc_new w (.cells #[.int .i64 c.kind, .int .i64 c.id, .int .i64 c.team, .float .f32 c.x, .float .f32 c.y, .int .i64 c.n] 99))
  obtain ⟨s0, s1, s2, s3, s4, s5⟩ := six_cells HN.out
  obtain ⟨hq, hqid, hpl⟩ := pl_some hrs hf
  have HPL := hide hpl
  clear hpl hqid
  have hq0 : ¬ ((findI L c.id : Nat) : Int) < 0 := by omega
  have hq1 : (0 : Int) ≤ ((findI L c.id : Nat) : Int) := by omega
  have hq2 : ((findI L c.id : Nat) : Int) < (L.length : Int) := by omega
  generalize findI L c.id = q at *
  have hk1 : (c.kind == 1) = false := by simp [hk]
  have hk2 : (c.kind == 2) = true := by simp [hk]
  clear hk
  have HP : Hid ((fitsB c.x 1120403456 && fitsB c.y 1120403456) = false) := hp
  clear hp
  go_enter Try.func54, Try.ntmps54
  go_wp2_with fail
  refine (place_c p cap c.id L _ (by omega) (HO.out.reads.calm K0.out)).mono ?_
  rw [HPL.out]
  rintro e w1 ⟨rfl, rfl⟩
  go_wp2_with fail
  refine (rfits_c c.x 1120403456 _).mono ?_
  rintro e w2 ⟨rfl, rfl⟩
  go_wp2_with fail
  refine (rfits_c c.y 1120403456 _).mono ?_
  rintro e w2 ⟨rfl, rfl⟩
  generalize fitsB c.x 1120403456 = f1 at *
  generalize fitsB c.y 1120403456 = f2 at *
  cases f1
  · go_wp2
    go_ret
    exact ⟨p, cap, rfl, HO.out.calm K0.out, (K0.out).mono (fun _ _ e => e.elim)⟩
  · cases f2
    · go_wp2
      go_ret
      exact ⟨p, cap, rfl, HO.out.calm K0.out, (K0.out).mono (fun _ _ e => e.elim)⟩
    · exact absurd HP.out (by decide)

set_option maxHeartbeats 1000000 in
set_option maxRecDepth 100000 in
theorem done_nohit (base : Nat) (p : Option Addr) (cap : Nat) (L : List Mob) (c : Cmd) (w : World) (hl : L.length ≤ 100) (h : OwnE w base p cap L) (_hbase : base ≤ w.heap.size) (hrs : Rises L) (hk : c.kind = 3) (hf : findB L c.id = true) (hp : hitB c.n = false) :
    Calls Try.prog 54 #[.slice p L.length cap, .agg #[.int .i64 c.kind, .int .i64 c.id, .int .i64 c.team, .float .f32 c.x, .float .f32 c.y, .int .i64 c.n]] w (DoneP w base p L) := by
  have hsf := store_float Try.prog
  have HO := hide h
  clear h
  have K0 := hide (Kept.alloc w (.cells #[.int .i64 c.kind, .int .i64 c.id, .int .i64 c.team, .float .f32 c.x, .float .f32 c.y, .int .i64 c.n] 99))
  have HN := hide (heap_alloc_new w (.cells #[.int .i64 c.kind, .int .i64 c.id, .int .i64 c.team, .float .f32 c.x, .float .f32 c.y, .int .i64 c.n] 99))
  obtain ⟨s0, s1, s2, s3, s4, s5⟩ := six_cells HN.out
  obtain ⟨hq, hqid, hpl⟩ := pl_some hrs hf
  have HPL := hide hpl
  clear hpl hqid
  have hq0 : ¬ ((findI L c.id : Nat) : Int) < 0 := by omega
  have hq1 : (0 : Int) ≤ ((findI L c.id : Nat) : Int) := by omega
  have hq2 : ((findI L c.id : Nat) : Int) < (L.length : Int) := by omega
  generalize findI L c.id = q at *
  have hk1 : (c.kind == 1) = false := by simp [hk]
  have hk2 : (c.kind == 2) = false := by simp [hk]
  have hk3 : (c.kind == 3) = true := by simp [hk]
  clear hk
  by_cases hn : 1 ≤ c.n
  · have hn2 : ¬ c.n ≤ 100 := fun e => by simp [hitB, hn, e] at hp
    go_enter Try.func54, Try.ntmps54
    go_wp2_with fail
    refine (place_c p cap c.id L _ (by omega) (HO.out.reads.calm K0.out)).mono ?_
    rw [HPL.out]
    rintro e w1 ⟨rfl, rfl⟩
    go_wp2
    go_ret
    exact ⟨p, cap, rfl, HO.out.calm K0.out, (K0.out).mono (fun _ _ e => e.elim)⟩
  · skip
    go_enter Try.func54, Try.ntmps54
    go_wp2_with fail
    refine (place_c p cap c.id L _ (by omega) (HO.out.reads.calm K0.out)).mono ?_
    rw [HPL.out]
    rintro e w1 ⟨rfl, rfl⟩
    go_wp2
    go_ret
    exact ⟨p, cap, rfl, HO.out.calm K0.out, (K0.out).mono (fun _ _ e => e.elim)⟩

set_option maxHeartbeats 1000000 in
set_option maxRecDepth 100000 in
theorem done_other (base : Nat) (p : Option Addr) (cap : Nat) (L : List Mob) (c : Cmd) (w : World) (hl : L.length ≤ 100) (h : OwnE w base p cap L) (_hbase : base ≤ w.heap.size) (hrs : Rises L) (hk1 : c.kind ≠ 1) (hk2 : c.kind ≠ 2) (hk3 : c.kind ≠ 3) (hk4 : c.kind ≠ 4) (hf : findB L c.id = true) :
    Calls Try.prog 54 #[.slice p L.length cap, .agg #[.int .i64 c.kind, .int .i64 c.id, .int .i64 c.team, .float .f32 c.x, .float .f32 c.y, .int .i64 c.n]] w (DoneP w base p L) := by
  have hsf := store_float Try.prog
  have HO := hide h
  clear h
  have K0 := hide (Kept.alloc w (.cells #[.int .i64 c.kind, .int .i64 c.id, .int .i64 c.team, .float .f32 c.x, .float .f32 c.y, .int .i64 c.n] 99))
  have HN := hide (heap_alloc_new w (.cells #[.int .i64 c.kind, .int .i64 c.id, .int .i64 c.team, .float .f32 c.x, .float .f32 c.y, .int .i64 c.n] 99))
  obtain ⟨s0, s1, s2, s3, s4, s5⟩ := six_cells HN.out
  obtain ⟨hq, hqid, hpl⟩ := pl_some hrs hf
  have HPL := hide hpl
  clear hpl hqid
  have hq0 : ¬ ((findI L c.id : Nat) : Int) < 0 := by omega
  have hq1 : (0 : Int) ≤ ((findI L c.id : Nat) : Int) := by omega
  have hq2 : ((findI L c.id : Nat) : Int) < (L.length : Int) := by omega
  generalize findI L c.id = q at *
  have e1 : (c.kind == 1) = false := by simp [hk1]
  have e2 : (c.kind == 2) = false := by simp [hk2]
  have e3 : (c.kind == 3) = false := by simp [hk3]
  have e4 : (c.kind == 4) = false := by simp [hk4]
  clear hk1 hk2 hk3 hk4
  go_enter Try.func54, Try.ntmps54
  go_wp2_with fail
  refine (place_c p cap c.id L _ (by omega) (HO.out.reads.calm K0.out)).mono ?_
  rw [HPL.out]
  rintro e w1 ⟨rfl, rfl⟩
  go_wp2
  go_ret
  exact ⟨p, cap, rfl, HO.out.calm K0.out, (K0.out).mono (fun _ _ e => e.elim)⟩
end Go.Proofs.Ytlfmfhmbkpnjbaa

namespace Go.Proofs.Ytlfmfhmbkpnjbaa
open Go.RowKit

set_option maxHeartbeats 1000000 in
set_option maxRecDepth 100000 in
theorem done_push (base : Nat) (p : Option Addr) (cap : Nat) (L : List Mob) (c : Cmd) (w : World) (hl : L.length ≤ 100) (h : OwnE w base p cap L) (_hbase : base ≤ w.heap.size) (hrs : Rises L) (hk : c.kind = 2) (hf : findB L c.id = true) (hp : pushB c.x c.y = true) (hql : findI L c.id < L.length) (hvx : okV L[findI L c.id].vx) (hvy : okV L[findI L c.id].vy) :
    Calls Try.prog 54 #[.slice p L.length cap, .agg #[.int .i64 c.kind, .int .i64 c.id, .int .i64 c.team, .float .f32 c.x, .float .f32 c.y, .int .i64 c.n]] w (DoneP w base p (L.set (findI L c.id) { L[findI L c.id] with vx := fadd L[findI L c.id].vx c.x, vy := fadd L[findI L c.id].vy c.y })) := by
  have hsf := store_float Try.prog
  have HO := hide h
  clear h
  have K0 := hide (Kept.alloc w (.cells #[.int .i64 c.kind, .int .i64 c.id, .int .i64 c.team, .float .f32 c.x, .float .f32 c.y, .int .i64 c.n] 99))
  have HN := hide (heap_alloc_new w (.cells #[.int .i64 c.kind, .int .i64 c.id, .int .i64 c.team, .float .f32 c.x, .float .f32 c.y, .int .i64 c.n] 99))
  obtain ⟨s0, s1, s2, s3, s4, s5⟩ := six_cells HN.out
  obtain ⟨hq, hqid, hpl⟩ := pl_some hrs hf
  have HPL := hide hpl
  clear hpl hqid
  have hq0 : ¬ ((findI L c.id : Nat) : Int) < 0 := by omega
  have hq1 : (0 : Int) ≤ ((findI L c.id : Nat) : Int) := by omega
  have hq2 : ((findI L c.id : Nat) : Int) < (L.length : Int) := by omega
  generalize findI L c.id = q at *
  have hk1 : (c.kind == 1) = false := by simp [hk]
  have hk2 : (c.kind == 2) = true := by simp [hk]
  clear hk
  have hp' : fitsB c.x 1120403456 = true ∧ fitsB c.y 1120403456 = true := by simpa [pushB] using hp
  obtain ⟨hp1, hp2⟩ := hp'
  have hx := push_num hp1
  have hy := push_num hp2
  clear hp
  have r1 : ∀ w, (binOp .add 54 (.float .f32 L[q].vx) (.float .f32 c.x)).run Try.prog w = .ok (.float .f32 (fadd L[q].vx c.x)) w := fun w => run_float_arith w .add _ .f32 _ _ _ (fadd_ok' hx hvx).1
  have r2 : ∀ w, (binOp .add 54 (.float .f32 L[q].vy) (.float .f32 c.y)).run Try.prog w = .ok (.float .f32 (fadd L[q].vy c.y)) w := fun w => run_float_arith w .add _ .f32 _ _ _ (fadd_ok' hy hvy).1
  obtain ⟨g, cur, rfl, hbg, hcm, hr⟩ := HO.out.there q hq
  have HR := hide (hr.calm' K0.out)
  have hgw : Hid (w.heap.size ≠ g) := by show _ ≠ _; have := heap_lt hr.blk; omega
  clear hr
  go_enter Try.func54, Try.ntmps54
  go_wp2_with fail
  refine (place_c (some ⟨g, 0, none⟩) cap c.id L _ (by omega) (HO.out.reads.calm K0.out)).mono ?_
  rw [HPL.out]
  rintro e w1 ⟨rfl, rfl⟩
  go_wp2_with fail
  refine (rfits_c c.x 1120403456 _).mono ?_
  rw [hp1]
  rintro e w2 ⟨rfl, rfl⟩
  go_wp2_with fail
  refine (rfits_c c.y 1120403456 _).mono ?_
  rw [hp2]
  rintro e w2 ⟨rfl, rfl⟩
  generalize w.alloc (.cells #[.int .i64 c.kind, .int .i64 c.id, .int .i64 c.team, .float .f32 c.x, .float .f32 c.y, .int .i64 c.n] 99) = W at *
  obtain ⟨c0, c1, c2, c3, c4, c5, c6⟩ := HR.out.at7 q hql
  have f4 := HR.out.warm (q * 7 + 4)
  have HF : Hid (RowAt (W.setCell ⟨g, q * 7 + 4, none⟩ (.float .f32 (fadd L[q].vx c.x))).drew g (L.set q { L[q] with vx := fadd L[q].vx c.x }) cap (cur.set (q * 7 + 4) (.float .f32 (fadd L[q].vx c.x)))) :=
    (HR.out.store (q * 7 + 4) (.float .f32 (fadd L[q].vx c.x)) (by simp) (setvx L q hql _)).calm (Kept.drew _)
  have HK : Hid (Kept (fun k => k = g) W (W.setCell ⟨g, q * 7 + 4, none⟩ (.float .f32 (fadd L[q].vx c.x))).drew) := (Kept.setCell W _ _).join (Kept.drew _) (fun _ _ e => e) (fun _ _ e => e.elim)
  clear c0 c1 c2 c3 c5 c6
  go_wp2
  go_region
  all_goals
    clear c4 f4 s0 s1 s2 s3 s4 s5
    generalize (W.setCell ⟨g, q * 7 + 4, none⟩ (.float .f32 (fadd L[q].vx c.x))).drew = w3 at *
    obtain ⟨s0, s1, s2, s3, s4, s5⟩ := six_cells (show w3.heap[w.heap.size]? = some (.cells #[.int .i64 c.kind, .int .i64 c.id, .int .i64 c.team, .float .f32 c.x, .float .f32 c.y, .int .i64 c.n] 99 (0, 0)) by rw [HK.out.block _ (heap_lt HN.out) hgw.out]; exact HN.out)
    have hql1 : q < (L.set q { L[q] with vx := fadd L[q].vx c.x }).length := by simpa using hql
    obtain ⟨c0, c1, c2, c3, c4, c5, c6⟩ := HF.out.at7 q hql1
    have f5 := HF.out.warm (q * 7 + 5)
    have HG := hide (HF.out.store (q * 7 + 5) (.float .f32 (fadd L[q].vy c.y)) (by simp) (setvy _ q hql1 _))
    simp only [List.getElem_set_self] at c5
    clear c0 c1 c2 c3 c4 c6
    go_wp2
    go_region
    all_goals
      go_wp2
      go_ret
      refine ⟨some ⟨g, 0, none⟩, cap, ret1 (by rw [List.length_set]; rfl), ?_, ?_⟩
      · have q := HG.out
        simp only [List.getElem_set_self, List.set_set] at q
        exact Or.inr ⟨g, _, rfl, hbg, hcm, q.calm (Kept.drew _)⟩
      · have kk := ((((K0.out.join HK.out (R := fun k => k = g) (fun _ _ e => e.elim) (fun _ _ e => e))).join (Kept.setCell w3 ⟨g, q * 7 + 5, none⟩ (.float .f32 (fadd L[q].vy c.y))) (fun _ _ e => e) (fun _ _ e => e)).join (Kept.drew _) (fun _ _ e => e) (fun _ _ e => e.elim))
        exact kk.mono (fun k _ e => by subst e; exact ⟨0, rfl⟩)

set_option maxHeartbeats 1000000 in
set_option maxRecDepth 100000 in
theorem done_hit (base : Nat) (p : Option Addr) (cap : Nat) (L : List Mob) (c : Cmd) (w : World) (hl : L.length ≤ 100) (h : OwnE w base p cap L) (_hbase : base ≤ w.heap.size) (hrs : Rises L) (hk : c.kind = 3) (hf : findB L c.id = true) (hp : hitB c.n = true) (hql : findI L c.id < L.length) (hh : -10000 ≤ L[findI L c.id].health ∧ L[findI L c.id].health ≤ 100) :
    Calls Try.prog 54 #[.slice p L.length cap, .agg #[.int .i64 c.kind, .int .i64 c.id, .int .i64 c.team, .float .f32 c.x, .float .f32 c.y, .int .i64 c.n]] w (DoneP w base p (L.set (findI L c.id) { L[findI L c.id] with health := L[findI L c.id].health - c.n })) := by
  have hsf := store_float Try.prog
  have HO := hide h
  clear h
  have K0 := hide (Kept.alloc w (.cells #[.int .i64 c.kind, .int .i64 c.id, .int .i64 c.team, .float .f32 c.x, .float .f32 c.y, .int .i64 c.n] 99))
  have HN := hide (heap_alloc_new w (.cells #[.int .i64 c.kind, .int .i64 c.id, .int .i64 c.team, .float .f32 c.x, .float .f32 c.y, .int .i64 c.n] 99))
  obtain ⟨s0, s1, s2, s3, s4, s5⟩ := six_cells HN.out
  obtain ⟨hq, hqid, hpl⟩ := pl_some hrs hf
  have HPL := hide hpl
  clear hpl hqid
  have hq0 : ¬ ((findI L c.id : Nat) : Int) < 0 := by omega
  have hq1 : (0 : Int) ≤ ((findI L c.id : Nat) : Int) := by omega
  have hq2 : ((findI L c.id : Nat) : Int) < (L.length : Int) := by omega
  generalize findI L c.id = q at *
  have hk1 : (c.kind == 1) = false := by simp [hk]
  have hk2 : (c.kind == 2) = false := by simp [hk]
  have hk3 : (c.kind == 3) = true := by simp [hk]
  clear hk
  have hn : 1 ≤ c.n ∧ c.n ≤ 100 := by simpa [hitB] using hp
  obtain ⟨hn1, hn2⟩ := hn
  clear hp
  have hwr : IntKind.i64.wrap (L[q].health - c.n) = L[q].health - c.n := wrap_id _ (by omega)
  obtain ⟨g, cur, rfl, hbg, hcm, hr⟩ := HO.out.there q hq
  have HR := hide (hr.calm' K0.out)
  have hgw : Hid (w.heap.size ≠ g) := by show _ ≠ _; have := heap_lt hr.blk; omega
  clear hr
  go_enter Try.func54, Try.ntmps54
  go_wp2_with fail
  refine (place_c (some ⟨g, 0, none⟩) cap c.id L _ (by omega) (HO.out.reads.calm K0.out)).mono ?_
  rw [HPL.out]
  rintro e w1 ⟨rfl, rfl⟩
  generalize w.alloc (.cells #[.int .i64 c.kind, .int .i64 c.id, .int .i64 c.team, .float .f32 c.x, .float .f32 c.y, .int .i64 c.n] 99) = W at *
  obtain ⟨c0, c1, c2, c3, c4, c5, c6⟩ := HR.out.at7 q hql
  have f6 := HR.out.warm (q * 7 + 6)
  have HF := hide ((HR.out.store (q * 7 + 6) (.int .i64 (L[q].health - c.n)) (by simp) (sethealth L q hql _)).calm (Kept.drew _))
  clear c0 c1 c2 c3 c4 c5
  go_wp2
  go_region
  all_goals
    go_wp2
    go_ret
    refine ⟨some ⟨g, 0, none⟩, cap, ret1 (by rw [List.length_set]; rfl), ?_, ?_⟩
    · exact Or.inr ⟨g, _, rfl, hbg, hcm, HF.out⟩
    · have kk := ((K0.out.join (Kept.setCell W ⟨g, q * 7 + 6, none⟩ (.int .i64 (L[q].health - c.n))) (R := fun k => k = g) (fun _ _ e => e.elim) (fun _ _ e => e))).join (Kept.drew _) (fun _ _ e => e) (fun _ _ e => e.elim)
      exact kk.mono (fun k _ e => by subst e; exact ⟨0, rfl⟩)

set_option maxHeartbeats 1000000 in
set_option maxRecDepth 100000 in
theorem done_leave (base : Nat) (p : Option Addr) (cap : Nat) (L : List Mob) (c : Cmd) (w : World) (hl : L.length ≤ 100) (h : OwnE w base p cap L) (_hbase : base ≤ w.heap.size) (hrs : Rises L) (hk : c.kind = 4) (hf : findB L c.id = true) :
    Calls Try.prog 54 #[.slice p L.length cap, .agg #[.int .i64 c.kind, .int .i64 c.id, .int .i64 c.team, .float .f32 c.x, .float .f32 c.y, .int .i64 c.n]] w (DoneP w base p (L.take (findI L c.id) ++ L.drop (findI L c.id + 1))) := by
  have hsf := store_float Try.prog
  have HO := hide h
  clear h
  have K0 := hide (Kept.alloc w (.cells #[.int .i64 c.kind, .int .i64 c.id, .int .i64 c.team, .float .f32 c.x, .float .f32 c.y, .int .i64 c.n] 99))
  have HN := hide (heap_alloc_new w (.cells #[.int .i64 c.kind, .int .i64 c.id, .int .i64 c.team, .float .f32 c.x, .float .f32 c.y, .int .i64 c.n] 99))
  obtain ⟨s0, s1, s2, s3, s4, s5⟩ := six_cells HN.out
  obtain ⟨hq, hqid, hpl⟩ := pl_some hrs hf
  have HPL := hide hpl
  clear hpl hqid
  have hq0 : ¬ ((findI L c.id : Nat) : Int) < 0 := by omega
  have hq1 : (0 : Int) ≤ ((findI L c.id : Nat) : Int) := by omega
  have hq2 : ((findI L c.id : Nat) : Int) < (L.length : Int) := by omega
  generalize findI L c.id = q at *
  have hk1 : (c.kind == 1) = false := by simp [hk]
  have hk2 : (c.kind == 2) = false := by simp [hk]
  have hk3 : (c.kind == 3) = false := by simp [hk]
  have hk4 : (c.kind == 4) = true := by simp [hk]
  clear hk
  obtain ⟨g, cur, rfl, hbg, hcm, hr⟩ := HO.out.there q hq
  have HR := hide (hr.calm' K0.out)
  have hgw : Hid (w.heap.size ≠ g) := by show _ ≠ _; have := heap_lt hr.blk; omega
  clear hr
  have HTL : Hid ((L.take q).length = q) := by show _ = _; rw [List.length_take]; omega
  have HDL : Hid ((L.drop (q + 1)).length = L.length - (q + 1)) := by show _ = _; rw [List.length_drop]
  have RT : Hid (Reads (w.alloc (.cells #[.int .i64 c.kind, .int .i64 c.id, .int .i64 c.team, .float .f32 c.x, .float .f32 c.y, .int .i64 c.n] 99)) (some ⟨g, 0, none⟩) (L.take q)) := HR.out.reads.take q
  have RD : Hid (Reads (w.alloc (.cells #[.int .i64 c.kind, .int .i64 c.id, .int .i64 c.team, .float .f32 c.x, .float .f32 c.y, .int .i64 c.n] 99)) (some ⟨g, (q + 1) * 7, none⟩) (L.drop (q + 1))) := by have := HR.out.reads.drop (q + 1); rw [Nat.zero_add] at this; exact this
  have hcap := HR.out.short
  have hb1 : ((q : Nat) : Int) ≤ (cap : Int) := by omega
  have hb2 : ((q : Nat) : Int) + 1 ≤ (L.length : Int) := by omega
  have hb3 : (L.length : Int) ≤ (cap : Int) := by omega
  have hw1 : IntKind.i64.wrap ((q : Int) + 1) = (q : Int) + 1 := wrap_id _ (by omega)
  have hsz := K0.out.size
  go_enter Try.func54, Try.ntmps54
  go_wp2_with fail
  refine (place_c (some ⟨g, 0, none⟩) cap c.id L _ (by omega) (HO.out.reads.calm K0.out)).mono ?_
  rw [HPL.out]
  rintro e w1 ⟨rfl, rfl⟩
  generalize w.alloc (.cells #[.int .i64 c.kind, .int .i64 c.id, .int .i64 c.team, .float .f32 c.x, .float .f32 c.y, .int .i64 c.n] 99) = W at *
  generalize L.take q = T at *
  have hTl : T.length ≤ 100 := by rw [HTL.out]; omega
  have hDl : (L.drop (q + 1)).length ≤ 100 := by rw [HDL.out]; omega
  generalize hD : L.drop (q + 1) = D at *
  clear hD
  go_wp2_with (at_builtin; refine wpList_append_list _ rfl (.tmp 103) (.tmp 106) rfl W.heap.size none 0 [] rfl (OwnE.nil _ _) (some ⟨g, 0, none⟩) cap T (by rw [HTL.out]; rfl) (fun e => by cases e) RT.out (by simp; omega) (Nat.le_refl _) ?_)
  intro p2 cap2 w2 T2 HT2 O2 HK2
  have K2 : Hid (Kept (fun _ => False) W w2) := HK2.out.mono (fun _ _ e => by obtain ⟨_, e⟩ := e; cases e)
  have hT2 : T2.length ≤ 100 := by rw [HT2.out]; exact hTl
  have hs2 := K2.out.size
  clear HK2
  by_cases hlc : q + 1 = cap
  · have hD0 : D = [] := List.eq_nil_of_length_eq_zero (by rw [HDL.out]; omega)
    have hLc : L.length = cap := by omega
    have hlc' : (q : Int) + 1 = (cap : Int) := by omega
    subst hD0
    subst hLc
    go_wp2_with (at_builtin; refine wpList_append_list _ rfl (.tmp 108) (.tmp 112) rfl W.heap.size p2 cap2 T2 rfl O2.out (some ⟨g, 0, none⟩) 0 [] rfl (fun e => by cases e) (fun e => absurd rfl e) (by simp; omega) (by omega) ?_)
    intro p3 cap3 w3 R HR3 O3 HK3
    have K3 : Hid (Kept (fun _ => False) W w3) := K2.out.join HK3.out (fun _ _ e => e) (fun j hj e => by have := (O2.out.lt j e).1; omega)
    have HRI : Hid (R = T) := by show _ = _; rw [HR3.out, HT2.out]
    clear HK3
    go_wp2
    go_ret
    rw [List.append_nil, ← HRI.out]
    exact ⟨p3, cap3, rfl, O3.out.low (by omega), (K0.out.calm2 K3.out).mono (fun _ _ e => e.elim)⟩
  · have hb5 : (q : Int) + 1 < (cap : Int) := by omega
    go_wp2_with (at_builtin; refine wpList_append_list _ rfl (.tmp 108) (.tmp 112) rfl W.heap.size p2 cap2 T2 rfl O2.out (some ⟨g, (q + 1) * 7, none⟩) (cap - (q + 1)) D (by rw [HDL.out]; rfl) (fun e => by cases e) (RD.out.calm K2.out) (by omega) (by omega) ?_)
    intro p3 cap3 w3 R HR3 O3 HK3
    have K3 : Hid (Kept (fun _ => False) W w3) := K2.out.join HK3.out (fun _ _ e => e) (fun j hj e => by have := (O2.out.lt j e).1; omega)
    have HRI : Hid (R = T ++ D) := by show _ = _; rw [HR3.out, HT2.out]
    clear HK3
    go_wp2
    go_ret
    rw [← HRI.out]
    exact ⟨p3, cap3, rfl, O3.out.low (by omega), (K0.out.calm2 K3.out).mono (fun _ _ e => e.elim)⟩
end Go.Proofs.Ytlfmfhmbkpnjbaa
