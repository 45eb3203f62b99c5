import Derived.Test.YtgclehnhjjkdbaaGreatDoorRput
import Derived.Test.YtgclehnhjjkdbaaGreatDoorLentc
namespace Go.Proofs.YtgclehnhjjkdbaaGreatDoor
open Go.RowKit

def DoneP (w : World) (base : Nat) (p : Option Addr) (R : List Mob) : Ending → World → Prop := fun e w' => ∃ p' cap', e = .returned (.slice p' R.length cap') ∧ OwnE w' base p' cap' R ∧ Kept (HB p) w w'

theorem spawn_ref (i t : Int) (x y : Nat) : mobB (newM i t x y) = spawnB i t x y := by
  have h0 : finB 0 = true := by kernel_rfl
  unfold mobB spawnB newM
  simp [h0]

set_option maxHeartbeats 1000000 in
set_option maxRecDepth 100000 in
theorem done_put (base : Nat) (p : Option Addr) (cap : Nat) (L : List Mob) (c : Cmd) (w : World) (hl : L.length ≤ 100) (h : OwnE w base p cap L) (_hbase : base ≤ w.heap.size) (hrs : Rises L) (hk : c.kind = 1) (hf : findB L c.id = false) (hs : spawnB c.id c.team c.x c.y = true) :
    Calls Tryz.prog 35 #[.slice p L.length cap, .agg #[.int .i64 c.kind, .int .i64 c.id, .int .i64 c.team, .float .f32 c.x, .float .f32 c.y, .int .i64 c.n]] w (DoneP w base p (insM L (newM c.id c.team c.x c.y))) := by
  have hsf := store_float Tryz.prog
  have HO := hide h
  clear h
  have K0 := hide (Kept.alloc w (.cells #[.int .i64 c.kind, .int .i64 c.id, .int .i64 c.team, .float .f32 c.x, .float .f32 c.y, .int .i64 c.n] 39))
  have HN := hide (heap_alloc_new w (.cells #[.int .i64 c.kind, .int .i64 c.id, .int .i64 c.team, .float .f32 c.x, .float .f32 c.y, .int .i64 c.n] 39))
  obtain ⟨s0, s1, s2, s3, s4, s5⟩ := six_cells HN.out
  have HPL : Hid (plR L c.id = -1) := pl_none hrs hf
  have hk1 : (c.kind == 1) = true := by simp [hk]
  clear hk
  have HM : Hid (mobB (newM c.id c.team c.x c.y) = true) := by show _ = _; rw [spawn_ref]; exact hs
  go_enter Tryz.func35, Tryz.ntmps35
  go_wp2_with fail
  refine (place_c p cap c.id L _ (by omega) (HO.out.reads.calm K0.out)).mono ?_
  rw [HPL.out]
  rintro e w1 ⟨rfl, rfl⟩
  have K1 := hide (K0.out.calm2 (Kept.alloc (w.alloc (.cells #[.int .i64 c.kind, .int .i64 c.id, .int .i64 c.team, .float .f32 c.x, .float .f32 c.y, .int .i64 c.n] 39)) (.cells #[.int .i64 c.id, .int .i64 c.team, .float .f32 c.x, .float .f32 c.y, .float .f32 0, .float .f32 0, .int .i64 100] 52)))
  have HM1 := hide (heap_alloc_new (w.alloc (.cells #[.int .i64 c.kind, .int .i64 c.id, .int .i64 c.team, .float .f32 c.x, .float .f32 c.y, .int .i64 c.n] 39)) (.cells #[.int .i64 c.id, .int .i64 c.team, .float .f32 c.x, .float .f32 c.y, .float .f32 0, .float .f32 0, .int .i64 100] 52))
  go_wp2_with fail
  refine (entityOK_c (newM c.id c.team c.x c.y) _).mono ?_
  rw [HM.out]
  rintro e w2 ⟨rfl, q2⟩
  have K2 := hide (K1.out.calm2 q2)
  have HM2 : Hid (w2.heap[w.heap.size + 1]? = some (.cells #[.int .i64 c.id, .int .i64 c.team, .float .f32 c.x, .float .f32 c.y, .float .f32 0, .float .f32 0, .int .i64 100] 52 (0, 0))) := by
    show _ = _
    have h1 := HM1.out
    have h2 := heap_lt h1
    rw [← q2.block _ h2 (fun e => e)] at h1
    simpa using h1
  obtain ⟨n0, n1, n2, n3, n4, n5, n6⟩ := seven_cells HM2.out
  clear q2 HM1 s0 s1 s2 s3 s4 s5
  go_wp2_with fail
  refine (rput_c base p cap L (newM c.id c.team c.x c.y) w2 hl (HO.out.calm K2.out)).mono ?_
  rintro e w3 ⟨p', cap', rfl, o3, k3⟩
  have O3 := hide o3
  have K3 := hide (K2.out.calm2 k3)
  clear o3 k3
  have hsz := K2.out.size
  go_wp2
  go_ret
  exact ⟨p', cap', rfl, O3.out.low (by omega), K3.out.mono (fun _ _ e => e.elim)⟩

set_option maxHeartbeats 1000000 in
set_option maxRecDepth 100000 in
theorem done_noput (base : Nat) (p : Option Addr) (cap : Nat) (L : List Mob) (c : Cmd) (w : World) (hl : L.length ≤ 100) (h : OwnE w base p cap L) (_hbase : base ≤ w.heap.size) (hrs : Rises L) (hk : c.kind = 1) (hs : ¬ (spawnB c.id c.team c.x c.y = true ∧ findB L c.id = false)) :
    Calls Tryz.prog 35 #[.slice p L.length cap, .agg #[.int .i64 c.kind, .int .i64 c.id, .int .i64 c.team, .float .f32 c.x, .float .f32 c.y, .int .i64 c.n]] w (DoneP w base p L) := by
  have hsf := store_float Tryz.prog
  have HO := hide h
  clear h
  have K0 := hide (Kept.alloc w (.cells #[.int .i64 c.kind, .int .i64 c.id, .int .i64 c.team, .float .f32 c.x, .float .f32 c.y, .int .i64 c.n] 39))
  have HN := hide (heap_alloc_new w (.cells #[.int .i64 c.kind, .int .i64 c.id, .int .i64 c.team, .float .f32 c.x, .float .f32 c.y, .int .i64 c.n] 39))
  obtain ⟨s0, s1, s2, s3, s4, s5⟩ := six_cells HN.out
  have hk1 : (c.kind == 1) = true := by simp [hk]
  clear hk
  have HM : Hid (mobB (newM c.id c.team c.x c.y) = spawnB c.id c.team c.x c.y) := spawn_ref _ _ _ _
  have K1 := hide (K0.out.calm2 (Kept.alloc (w.alloc (.cells #[.int .i64 c.kind, .int .i64 c.id, .int .i64 c.team, .float .f32 c.x, .float .f32 c.y, .int .i64 c.n] 39)) (.cells #[.int .i64 c.id, .int .i64 c.team, .float .f32 c.x, .float .f32 c.y, .float .f32 0, .float .f32 0, .int .i64 100] 52)))
  cases hf : findB L c.id
  · have hs' : spawnB c.id c.team c.x c.y = false := by
      cases hh : spawnB c.id c.team c.x c.y
      · rfl
      · exact absurd ⟨hh, hf⟩ hs
    have HPL : Hid (plR L c.id = -1) := pl_none hrs hf
    clear hs
    go_enter Tryz.func35, Tryz.ntmps35
    go_wp2_with fail
    refine (place_c p cap c.id L _ (by omega) (HO.out.reads.calm K0.out)).mono ?_
    rw [HPL.out]
    rintro e w1 ⟨rfl, rfl⟩
    go_wp2_with fail
    refine (entityOK_c (newM c.id c.team c.x c.y) _).mono ?_
    rw [HM.out, hs']
    rintro e w2 ⟨rfl, q2⟩
    have K2 := hide (K1.out.calm2 q2)
    clear q2
    go_wp2
    go_ret
    exact ⟨p, cap, rfl, HO.out.calm K2.out, (K2.out).mono (fun _ _ e => e.elim)⟩
  · obtain ⟨hq, hqid, hpl⟩ := pl_some hrs hf
    have HPL := hide hpl
    have hq0 : ¬ ((findI L c.id : Nat) : Int) < 0 := by omega
    clear hpl hqid hs
    generalize findI L c.id = q at *
    go_enter Tryz.func35, Tryz.ntmps35
    go_wp2_with fail
    refine (place_c p cap c.id L _ (by omega) (HO.out.reads.calm K0.out)).mono ?_
    rw [HPL.out]
    rintro e w1 ⟨rfl, rfl⟩
    go_wp2_with fail
    refine (entityOK_c (newM c.id c.team c.x c.y) _).mono ?_
    rw [HM.out]
    rintro e w2 ⟨rfl, q2⟩
    have K2 := hide (K1.out.calm2 q2)
    clear q2
    go_wp2
    go_ret
    exact ⟨p, cap, rfl, HO.out.calm K2.out, (K2.out).mono (fun _ _ e => e.elim)⟩

set_option maxHeartbeats 1000000 in
set_option maxRecDepth 100000 in
theorem done_none (base : Nat) (p : Option Addr) (cap : Nat) (L : List Mob) (c : Cmd) (w : World) (hl : L.length ≤ 100) (h : OwnE w base p cap L) (_hbase : base ≤ w.heap.size) (hrs : Rises L) (hk : c.kind ≠ 1) (hf : findB L c.id = false) :
    Calls Tryz.prog 35 #[.slice p L.length cap, .agg #[.int .i64 c.kind, .int .i64 c.id, .int .i64 c.team, .float .f32 c.x, .float .f32 c.y, .int .i64 c.n]] w (DoneP w base p L) := by
  have hsf := store_float Tryz.prog
  have HO := hide h
  clear h
  have K0 := hide (Kept.alloc w (.cells #[.int .i64 c.kind, .int .i64 c.id, .int .i64 c.team, .float .f32 c.x, .float .f32 c.y, .int .i64 c.n] 39))
  have HN := hide (heap_alloc_new w (.cells #[.int .i64 c.kind, .int .i64 c.id, .int .i64 c.team, .float .f32 c.x, .float .f32 c.y, .int .i64 c.n] 39))
  obtain ⟨s0, s1, s2, s3, s4, s5⟩ := six_cells HN.out
  have HPL : Hid (plR L c.id = -1) := pl_none hrs hf
  have hk1 : (c.kind == 1) = false := by simp [hk]
  clear hk
  go_enter Tryz.func35, Tryz.ntmps35
  go_wp2_with fail
  refine (place_c p cap c.id L _ (by omega) (HO.out.reads.calm K0.out)).mono ?_
  rw [HPL.out]
  rintro e w1 ⟨rfl, rfl⟩
  go_wp2
  go_ret
  exact ⟨p, cap, rfl, HO.out.calm K0.out, (K0.out).mono (fun _ _ e => e.elim)⟩

set_option maxHeartbeats 1000000 in
set_option maxRecDepth 100000 in
theorem done_nopush (base : Nat) (p : Option Addr) (cap : Nat) (L : List Mob) (c : Cmd) (w : World) (hl : L.length ≤ 100) (h : OwnE w base p cap L) (_hbase : base ≤ w.heap.size) (hrs : Rises L) (hk : c.kind = 2) (hf : findB L c.id = true) (hp : pushB c.x c.y = false) :
    Calls Tryz.prog 35 #[.slice p L.length cap, .agg #[.int .i64 c.kind, .int .i64 c.id, .int .i64 c.team, .float .f32 c.x, .float .f32 c.y, .int .i64 c.n]] w (DoneP w base p L) := by
  have hsf := store_float Tryz.prog
  have HO := hide h
  clear h
  have K0 := hide (Kept.alloc w (.cells #[.int .i64 c.kind, .int .i64 c.id, .int .i64 c.team, .float .f32 c.x, .float .f32 c.y, .int .i64 c.n] 39))
  have HN := hide (heap_alloc_new w (.cells #[.int .i64 c.kind, .int .i64 c.id, .int .i64 c.team, .float .f32 c.x, .float .f32 c.y, .int .i64 c.n] 39))
  obtain ⟨s0, s1, s2, s3, s4, s5⟩ := six_cells HN.out
  obtain ⟨hq, hqid, hpl⟩ := pl_some hrs hf
  have HPL := hide hpl
  clear hpl hqid
  have hq0 : ¬ ((findI L c.id : Nat) : Int) < 0 := by omega
  have hq1 : (0 : Int) ≤ ((findI L c.id : Nat) : Int) := by omega
  have hq2 : ((findI L c.id : Nat) : Int) < (L.length : Int) := by omega
  generalize findI L c.id = q at *
  have hk1 : (c.kind == 1) = false := by simp [hk]
  have hk2 : (c.kind == 2) = true := by simp [hk]
  clear hk
  have HP : Hid ((fitsB c.x 1120403456 && fitsB c.y 1120403456) = false) := hp
  clear hp
  go_enter Tryz.func35, Tryz.ntmps35
  go_wp2_with fail
  refine (place_c p cap c.id L _ (by omega) (HO.out.reads.calm K0.out)).mono ?_
  rw [HPL.out]
  rintro e w1 ⟨rfl, rfl⟩
  go_wp2_with fail
  refine (rfits_c c.x 1120403456 _).mono ?_
  rintro e w2 ⟨rfl, rfl⟩
  go_wp2_with fail
  refine (rfits_c c.y 1120403456 _).mono ?_
  rintro e w2 ⟨rfl, rfl⟩
  generalize fitsB c.x 1120403456 = f1 at *
  generalize fitsB c.y 1120403456 = f2 at *
  cases f1
  · go_wp2
    go_ret
    exact ⟨p, cap, rfl, HO.out.calm K0.out, (K0.out).mono (fun _ _ e => e.elim)⟩
  · cases f2
    · go_wp2
      go_ret
      exact ⟨p, cap, rfl, HO.out.calm K0.out, (K0.out).mono (fun _ _ e => e.elim)⟩
    · exact absurd HP.out (by decide)

set_option maxHeartbeats 1000000 in
set_option maxRecDepth 100000 in
theorem done_nohit (base : Nat) (p : Option Addr) (cap : Nat) (L : List Mob) (c : Cmd) (w : World) (hl : L.length ≤ 100) (h : OwnE w base p cap L) (_hbase : base ≤ w.heap.size) (hrs : Rises L) (hk : c.kind = 3) (hf : findB L c.id = true) (hp : hitB c.n = false) :
    Calls Tryz.prog 35 #[.slice p L.length cap, .agg #[.int .i64 c.kind, .int .i64 c.id, .int .i64 c.team, .float .f32 c.x, .float .f32 c.y, .int .i64 c.n]] w (DoneP w base p L) := by
  have hsf := store_float Tryz.prog
  have HO := hide h
  clear h
  have K0 := hide (Kept.alloc w (.cells #[.int .i64 c.kind, .int .i64 c.id, .int .i64 c.team, .float .f32 c.x, .float .f32 c.y, .int .i64 c.n] 39))
  have HN := hide (heap_alloc_new w (.cells #[.int .i64 c.kind, .int .i64 c.id, .int .i64 c.team, .float .f32 c.x, .float .f32 c.y, .int .i64 c.n] 39))
  obtain ⟨s0, s1, s2, s3, s4, s5⟩ := six_cells HN.out
  obtain ⟨hq, hqid, hpl⟩ := pl_some hrs hf
  have HPL := hide hpl
  clear hpl hqid
  have hq0 : ¬ ((findI L c.id : Nat) : Int) < 0 := by omega
  have hq1 : (0 : Int) ≤ ((findI L c.id : Nat) : Int) := by omega
  have hq2 : ((findI L c.id : Nat) : Int) < (L.length : Int) := by omega
  generalize findI L c.id = q at *
  have hk1 : (c.kind == 1) = false := by simp [hk]
  have hk2 : (c.kind == 2) = false := by simp [hk]
  have hk3 : (c.kind == 3) = true := by simp [hk]
  clear hk
  by_cases hn : 1 ≤ c.n
  · have hn2 : ¬ c.n ≤ 100 := fun e => by simp [hitB, hn, e] at hp
    go_enter Tryz.func35, Tryz.ntmps35
    go_wp2_with fail
    refine (place_c p cap c.id L _ (by omega) (HO.out.reads.calm K0.out)).mono ?_
    rw [HPL.out]
    rintro e w1 ⟨rfl, rfl⟩
    go_wp2
    go_ret
    exact ⟨p, cap, rfl, HO.out.calm K0.out, (K0.out).mono (fun _ _ e => e.elim)⟩
  · skip
    go_enter Tryz.func35, Tryz.ntmps35
    go_wp2_with fail
    refine (place_c p cap c.id L _ (by omega) (HO.out.reads.calm K0.out)).mono ?_
    rw [HPL.out]
    rintro e w1 ⟨rfl, rfl⟩
    go_wp2
    go_ret
    exact ⟨p, cap, rfl, HO.out.calm K0.out, (K0.out).mono (fun _ _ e => e.elim)⟩

set_option maxHeartbeats 1000000 in
set_option maxRecDepth 100000 in
theorem done_other (base : Nat) (p : Option Addr) (cap : Nat) (L : List Mob) (c : Cmd) (w : World) (hl : L.length ≤ 100) (h : OwnE w base p cap L) (_hbase : base ≤ w.heap.size) (hrs : Rises L) (hk1 : c.kind ≠ 1) (hk2 : c.kind ≠ 2) (hk3 : c.kind ≠ 3) (hk4 : c.kind ≠ 4) (hf : findB L c.id = true) :
    Calls Tryz.prog 35 #[.slice p L.length cap, .agg #[.int .i64 c.kind, .int .i64 c.id, .int .i64 c.team, .float .f32 c.x, .float .f32 c.y, .int .i64 c.n]] w (DoneP w base p L) := by
  have hsf := store_float Tryz.prog
  have HO := hide h
  clear h
  have K0 := hide (Kept.alloc w (.cells #[.int .i64 c.kind, .int .i64 c.id, .int .i64 c.team, .float .f32 c.x, .float .f32 c.y, .int .i64 c.n] 39))
  have HN := hide (heap_alloc_new w (.cells #[.int .i64 c.kind, .int .i64 c.id, .int .i64 c.team, .float .f32 c.x, .float .f32 c.y, .int .i64 c.n] 39))
  obtain ⟨s0, s1, s2, s3, s4, s5⟩ := six_cells HN.out
  obtain ⟨hq, hqid, hpl⟩ := pl_some hrs hf
  have HPL := hide hpl
  clear hpl hqid
  have hq0 : ¬ ((findI L c.id : Nat) : Int) < 0 := by omega
  have hq1 : (0 : Int) ≤ ((findI L c.id : Nat) : Int) := by omega
  have hq2 : ((findI L c.id : Nat) : Int) < (L.length : Int) := by omega
  generalize findI L c.id = q at *
  have e1 : (c.kind == 1) = false := by simp [hk1]
  have e2 : (c.kind == 2) = false := by simp [hk2]
  have e3 : (c.kind == 3) = false := by simp [hk3]
  have e4 : (c.kind == 4) = false := by simp [hk4]
  clear hk1 hk2 hk3 hk4
  go_enter Tryz.func35, Tryz.ntmps35
  go_wp2_with fail
  refine (place_c p cap c.id L _ (by omega) (HO.out.reads.calm K0.out)).mono ?_
  rw [HPL.out]
  rintro e w1 ⟨rfl, rfl⟩
  go_wp2
  go_ret
  exact ⟨p, cap, rfl, HO.out.calm K0.out, (K0.out).mono (fun _ _ e => e.elim)⟩
end Go.Proofs.YtgclehnhjjkdbaaGreatDoor
