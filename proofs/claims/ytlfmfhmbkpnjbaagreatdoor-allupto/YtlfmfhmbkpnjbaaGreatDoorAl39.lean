import Derived.Test.YtlfmfhmbkpnjbaaGreatDoorAl38
import Derived.Test.YtlfmfhmbkpnjbaaGreatDoorAl23
import Derived.Deep.Cut
namespace Go.Proofs.YtlfmfhmbkpnjbaaGreatDoor
open Go.RowKit

/-- Two players side by side, all of them at or above B. -/
structure Duo (B : Nat) (w : World) (pa pb : Nat) (ma mb : Mt) (k k2 : Nat) (F1 F2 : Nat → Prop) : Prop where
  one : ∃ d, PL w F1 pa ma k d
  two : ∃ d, PL w F2 pb mb k2 d
  b1 : ∀ j, F1 j → B ≤ j
  b2 : ∀ j, F2 j → B ≤ j
  dis : ∀ j, F1 j → ¬ F2 j
theorem Duo.swap {B : Nat} {w : World} {pa pb : Nat} {ma mb : Mt} {k k2 : Nat} {F1 F2 : Nat → Prop} (h : Duo B w pa pb ma mb k k2 F1 F2) : Duo B w pb pa mb ma k2 k F2 F1 := ⟨h.two, h.one, h.b2, h.b1, fun j h1 h2 => h.dis j h2 h1⟩
theorem Duo.calm {B : Nat} {w w' : World} {pa pb : Nat} {ma mb : Mt} {k k2 : Nat} {F1 F2 : Nat → Prop} (h : Duo B w pa pb ma mb k k2 F1 F2) (kk : Kept (fun _ => False) w w') : Duo B w' pa pb ma mb k k2 F1 F2 := by
  obtain ⟨d1, h1⟩ := h.one
  obtain ⟨d2, h2⟩ := h.two
  exact ⟨⟨d1, h1.calm kk⟩, ⟨d2, h2.calm kk⟩, h.b1, h.b2, h.dis⟩
/-- One of them has shown a tick. -/
theorem Duo.seek {B : Nat} {w w' : World} {pa pb : Nat} {ma mb : Mt} {k k2 t N : Nat} {F1 F2 : Nat → Prop} {d' : PD} (h : Duo B w pa pb ma mb k k2 F1 F2) (hB : B ≤ w.heap.size)
    (hp : PL w' (fun j => F1 j ∨ (w.heap.size ≤ j ∧ j < N)) pa ma t d') (kk : Kept F1 w w') : Duo B w' pa pb ma mb t k2 (fun j => F1 j ∨ (w.heap.size ≤ j ∧ j < N)) F2 := by
  obtain ⟨d2, h2⟩ := h.two
  refine ⟨⟨d', hp⟩, ⟨d2, h2.keep kk (fun j hj e => h.dis j e hj)⟩, fun j hj => ?_, h.b2, fun j hj e => ?_⟩
  · rcases hj with hj | hj
    · exact h.b1 j hj
    · omega
  · rcases hj with hj | hj
    · exact h.dis j hj e
    · have := h2.lt j e; omega
theorem Duo.ticks1 {B : Nat} {w : World} {pa pb : Nat} {ma mb : Mt} {k k2 : Nat} {F1 F2 : Nat → Prop} (h : Duo B w pa pb ma mb k k2 F1 F2) :
    Calls Tryz.prog 11 #[.pointer (some ⟨pa, 0, none⟩)] w fun e w' => e = .returned (.int .i64 (ma.cmds.length : Int)) ∧ w' = w := by
  obtain ⟨d, h1⟩ := h.one
  exact ticks_c F1 pa ma k d w h1
/-- Behind a move or a seek of a tick that there is. -/
def Went (B : Nat) (w : World) (pa pb : Nat) (ma mb : Mt) (t k2 : Nat) (F1 F2 : Nat → Prop) (e : Ending) (w' : World) : Prop :=
  ∃ (q : Option Addr) (cq : Nat) (G : Nat → Prop), e = .returned (.tuple #[.agg #[.int .i64 (t : Int), .slice q (ma.at t).length cq], .int .i64 0]) ∧ Fresh w' w.heap.size q (ma.at t).length cq (ma.at t) ∧ (∀ b off, q = some ⟨b, off, none⟩ → ¬ G b ∧ ¬ F2 b) ∧ Duo B w' pa pb ma mb t k2 G F2 ∧ Kept F1 w w'
theorem Duo.went {B : Nat} {w : World} {pa pb : Nat} {ma mb : Mt} {k k2 t : Nat} {F1 F2 : Nat → Prop} (h : Duo B w pa pb ma mb k k2 F1 F2) (hB : B ≤ w.heap.size) (d1 : PD) (h1 : PL w F1 pa ma k d1) (e : Ending) (w' : World) (hs : SeekPost F1 pa ma t d1 w e w') : Went B w pa pb ma mb t k2 F1 F2 e w' := by
  obtain ⟨N, q, cq, d', he, hN1, hN2, fr, pl, kk0⟩ := hs
  have kk : Kept F1 w w' := kk0.mono (fun j _ e => h1.wf j e)
  obtain ⟨d2, h2⟩ := h.two
  refine ⟨q, cq, _, he, fr.low hN1, fun b off e => ⟨fun g => ?_, fun g => ?_⟩, h.seek hB pl kk, kk⟩
  · have := (fr.new b off e).1
    rcases g with g | g
    · have := h1.lt b g; omega
    · omega
  · have := (fr.new b off e).1
    have := h2.lt b g
    omega
theorem Duo.seek1 {B : Nat} {w : World} {pa pb : Nat} {ma mb : Mt} {k k2 : Nat} {F1 F2 : Nat → Prop} (h : Duo B w pa pb ma mb k k2 F1 F2) (hB : B ≤ w.heap.size) (t : Nat) (ht : t ≤ ma.cmds.length) :
    Calls Tryz.prog 12 #[.pointer (some ⟨pa, 0, none⟩), .int .i64 (t : Int)] w (Went B w pa pb ma mb t k2 F1 F2) := by
  obtain ⟨d, h1⟩ := h.one
  exact (seek_c F1 pa ma k d t w ht h1).mono (fun e w' hs => h.went hB d h1 e w' hs)
theorem Duo.seek0 {B : Nat} {w : World} {pa pb : Nat} {ma mb : Mt} {k k2 : Nat} {F1 F2 : Nat → Prop} (h : Duo B w pa pb ma mb k k2 F1 F2) (t : Int) (ht : t < 0 ∨ (ma.cmds.length : Int) < t) :
    Calls Tryz.prog 12 #[.pointer (some ⟨pa, 0, none⟩), .int .i64 t] w fun e w' => e = .returned (.tuple #[.agg #[.int .i64 0, .slice none 0 0], .int .i64 4]) ∧ Kept (fun _ => False) w w' := by
  obtain ⟨d, h1⟩ := h.one
  exact seek_bad F1 pa ma k d t w ht h1
end Go.Proofs.YtlfmfhmbkpnjbaaGreatDoor

namespace Go.Proofs.YtlfmfhmbkpnjbaaGreatDoor
open Go.RowKit

set_option maxHeartbeats 400000 in
theorem atP_c (F : Nat → Prop) (pb : Nat) (m : Mt) (k : Nat) (d : PD) (w : World) (h : PL w F pb m k d) :
    Calls Tryz.prog 14 #[.pointer (some ⟨pb, 0, none⟩)] w fun e w' => e = .returned (.int .i64 (k : Int)) ∧ w' = w := by
  obtain ⟨⟨c0, c1, c2, c3, c4⟩, -⟩ := five_all h.blk
  clear h
  go_enter Tryz.func14, Tryz.ntmps14
  go_wp2
  go_ret
  exact ⟨rfl, rfl⟩
theorem Duo.at1 {B : Nat} {w : World} {pa pb : Nat} {ma mb : Mt} {k k2 : Nat} {F1 F2 : Nat → Prop} (h : Duo B w pa pb ma mb k k2 F1 F2) :
    Calls Tryz.prog 14 #[.pointer (some ⟨pa, 0, none⟩)] w fun e w' => e = .returned (.int .i64 (k : Int)) ∧ w' = w := by
  obtain ⟨d, h1⟩ := h.one
  exact atP_c F1 pa ma k d w h1
end Go.Proofs.YtlfmfhmbkpnjbaaGreatDoor

namespace Go.Proofs.YtlfmfhmbkpnjbaaGreatDoor
open Go.RowKit

/-- Behind a step on a player. -/
def PlayPost (B bk : Nat) (mv sv : Value) (Q : List Els) (D : List MD) (X : List SD) (w : World) (e : Ending) (w' : World) : Prop :=
  e = .returned (.bool true) ∧ ∃ ev' Q' X', AInv B w' bk mv sv ev' Q' D X' ∧ X'.length = X.length ∧ Q'.length ≤ Q.length + 4 ∧ Kept (Far w B) w w' ∧ X'.map ptrS = X.map ptrS
theorem set_ptr {X : List SD} (q : Nat) (hq : q < X.length) {x' : SD} (h : x'.sb = X[q].sb) : (X.set q x').map ptrS = X.map ptrS := by
  rw [List.map_set]
  apply List.ext_getElem?
  intro i
  rw [List.getElem?_set]
  split
  · rename_i e
    subst e
    simp [hq, ptrS, h]
  · rfl
theorem PlayPost.calm {B bk : Nat} {mv sv ev : Value} {Q : List Els} {D : List MD} {X : List SD} {w w' : World} (h : AInv B w bk mv sv ev Q D X) (k : Kept (fun _ => False) w w') : PlayPost B bk mv sv Q D X w (.returned (.bool true)) w' :=
  ⟨rfl, ev, Q, X, h.calm k, rfl, by omega, k.far, rfl⟩
/-- The box of a world, laid behind a call that kept all. -/
theorem box_new {w0 w : World} (k : Kept (fun _ => False) w0 w) : Kept (fun _ => False) w0 (w.alloc (.cells #[.int .i64 0, .slice none 0 0] 38)) ∧ (w.alloc (.cells #[.int .i64 0, .slice none 0 0] 38)).heap[w.heap.size]? = some (.cells #[.int .i64 0, .slice none 0 0] 38 (0, 0)) :=
  ⟨k.calm2 (Kept.alloc _ _), heap_alloc_new _ _⟩
theorem box_set {w0 w : World} {T : Nat} (k : Kept (fun _ => False) w0 w) (hT : w0.heap.size ≤ T) (hb : w.heap[T]? = some (.cells #[.int .i64 0, .slice none 0 0] 38 (0, 0))) : Kept (fun _ => False) w0 ((w.setCell ⟨T, 0, none⟩ (.int .i64 0)).setCell ⟨T, 1, none⟩ (.slice none 0 0)) ∧ ((w.setCell ⟨T, 0, none⟩ (.int .i64 0)).setCell ⟨T, 1, none⟩ (.slice none 0 0)).heap[T]? = some (.cells #[.int .i64 0, .slice none 0 0] 38 (0, 0)) :=
  ⟨two_kept k hT _ _, two_sets hb _ _⟩

set_option maxHeartbeats 4000000 in
set_option maxRecDepth 100000 in
theorem plays_seek (B bk : Nat) (mv sv ev : Value) (Q : List Els) (D : List MD) (X : List SD) (q : Nat) (hq : q < X.length) (o : OpD) (w : World) (h : AInv B w bk mv sv ev Q D X) (hB : B ≤ w.heap.size) (hQ : Q.length ≤ 1000000000) (hk : o.k = 4) :
    Calls Tryz.prog 18 #[.pointer (some ⟨bk, 0, none⟩), ptrS X[q], o.val] w (PlayPost B bk mv sv Q D X w) := by
  obtain ⟨k, a, n, p, cap, cs⟩ := o
  unfold OpD.val ptrS
  dsimp only at hk ⊢
  subst hk
  have KA := hide (Kept.alloc w (.cells #[.int .i64 4, .int .i64 a, .int .i64 n, .slice p cs.length cap] 54))
  have OA : Hid ((w.alloc (.cells #[.int .i64 4, .int .i64 a, .int .i64 n, .slice p cs.length cap] 54)).heap[w.heap.size]? = some (.cells #[.int .i64 4, .int .i64 a, .int .i64 n, .slice p cs.length cap] 54 (0, 0))) := heap_alloc_new w _
  have HA := hide (h.calm KA.out)
  have hqX := hq
  clear h
  go_enter Tryz.func18, Tryz.ntmps18
  go_wp2_with fail
  obtain ⟨wA, hwA⟩ : ∃ wA, w.alloc (.cells #[.int .i64 4, .int .i64 a, .int .i64 n, .slice p cs.length cap] 54) = wA := ⟨_, rfl⟩
  have hsA : Hid (wA.heap.size = w.heap.size + 1) := by show _ = _; rw [← hwA]; simp
  rw [hwA] at KA OA HA ⊢
  clear hwA
  have OX := hide (HA.out.each q hq)
  obtain ⟨o0, o1, o2, o3⟩ := op_cells OA.out
  obtain ⟨s0, s1, s2, -⟩ := show_cells OX.out.blk
  have hsb := heap_lt OX.out.blk
  generalize hxe : X[q] = x at *
  have HXE := hide hxe
  clear hxe
  by_cases hin : 0 ≤ n ∧ n ≤ (x.m.cmds.length : Int)
  · obtain ⟨t, rfl⟩ : ∃ t : Nat, n = (t : Int) := ⟨n.toNat, by omega⟩
    have ht : t ≤ x.m.cmds.length := by omega
    clear hin
    go_cut [7, 8] from 13 (fun s7 s8 wx => ∃ (q' : Option Addr) (cq T : Nat) (F' : Nat → Prop) (d' : PD), s7 = .pointer (some ⟨T, 0, none⟩) ∧ s8 = .int .i64 0 ∧ Hid (Sought x.F x.pb x.m t x.d wA wx q' cq T F' d'))
    case first =>
      have CF : Hid (∀ w0 w', Kept (fun _ => False) wA w0 → Kept (fun j => j = x.pb ∨ Foot x.d.c x.d.r j) w0 w' → w'.cell? ⟨x.sb, 0, none⟩ = some (.pointer (some ⟨x.pb, 0, none⟩)) ∧ w'.cell? ⟨w.heap.size, 2, none⟩ = some (.int .i64 (t : Int))) := fun w0 w' k0 kk => by
        have k1 : Kept (fun j => j = x.pb ∨ Foot x.d.c x.d.r j) wA w' := k0.join kk (fun _ _ e => e.elim) (fun _ _ e => e)
        have n1 : ¬ (x.sb = x.pb ∨ Foot x.d.c x.d.r x.sb) := fun e => by
          rcases OX.out.pl.wtyp _ e with e | e | e
          all_goals exact absurd (typ_eq (typ_blk OX.out.blk) e) (by decide)
        have n2 : ¬ (w.heap.size = x.pb ∨ Foot x.d.c x.d.r w.heap.size) := fun e => by
          rcases OX.out.pl.wtyp _ e with e | e | e
          all_goals exact absurd (typ_eq (typ_blk OA.out) e) (by decide)
        exact ⟨by rw [cell_keep k1 hsb n1]; exact s0, by rw [cell_keep k1 (heap_lt OA.out) n2]; exact o2⟩
      go_region_held3 (fun w' => w'.cell? ⟨x.sb, 0, none⟩ = some (.pointer (some ⟨x.pb, 0, none⟩)) ∧ w'.cell? ⟨w.heap.size, 2, none⟩ = some (.int .i64 (t : Int))) (go_keep)
        (first
          | (go_at_call 12; refine (seek_c x.F x.pb x.m x.k x.d t wA.drew ht (OX.out.pl.calm (Kept.drew wA))).mono ?_; rintro e w1 ⟨N, q', cq, d', rfl, hN1, hN2, fr, pl, kk⟩; obtain ⟨f0, f1⟩ := CF.out wA.drew w1 (Kept.drew wA) kk; have SN := hide (sought_new OX.out.pl (Kept.drew wA) hN1 hN2 fr pl kk); clear fr pl kk)
          | (go_at_call 12; refine (seek_c x.F x.pb x.m x.k x.d t (wA.drew.alloc (.cells #[.int .i64 0, .slice none 0 0] 38)) ht (OX.out.pl.calm ((Kept.drew wA).calm2 (Kept.alloc _ _)))).mono ?_; rintro e w1 ⟨N, q', cq, d', rfl, hN1, hN2, fr, pl, kk⟩; obtain ⟨f0, f1⟩ := CF.out (wA.drew.alloc (.cells #[.int .i64 0, .slice none 0 0] 38)) w1 ((Kept.drew wA).calm2 (Kept.alloc _ _)) kk; have T8 : Hid (w1.heap[wA.heap.size]? = some (.cells #[.int .i64 0, .slice none 0 0] 38 (0, 0))) := (by show _ = _; rw [kk.block wA.heap.size (by simp) (fun e => by have := OX.out.pl.lt _ (OX.out.pl.wf _ e); omega)]; exact heap_alloc_new wA.drew _); have SN := hide (sought_set OX.out.pl ((Kept.drew wA).calm2 (Kept.alloc _ (.cells #[.int .i64 0, .slice none 0 0] 38))) (Nat.le_refl wA.heap.size) (by simp) hN1 fr pl kk T8.out); obtain ⟨j0, j1, j2, j3⟩ := two_cells T8.out; have x1 : x.sb ≠ wA.heap.size := (by omega); have x2 : w.heap.size ≠ wA.heap.size := (by have := hsA.out; omega); have x3 := x1.symm; have x4 := x2.symm; clear fr pl kk))
      all_goals
        first
          | (clear T8 j0 j1 j2 j3 x1 x2 x3 x4 f0 f1 s0 s1 s2 o0 o1 o2 o3 CF
             go_wp2_with fail
             go_meet
             exact ⟨q', cq, _, _, d', rfl, rfl, SN⟩)
          | (clear f0 f1 s0 s1 s2 o0 o1 o2 o3 CF
             go_wp2_with fail
             go_meet
             exact ⟨q', cq, _, _, d', rfl, rfl, SN⟩)
    case rest =>
      obtain ⟨q', cq, T, F', d', rfl, rfl, SN⟩ := hcut
      have SN2 : Hid (Sought (X[q]'hqX).F (X[q]'hqX).pb (X[q]'hqX).m t (X[q]'hqX).d wA wc q' cq T F' d') := by rw [HXE.out]; exact SN.out
      have AF := hide (HA.out.after q hqX SN2.out.kept)
      rw [HXE.out] at AF
      obtain ⟨p0, c0', r1, r2, r3⟩ := AF.out.2.2.2 t ht
      have hgood := OX.out.pl.good t ht
      have hsh := (worldB_fine hgood).2.2.short
      have hM5 := OX.out.pl.ok.len
      have HS := hide (shown_ok bk x.sb x.pb x.gw x.cap x.m.cmds.length x.k t mv sv ev Q (x.m.at t) q' p0 cq c0' wc ht AF.out.1 hQ AF.out.2.1 AF.out.2.2.1 r1 r2 r3 SN.out.reads SN.out.raw hsh (mob_same hgood) (fun i hi j hj e => by
        have e1 := (SN.out.hb j e).1
        have e2 := typ_lt (HA.out.m.book.here i hi j hj)
        omega))
      have O3 : wc.cell? ⟨w.heap.size, 2, none⟩ = some (.int .i64 (t : Int)) := by
        rw [cell_keep SN.out.kept (heap_lt OA.out) (fun e => by
          rcases OX.out.pl.wtyp _ e with e | e | e
          all_goals exact absurd (typ_eq (typ_blk OA.out) e) (by decide))]
        exact o2
      obtain ⟨b0, b1, -, -⟩ := two_cells SN.out.box
      clear r1 r2 r3 hgood s0 s1 s2 o0 o1 o2 o3
      go_wp2_with fail
      refine HS.out.mono ?_
      rintro e w2 ⟨rfl, ev', Q', hb', hQ', hs', k', he'⟩
      have FIN : Hid (PlayPost B bk mv sv Q D X w (.returned (.bool true)) w2) := by
        have hs2 : w2.heap[(X[q]'hqX).sb]? = some (.cells #[.pointer (some ⟨(X[q]'hqX).pb, 0, none⟩), .slice (some ⟨(X[q]'hqX).gw, 0, none⟩) ((X[q]'hqX).m.cmds.length + 1) (X[q]'hqX).cap, .int .i64 (t : Int)] 91 (0, 0)) := by rw [HXE.out]; exact hs'
        have k2 : Kept (fun j => HB q' j ∨ j = bk ∨ ev.ownBlock = some j ∨ j = (X[q]'hqX).sb) wc w2 := by rw [HXE.out]; exact k'
        obtain ⟨g1, g2⟩ := HA.out.seekd (by have := hsA.out; omega) q hqX SN2.out hb' hs2 k2 he'
        exact ⟨rfl, ev', Q', _, g1, by simp, by omega, Far.join KA.out.far g2, set_ptr q hqX rfl⟩
      clear hb' hs' k' he' b0 b1
      go_wp2
      go_ret
      exact FIN.out
  · have hout : n < 0 ∨ (x.m.cmds.length : Int) < n := by omega
    clear hin
    go_cut [7, 8] from 13 (fun s7 s8 wx => ∃ (T : Nat), s7 = .pointer (some ⟨T, 0, none⟩) ∧ s8 = .int .i64 4 ∧ Hid (Kept (fun _ => False) wA wx ∧ wx.heap[T]? = some (.cells #[.int .i64 0, .slice none 0 0] 38 (0, 0))))
    case first =>
      have CF : Hid (∀ w', Kept (fun _ => False) wA w' → w'.cell? ⟨x.sb, 0, none⟩ = some (.pointer (some ⟨x.pb, 0, none⟩)) ∧ w'.cell? ⟨w.heap.size, 2, none⟩ = some (.int .i64 n)) := fun w' k1 =>
        ⟨by rw [cell_keep k1 hsb (fun e => e)]; exact s0, by rw [cell_keep k1 (heap_lt OA.out) (fun e => e)]; exact o2⟩
      go_region_held3 (fun w' => w'.cell? ⟨x.sb, 0, none⟩ = some (.pointer (some ⟨x.pb, 0, none⟩)) ∧ w'.cell? ⟨w.heap.size, 2, none⟩ = some (.int .i64 n)) (go_keep)
        (first
          | (go_at_call 12; refine (seek_bad x.F x.pb x.m x.k x.d n wA.drew hout (OX.out.pl.calm (Kept.drew wA))).mono ?_; rintro e w1 ⟨rfl, kk⟩; have K1 := hide ((Kept.drew wA).calm2 kk); obtain ⟨f0, f1⟩ := CF.out w1 K1.out; have SN := hide (box_new K1.out); clear kk)
          | (go_at_call 12; refine (seek_bad x.F x.pb x.m x.k x.d n (wA.drew.alloc (.cells #[.int .i64 0, .slice none 0 0] 38)) hout (OX.out.pl.calm ((Kept.drew wA).calm2 (Kept.alloc _ _)))).mono ?_; rintro e w1 ⟨rfl, kk⟩; have K1 := hide (((Kept.drew wA).calm2 (Kept.alloc _ (.cells #[.int .i64 0, .slice none 0 0] 38))).calm2 kk); obtain ⟨f0, f1⟩ := CF.out w1 K1.out; have T8 : Hid (w1.heap[wA.heap.size]? = some (.cells #[.int .i64 0, .slice none 0 0] 38 (0, 0))) := new_calm (w := wA.drew) kk; have SN := hide (box_set K1.out (Nat.le_refl _) T8.out); obtain ⟨j0, j1, j2, j3⟩ := two_cells T8.out; have x1 : x.sb ≠ wA.heap.size := (by omega); have x2 : w.heap.size ≠ wA.heap.size := (by have := hsA.out; omega); have x3 := x1.symm; have x4 := x2.symm; clear kk))
      all_goals
        first
          | (clear T8 j0 j1 j2 j3 x1 x2 x3 x4 f0 f1 s0 s1 s2 o0 o1 o2 o3 CF K1
             go_wp2_with fail
             go_meet
             exact ⟨_, rfl, rfl, SN⟩)
          | (clear f0 f1 s0 s1 s2 o0 o1 o2 o3 CF K1
             go_wp2_with fail
             go_meet
             exact ⟨_, rfl, rfl, SN⟩)
    case rest =>
      obtain ⟨T, rfl, rfl, SN⟩ := hcut
      have HS := hide (shown_bad bk x n false wc (OX.out.calm SN.out.1) (Or.inr hout))
      unfold ptrS at HS
      have O3 : wc.cell? ⟨w.heap.size, 2, none⟩ = some (.int .i64 n) := by
        rw [cell_keep SN.out.1 (heap_lt OA.out) (fun e => e)]
        exact o2
      obtain ⟨b0, b1, -, -⟩ := two_cells SN.out.2
      have KC := hide (KA.out.calm2 SN.out.1)
      clear s0 s1 s2 o0 o1 o2 o3
      have HW : Hid (AInv B wc bk mv sv ev Q D X) := HA.out.calm SN.out.1
      go_wp2_with fail
      refine HS.out.mono ?_
      rintro e w2 ⟨rfl, k2⟩
      have FIN : Hid (PlayPost B bk mv sv Q D X w (.returned (.bool true)) w2) := ⟨rfl, ev, Q, X, HW.out.calm k2, rfl, by omega, (KC.out.calm2 k2).far, rfl⟩
      clear k2 b0 b1
      go_wp2
      go_ret
      exact FIN.out
end Go.Proofs.YtlfmfhmbkpnjbaaGreatDoor
