import Derived.Test.YtlfmfhmbkpnjbabGreatDoorPy24
import Derived.Test.YtlfmfhmbkpnjbabGreatDoorPy18
import Derived.Test.YtlfmfhmbkpnjbabGreatDoorPy14
import Derived.BigQuiet
import Derived.Deep.QuietTactic
namespace Go.Proofs.YtlfmfhmbkpnjbabGreatDoor
open Go.RowKit

theorem Errs.mine_size {w : World} (h : Errs w) : Mine w.heap.size := by
  obtain ⟨te, pe, hs⟩ := h.syn
  obtain ⟨tr, pr, hr⟩ := h.rng
  exact ⟨World.block_lt_of_cell? w ⟨6, 15, none⟩ h.tabs.four, h.tabs.pow_lt, World.block_lt_of_cell? w _ hs, World.block_lt_of_cell? w _ hr⟩
theorem way_f32 : ∀ k : Fin 201, floatOfInt .f32 ((k.val : Int) - 100) < 4294967296 := by decide +kernel
theorem wayOf_f32 (z : Int) : wayOf z < 4294967296 := way_f32 ⟨pickN_keep z 201, pickN_lt_keep z 201 (by decide)⟩
theorem cmdOf_f32 (zs : List Int) (i : Nat) : F32C (cmdOf zs i) := by
  unfold cmdOf
  split
  · exact ⟨fmul_lt _ _, fmul_lt _ _⟩
  · exact ⟨wayOf_f32 _, wayOf_f32 _⟩
theorem css_ok (zss : List (List Int)) : CsOk (zss.map cmdsOf) := by
  have key : ∀ j, (zss.map cmdsOf).getD j [] = [] ∨ ∃ zs, (zss.map cmdsOf).getD j [] = cmdsOf zs := by
    intro j
    by_cases hj : j < zss.length
    · exact Or.inr ⟨zss[j], by simp [List.getD, hj]⟩
    · exact Or.inl (by simp [List.getD, List.getElem?_eq_none (show zss.length ≤ j by omega)])
  refine ⟨fun j => ?_, fun j c hc => ?_, fun j c hc => ?_⟩
  · rcases key j with e | ⟨zs, e⟩ <;> rw [e]
    · exact Nat.zero_le _
    · exact cmdsOf_few zs
  · rcases key j with e | ⟨zs, e⟩ <;> rw [e] at hc
    · cases hc
    · exact cmdsOf_int zs c hc
  · rcases key j with e | ⟨zs, e⟩ <;> rw [e] at hc
    · cases hc
    · simp only [cmdsOf, List.mem_map] at hc
      obtain ⟨i, _, rfl⟩ := hc
      exact cmdOf_f32 zs _
theorem at_len (ev : Nat) (css : List (List Cmd)) (k : Nat) : (recM ev css k).cmds.length = k := recM_len ev css k
/-- The file of a match that was recorded is opened. -/
theorem file_opens (every : Int) (zss : List (List Int)) : matchL (fileAt (1 + (pickN_keep every 20 : Int)) (zss.map cmdsOf) (min 60 zss.length)) = some (recM (1 + pickN_keep every 20) (zss.map cmdsOf) (min 60 zss.length)) := by
  have h20 := pickN_lt_keep every 20 (by decide)
  have := matchL_file (1 + pickN_keep every 20) (zss.map cmdsOf) (min 60 zss.length) [] ⟨by omega, by omega⟩ (by omega) (css_ok zss) (by simp)
  simpa using this
theorem file_size (every : Int) (zss : List (List Int)) : (fileAt (1 + (pickN_keep every 20 : Int)) (zss.map cmdsOf) (min 60 zss.length)).length ≤ 140737488355328 := by
  have h20 := pickN_lt_keep every 20 (by decide)
  have := file_short (1 + (pickN_keep every 20 : Int)) (zss.map cmdsOf) (min 60 zss.length) (by omega) (by omega) (fun cs hc => by
    obtain ⟨zs, _, rfl⟩ := List.mem_map.1 hc
    exact ⟨cmdsOf_few zs, cmdsOf_int zs⟩)
  omega
/-- The worlds that were recorded, wherever one is. -/
theorem Match.worldS {w w1 wr : World} {S : Nat → Prop} {css : List (List Cmd)} {k g cap : Nat} {WS : List Wd} (h : Match w w1 css k g cap WS) (kk : Kept S w1 wr) (hS : ∀ j, w.heap.size ≤ j → j < w1.heap.size → ¬ S j) (t : Nat) (ht : t ≤ k) :
    ∃ p c, wr.cell? ⟨g, t * 2, none⟩ = some (.int .i64 (t : Int)) ∧ wr.cell? ⟨g, t * 2 + 1, none⟩ = some (.slice p (mobsAt css t).length c) ∧ Reads wr p (mobsAt css t) ∧ worldB (t : Int) (mobsAt css t) = true ∧ g < w1.heap.size := by
  have hl := h.len
  have hlt : t < WS.length := by omega
  have hr := owns_base h.run.own
  obtain ⟨r1, r2⟩ := rowW_get WS t hlt
  have c1 := row_cell hr (t * 2) _ r1
  have c2 := row_cell hr (t * 2 + 1) _ r2
  have hg : g < w1.heap.size := World.block_lt_of_cell? w1 ⟨g, t * 2, none⟩ c1
  have hg0 : w.heap.size ≤ g := (h.run.own.lt g rfl).1
  rw [h.run.tick t hlt] at c1
  have ok := h.run.ok WS[t] (List.getElem_mem hlt)
  have rd := ok.reads
  have gd := ok.good
  rw [h.run.tick t hlt] at gd
  rw [h.mobs t hlt] at c2 rd gd
  refine ⟨WS[t].p, WS[t].cap, by rw [cell_keep kk hg (hS g hg0 hg)]; exact c1, by rw [cell_keep kk hg (hS g hg0 hg)]; exact c2, rd.keep kk (fun b off e => ?_), gd, hg⟩
  exact hS b (h.new _ (List.getElem_mem hlt) b off e) (typ_lt (ok.typ b off e))
theorem Match.world {w w1 wr : World} {css : List (List Cmd)} {k g cap : Nat} {WS : List Wd} (h : Match w w1 css k g cap WS) (kk : Kept (fun j => w1.heap.size ≤ j) w1 wr) (t : Nat) (ht : t ≤ k) :
    ∃ p c, wr.cell? ⟨g, t * 2, none⟩ = some (.int .i64 (t : Int)) ∧ wr.cell? ⟨g, t * 2 + 1, none⟩ = some (.slice p (mobsAt css t).length c) ∧ Reads wr p (mobsAt css t) ∧ worldB (t : Int) (mobsAt css t) = true ∧ g < w1.heap.size :=
  h.worldS kk (fun j _ hj e => by omega) t ht
end Go.Proofs.YtlfmfhmbkpnjbabGreatDoor

namespace Go.Proofs.YtlfmfhmbkpnjbabGreatDoor
open Go.RowKit

/-- Two players side by side, all of them at or above B. -/
structure Duo (B : Nat) (w : World) (pa pb : Nat) (ma mb : Mt) (k k2 : Nat) (F1 F2 : Nat → Prop) : Prop where
  one : ∃ d, PL w F1 pa ma k d
  two : ∃ d, PL w F2 pb mb k2 d
  b1 : ∀ j, F1 j → B ≤ j
  b2 : ∀ j, F2 j → B ≤ j
  dis : ∀ j, F1 j → ¬ F2 j
theorem Duo.swap {B : Nat} {w : World} {pa pb : Nat} {ma mb : Mt} {k k2 : Nat} {F1 F2 : Nat → Prop} (h : Duo B w pa pb ma mb k k2 F1 F2) : Duo B w pb pa mb ma k2 k F2 F1 := ⟨h.two, h.one, h.b2, h.b1, fun j h1 h2 => h.dis j h2 h1⟩
theorem Duo.calm {B : Nat} {w w' : World} {pa pb : Nat} {ma mb : Mt} {k k2 : Nat} {F1 F2 : Nat → Prop} (h : Duo B w pa pb ma mb k k2 F1 F2) (kk : Kept (fun _ => False) w w') : Duo B w' pa pb ma mb k k2 F1 F2 := by
  obtain ⟨d1, h1⟩ := h.one
  obtain ⟨d2, h2⟩ := h.two
  exact ⟨⟨d1, h1.calm kk⟩, ⟨d2, h2.calm kk⟩, h.b1, h.b2, h.dis⟩
/-- One of them has shown a tick. -/
theorem Duo.seek {B : Nat} {w w' : World} {pa pb : Nat} {ma mb : Mt} {k k2 t N : Nat} {F1 F2 : Nat → Prop} {d' : PD} (h : Duo B w pa pb ma mb k k2 F1 F2) (hB : B ≤ w.heap.size)
    (hp : PL w' (fun j => F1 j ∨ (w.heap.size ≤ j ∧ j < N)) pa ma t d') (kk : Kept F1 w w') : Duo B w' pa pb ma mb t k2 (fun j => F1 j ∨ (w.heap.size ≤ j ∧ j < N)) F2 := by
  obtain ⟨d2, h2⟩ := h.two
  refine ⟨⟨d', hp⟩, ⟨d2, h2.keep kk (fun j hj e => h.dis j e hj)⟩, fun j hj => ?_, h.b2, fun j hj e => ?_⟩
  · rcases hj with hj | hj
    · exact h.b1 j hj
    · omega
  · rcases hj with hj | hj
    · exact h.dis j hj e
    · have := h2.lt j e; omega
theorem Duo.ticks1 {B : Nat} {w : World} {pa pb : Nat} {ma mb : Mt} {k k2 : Nat} {F1 F2 : Nat → Prop} (h : Duo B w pa pb ma mb k k2 F1 F2) :
    Calls Tryz.prog 6 #[.pointer (some ⟨pa, 0, none⟩)] w fun e w' => e = .returned (.int .i64 (ma.cmds.length : Int)) ∧ w' = w := by
  obtain ⟨d, h1⟩ := h.one
  exact ticks_c F1 pa ma k d w h1
/-- Behind a move or a seek of a tick that there is. -/
def Went (B : Nat) (w : World) (pa pb : Nat) (ma mb : Mt) (t k2 : Nat) (F1 F2 : Nat → Prop) (e : Ending) (w' : World) : Prop :=
  ∃ (q : Option Addr) (cq : Nat) (G : Nat → Prop), e = .returned (.tuple #[.agg #[.int .i64 (t : Int), .slice q (ma.at t).length cq], .int .i64 0]) ∧ Fresh w' w.heap.size q (ma.at t).length cq (ma.at t) ∧ (∀ b off, q = some ⟨b, off, none⟩ → ¬ G b ∧ ¬ F2 b) ∧ Duo B w' pa pb ma mb t k2 G F2 ∧ Kept F1 w w'
theorem Duo.went {B : Nat} {w : World} {pa pb : Nat} {ma mb : Mt} {k k2 t : Nat} {F1 F2 : Nat → Prop} (h : Duo B w pa pb ma mb k k2 F1 F2) (hB : B ≤ w.heap.size) (d1 : PD) (h1 : PL w F1 pa ma k d1) (e : Ending) (w' : World) (hs : SeekPost F1 pa ma t d1 w e w') : Went B w pa pb ma mb t k2 F1 F2 e w' := by
  obtain ⟨N, q, cq, d', he, hN1, hN2, fr, pl, kk0⟩ := hs
  have kk : Kept F1 w w' := kk0.mono (fun j _ e => h1.wf j e)
  obtain ⟨d2, h2⟩ := h.two
  refine ⟨q, cq, _, he, fr.low hN1, fun b off e => ⟨fun g => ?_, fun g => ?_⟩, h.seek hB pl kk, kk⟩
  · have := (fr.new b off e).1
    rcases g with g | g
    · have := h1.lt b g; omega
    · omega
  · have := (fr.new b off e).1
    have := h2.lt b g
    omega
theorem Duo.seek1 {B : Nat} {w : World} {pa pb : Nat} {ma mb : Mt} {k k2 : Nat} {F1 F2 : Nat → Prop} (h : Duo B w pa pb ma mb k k2 F1 F2) (hB : B ≤ w.heap.size) (t : Nat) (ht : t ≤ ma.cmds.length) :
    Calls Tryz.prog 7 #[.pointer (some ⟨pa, 0, none⟩), .int .i64 (t : Int)] w (Went B w pa pb ma mb t k2 F1 F2) := by
  obtain ⟨d, h1⟩ := h.one
  exact (seek_c F1 pa ma k d t w ht h1).mono (fun e w' hs => h.went hB d h1 e w' hs)
theorem Duo.seek0 {B : Nat} {w : World} {pa pb : Nat} {ma mb : Mt} {k k2 : Nat} {F1 F2 : Nat → Prop} (h : Duo B w pa pb ma mb k k2 F1 F2) (t : Int) (ht : t < 0 ∨ (ma.cmds.length : Int) < t) :
    Calls Tryz.prog 7 #[.pointer (some ⟨pa, 0, none⟩), .int .i64 t] w fun e w' => e = .returned (.tuple #[.agg #[.int .i64 0, .slice none 0 0], .int .i64 4]) ∧ Kept (fun _ => False) w w' := by
  obtain ⟨d, h1⟩ := h.one
  exact seek_bad F1 pa ma k d t w ht h1
end Go.Proofs.YtlfmfhmbkpnjbabGreatDoor

namespace Go.Proofs.YtlfmfhmbkpnjbabGreatDoor
open Go.RowKit

/-- A file that opens. -/
theorem open_ok (s : List UInt8) (m : Mt) (w : World) (hm : matchL s = some m) (hl : s.length ≤ 140737488355328) (hM : Mine w.heap.size) (hE : Errs w) :
    Calls Tryz.prog 4 #[.string (baL s)] w fun e w' => ∃ pb d, e = .returned (.tuple #[.pointer (some ⟨pb, 0, none⟩), .int .i64 0]) ∧ PL w' (fun j => w.heap.size ≤ j ∧ j < w'.heap.size) pb m 0 d ∧ Kept (fun _ => False) w w' := by
  refine (open_c s w hl hM hE).mono ?_
  rintro e w' ⟨k, h⟩
  rcases h with ⟨hn, _⟩ | ⟨m', pb, d, h1, h2, h3⟩
  · rw [hm] at hn; cases hn
  · rw [hm] at h1
    cases h1
    exact ⟨pb, d, h2, h3, k⟩
/-- Two players of one file. -/
theorem Duo.mk2 {w1 w2 w3 : World} {pa pb : Nat} {ma mb : Mt} {da db : PD} (h1 : PL w2 (fun j => w1.heap.size ≤ j ∧ j < w2.heap.size) pa ma 0 da) (h2 : PL w3 (fun j => w2.heap.size ≤ j ∧ j < w3.heap.size) pb mb 0 db) (k1 : Kept (fun _ => False) w1 w2) (k2 : Kept (fun _ => False) w2 w3) :
    Duo w1.heap.size w3 pa pb ma mb 0 0 (fun j => w1.heap.size ≤ j ∧ j < w2.heap.size) (fun j => w2.heap.size ≤ j ∧ j < w3.heap.size) :=
  ⟨⟨da, h1.calm k2⟩, ⟨db, h2⟩, fun j hj => hj.1, fun j hj => by have := k1.size; omega, fun j hj hk => by omega⟩
end Go.Proofs.YtlfmfhmbkpnjbabGreatDoor

namespace Go.Proofs.YtlfmfhmbkpnjbabGreatDoor
open Go.RowKit

theorem nan_ordk {v c : Nat} (h : ¬ okV v) : FloatKind.f32.format.order v c = none := by
  show (Ieee.single.read v).order (Ieee.single.read c) = none
  unfold okV at h
  cases hr : Ieee.single.read v with
  | number s m e => rw [hr] at h; exact absurd rfl h
  | infinity s => rw [hr] at h; exact absurd rfl h
  | nan s t => rfl

/-- One number is like itself. -/
theorem likek_self (x : Nat) (w : World) : Calls Tryz.prog 21 #[.float .f32 x, .float .f32 x] w fun e w' => e = .returned (.bool true) ∧ w' = w := by
  by_cases h : okV x
  · have h1 : (FloatKind.f32.format.order x x == some .eq) = true := by apply ford_beq; rw [ford_key h h, Int.compare_eq_eq.2 rfl]
    go_enter Tryz.func21, Tryz.ntmps21
    go_wp2
    go_ret
    exact ⟨rfl, rfl⟩
  · have h0 := nan_ordk (c := x) h
    have h1 : (FloatKind.f32.format.order x x == some .eq) = false := by rw [h0]; rfl
    have h2 : (FloatKind.f32.format.order x x != some .eq) = true := by rw [h0]; rfl
    clear h0
    go_enter Tryz.func21, Tryz.ntmps21
    go_wp2
    go_ret
    exact ⟨rfl, rfl⟩

set_option maxHeartbeats 2000000 in
set_option maxRecDepth 100000 in
theorem likely_c (t : Int) (p p' : Option Addr) (cap cap' : Nat) (X : List Mob) (w : World) (h : Reads w p X) (h' : Reads w p' X) (hl : X.length ≤ 32) :
    Calls Tryz.prog 8 #[.agg #[.int .i64 t, .slice p X.length cap], .agg #[.int .i64 t, .slice p' X.length cap']] w fun e w' => e = .returned (.bool true) ∧ Kept (fun _ => False) w w' := by
  have hsf := store_float Tryz.prog
  have HR := hide h
  have HR' := hide h'
  clear h h'
  have K0 := hide ((Kept.alloc w (.cells #[.int .i64 t, .slice p X.length cap] 34)).calm2 (Kept.alloc _ (.cells #[.int .i64 t, .slice p' X.length cap'] 34)))
  have A0 : Hid (((w.alloc (.cells #[.int .i64 t, .slice p X.length cap] 34)).alloc (.cells #[.int .i64 t, .slice p' X.length cap'] 34)).heap[w.heap.size]? = some (.cells #[.int .i64 t, .slice p X.length cap] 34 (0, 0))) := by
    show _ = _
    rw [(Kept.alloc (w.alloc (.cells #[.int .i64 t, .slice p X.length cap] 34)) (.cells #[.int .i64 t, .slice p' X.length cap'] 34)).block _ (by simp) (fun e => e)]; exact heap_alloc_new w (.cells #[.int .i64 t, .slice p X.length cap] 34)
  have B0 : Hid (((w.alloc (.cells #[.int .i64 t, .slice p X.length cap] 34)).alloc (.cells #[.int .i64 t, .slice p' X.length cap'] 34)).heap[w.heap.size + 1]? = some (.cells #[.int .i64 t, .slice p' X.length cap'] 34 (0, 0))) := by
    have q := heap_alloc_new (w.alloc (.cells #[.int .i64 t, .slice p X.length cap] 34)) (.cells #[.int .i64 t, .slice p' X.length cap'] 34)
    rw [show (w.alloc (.cells #[.int .i64 t, .slice p X.length cap] 34)).heap.size = w.heap.size + 1 from by simp] at q
    exact q
  have n0 : (t != t) = false := by simp
  have n1 : ((X.length : Int) != (X.length : Int)) = false := by simp
  go_enter Tryz.func8, Tryz.ntmps8
  go_wp2
  generalize (w.alloc (.cells #[.int .i64 t, .slice p X.length cap] 34)).alloc (.cells #[.int .i64 t, .slice p' X.length cap'] 34) = W at *
  go_loopw [5] (fun a wr => ∃ i : Nat, i ≤ X.length ∧ a = .int .i64 i ∧ Hid (Kept (fun _ => False) W wr)) (fun a _ => X.length - (intOf a).toNat)
  case atStart => exact ⟨0, Nat.zero_le _, rfl, Kept.refl _ _⟩
  case round =>
    obtain ⟨i, hil, rfl, HK⟩ := hrel
    have AR : Hid (wr.heap[w.heap.size]? = some (.cells #[.int .i64 t, .slice p X.length cap] 34 (0, 0))) := by show _ = _; rw [HK.out.block _ (heap_lt A0.out) (fun e => e)]; exact A0.out
    have BR : Hid (wr.heap[w.heap.size + 1]? = some (.cells #[.int .i64 t, .slice p' X.length cap'] 34 (0, 0))) := by show _ = _; rw [HK.out.block _ (heap_lt B0.out) (fun e => e)]; exact B0.out
    obtain ⟨a0, a1, -, -⟩ := two_cells AR.out
    obtain ⟨b0, b1, -, -⟩ := two_cells BR.out
    have hal := heap_lt AR.out
    have hbl := heap_lt BR.out
    have KW := hide (K0.out.calm2 HK.out)
    by_cases hlt : i < X.length
    · obtain ⟨b, off, hp, hb, c0, c1, c2, c3, c4, c5, c6⟩ := (HR.out.calm KW.out).at i hlt
      obtain ⟨b', off', hp', hb', d0, d1, d2, d3, d4, d5, d6⟩ := (HR'.out.calm KW.out).at i hlt
      have hb1 : (0 : Int) ≤ (i : Int) := by omega
      have hb2 : (i : Int) < (X.length : Int) := by omega
      subst hp
      subst hp'
      generalize X[i] = m at *
      have m0 : (m.id != m.id) = false := by simp
      have m1 : (m.team != m.team) = false := by simp
      have m2 : (m.health != m.health) = false := by simp
      go_wp2_with fail
      refine (likek_self _ _).mono ?_
      rintro e w' ⟨rfl, rfl⟩
      go_wp2_with fail
      refine (likek_self _ _).mono ?_
      rintro e w' ⟨rfl, rfl⟩
      go_wp2_with fail
      refine (likek_self _ _).mono ?_
      rintro e w' ⟨rfl, rfl⟩
      go_wp2_with fail
      refine (likek_self _ _).mono ?_
      rintro e w' ⟨rfl, rfl⟩
      go_wp2
      go_roundw
      case rel => exact ⟨i + 1, by omega, by go_num, HK.out.calm2 ((Kept.alloc _ _).calm2 (Kept.alloc _ _))⟩
      case measure => simp [intOf]; omega
    · go_wp2
      go_ret
      exact ⟨rfl, KW.out⟩
end Go.Proofs.YtlfmfhmbkpnjbabGreatDoor

namespace Go.Proofs.YtlfmfhmbkpnjbabGreatDoor
open Go.RowKit

/-- As 'Went', and where the new blocks lie. -/
theorem Duo.seek2 {B : Nat} {w : World} {pa pb : Nat} {ma mb : Mt} {k k2 : Nat} {F1 F2 : Nat → Prop} (h : Duo B w pa pb ma mb k k2 F1 F2) (hB : B ≤ w.heap.size) (t : Nat) (ht : t ≤ ma.cmds.length) :
    Calls Tryz.prog 7 #[.pointer (some ⟨pa, 0, none⟩), .int .i64 (t : Int)] w fun e w' => ∃ (q : Option Addr) (cq : Nat) (G : Nat → Prop), e = .returned (.tuple #[.agg #[.int .i64 (t : Int), .slice q (ma.at t).length cq], .int .i64 0]) ∧ Reads w' q (ma.at t) ∧ (∀ b off, q = some ⟨b, off, none⟩ → ¬ F2 b) ∧ Duo B w' pa pb ma mb t k2 G F2 ∧ Kept F1 w w' ∧ ∀ j, G j → F1 j ∨ w.heap.size ≤ j := by
  obtain ⟨d, h1⟩ := h.one
  obtain ⟨d2, h2⟩ := h.two
  refine (seek_c F1 pa ma k d t w ht h1).mono ?_
  rintro e w' ⟨N, q, cq, d', he, hN1, hN2, fr, pl, kk0⟩
  have kk : Kept F1 w w' := kk0.mono (fun j _ e => h1.wf j e)
  refine ⟨q, cq, _, he, fr.reads, fun b off e g => ?_, h.seek hB pl kk, kk, fun j hj => ?_⟩
  · have := (fr.new b off e).1
    have := h2.lt b g
    omega
  · rcases hj with e | e
    · exact Or.inl e
    · exact Or.inr e.1

/-- The blocks that the two players may write to. -/
def Pls (a b c j : Nat) : Prop := (a ≤ j ∧ j < b) ∨ c ≤ j

set_option maxHeartbeats 8000000 in
set_option maxRecDepth 100000 in
theorem ahead_walk (s : List UInt8) (every : Int) (q1 : Option Addr) (zss : List (List Int)) (cap1 : Nat) (w : World) (hsl : s.length ≤ 140737488355328) (he : I64 every) (hn1 : ((zss.length : Nat) : Int) ≤ 9223372036854775807) (h1 : RTZ w q1 zss) (hE : Errs w) :
    Calls Tryz.prog 3 #[.string (baL s), .int .i64 every, .slice q1 zss.length cap1] w fun e w' => e = .returned (.bool true) ∧ Below w.heap.size w w' := by
  have HE := hide hE
  have H1 := hide h1
  have HM := hide hE.mine_size
  have HSL := hide hsl
  clear h1 hE hsl
  go_enter Tryz.func3, Tryz.ntmps3
  go_wp2_with fail
  refine (open_c s w HSL.out HM.out HE.out).mono ?_
  rintro e w1 ⟨k1, ho⟩
  have K1 := hide k1
  clear k1
  have hs1 := K1.out.size
  have HR := hide (recorded_c every q1 zss cap1 w1 he hn1 (H1.out.calm K1.out) (HE.out.calm K1.out).tabs)
  have HO := hide (file_opens every zss)
  have hlen : (recM (1 + pickN_keep every 20) (zss.map cmdsOf) (min 60 zss.length)).cmds.length = min 60 zss.length := recM_len _ _ _
  have HAT : Hid (∀ t, t ≤ min 60 zss.length → (recM (1 + pickN_keep every 20) (zss.map cmdsOf) (min 60 zss.length)).at t = mobsAt (zss.map cmdsOf) t) := fun t ht => recM_at _ _ _ t ht
  have hK : min 60 zss.length ≤ 60 := by omega
  clear H1
  generalize fileAt (1 + (pickN_keep every 20 : Int)) (zss.map cmdsOf) (min 60 zss.length) = f at *
  generalize recM (1 + pickN_keep every 20) (zss.map cmdsOf) (min 60 zss.length) = R at *
  generalize min 60 zss.length = K at *
  generalize zss.map cmdsOf = css at *
  have hnil1 : ∀ (g n cp : Nat) (w : World), (binOp .eql 27 (.slice (some ⟨g, 0, none⟩) n cp) (.slice none 0 0)).run Tryz.prog w = .ok (.bool false) w := fun g n cp w => Lib.run_eql_slice_some_nil w _ _ _ Tryz.underlying27
  rcases ho with ⟨hno, rfl⟩ | ⟨m, pa, da, hm, rfl, pl1⟩
  · have hne : ¬ f = s := fun e => by rw [e] at HO; have := HO.out; rw [hno] at this; cases this
    obtain ⟨S, hS⟩ : ∃ S, baL s = S := ⟨_, rfl⟩
    obtain ⟨Fi, hFi⟩ : ∃ Fi : ByteArray, ⟨f.toArray⟩ = Fi := ⟨_, rfl⟩
    have hbn : (Fi.toList == S.toList) = false := bytes_bne _ _ (fun e => hne (baL_inj (by rw [hS, ← e, ← hFi])))
    rw [hFi] at HR
    rw [hS]
    clear hno hne hS hFi
    go_wp2_with fail
    refine HR.out.mono ?_
    rintro e w2 ⟨g, cp, vs, WS, rfl, mt⟩
    have K2 := hide (K1.out.calm2 mt.run.kept)
    clear mt
    go_wp2
    go_ret
    exact ⟨rfl, K2.out.below _ (Nat.le_refl _) (fun _ _ e => e)⟩
  · have P1 := hide pl1
    have hm5 := pl1.ok.len
    have HMT := hide hm
    clear pl1 hm
    go_wp2_with fail
    refine HR.out.mono ?_
    rintro e w2 ⟨g, cp, vs, WS, rfl, mt⟩
    have MT := hide mt
    have K2 := hide mt.run.kept
    have HWL := hide mt.len
    clear mt HR
    have hs2 := K2.out.size
    have HFS : Hid (f = s → R = m) := fun e => by
      have h1 := HO.out
      rw [e, HMT.out] at h1
      exact (Option.some.inj h1).symm
    have OP : Hid (Calls Tryz.prog 4 #[.string (baL s)] w2 fun e w' => ∃ pb d, e = .returned (.tuple #[.pointer (some ⟨pb, 0, none⟩), .int .i64 0]) ∧ PL w' (fun j => w2.heap.size ≤ j ∧ j < w'.heap.size) pb m 0 d ∧ Kept (fun _ => False) w2 w') := open_ok s m w2 HMT.out HSL.out ((HM.out.up hs1).up hs2) ((HE.out.calm K1.out).calm K2.out)
    have D0 : Hid (∀ pb d w3, PL w3 (fun j => w2.heap.size ≤ j ∧ j < w3.heap.size) pb m 0 d → Kept (fun _ => False) w2 w3 → Duo w.heap.size w3 pa pb m m 0 0 (fun j => w.heap.size ≤ j ∧ j < w1.heap.size) (fun j => w2.heap.size ≤ j ∧ j < w3.heap.size)) := fun pb d w3 pl k3 =>
      ⟨⟨da, (P1.out.calm K2.out).calm k3⟩, ⟨d, pl⟩, fun j hj => hj.1, fun j hj => by omega, fun j hj hk => by omega⟩
    have GOOD : Hid (∀ t, t ≤ m.cmds.length → worldB (t : Int) (m.at t) = true) := fun t ht => P1.out.good t ht
    clear HO P1 HM HE HSL
    have hmn : min (m.cmds.length : Int) 600 = (m.cmds.length : Int) := by omega
    have hmn2 : min m.cmds.length 600 = m.cmds.length := by omega
    obtain ⟨S, hS⟩ : ∃ S, baL s = S := ⟨_, rfl⟩
    obtain ⟨Fi, hFi⟩ : ∃ Fi : ByteArray, ⟨f.toArray⟩ = Fi := ⟨_, rfl⟩
    have hcase : Fi = S → f = s := fun e => baL_inj (by rw [hS, ← e, ← hFi])
    rw [hS] at OP ⊢
    rw [hFi]
    clear hS hFi
    by_cases hfs : Fi = S
    · have hRm := HFS.out (hcase hfs)
      have hbe : (Fi.toList == S.toList) = true := bytes_beq _ _ hfs
      clear hcase HFS
      rw [hRm] at hlen HAT
      have HLN := hide hlen
      have hwk : IntKind.i64.wrap ((WS.length : Int) - 1) = (m.cmds.length : Int) := by have := HWL.out; rw [wrap_id _ (by omega)]; omega
      clear hlen
      have hne : ((m.cmds.length : Int) != (m.cmds.length : Int)) = false := by simp
      clear hfs hRm
      go_wp2_with fail
      refine OP.out.mono ?_
      rintro e w3 ⟨pb, db, rfl, pl2, k3⟩
      have DD := hide (D0.out pb db w3 pl2 k3)
      have K3 : Hid (Kept (Pls w.heap.size w1.heap.size w2.heap.size) w2 w3) := k3.mono (fun _ _ e => e.elim)
      have hs3 := k3.size
      clear pl2 k3 D0 OP
      go_wp2_with fail
      refine DD.out.ticks1.mono ?_
      rintro e w3' ⟨rfl, rfl⟩
      go_wp2_with fail
      refine DD.out.swap.ticks1.mono ?_
      rintro e w3'' ⟨rfl, rfl⟩
      have hn0 : (0 : Int) ≤ (m.cmds.length : Int) := by omega
      clear hnil1
      go_wp2
      go_loopw [16] (fun a wr => ∃ (x : Nat) (k k2 : Nat) (F1 F2 : Nat → Prop), a = .int .i64 ((x : Int) - 1) ∧ x ≤ m.cmds.length + 1 ∧ Hid (Duo w.heap.size wr pa pb m m k k2 F1 F2) ∧ Hid (∀ j, F1 j → Pls w.heap.size w1.heap.size w2.heap.size j) ∧ Hid (∀ j, F2 j → Pls w.heap.size w1.heap.size w2.heap.size j) ∧ Hid (Kept (Pls w.heap.size w1.heap.size w2.heap.size) w2 wr)) (fun a _ => (intOf a + 1).toNat)
      case atStart => exact ⟨m.cmds.length + 1, 0, 0, _, _, by rw [show ((m.cmds.length + 1 : Nat) : Int) - 1 = (m.cmds.length : Int) by omega], Nat.le_refl _, DD, (fun j hj => Or.inl hj), (fun j hj => Or.inr hj.1), K3⟩
      case round =>
        obtain ⟨x, k, k2, F1, F2, rfl, hx, HD, HF1, HF2, HK⟩ := hrel
        have hsr : w2.heap.size ≤ wr.heap.size := HK.out.size
        by_cases hx0 : x = 0
        · subst hx0
          have hneg : ¬ (0 : Int) ≤ ((0 : Nat) : Int) - 1 := by omega
          have hneg2 : ¬ (0 : Int) ≤ -1 := by decide
          go_wp2
          go_ret
          exact ⟨rfl, ((K1.out.calm2 K2.out).join HK.out (R := fun j => w.heap.size ≤ j) (fun _ _ e => e.elim) (fun j _ e => by rcases e with e | e <;> omega)).below _ (Nat.le_refl _) (fun _ _ e => by omega)⟩
        · obtain ⟨t, rfl⟩ : ∃ t, x = t + 1 := ⟨x - 1, by omega⟩
          have htm : t ≤ m.cmds.length := by omega
          rw [show ((t + 1 : Nat) : Int) - 1 = (t : Int) by omega]
          have ht0 : (0 : Int) ≤ (t : Int) := by omega
          have hgood := GOOD.out t htm
          have hsh := (worldB_fine hgood).2.2.short
          have HQ := hide (mob_same hgood)
          clear hgood
          go_wp2_with fail
          refine (HD.out.seek2 (by omega) t htm).mono ?_
          rintro e w4 ⟨q, cq, G, rfl, rd, hqn, d4, k4, hG⟩
          have hs4 := k4.size
          have D4 := hide (d4.calm (Kept.alloc w4 (.cells #[.int .i64 (t : Int), .slice q (m.at t).length cq] 34)))
          have A4 : Hid ((w4.alloc (.cells #[.int .i64 (t : Int), .slice q (m.at t).length cq] 34)).heap[w4.heap.size]? = some (.cells #[.int .i64 (t : Int), .slice q (m.at t).length cq] 34 (0, 0))) := heap_alloc_new w4 _
          have R4 : Hid (Reads (w4.alloc (.cells #[.int .i64 (t : Int), .slice q (m.at t).length cq] 34)) q (m.at t)) := rd.calm (Kept.alloc w4 _)
          have K4 : Hid (Kept (Pls w.heap.size w1.heap.size w2.heap.size) w2 (w4.alloc (.cells #[.int .i64 (t : Int), .slice q (m.at t).length cq] 34))) := HK.out.join (k4.join (Kept.alloc w4 _) (R := F1) (fun _ _ e => e) (fun _ _ e => e.elim)) (fun _ _ e => e) (fun j _ e => HF1.out j e)
          have G4 : Hid (∀ j, G j → Pls w.heap.size w1.heap.size w2.heap.size j) := fun j hj => by
            rcases hG j hj with e | e
            · exact HF1.out j e
            · exact Or.inr (by omega)
          have F2lt : Hid (∀ j, F2 j → j < wr.heap.size) := fun j hj => by
            obtain ⟨d2, h2⟩ := HD.out.two
            exact h2.lt j hj
          have Q4 := hide hqn
          clear rd hqn d4 k4 HD hG HK HF1
          go_wp2_with fail
          obtain ⟨wA, hwA⟩ : ∃ wA, w4.alloc (.cells #[.int .i64 (t : Int), .slice q (m.at t).length cq] 34) = wA := ⟨_, rfl⟩
          have hsA : w4.heap.size + 1 = wA.heap.size := by rw [← hwA]; simp
          rw [hwA] at D4 A4 R4 K4 ⊢
          clear hwA
          refine (D4.out.swap.seek2 (by omega) t htm).mono ?_
          rintro e w5 ⟨q', cq', G', rfl, rd5, hqn5, d5, k5, hG5⟩
          have hs5 := k5.size
          have A5 : Hid ((w5.alloc (.cells #[.int .i64 (t : Int), .slice q' (m.at t).length cq'] 34)).heap[w4.heap.size]? = some (.cells #[.int .i64 (t : Int), .slice q (m.at t).length cq] 34 (0, 0))) := by
            show _ = _
            rw [(Kept.alloc w5 _).block _ (by omega) (fun e => e), k5.block _ (by omega) (fun e => by have := F2lt.out _ e; omega)]
            exact A4.out
          have B5 : Hid ((w5.alloc (.cells #[.int .i64 (t : Int), .slice q' (m.at t).length cq'] 34)).heap[w5.heap.size]? = some (.cells #[.int .i64 (t : Int), .slice q' (m.at t).length cq'] 34 (0, 0))) := heap_alloc_new w5 _
          have R5 : Hid (Reads (w5.alloc (.cells #[.int .i64 (t : Int), .slice q' (m.at t).length cq'] 34)) q (m.at t)) := (R4.out.keep k5 (fun b off e => Q4.out b off e)).calm (Kept.alloc w5 _)
          have S5 : Hid (Reads (w5.alloc (.cells #[.int .i64 (t : Int), .slice q' (m.at t).length cq'] 34)) q' (m.at t)) := rd5.calm (Kept.alloc w5 _)
          have D5 := hide (d5.swap.calm (Kept.alloc w5 (.cells #[.int .i64 (t : Int), .slice q' (m.at t).length cq'] 34)))
          have K5 : Hid (Kept (Pls w.heap.size w1.heap.size w2.heap.size) w2 (w5.alloc (.cells #[.int .i64 (t : Int), .slice q' (m.at t).length cq'] 34))) := K4.out.join (k5.join (Kept.alloc w5 _) (R := F2) (fun _ _ e => e) (fun _ _ e => e.elim)) (fun _ _ e => e) (fun j _ e => HF2.out j e)
          have G5 : Hid (∀ j, G' j → Pls w.heap.size w1.heap.size w2.heap.size j) := fun j hj => by
            rcases hG5 j hj with e | e
            · exact HF2.out j e
            · exact Or.inr (by omega)
          clear rd5 hqn5 d5 k5 D4 A4 R4 K4 Q4 hG5 HF2 F2lt
          obtain ⟨x0, x1, -, -⟩ := two_cells A5.out
          obtain ⟨y0, y1, -, -⟩ := two_cells B5.out
          go_wp2_with fail
          obtain ⟨wB, hwB⟩ : ∃ wB, w5.alloc (.cells #[.int .i64 (t : Int), .slice q' (m.at t).length cq'] 34) = wB := ⟨_, rfl⟩
          rw [hwB] at A5 B5 R5 S5 D5 K5 x0 x1 y0 y1 ⊢
          clear hwB
          refine (likely_c (t : Int) q q' cq cq' (m.at t) wB R5.out S5.out hsh).mono ?_
          rintro e w6 ⟨rfl, k6⟩
          have K6 := hide k6
          clear k6 x0 x1 y0 y1
          have HGD := hide (MT.out.worldS (K5.out.join K6.out (fun _ _ e => e) (fun _ _ e => e.elim)) (fun j h1 h2 e => by rcases e with e | e <;> omega) t (by have := HLN.out; omega))
          rw [← HAT.out t (by have := HLN.out; omega)] at HGD
          obtain ⟨pw, cw, z0, z1, zr, -, hgl⟩ := HGD.out
          have A6 : Hid (w6.heap[w4.heap.size]? = some (.cells #[.int .i64 (t : Int), .slice q (m.at t).length cq] 34 (0, 0))) := by show _ = _; rw [K6.out.block _ (heap_lt A5.out) (fun e => e)]; exact A5.out
          have R6 := hide (R5.out.calm K6.out)
          have ZR := hide zr
          obtain ⟨x0, x1, -, -⟩ := two_cells A6.out
          have hg6 : g < w6.heap.size := by have := K6.out.size; have := K5.out.size; omega
          have htW : (t : Int) < (WS.length : Int) := by have := HLN.out; have := HWL.out; omega
          have CE : Hid (∀ w', Kept (fun _ => False) w6 w' → w'.cell? ⟨w4.heap.size, 0, none⟩ = some (.int .i64 (t : Int)) ∧ w'.cell? ⟨w4.heap.size, 1, none⟩ = some (.slice q (m.at t).length cq) ∧ w'.cell? ⟨g, t * 2, none⟩ = some (.int .i64 (t : Int)) ∧ w'.cell? ⟨g, t * 2 + 1, none⟩ = some (.slice pw (m.at t).length cw)) := fun w' hk => by
            have h1 := heap_lt A6.out
            exact ⟨by rw [cell_keep hk h1 (fun e => e)]; exact x0, by rw [cell_keep hk h1 (fun e => e)]; exact x1, by rw [cell_keep hk hg6 (fun e => e)]; exact z0, by rw [cell_keep hk hg6 (fun e => e)]; exact z1⟩
          clear HGD zr
          go_wp2
          go_region_held3 (fun w' => w'.cell? ⟨w4.heap.size, 0, none⟩ = some (.int .i64 (t : Int)) ∧ w'.cell? ⟨w4.heap.size, 1, none⟩ = some (.slice q (m.at t).length cq) ∧ w'.cell? ⟨g, t * 2, none⟩ = some (.int .i64 (t : Int)) ∧ w'.cell? ⟨g, t * 2 + 1, none⟩ = some (.slice pw (m.at t).length cw)) (go_keep)
            ((go_at_call 9; refine (same_k (t : Int) (t : Int) q pw cq cw (m.at t) (m.at t) w6.drew (R6.out.calm (Kept.drew w6)) (ZR.out.calm (Kept.drew w6)) hsh).mono ?_; rintro e w7 ⟨b7, rfl, hb7, k7⟩; obtain rfl : b7 = true := hb7 rfl rfl HQ.out; have K7 := hide (K6.out.calm2 ((Kept.drew w6).calm2 k7)); have K67 := hide ((Kept.drew w6).calm2 k7); clear hb7 k7 x0 x1 z0 z1; obtain ⟨u1, u2, u3, u4⟩ := CE.out w7 K67.out))
          all_goals
            clear u1 u2 u3 u4 CE
            go_wp2
            go_roundw
            case rel => exact ⟨t, t, t, _, _, by go_num, by omega, D5.out.calm K7.out, G4, G5, K5.out.join K7.out (fun _ _ e => e) (fun _ _ e => e.elim)⟩
            case measure => simp [intOf]
    · have hbe : (Fi.toList == S.toList) = false := bytes_bne _ _ hfs
      clear hcase HFS hlen HAT
      have hne : ((m.cmds.length : Int) != (m.cmds.length : Int)) = false := by simp
      clear hfs
      go_wp2_with fail
      refine OP.out.mono ?_
      rintro e w3 ⟨pb, db, rfl, pl2, k3⟩
      have DD := hide (D0.out pb db w3 pl2 k3)
      have K3 : Hid (Kept (Pls w.heap.size w1.heap.size w2.heap.size) w2 w3) := k3.mono (fun _ _ e => e.elim)
      have hs3 := k3.size
      clear pl2 k3 D0 OP
      go_wp2_with fail
      refine DD.out.ticks1.mono ?_
      rintro e w3' ⟨rfl, rfl⟩
      go_wp2_with fail
      refine DD.out.swap.ticks1.mono ?_
      rintro e w3'' ⟨rfl, rfl⟩
      have hn0 : (0 : Int) ≤ (m.cmds.length : Int) := by omega
      clear hnil1 MT HWL
      go_wp2
      go_loopw [16] (fun a wr => ∃ (x : Nat) (k k2 : Nat) (F1 F2 : Nat → Prop), a = .int .i64 ((x : Int) - 1) ∧ x ≤ m.cmds.length + 1 ∧ Hid (Duo w.heap.size wr pa pb m m k k2 F1 F2) ∧ Hid (∀ j, F1 j → Pls w.heap.size w1.heap.size w2.heap.size j) ∧ Hid (∀ j, F2 j → Pls w.heap.size w1.heap.size w2.heap.size j) ∧ Hid (Kept (Pls w.heap.size w1.heap.size w2.heap.size) w2 wr)) (fun a _ => (intOf a + 1).toNat)
      case atStart => exact ⟨m.cmds.length + 1, 0, 0, _, _, by rw [show ((m.cmds.length + 1 : Nat) : Int) - 1 = (m.cmds.length : Int) by omega], Nat.le_refl _, DD, (fun j hj => Or.inl hj), (fun j hj => Or.inr hj.1), K3⟩
      case round =>
        obtain ⟨x, k, k2, F1, F2, rfl, hx, HD, HF1, HF2, HK⟩ := hrel
        have hsr : w2.heap.size ≤ wr.heap.size := HK.out.size
        by_cases hx0 : x = 0
        · subst hx0
          have hneg : ¬ (0 : Int) ≤ ((0 : Nat) : Int) - 1 := by omega
          have hneg2 : ¬ (0 : Int) ≤ -1 := by decide
          go_wp2
          go_ret
          exact ⟨rfl, ((K1.out.calm2 K2.out).join HK.out (R := fun j => w.heap.size ≤ j) (fun _ _ e => e.elim) (fun j _ e => by rcases e with e | e <;> omega)).below _ (Nat.le_refl _) (fun _ _ e => by omega)⟩
        · obtain ⟨t, rfl⟩ : ∃ t, x = t + 1 := ⟨x - 1, by omega⟩
          have htm : t ≤ m.cmds.length := by omega
          rw [show ((t + 1 : Nat) : Int) - 1 = (t : Int) by omega]
          have ht0 : (0 : Int) ≤ (t : Int) := by omega
          have hgood := GOOD.out t htm
          have hsh := (worldB_fine hgood).2.2.short
          have HQ := hide (mob_same hgood)
          clear hgood
          go_wp2_with fail
          refine (HD.out.seek2 (by omega) t htm).mono ?_
          rintro e w4 ⟨q, cq, G, rfl, rd, hqn, d4, k4, hG⟩
          have hs4 := k4.size
          have D4 := hide (d4.calm (Kept.alloc w4 (.cells #[.int .i64 (t : Int), .slice q (m.at t).length cq] 34)))
          have A4 : Hid ((w4.alloc (.cells #[.int .i64 (t : Int), .slice q (m.at t).length cq] 34)).heap[w4.heap.size]? = some (.cells #[.int .i64 (t : Int), .slice q (m.at t).length cq] 34 (0, 0))) := heap_alloc_new w4 _
          have R4 : Hid (Reads (w4.alloc (.cells #[.int .i64 (t : Int), .slice q (m.at t).length cq] 34)) q (m.at t)) := rd.calm (Kept.alloc w4 _)
          have K4 : Hid (Kept (Pls w.heap.size w1.heap.size w2.heap.size) w2 (w4.alloc (.cells #[.int .i64 (t : Int), .slice q (m.at t).length cq] 34))) := HK.out.join (k4.join (Kept.alloc w4 _) (R := F1) (fun _ _ e => e) (fun _ _ e => e.elim)) (fun _ _ e => e) (fun j _ e => HF1.out j e)
          have G4 : Hid (∀ j, G j → Pls w.heap.size w1.heap.size w2.heap.size j) := fun j hj => by
            rcases hG j hj with e | e
            · exact HF1.out j e
            · exact Or.inr (by omega)
          have F2lt : Hid (∀ j, F2 j → j < wr.heap.size) := fun j hj => by
            obtain ⟨d2, h2⟩ := HD.out.two
            exact h2.lt j hj
          have Q4 := hide hqn
          clear rd hqn d4 k4 HD hG HK HF1
          go_wp2_with fail
          obtain ⟨wA, hwA⟩ : ∃ wA, w4.alloc (.cells #[.int .i64 (t : Int), .slice q (m.at t).length cq] 34) = wA := ⟨_, rfl⟩
          have hsA : w4.heap.size + 1 = wA.heap.size := by rw [← hwA]; simp
          rw [hwA] at D4 A4 R4 K4 ⊢
          clear hwA
          refine (D4.out.swap.seek2 (by omega) t htm).mono ?_
          rintro e w5 ⟨q', cq', G', rfl, rd5, hqn5, d5, k5, hG5⟩
          have hs5 := k5.size
          have A5 : Hid ((w5.alloc (.cells #[.int .i64 (t : Int), .slice q' (m.at t).length cq'] 34)).heap[w4.heap.size]? = some (.cells #[.int .i64 (t : Int), .slice q (m.at t).length cq] 34 (0, 0))) := by
            show _ = _
            rw [(Kept.alloc w5 _).block _ (by omega) (fun e => e), k5.block _ (by omega) (fun e => by have := F2lt.out _ e; omega)]
            exact A4.out
          have B5 : Hid ((w5.alloc (.cells #[.int .i64 (t : Int), .slice q' (m.at t).length cq'] 34)).heap[w5.heap.size]? = some (.cells #[.int .i64 (t : Int), .slice q' (m.at t).length cq'] 34 (0, 0))) := heap_alloc_new w5 _
          have R5 : Hid (Reads (w5.alloc (.cells #[.int .i64 (t : Int), .slice q' (m.at t).length cq'] 34)) q (m.at t)) := (R4.out.keep k5 (fun b off e => Q4.out b off e)).calm (Kept.alloc w5 _)
          have S5 : Hid (Reads (w5.alloc (.cells #[.int .i64 (t : Int), .slice q' (m.at t).length cq'] 34)) q' (m.at t)) := rd5.calm (Kept.alloc w5 _)
          have D5 := hide (d5.swap.calm (Kept.alloc w5 (.cells #[.int .i64 (t : Int), .slice q' (m.at t).length cq'] 34)))
          have K5 : Hid (Kept (Pls w.heap.size w1.heap.size w2.heap.size) w2 (w5.alloc (.cells #[.int .i64 (t : Int), .slice q' (m.at t).length cq'] 34))) := K4.out.join (k5.join (Kept.alloc w5 _) (R := F2) (fun _ _ e => e) (fun _ _ e => e.elim)) (fun _ _ e => e) (fun j _ e => HF2.out j e)
          have G5 : Hid (∀ j, G' j → Pls w.heap.size w1.heap.size w2.heap.size j) := fun j hj => by
            rcases hG5 j hj with e | e
            · exact HF2.out j e
            · exact Or.inr (by omega)
          clear rd5 hqn5 d5 k5 D4 A4 R4 K4 Q4 hG5 HF2 F2lt
          obtain ⟨x0, x1, -, -⟩ := two_cells A5.out
          obtain ⟨y0, y1, -, -⟩ := two_cells B5.out
          go_wp2_with fail
          obtain ⟨wB, hwB⟩ : ∃ wB, w5.alloc (.cells #[.int .i64 (t : Int), .slice q' (m.at t).length cq'] 34) = wB := ⟨_, rfl⟩
          rw [hwB] at A5 B5 R5 S5 D5 K5 x0 x1 y0 y1 ⊢
          clear hwB
          refine (likely_c (t : Int) q q' cq cq' (m.at t) wB R5.out S5.out hsh).mono ?_
          rintro e w6 ⟨rfl, k6⟩
          have K6 := hide k6
          clear k6 x0 x1 y0 y1
          go_wp2
          go_roundw
          case rel => exact ⟨t, t, t, _, _, by go_num, by omega, D5.out.calm K6.out, G4, G5, K5.out.join K6.out (fun _ _ e => e) (fun _ _ e => e.elim)⟩
          case measure => simp [intOf]
end Go.Proofs.YtlfmfhmbkpnjbabGreatDoor
