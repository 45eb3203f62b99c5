import Derived.Test.YtlfmfhmbkpnjbaaGreatDoorPz35
namespace Go.Proofs.YtlfmfhmbkpnjbaaGreatDoor
open Go.RowKit

theorem Errs.mine_size {w : World} (h : Errs w) : Mine w.heap.size := by
  obtain ⟨te, pe, hs⟩ := h.syn
  obtain ⟨tr, pr, hr⟩ := h.rng
  exact ⟨World.block_lt_of_cell? w ⟨6, 15, none⟩ h.tabs.four, h.tabs.pow_lt, World.block_lt_of_cell? w _ hs, World.block_lt_of_cell? w _ hr⟩
theorem way_f32 : ∀ k : Fin 201, floatOfInt .f32 ((k.val : Int) - 100) < 4294967296 := by decide +kernel
theorem wayOf_f32 (z : Int) : wayOf z < 4294967296 := way_f32 ⟨pickN_keep z 201, pickN_lt_keep z 201 (by decide)⟩
theorem cmdOf_f32 (zs : List Int) (i : Nat) : F32C (cmdOf zs i) := by
  unfold cmdOf
  split
  · exact ⟨fmul_lt _ _, fmul_lt _ _⟩
  · exact ⟨wayOf_f32 _, wayOf_f32 _⟩
theorem css_ok (zss : List (List Int)) : CsOk (zss.map cmdsOf) := by
  have key : ∀ j, (zss.map cmdsOf).getD j [] = [] ∨ ∃ zs, (zss.map cmdsOf).getD j [] = cmdsOf zs := by
    intro j
    by_cases hj : j < zss.length
    · exact Or.inr ⟨zss[j], by simp [List.getD, hj]⟩
    · exact Or.inl (by simp [List.getD, List.getElem?_eq_none (show zss.length ≤ j by omega)])
  refine ⟨fun j => ?_, fun j c hc => ?_, fun j c hc => ?_⟩
  · rcases key j with e | ⟨zs, e⟩ <;> rw [e]
    · exact Nat.zero_le _
    · exact cmdsOf_few zs
  · rcases key j with e | ⟨zs, e⟩ <;> rw [e] at hc
    · cases hc
    · exact cmdsOf_int zs c hc
  · rcases key j with e | ⟨zs, e⟩ <;> rw [e] at hc
    · cases hc
    · simp only [cmdsOf, List.mem_map] at hc
      obtain ⟨i, _, rfl⟩ := hc
      exact cmdOf_f32 zs _
theorem at_len (ev : Nat) (css : List (List Cmd)) (k : Nat) : (recM ev css k).cmds.length = k := recM_len ev css k
/-- The file of a match that was recorded is opened. -/
theorem file_opens (every : Int) (zss : List (List Int)) : matchL (fileAt (1 + (pickN_keep every 20 : Int)) (zss.map cmdsOf) (min 60 zss.length)) = some (recM (1 + pickN_keep every 20) (zss.map cmdsOf) (min 60 zss.length)) := by
  have h20 := pickN_lt_keep every 20 (by decide)
  have := matchL_file (1 + pickN_keep every 20) (zss.map cmdsOf) (min 60 zss.length) [] ⟨by omega, by omega⟩ (by omega) (css_ok zss) (by simp)
  simpa using this
theorem file_size (every : Int) (zss : List (List Int)) : (fileAt (1 + (pickN_keep every 20 : Int)) (zss.map cmdsOf) (min 60 zss.length)).length ≤ 140737488355328 := by
  have h20 := pickN_lt_keep every 20 (by decide)
  have := file_short (1 + (pickN_keep every 20 : Int)) (zss.map cmdsOf) (min 60 zss.length) (by omega) (by omega) (fun cs hc => by
    obtain ⟨zs, _, rfl⟩ := List.mem_map.1 hc
    exact ⟨cmdsOf_few zs, cmdsOf_int zs⟩)
  omega
/-- The worlds that were recorded, wherever one is. -/
theorem Match.worldS {w w1 wr : World} {S : Nat → Prop} {css : List (List Cmd)} {k g cap : Nat} {WS : List Wd} (h : Match w w1 css k g cap WS) (kk : Kept S w1 wr) (hS : ∀ j, w.heap.size ≤ j → j < w1.heap.size → ¬ S j) (t : Nat) (ht : t ≤ k) :
    ∃ p c, wr.cell? ⟨g, t * 2, none⟩ = some (.int .i64 (t : Int)) ∧ wr.cell? ⟨g, t * 2 + 1, none⟩ = some (.slice p (mobsAt css t).length c) ∧ Reads wr p (mobsAt css t) ∧ worldB (t : Int) (mobsAt css t) = true ∧ g < w1.heap.size := by
  have hl := h.len
  have hlt : t < WS.length := by omega
  have hr := owns_base h.run.own
  obtain ⟨r1, r2⟩ := rowW_get WS t hlt
  have c1 := row_cell hr (t * 2) _ r1
  have c2 := row_cell hr (t * 2 + 1) _ r2
  have hg : g < w1.heap.size := World.block_lt_of_cell? w1 ⟨g, t * 2, none⟩ c1
  have hg0 : w.heap.size ≤ g := (h.run.own.lt g rfl).1
  rw [h.run.tick t hlt] at c1
  have ok := h.run.ok WS[t] (List.getElem_mem hlt)
  have rd := ok.reads
  have gd := ok.good
  rw [h.run.tick t hlt] at gd
  rw [h.mobs t hlt] at c2 rd gd
  refine ⟨WS[t].p, WS[t].cap, by rw [cell_keep kk hg (hS g hg0 hg)]; exact c1, by rw [cell_keep kk hg (hS g hg0 hg)]; exact c2, rd.keep kk (fun b off e => ?_), gd, hg⟩
  exact hS b (h.new _ (List.getElem_mem hlt) b off e) (typ_lt (ok.typ b off e))
theorem Match.world {w w1 wr : World} {css : List (List Cmd)} {k g cap : Nat} {WS : List Wd} (h : Match w w1 css k g cap WS) (kk : Kept (fun j => w1.heap.size ≤ j) w1 wr) (t : Nat) (ht : t ≤ k) :
    ∃ p c, wr.cell? ⟨g, t * 2, none⟩ = some (.int .i64 (t : Int)) ∧ wr.cell? ⟨g, t * 2 + 1, none⟩ = some (.slice p (mobsAt css t).length c) ∧ Reads wr p (mobsAt css t) ∧ worldB (t : Int) (mobsAt css t) = true ∧ g < w1.heap.size :=
  h.worldS kk (fun j _ hj e => by omega) t ht
end Go.Proofs.YtlfmfhmbkpnjbaaGreatDoor

namespace Go.Proofs.YtlfmfhmbkpnjbaaGreatDoor
open Go.RowKit

/-- Two players side by side, all of them at or above B. -/
structure Duo (B : Nat) (w : World) (pa pb : Nat) (ma mb : Mt) (k k2 : Nat) (F1 F2 : Nat → Prop) : Prop where
  one : ∃ d, PL w F1 pa ma k d
  two : ∃ d, PL w F2 pb mb k2 d
  b1 : ∀ j, F1 j → B ≤ j
  b2 : ∀ j, F2 j → B ≤ j
  dis : ∀ j, F1 j → ¬ F2 j
theorem Duo.swap {B : Nat} {w : World} {pa pb : Nat} {ma mb : Mt} {k k2 : Nat} {F1 F2 : Nat → Prop} (h : Duo B w pa pb ma mb k k2 F1 F2) : Duo B w pb pa mb ma k2 k F2 F1 := ⟨h.two, h.one, h.b2, h.b1, fun j h1 h2 => h.dis j h2 h1⟩
theorem Duo.calm {B : Nat} {w w' : World} {pa pb : Nat} {ma mb : Mt} {k k2 : Nat} {F1 F2 : Nat → Prop} (h : Duo B w pa pb ma mb k k2 F1 F2) (kk : Kept (fun _ => False) w w') : Duo B w' pa pb ma mb k k2 F1 F2 := by
  obtain ⟨d1, h1⟩ := h.one
  obtain ⟨d2, h2⟩ := h.two
  exact ⟨⟨d1, h1.calm kk⟩, ⟨d2, h2.calm kk⟩, h.b1, h.b2, h.dis⟩
/-- One of them has shown a tick. -/
theorem Duo.seek {B : Nat} {w w' : World} {pa pb : Nat} {ma mb : Mt} {k k2 t N : Nat} {F1 F2 : Nat → Prop} {d' : PD} (h : Duo B w pa pb ma mb k k2 F1 F2) (hB : B ≤ w.heap.size)
    (hp : PL w' (fun j => F1 j ∨ (w.heap.size ≤ j ∧ j < N)) pa ma t d') (kk : Kept F1 w w') : Duo B w' pa pb ma mb t k2 (fun j => F1 j ∨ (w.heap.size ≤ j ∧ j < N)) F2 := by
  obtain ⟨d2, h2⟩ := h.two
  refine ⟨⟨d', hp⟩, ⟨d2, h2.keep kk (fun j hj e => h.dis j e hj)⟩, fun j hj => ?_, h.b2, fun j hj e => ?_⟩
  · rcases hj with hj | hj
    · exact h.b1 j hj
    · omega
  · rcases hj with hj | hj
    · exact h.dis j hj e
    · have := h2.lt j e; omega
theorem Duo.ticks1 {B : Nat} {w : World} {pa pb : Nat} {ma mb : Mt} {k k2 : Nat} {F1 F2 : Nat → Prop} (h : Duo B w pa pb ma mb k k2 F1 F2) :
    Calls Tryz.prog 11 #[.pointer (some ⟨pa, 0, none⟩)] w fun e w' => e = .returned (.int .i64 (ma.cmds.length : Int)) ∧ w' = w := by
  obtain ⟨d, h1⟩ := h.one
  exact ticks_c F1 pa ma k d w h1
/-- Behind a move or a seek of a tick that there is. -/
def Went (B : Nat) (w : World) (pa pb : Nat) (ma mb : Mt) (t k2 : Nat) (F1 F2 : Nat → Prop) (e : Ending) (w' : World) : Prop :=
  ∃ (q : Option Addr) (cq : Nat) (G : Nat → Prop), e = .returned (.tuple #[.agg #[.int .i64 (t : Int), .slice q (ma.at t).length cq], .int .i64 0]) ∧ Fresh w' w.heap.size q (ma.at t).length cq (ma.at t) ∧ (∀ b off, q = some ⟨b, off, none⟩ → ¬ G b ∧ ¬ F2 b) ∧ Duo B w' pa pb ma mb t k2 G F2 ∧ Kept F1 w w'
theorem Duo.went {B : Nat} {w : World} {pa pb : Nat} {ma mb : Mt} {k k2 t : Nat} {F1 F2 : Nat → Prop} (h : Duo B w pa pb ma mb k k2 F1 F2) (hB : B ≤ w.heap.size) (d1 : PD) (h1 : PL w F1 pa ma k d1) (e : Ending) (w' : World) (hs : SeekPost F1 pa ma t d1 w e w') : Went B w pa pb ma mb t k2 F1 F2 e w' := by
  obtain ⟨N, q, cq, d', he, hN1, hN2, fr, pl, kk0⟩ := hs
  have kk : Kept F1 w w' := kk0.mono (fun j _ e => h1.wf j e)
  obtain ⟨d2, h2⟩ := h.two
  refine ⟨q, cq, _, he, fr.low hN1, fun b off e => ⟨fun g => ?_, fun g => ?_⟩, h.seek hB pl kk, kk⟩
  · have := (fr.new b off e).1
    rcases g with g | g
    · have := h1.lt b g; omega
    · omega
  · have := (fr.new b off e).1
    have := h2.lt b g
    omega
theorem Duo.seek1 {B : Nat} {w : World} {pa pb : Nat} {ma mb : Mt} {k k2 : Nat} {F1 F2 : Nat → Prop} (h : Duo B w pa pb ma mb k k2 F1 F2) (hB : B ≤ w.heap.size) (t : Nat) (ht : t ≤ ma.cmds.length) :
    Calls Tryz.prog 12 #[.pointer (some ⟨pa, 0, none⟩), .int .i64 (t : Int)] w (Went B w pa pb ma mb t k2 F1 F2) := by
  obtain ⟨d, h1⟩ := h.one
  exact (seek_c F1 pa ma k d t w ht h1).mono (fun e w' hs => h.went hB d h1 e w' hs)
theorem Duo.seek0 {B : Nat} {w : World} {pa pb : Nat} {ma mb : Mt} {k k2 : Nat} {F1 F2 : Nat → Prop} (h : Duo B w pa pb ma mb k k2 F1 F2) (t : Int) (ht : t < 0 ∨ (ma.cmds.length : Int) < t) :
    Calls Tryz.prog 12 #[.pointer (some ⟨pa, 0, none⟩), .int .i64 t] w fun e w' => e = .returned (.tuple #[.agg #[.int .i64 0, .slice none 0 0], .int .i64 4]) ∧ Kept (fun _ => False) w w' := by
  obtain ⟨d, h1⟩ := h.one
  exact seek_bad F1 pa ma k d t w ht h1
end Go.Proofs.YtlfmfhmbkpnjbaaGreatDoor

namespace Go.Proofs.YtlfmfhmbkpnjbaaGreatDoor
open Go.RowKit

set_option maxHeartbeats 400000 in
theorem atP_c (F : Nat → Prop) (pb : Nat) (m : Mt) (k : Nat) (d : PD) (w : World) (h : PL w F pb m k d) :
    Calls Tryz.prog 14 #[.pointer (some ⟨pb, 0, none⟩)] w fun e w' => e = .returned (.int .i64 (k : Int)) ∧ w' = w := by
  obtain ⟨⟨c0, c1, c2, c3, c4⟩, -⟩ := five_all h.blk
  clear h
  go_enter Tryz.func14, Tryz.ntmps14
  go_wp2
  go_ret
  exact ⟨rfl, rfl⟩
theorem Duo.at1 {B : Nat} {w : World} {pa pb : Nat} {ma mb : Mt} {k k2 : Nat} {F1 F2 : Nat → Prop} (h : Duo B w pa pb ma mb k k2 F1 F2) :
    Calls Tryz.prog 14 #[.pointer (some ⟨pa, 0, none⟩)] w fun e w' => e = .returned (.int .i64 (k : Int)) ∧ w' = w := by
  obtain ⟨d, h1⟩ := h.one
  exact atP_c F1 pa ma k d w h1
end Go.Proofs.YtlfmfhmbkpnjbaaGreatDoor

namespace Go.Proofs.YtlfmfhmbkpnjbaaGreatDoor
open Go.RowKit

/-- A file that opens. -/
theorem open_ok (s : List UInt8) (m : Mt) (w : World) (hm : matchL s = some m) (hl : s.length ≤ 140737488355328) (hM : Mine w.heap.size) (hE : Errs w) :
    Calls Tryz.prog 9 #[.string (baL s)] w fun e w' => ∃ pb d, e = .returned (.tuple #[.pointer (some ⟨pb, 0, none⟩), .int .i64 0]) ∧ PL w' (fun j => w.heap.size ≤ j ∧ j < w'.heap.size) pb m 0 d ∧ Kept (fun _ => False) w w' := by
  refine (open_c s w hl hM hE).mono ?_
  rintro e w' ⟨k, h⟩
  rcases h with ⟨hn, _⟩ | ⟨m', pb, d, h1, h2, h3⟩
  · rw [hm] at hn; cases hn
  · rw [hm] at h1
    cases h1
    exact ⟨pb, d, h2, h3, k⟩
/-- Two players of one file. -/
theorem Duo.mk2 {w1 w2 w3 : World} {pa pb : Nat} {ma mb : Mt} {da db : PD} (h1 : PL w2 (fun j => w1.heap.size ≤ j ∧ j < w2.heap.size) pa ma 0 da) (h2 : PL w3 (fun j => w2.heap.size ≤ j ∧ j < w3.heap.size) pb mb 0 db) (k1 : Kept (fun _ => False) w1 w2) (k2 : Kept (fun _ => False) w2 w3) :
    Duo w1.heap.size w3 pa pb ma mb 0 0 (fun j => w1.heap.size ≤ j ∧ j < w2.heap.size) (fun j => w2.heap.size ≤ j ∧ j < w3.heap.size) :=
  ⟨⟨da, h1.calm k2⟩, ⟨db, h2⟩, fun j hj => hj.1, fun j hj => by have := k1.size; omega, fun j hj hk => by omega⟩
end Go.Proofs.YtlfmfhmbkpnjbaaGreatDoor
