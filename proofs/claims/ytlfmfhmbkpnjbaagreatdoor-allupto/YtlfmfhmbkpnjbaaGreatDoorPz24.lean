import Derived.Test.YtlfmfhmbkpnjbaaGreatDoorPz23
import Derived.Test.YtlfmfhmbkpnjbaaGreatDoorPz8
import Derived.BigQuiet
import Derived.Deep.QuietTactic
import Derived.Test.YtlfmfhmbkpnjbaaGreatDoorPz16
import Derived.Shelf.Small.Strs
import Derived.Shelf.Strings.Search1
import Derived.Shelf.Strings.LastIndex
import Derived.Shelf.Strings.Prefix
import Derived.Shelf.Strconv.AtoiAll
import Derived.Shelf.Strconv.ToError
import Derived.Shelf.Strconv.ToErrorRange
import Derived.Shelf.Strconv.Lower
import Derived.Test.YtlfmfhmbkpnjbaaGreatDoorProg
import Derived.Test.YtlfmfhmbkpnjbaaGreatDoorPz13
import Derived.Test.YtlfmfhmbkpnjbaaGreatDoorPz15
namespace Go.Proofs.YtlfmfhmbkpnjbaaGreatDoor
open Go.RowKit

set_option maxHeartbeats 2000000 in
set_option maxRecDepth 100000 in
theorem same_k (t t' : Int) (p p' : Option Addr) (cap cap' : Nat) (X X' : List Mob) (w : World) (h : Reads w p X) (h' : Reads w p' X') (hl : X.length ≤ 32) :
    Calls Tryz.prog 13 #[.agg #[.int .i64 t, .slice p X.length cap], .agg #[.int .i64 t', .slice p' X'.length cap']] w fun e w' => ∃ b, e = .returned (.bool b) ∧ (t = t' → X = X' → (∀ m ∈ X, eqM m m = true) → b = true) ∧ Kept (fun _ => False) w w' := by
  have HR := hide h
  have HR' := hide h'
  clear h h'
  have K0 := hide ((Kept.alloc w (.cells #[.int .i64 t, .slice p X.length cap] 38)).calm2 (Kept.alloc _ (.cells #[.int .i64 t', .slice p' X'.length cap'] 38)))
  have A0 : Hid (((w.alloc (.cells #[.int .i64 t, .slice p X.length cap] 38)).alloc (.cells #[.int .i64 t', .slice p' X'.length cap'] 38)).heap[w.heap.size]? = some (.cells #[.int .i64 t, .slice p X.length cap] 38 (0, 0))) := by
    show _ = _
    rw [(Kept.alloc (w.alloc (.cells #[.int .i64 t, .slice p X.length cap] 38)) (.cells #[.int .i64 t', .slice p' X'.length cap'] 38)).block _ (by simp) (fun e => e)]; exact heap_alloc_new w (.cells #[.int .i64 t, .slice p X.length cap] 38)
  have B0 : Hid (((w.alloc (.cells #[.int .i64 t, .slice p X.length cap] 38)).alloc (.cells #[.int .i64 t', .slice p' X'.length cap'] 38)).heap[w.heap.size + 1]? = some (.cells #[.int .i64 t', .slice p' X'.length cap'] 38 (0, 0))) := by
    have q := heap_alloc_new (w.alloc (.cells #[.int .i64 t, .slice p X.length cap] 38)) (.cells #[.int .i64 t', .slice p' X'.length cap'] 38)
    rw [show (w.alloc (.cells #[.int .i64 t, .slice p X.length cap] 38)).heap.size = w.heap.size + 1 from by simp] at q
    exact q
  by_cases ht : t = t'
  · subst ht
    have n0 : (t != t) = false := by simp
    by_cases hx : X.length = X'.length
    · have n1 : ((X.length : Int) != (X'.length : Int)) = false := by simp [hx]
      have HXL := hide hx
      clear hx
      go_enter Tryz.func13, Tryz.ntmps13
      go_wp2
      generalize (w.alloc (.cells #[.int .i64 t, .slice p X.length cap] 38)).alloc (.cells #[.int .i64 t, .slice p' X'.length cap'] 38) = W at *
      go_loopw [5] (fun a wr => ∃ i : Nat, i ≤ X.length ∧ a = .int .i64 i ∧ Hid (Kept (fun _ => False) W wr)) (fun a _ => X.length - (intOf a).toNat)
      case atStart => exact ⟨0, Nat.zero_le _, rfl, Kept.refl _ _⟩
      case round =>
        obtain ⟨i, hil, rfl, HK⟩ := hrel
        have AR : Hid (wr.heap[w.heap.size]? = some (.cells #[.int .i64 t, .slice p X.length cap] 38 (0, 0))) := by show _ = _; rw [HK.out.block _ (heap_lt A0.out) (fun e => e)]; exact A0.out
        have BR : Hid (wr.heap[w.heap.size + 1]? = some (.cells #[.int .i64 t, .slice p' X'.length cap'] 38 (0, 0))) := by show _ = _; rw [HK.out.block _ (heap_lt B0.out) (fun e => e)]; exact B0.out
        obtain ⟨a0, a1, -, -⟩ := two_cells AR.out
        obtain ⟨b0, b1, -, -⟩ := two_cells BR.out
        have KW := hide (K0.out.calm2 HK.out)
        by_cases hlt : i < X.length
        · have hlt' : i < X'.length := by have := HXL.out; omega
          obtain ⟨b, off, hp, hb, c0, c1, c2, c3, c4, c5, c6⟩ := (HR.out.calm KW.out).at i hlt
          obtain ⟨b', off', hp', hb', d0, d1, d2, d3, d4, d5, d6⟩ := (HR'.out.calm KW.out).at i hlt'
          have hne := neq_mob X[i] X'[i]
          have hb1 : (0 : Int) ≤ (i : Int) := by omega
          have hb2 : (i : Int) < (X.length : Int) := by omega
          have hb3 : (i : Int) < (X'.length : Int) := by omega
          subst hp
          subst hp'
          cases hq : eqM X[i] X'[i]
          · rw [hq] at hne
            have HF : Hid (X = X' → (∀ m ∈ X, eqM m m = true) → False) := fun e hm => by
              have h2 := hm X[i] (List.getElem_mem hlt)
              have h3 : X[i] = X'[i] := by simp [e]
              rw [← h3, h2] at hq
              cases hq
            clear hq
            go_wp2
            go_quiet (fail)
            go_wp2
            go_ret
            exact ⟨false, rfl, fun _ e hm => (HF.out e hm).elim, KW.out.calm2 (Kept.drewN _ _)⟩
          · rw [hq] at hne
            clear hq
            go_wp2
            go_quiet (fail)
            go_wp2
            go_roundw
            case rel => exact ⟨i + 1, by omega, by go_num, HK.out.calm2 (Kept.drewN _ _)⟩
            case measure => simp [intOf]; omega
        · go_wp2
          go_ret
          exact ⟨true, rfl, fun _ _ _ => rfl, KW.out⟩
    · have n1 : ((X.length : Int) != (X'.length : Int)) = true := by simp; omega
      go_enter Tryz.func13, Tryz.ntmps13
      go_wp2
      go_ret
      exact ⟨false, rfl, fun _ e _ => absurd (by rw [e]) hx, K0.out⟩
  · have n0 : (t != t') = true := by simp [ht]
    go_enter Tryz.func13, Tryz.ntmps13
    go_wp2
    go_ret
    exact ⟨false, rfl, fun e _ _ => absurd e ht, K0.out⟩
end Go.Proofs.YtlfmfhmbkpnjbaaGreatDoor

namespace Go.Proofs.YtlfmfhmbkpnjbaaGreatDoor
open Go.RowKit

/-- The ticks that came in, just these. -/
def RTZ (w : World) (q : Option Addr) (zss : List (List Int)) : Prop :=
  zss ≠ [] → ∃ b off, q = some ⟨b, off, none⟩ ∧ b < w.heap.size ∧ ∀ j zs, zss[j]? = some zs → ∃ pj cj, w.cell? ⟨b, off + j, none⟩ = some (.slice pj zs.length cj) ∧ ((zs.length : Nat) : Int) ≤ 9223372036854775807 ∧ RZ w pj zs
theorem RTZ.calm {w w' : World} {q : Option Addr} {zss : List (List Int)} (h : RTZ w q zss) (hk : Kept (fun _ => False) w w') : RTZ w' q zss := by
  intro hn
  obtain ⟨b, off, h1, h2, h3⟩ := h hn
  refine ⟨b, off, h1, Nat.lt_of_lt_of_le h2 hk.size, fun j zs hj => ?_⟩
  obtain ⟨pj, cj, q1, q2, q3⟩ := h3 j zs hj
  exact ⟨pj, cj, by rw [cell_keep hk h2 (fun e => e)]; exact q1, q2, q3.calm hk⟩

/-- The entities behind k ticks; the file behind k ticks. -/
noncomputable def mobsAt (css : List (List Cmd)) : Nat → List Mob
  | 0 => []
  | k + 1 => stepL (css.getD k []) (mobsAt css k)
noncomputable def fileAt (ev : Int) (css : List (List Cmd)) : Nat → List UInt8
  | 0 => lineL (firstW ev)
  | k + 1 => fileAt ev css k ++ lineL (tickW (css.getD k []) ((k : Int) + 1) (mobsAt css (k + 1)) ev)

theorem mobsAt_world (css : List (List Cmd)) (k : Nat) (hk : k ≤ 400) : worldB (k : Int) (mobsAt css k) = true := by
  induction k with
  | zero => exact worldB_true 0 [] ⟨by decide, by decide⟩ (fun j hj _ => absurd hj (Nat.not_lt_zero _))
  | succ n ih =>
    have := worldB_next (css.getD n []) (ih (by omega)) (by omega)
    rw [show ((n + 1 : Nat) : Int) = (n : Int) + 1 from rfl]
    exact this

theorem pick_small (c : Int) (m : Nat) (hm : 0 < m) (h2 : m ≤ 1000) : -9223372036854775808 ≤ (pickN_keep c m : Int) ∧ (pickN_keep c m : Int) ≤ 9223372036854775807 := by
  have := pickN_lt_keep c m hm
  omega
theorem cmdOf_int (zs : List Int) (i : Nat) : IntC (cmdOf zs i) := by
  have h1 := pickN_lt_keep (rawZ zs i) 4 (by decide)
  have h2 := pickN_lt_keep ((rawZ zs i).tdiv 4) 6 (by decide)
  have h3 := pickN_lt_keep ((rawZ zs i).tdiv 24) 2 (by decide)
  have h4 := pickN_lt_keep ((rawZ zs i).tdiv 48) 40 (by decide)
  unfold cmdOf
  split <;> constructor <;> dsimp only <;> omega
theorem cmdsOf_int (zs : List Int) : ∀ c ∈ cmdsOf zs, IntC c := by
  intro c hc
  simp only [cmdsOf, List.mem_map] at hc
  obtain ⟨k, _, rfl⟩ := hc
  exact cmdOf_int zs _
theorem cmdsOf_few (zs : List Int) : (cmdsOf zs).length ≤ 64 := by simp [cmdsOf]; omega
theorem mob_int {t : Int} {L : List Mob} (h : worldB t L = true) : ∀ m ∈ L, IntM m := by
  intro m hm
  have hf := (worldB_fine h).2.2.mob m hm
  have h1 := idB_in hf.id
  have h2 : m.team = 0 ∨ m.team = 1 := by have := hf.team; simpa [teamB] using this
  have h3 := hf.low
  have h4 := hf.high
  exact ⟨by omega, by omega, by omega⟩
theorem mob_same {t : Int} {L : List Mob} (h : worldB t L = true) : ∀ m ∈ L, eqM m m = true := fun m hm => fine_eq ((worldB_fine h).2.2.mob m hm)

theorem file_short (ev : Int) (css : List (List Cmd)) (k : Nat) (hk : k ≤ 60) (he : 1 ≤ ev ∧ ev ≤ 64) (h : ∀ cs ∈ css, cs.length ≤ 64 ∧ ∀ c ∈ cs, IntC c) : (fileAt ev css k).length ≤ 1000 + k * 15001 := by
  induction k with
  | zero =>
    have h1 := first_small ev he
    have h2 : (⟨(lineL (firstW ev)).toArray⟩ : ByteArray).size = (lineL (firstW ev)).length := by show (lineL (firstW ev)).toArray.size = _; simp
    have h3 := join_short (firstW ev) (by
      intro x hx
      simp only [firstW, List.mem_cons, List.not_mem_nil, or_false] at hx
      rcases hx with rfl | rfl
      · show (6 : Nat) ≤ 24; decide
      · exact itoaW_short ev (by omega))
    have h4 : (firstW ev).length = 2 := rfl
    rw [h4] at h3
    show (lineL (firstW ev)).length ≤ _
    unfold lineL
    simp only [List.length_append, List.length_cons, List.length_nil]
    omega
  | succ n ih =>
    have hw := mobsAt_world css (n + 1) (by omega)
    have hc : (css.getD n []).length ≤ 64 ∧ ∀ c ∈ css.getD n [], IntC c := by
      by_cases hn : n < css.length
      · rw [show css.getD n [] = css[n] from by simp [List.getD, hn]]
        exact h _ (List.getElem_mem hn)
      · rw [show css.getD n [] = [] from by simp [List.getD, List.getElem?_eq_none (show css.length ≤ n by omega)]]
        exact ⟨by simp, fun c hc => by cases hc⟩
    have := tick_short (css.getD n []) ((n : Int) + 1) (mobsAt css (n + 1)) ev hc.1 (worldB_fine hw).2.2.short hc.2 (mob_int hw)
    have := ih (by omega)
    show (fileAt ev css n ++ _).length ≤ _
    rw [List.length_append]
    omega
theorem file_pos (ev : Int) (css : List (List Cmd)) (k : Nat) : fileAt ev css k ≠ [] := by
  induction k with
  | zero => show lineL (firstW ev) ≠ []; unfold lineL; simp
  | succ n ih =>
    show fileAt ev css n ++ _ ≠ []
    simp [ih]

theorem Run.cells {w wr : World} {WS : List Wd} {g cap : Nat} (R : Run w wr WS (some ⟨g, 0, none⟩) cap) (i : Nat) (hi : i < WS.length) :
    g < wr.heap.size ∧ wr.cell? ⟨g, i * 2, none⟩ = some (.int .i64 WS[i].t) ∧ wr.cell? ⟨g, i * 2 + 1, none⟩ = some (.slice WS[i].p WS[i].L.length WS[i].cap) := by
  have h := fun j u hu => R.own.cells (g := g) rfl j u hu
  obtain ⟨r0, r1⟩ := rowW_get WS i hi
  have h0 := h _ _ r0
  have h1 := h _ _ r1
  rw [addr_add2, Nat.zero_add] at h0 h1
  exact ⟨(R.own.lt g rfl).2, h0, h1⟩
/-- What lies untouched. -/
theorem Run.keep {w wr w' : World} {S : Nat → Prop} {WS : List Wd} {g cap : Nat} (R : Run w wr WS (some ⟨g, 0, none⟩) cap) (k : Kept S wr w') (h1 : ∀ j, typ wr j 38 → ¬ S j) (h2 : ∀ j, typ wr j 83 → ¬ S j) (h3 : ∀ j, S j → w.heap.size ≤ j) : Run w w' WS (some ⟨g, 0, none⟩) cap :=
  ⟨owns_block R.own (fun j hj => k.block j (owns_lt R.own j hj) (h1 j (typ_own R.own j hj))), fun d hd => (R.ok d hd).keep k h2, R.tick, R.kept.join k (fun _ _ e => e) (fun j hj e => by have := h3 j e; omega)⟩
end Go.Proofs.YtlfmfhmbkpnjbaaGreatDoor

namespace Go.Proofs
open Go.Shelf
def Tryz.lays137_ren : Go.Shelf.Ren := ⟨fun | 137 => 81 | 217 => 107 | 266 => 128 | n => n, fun | 9 => 9 | 5 => 5 | 3 => 3 | n => n, fun | n => n⟩
theorem Tryz.lays137 : Go.Proofs.Lays.n137 Tryz.prog Tryz.lays137_ren := {
  mixed := by kernel_rfl
  f137 := Tryz.func81.trans (congrArg some (by kernel_rfl))
  f217 := Tryz.func107.trans (congrArg some (by kernel_rfl))
  f266 := Tryz.func128.trans (congrArg some (by kernel_rfl))
  t3 := Tryz.underlying3
  a3 := Tryz.isAgg3
  z3 := Tryz.sizeOf3
  v3 := Tryz.zeroValue3
  t5 := Tryz.underlying5
  a5 := Tryz.isAgg5
  z5 := Tryz.sizeOf5
  v5 := Tryz.zeroValue5
  t9 := Tryz.underlying9
  a9 := Tryz.isAgg9
  z9 := Tryz.sizeOf9
  v9 := Tryz.zeroValue9 }
open Go.RowKit in
theorem Tryz.strings_IndexByte (s : ByteArray) (c : Int) (w : World) :
    Calls Tryz.prog 81 #[.string s, .int .u8 c] w fun e w' => e = .returned (.int .i64 (Lib.indexByte s.data.toList c.toNat.toUInt8)) ∧ w' = w := Any.strings_IndexByte Tryz.lays137 s c w
def Tryz.lays217_ren : Go.Shelf.Ren := ⟨fun | 217 => 107 | 266 => 128 | n => n, fun | 9 => 9 | 5 => 5 | 3 => 3 | n => n, fun | n => n⟩
theorem Tryz.lays217 : Go.Proofs.Lays.n217 Tryz.prog Tryz.lays217_ren := {
  mixed := by kernel_rfl
  f217 := Tryz.func107.trans (congrArg some (by kernel_rfl))
  f266 := Tryz.func128.trans (congrArg some (by kernel_rfl))
  t3 := Tryz.underlying3
  a3 := Tryz.isAgg3
  z3 := Tryz.sizeOf3
  v3 := Tryz.zeroValue3
  t5 := Tryz.underlying5
  a5 := Tryz.isAgg5
  z5 := Tryz.sizeOf5
  v5 := Tryz.zeroValue5
  t9 := Tryz.underlying9
  a9 := Tryz.isAgg9
  z9 := Tryz.sizeOf9
  v9 := Tryz.zeroValue9 }
open Go.RowKit Go.Lib in
theorem Tryz.stringslite_IndexByte (s : ByteArray) (c : Int) (w : World) :
    Calls Tryz.prog 107 #[.string s, .int .u8 c] w fun e w' => e = .returned (.int .i64 (Lib.indexByte s.data.toList c.toNat.toUInt8)) ∧ w' = w := Any.stringslite_IndexByte Tryz.lays217 s c w
def Tryz.lays149_ren : Go.Shelf.Ren := ⟨fun | 149 => 46 | 222 => 75 | n => n, fun | 9 => 9 | 5 => 5 | 3 => 3 | 4 => 4 | n => n, fun | n => n⟩
theorem Tryz.lays149 : Go.Proofs.Lays.n149 Tryz.prog Tryz.lays149_ren := {
  mixed := by kernel_rfl
  f149 := Tryz.func46.trans (congrArg some (by kernel_rfl))
  f222 := Tryz.func75.trans (congrArg some (by kernel_rfl))
  t3 := Tryz.underlying3
  a3 := Tryz.isAgg3
  z3 := Tryz.sizeOf3
  v3 := Tryz.zeroValue3
  t4 := Tryz.underlying4
  a4 := Tryz.isAgg4
  z4 := Tryz.sizeOf4
  v4 := Tryz.zeroValue4
  t5 := Tryz.underlying5
  a5 := Tryz.isAgg5
  z5 := Tryz.sizeOf5
  v5 := Tryz.zeroValue5
  t9 := Tryz.underlying9
  a9 := Tryz.isAgg9
  z9 := Tryz.sizeOf9
  v9 := Tryz.zeroValue9 }
open Go.RowKit Go.Lib in
theorem Tryz.strings_LastIndexByte (s : ByteArray) (c : Int) (hs : s.size < 4611686018427387904) (w : World) :
    Calls Tryz.prog 46 #[.string s, .int .u8 c] w fun e w' => e = .returned (.int .i64 (Lib.lastIndexByte s c)) ∧ w' = w := Any.strings_LastIndexByte Tryz.lays149 s c hs w
def Tryz.lays102_ren : Go.Shelf.Ren := ⟨fun | 102 => 51 | 209 => 85 | 207 => 111 | n => n, fun | 9 => 9 | 4 => 4 | 3 => 3 | n => n, fun | n => n⟩
theorem Tryz.lays102 : Go.Proofs.Lays.n102 Tryz.prog Tryz.lays102_ren := {
  mixed := by kernel_rfl
  f102 := Tryz.func51.trans (congrArg some (by kernel_rfl))
  f207 := Tryz.func111.trans (congrArg some (by kernel_rfl))
  f209 := Tryz.func85.trans (congrArg some (by kernel_rfl))
  t3 := Tryz.underlying3
  a3 := Tryz.isAgg3
  z3 := Tryz.sizeOf3
  v3 := Tryz.zeroValue3
  t4 := Tryz.underlying4
  a4 := Tryz.isAgg4
  z4 := Tryz.sizeOf4
  v4 := Tryz.zeroValue4
  t9 := Tryz.underlying9
  a9 := Tryz.isAgg9
  z9 := Tryz.sizeOf9
  v9 := Tryz.zeroValue9 }
open Go.RowKit Go.Lib in
theorem Tryz.strings_TrimSuffix (s p : ByteArray) (w : World) (hs : s.size ≤ 9223372036854775807) :
    Calls Tryz.prog 51 #[.string s, .string p] w fun e w' => e = .returned (.string ⟨(Lib.trimSuffix s.data.toList p.data.toList).toArray⟩) ∧ w' = w := Any.strings_TrimSuffix Tryz.lays102 s p w hs
def Tryz.laysC172_ren : Go.Shelf.Ren := ⟨fun | 172 => 106 | 244 => 126 | 245 => 127 | 247 => 139 | 279 => 140 | 280 => 141 | 281 => 142 | 282 => 143 | 287 => 152 | 316 => 153 | 171 => 94 | 205 => 154 | 321 => 160 | 322 => 161 | 243 => 117 | 246 => 135 | 283 => 147 | 284 => 148 | 285 => 149 | 286 => 150 | 129 => 156 | 317 => 155 | 318 => 157 | 319 => 158 | 320 => 159 | 337 => 162 | 338 => 163 | n => n, fun | 9 => 9 | 3 => 3 | 75 => 100 | 76 => 101 | 4 => 4 | 5 => 5 | 167 => 203 | 37 => 94 | 0 => 0 | 85 => 204 | 2 => 2 | 168 => 206 | 53 => 189 | 175 => 209 | 46 => 192 | 210 => 220 | 127 => 140 | 145 => 229 | 143 => 227 | 21 => 21 | 171 => 213 | 173 => 216 | 212 => 223 | 51 => 190 | 20 => 20 | 213 => 224 | 232 => 231 | 233 => 232 | 80 => 65 | n => n, fun | 15 => 2 | 16 => 3 | 17 => 4 | 18 => 5 | 19 => 6 | n => n⟩
theorem Tryz.laysC172 : Go.Proofs.LaysC.n172 Tryz.prog Tryz.laysC172_ren := {
  mixed := by kernel_rfl
  f129 := Tryz.func156.trans (congrArg some (by kernel_rfl))
  f171 := Tryz.func94.trans (congrArg some (by kernel_rfl))
  f172 := Tryz.func106.trans (congrArg some (by kernel_rfl))
  f205 := Tryz.func154.trans (congrArg some (by kernel_rfl))
  f243 := Tryz.func117.trans (congrArg some (by kernel_rfl))
  f244 := Tryz.func126.trans (congrArg some (by kernel_rfl))
  f245 := Tryz.func127.trans (congrArg some (by kernel_rfl))
  f246 := Tryz.func135.trans (congrArg some (by kernel_rfl))
  f247 := Tryz.func139.trans (congrArg some (by kernel_rfl))
  f279 := Tryz.func140.trans (congrArg some (by kernel_rfl))
  f280 := Tryz.func141.trans (congrArg some (by kernel_rfl))
  f281 := Tryz.func142.trans (congrArg some (by kernel_rfl))
  f282 := Tryz.func143.trans (congrArg some (by kernel_rfl))
  f283 := Tryz.func147.trans (congrArg some (by kernel_rfl))
  f284 := Tryz.func148.trans (congrArg some (by kernel_rfl))
  f285 := Tryz.func149.trans (congrArg some (by kernel_rfl))
  f286 := Tryz.func150.trans (congrArg some (by kernel_rfl))
  f287 := Tryz.func152.trans (congrArg some (by kernel_rfl))
  f316 := Tryz.func153.trans (congrArg some (by kernel_rfl))
  f317 := Tryz.func155.trans (congrArg some (by kernel_rfl))
  f318 := Tryz.func157.trans (congrArg some (by kernel_rfl))
  f319 := Tryz.func158.trans (congrArg some (by kernel_rfl))
  f320 := Tryz.func159.trans (congrArg some (by kernel_rfl))
  f321 := Tryz.func160.trans (congrArg some (by kernel_rfl))
  f322 := Tryz.func161.trans (congrArg some (by kernel_rfl))
  f337 := Tryz.func162.trans (congrArg some (by kernel_rfl))
  f338 := Tryz.func163.trans (congrArg some (by kernel_rfl))
  t0 := Tryz.underlying0
  a0 := Tryz.isAgg0
  z0 := Tryz.sizeOf0
  v0 := Tryz.zeroValue0
  t2 := Tryz.underlying2
  a2 := Tryz.isAgg2
  z2 := Tryz.sizeOf2
  v2 := Tryz.zeroValue2
  t3 := Tryz.underlying3
  a3 := Tryz.isAgg3
  z3 := Tryz.sizeOf3
  v3 := Tryz.zeroValue3
  t4 := Tryz.underlying4
  a4 := Tryz.isAgg4
  z4 := Tryz.sizeOf4
  v4 := Tryz.zeroValue4
  t5 := Tryz.underlying5
  a5 := Tryz.isAgg5
  z5 := Tryz.sizeOf5
  v5 := Tryz.zeroValue5
  t9 := Tryz.underlying9
  a9 := Tryz.isAgg9
  z9 := Tryz.sizeOf9
  v9 := Tryz.zeroValue9
  t20 := Tryz.underlying20
  a20 := Tryz.isAgg20
  z20 := Tryz.sizeOf20
  v20 := Tryz.zeroValue20
  t21 := Tryz.underlying21
  a21 := Tryz.isAgg21
  z21 := Tryz.sizeOf21
  v21 := Tryz.zeroValue21
  t37 := Tryz.underlying94
  a37 := Tryz.isAgg94
  z37 := Tryz.sizeOf94
  v37 := Tryz.zeroValue94
  t46 := Tryz.underlying192
  a46 := Tryz.isAgg192
  z46 := Tryz.sizeOf192
  v46 := Tryz.zeroValue192
  t51 := Tryz.underlying190
  a51 := Tryz.isAgg190
  z51 := Tryz.sizeOf190
  v51 := Tryz.zeroValue190
  t53 := Tryz.underlying189
  a53 := Tryz.isAgg189
  z53 := Tryz.sizeOf189
  v53 := Tryz.zeroValue189
  t75 := Tryz.underlying100
  a75 := Tryz.isAgg100
  z75 := Tryz.sizeOf100
  v75 := Tryz.zeroValue100
  t76 := Tryz.underlying101
  a76 := Tryz.isAgg101
  z76 := Tryz.sizeOf101
  v76 := Tryz.zeroValue101
  t85 := Tryz.underlying204
  a85 := Tryz.isAgg204
  z85 := Tryz.sizeOf204
  v85 := Tryz.zeroValue204
  t127 := Tryz.underlying140
  a127 := Tryz.isAgg140
  z127 := Tryz.sizeOf140
  v127 := Tryz.zeroValue140
  t143 := Tryz.underlying227
  a143 := Tryz.isAgg227
  z143 := Tryz.sizeOf227
  v143 := Tryz.zeroValue227
  t145 := Tryz.underlying229
  a145 := Tryz.isAgg229
  z145 := Tryz.sizeOf229
  v145 := Tryz.zeroValue229
  t167 := Tryz.underlying203
  a167 := Tryz.isAgg203
  z167 := Tryz.sizeOf203
  v167 := Tryz.zeroValue203
  t168 := Tryz.underlying206
  a168 := Tryz.isAgg206
  z168 := Tryz.sizeOf206
  v168 := Tryz.zeroValue206
  t171 := Tryz.underlying213
  a171 := Tryz.isAgg213
  z171 := Tryz.sizeOf213
  v171 := Tryz.zeroValue213
  t173 := Tryz.underlying216
  a173 := Tryz.isAgg216
  z173 := Tryz.sizeOf216
  v173 := Tryz.zeroValue216
  t175 := Tryz.underlying209
  a175 := Tryz.isAgg209
  z175 := Tryz.sizeOf209
  v175 := Tryz.zeroValue209
  t210 := Tryz.underlying220
  a210 := Tryz.isAgg220
  z210 := Tryz.sizeOf220
  v210 := Tryz.zeroValue220
  t212 := Tryz.underlying223
  a212 := Tryz.isAgg223
  z212 := Tryz.sizeOf223
  v212 := Tryz.zeroValue223
  t213 := Tryz.underlying224
  a213 := Tryz.isAgg224
  z213 := Tryz.sizeOf224
  t232 := Tryz.underlying231
  a232 := Tryz.isAgg231
  z232 := Tryz.sizeOf231
  v232 := Tryz.zeroValue231
  t233 := Tryz.underlying232
  a233 := Tryz.isAgg232
  z233 := Tryz.sizeOf232
  v233 := Tryz.zeroValue232
  g15 := by kernel_rfl
  g16 := by kernel_rfl
  g17 := by kernel_rfl
  g18 := by kernel_rfl
  g19 := by kernel_rfl
  t80 := Tryz.underlying65
  a80 := Tryz.isAgg65
  z80 := Tryz.sizeOf65
  v80 := Tryz.zeroValue65
  i0 := by kernel_rfl
  i2 := by kernel_rfl
  i3 := by kernel_rfl
  i4 := by kernel_rfl
  i5 := by kernel_rfl
  i9 := by kernel_rfl
  i20 := by kernel_rfl
  i21 := by kernel_rfl
  i37 := by kernel_rfl
  i46 := by kernel_rfl
  i51 := by kernel_rfl
  i53 := by kernel_rfl
  i75 := by kernel_rfl
  i76 := by kernel_rfl
  i80 := by kernel_rfl
  i85 := by kernel_rfl
  i127 := by kernel_rfl
  i143 := by kernel_rfl
  i145 := by kernel_rfl
  i167 := by kernel_rfl
  i168 := by kernel_rfl
  i171 := by kernel_rfl
  i173 := by kernel_rfl
  i175 := by kernel_rfl
  i210 := by kernel_rfl
  i212 := by kernel_rfl
  i232 := by kernel_rfl
  i233 := by kernel_rfl
  m15 := by kernel_rfl
  m16 := by kernel_rfl
  m17 := by kernel_rfl
  m18 := by kernel_rfl
  m19 := by kernel_rfl
  c0 := by kernel_rfl
  c2 := by kernel_rfl
  c3 := by kernel_rfl
  c4 := by kernel_rfl
  c5 := by kernel_rfl
  c9 := by kernel_rfl
  c20 := by kernel_rfl
  c21 := by kernel_rfl
  c37 := by kernel_rfl
  c46 := by kernel_rfl
  c51 := by kernel_rfl
  c53 := by kernel_rfl
  c75 := by kernel_rfl
  c76 := by kernel_rfl
  c80 := by kernel_rfl
  c85 := by kernel_rfl
  c127 := by kernel_rfl
  c143 := by kernel_rfl
  c145 := by kernel_rfl
  c167 := by kernel_rfl
  c168 := by kernel_rfl
  c171 := by kernel_rfl
  c173 := by kernel_rfl
  c175 := by kernel_rfl
  c210 := by kernel_rfl
  c212 := by kernel_rfl
  c213 := by kernel_rfl
  c232 := by kernel_rfl
  c233 := by kernel_rfl }
open Go.RowKit in
theorem Tryz.strconv_Atoi_ok (s : ByteArray) (hmax : s.size ≤ 9223372036854775806) (v : Int) (h : Lib.atoiAll s.data.toList = .ok v) (w : World) :
    Calls Tryz.prog 106 #[.string s] w fun e w' => e = .returned (.tuple #[.int .i64 v, .nilIface]) ∧ (w' = w ∨ ∃ t, w' = Lib.bytesWorld w 5 t) := Any.strconv_Atoi_ok Tryz.laysC172 s hmax v h w
open Go.RowKit in
theorem Tryz.strconv_Atoi_syntax (s : ByteArray) (hlim : s.size ≤ 281474976710656) (h : Lib.atoiAll s.data.toList = .«syntax») (ev : Value) (w : World) (hv : w.cell? ⟨2, 0, none⟩ = some ev) (hev : ev = .nilIface ∨ ∃ te pe, ev = .iface te pe) :
    Calls Tryz.prog 106 #[.string s] w fun e w' => ∃ N, e = .returned (.tuple #[.int .i64 (0), .iface 206 (.pointer (some ⟨N, 0, none⟩))]) ∧ w.heap.size ≤ N ∧ w'.heap[N]? = some (.cells #[.string ⟨#[65, 116, 111, 105]⟩, .string s, ev] 220 (0, 0)) ∧ Below w.heap.size w w' := Any.strconv_Atoi_syntax Tryz.laysC172 s hlim h ev w hv hev
open Go.RowKit in
theorem Tryz.strconv_Atoi_range (s : ByteArray) (hlim : s.size ≤ 281474976710656) (h : Lib.atoiAll s.data.toList = .range) (ev : Value) (w : World) (hv : w.cell? ⟨3, 0, none⟩ = some ev) (hev : ev = .nilIface ∨ ∃ te pe, ev = .iface te pe) :
    Calls Tryz.prog 106 #[.string s] w fun e w' => ∃ N, e = .returned (.tuple #[.int .i64 (Lib.atoiSat s.data.toList), .iface 206 (.pointer (some ⟨N, 0, none⟩))]) ∧ w.heap.size ≤ N ∧ w'.heap[N]? = some (.cells #[.string ⟨#[65, 116, 111, 105]⟩, .string s, ev] 220 (0, 0)) ∧ Below w.heap.size w w' := Any.strconv_Atoi_range Tryz.laysC172 s hlim h ev w hv hev
def Tryz.laysC245_ren : Go.Shelf.Ren := ⟨fun | 245 => 127 | 279 => 140 | 280 => 141 | 281 => 142 | 282 => 143 | 316 => 153 | 171 => 94 | 205 => 154 | 243 => 117 | 246 => 135 | 283 => 147 | 284 => 148 | 285 => 149 | 286 => 150 | 129 => 156 | 317 => 155 | 318 => 157 | 319 => 158 | 320 => 159 | 337 => 162 | 338 => 163 | n => n, fun | 9 => 9 | 3 => 3 | 75 => 100 | 167 => 203 | 4 => 4 | 168 => 206 | 210 => 220 | 37 => 94 | 0 => 0 | 127 => 140 | 145 => 229 | 143 => 227 | 2 => 2 | 171 => 213 | 53 => 189 | 5 => 5 | 173 => 216 | 212 => 223 | 51 => 190 | 20 => 20 | 213 => 224 | 46 => 192 | 232 => 231 | 233 => 232 | 80 => 65 | n => n, fun | 15 => 2 | 16 => 3 | 17 => 4 | 18 => 5 | 19 => 6 | n => n⟩
theorem Tryz.laysC245 : Go.Proofs.LaysC.n245 Tryz.prog Tryz.laysC245_ren := {
  mixed := by kernel_rfl
  f129 := Tryz.func156.trans (congrArg some (by kernel_rfl))
  f171 := Tryz.func94.trans (congrArg some (by kernel_rfl))
  f205 := Tryz.func154.trans (congrArg some (by kernel_rfl))
  f243 := Tryz.func117.trans (congrArg some (by kernel_rfl))
  f245 := Tryz.func127.trans (congrArg some (by kernel_rfl))
  f246 := Tryz.func135.trans (congrArg some (by kernel_rfl))
  f279 := Tryz.func140.trans (congrArg some (by kernel_rfl))
  f280 := Tryz.func141.trans (congrArg some (by kernel_rfl))
  f281 := Tryz.func142.trans (congrArg some (by kernel_rfl))
  f282 := Tryz.func143.trans (congrArg some (by kernel_rfl))
  f283 := Tryz.func147.trans (congrArg some (by kernel_rfl))
  f284 := Tryz.func148.trans (congrArg some (by kernel_rfl))
  f285 := Tryz.func149.trans (congrArg some (by kernel_rfl))
  f286 := Tryz.func150.trans (congrArg some (by kernel_rfl))
  f316 := Tryz.func153.trans (congrArg some (by kernel_rfl))
  f317 := Tryz.func155.trans (congrArg some (by kernel_rfl))
  f318 := Tryz.func157.trans (congrArg some (by kernel_rfl))
  f319 := Tryz.func158.trans (congrArg some (by kernel_rfl))
  f320 := Tryz.func159.trans (congrArg some (by kernel_rfl))
  f337 := Tryz.func162.trans (congrArg some (by kernel_rfl))
  f338 := Tryz.func163.trans (congrArg some (by kernel_rfl))
  t0 := Tryz.underlying0
  a0 := Tryz.isAgg0
  z0 := Tryz.sizeOf0
  v0 := Tryz.zeroValue0
  t2 := Tryz.underlying2
  a2 := Tryz.isAgg2
  z2 := Tryz.sizeOf2
  v2 := Tryz.zeroValue2
  t3 := Tryz.underlying3
  a3 := Tryz.isAgg3
  z3 := Tryz.sizeOf3
  v3 := Tryz.zeroValue3
  t4 := Tryz.underlying4
  a4 := Tryz.isAgg4
  z4 := Tryz.sizeOf4
  v4 := Tryz.zeroValue4
  t5 := Tryz.underlying5
  a5 := Tryz.isAgg5
  z5 := Tryz.sizeOf5
  v5 := Tryz.zeroValue5
  t9 := Tryz.underlying9
  a9 := Tryz.isAgg9
  z9 := Tryz.sizeOf9
  v9 := Tryz.zeroValue9
  t20 := Tryz.underlying20
  a20 := Tryz.isAgg20
  z20 := Tryz.sizeOf20
  v20 := Tryz.zeroValue20
  t37 := Tryz.underlying94
  a37 := Tryz.isAgg94
  z37 := Tryz.sizeOf94
  v37 := Tryz.zeroValue94
  t46 := Tryz.underlying192
  a46 := Tryz.isAgg192
  z46 := Tryz.sizeOf192
  v46 := Tryz.zeroValue192
  t51 := Tryz.underlying190
  a51 := Tryz.isAgg190
  z51 := Tryz.sizeOf190
  v51 := Tryz.zeroValue190
  t53 := Tryz.underlying189
  a53 := Tryz.isAgg189
  z53 := Tryz.sizeOf189
  v53 := Tryz.zeroValue189
  t75 := Tryz.underlying100
  a75 := Tryz.isAgg100
  z75 := Tryz.sizeOf100
  v75 := Tryz.zeroValue100
  t127 := Tryz.underlying140
  a127 := Tryz.isAgg140
  z127 := Tryz.sizeOf140
  v127 := Tryz.zeroValue140
  t143 := Tryz.underlying227
  a143 := Tryz.isAgg227
  z143 := Tryz.sizeOf227
  v143 := Tryz.zeroValue227
  t145 := Tryz.underlying229
  a145 := Tryz.isAgg229
  z145 := Tryz.sizeOf229
  v145 := Tryz.zeroValue229
  t167 := Tryz.underlying203
  a167 := Tryz.isAgg203
  z167 := Tryz.sizeOf203
  v167 := Tryz.zeroValue203
  t168 := Tryz.underlying206
  a168 := Tryz.isAgg206
  z168 := Tryz.sizeOf206
  v168 := Tryz.zeroValue206
  t171 := Tryz.underlying213
  a171 := Tryz.isAgg213
  z171 := Tryz.sizeOf213
  v171 := Tryz.zeroValue213
  t173 := Tryz.underlying216
  a173 := Tryz.isAgg216
  z173 := Tryz.sizeOf216
  v173 := Tryz.zeroValue216
  t210 := Tryz.underlying220
  a210 := Tryz.isAgg220
  z210 := Tryz.sizeOf220
  v210 := Tryz.zeroValue220
  t212 := Tryz.underlying223
  a212 := Tryz.isAgg223
  z212 := Tryz.sizeOf223
  v212 := Tryz.zeroValue223
  t213 := Tryz.underlying224
  a213 := Tryz.isAgg224
  z213 := Tryz.sizeOf224
  t232 := Tryz.underlying231
  a232 := Tryz.isAgg231
  z232 := Tryz.sizeOf231
  v232 := Tryz.zeroValue231
  t233 := Tryz.underlying232
  a233 := Tryz.isAgg232
  z233 := Tryz.sizeOf232
  v233 := Tryz.zeroValue232
  g15 := by kernel_rfl
  g16 := by kernel_rfl
  g17 := by kernel_rfl
  g18 := by kernel_rfl
  g19 := by kernel_rfl
  t80 := Tryz.underlying65
  a80 := Tryz.isAgg65
  z80 := Tryz.sizeOf65
  v80 := Tryz.zeroValue65
  i0 := by kernel_rfl
  i2 := by kernel_rfl
  i3 := by kernel_rfl
  i4 := by kernel_rfl
  i5 := by kernel_rfl
  i9 := by kernel_rfl
  i20 := by kernel_rfl
  i37 := by kernel_rfl
  i46 := by kernel_rfl
  i51 := by kernel_rfl
  i53 := by kernel_rfl
  i75 := by kernel_rfl
  i80 := by kernel_rfl
  i127 := by kernel_rfl
  i143 := by kernel_rfl
  i145 := by kernel_rfl
  i167 := by kernel_rfl
  i168 := by kernel_rfl
  i171 := by kernel_rfl
  i173 := by kernel_rfl
  i210 := by kernel_rfl
  i212 := by kernel_rfl
  i232 := by kernel_rfl
  i233 := by kernel_rfl
  m15 := by kernel_rfl
  m16 := by kernel_rfl
  m17 := by kernel_rfl
  m18 := by kernel_rfl
  m19 := by kernel_rfl
  c0 := by kernel_rfl
  c2 := by kernel_rfl
  c3 := by kernel_rfl
  c4 := by kernel_rfl
  c5 := by kernel_rfl
  c9 := by kernel_rfl
  c20 := by kernel_rfl
  c37 := by kernel_rfl
  c46 := by kernel_rfl
  c51 := by kernel_rfl
  c53 := by kernel_rfl
  c75 := by kernel_rfl
  c80 := by kernel_rfl
  c127 := by kernel_rfl
  c143 := by kernel_rfl
  c145 := by kernel_rfl
  c167 := by kernel_rfl
  c168 := by kernel_rfl
  c171 := by kernel_rfl
  c173 := by kernel_rfl
  c210 := by kernel_rfl
  c212 := by kernel_rfl
  c213 := by kernel_rfl
  c232 := by kernel_rfl
  c233 := by kernel_rfl }
open Go.RowKit in
theorem Tryz.strconv_toError_syntax (fn s : ByteArray) (base bits : Int) (ev : Value) (w : World) (hlim : s.size ≤ 281474976710656) (hv : w.cell? ⟨2, 0, none⟩ = some ev) (hev : ev = .nilIface ∨ ∃ te pe, ev = .iface te pe) :
    Calls Tryz.prog 127 #[.string fn, .string s, .int .i64 base, .int .i64 bits, .iface 203 (.int .i64 2)] w fun e w' => ∃ N, e = .returned (.iface 206 (.pointer (some ⟨N, 0, none⟩))) ∧ w.heap.size ≤ N ∧ w'.heap[N]? = some (.cells #[.string fn, .string s, ev] 220 (0, 0)) ∧ Below w.heap.size w w' := Any.strconv_toError_syntax Tryz.laysC245 fn s base bits ev w hlim hv hev
open Go.RowKit in
theorem Tryz.strconv_toError_range (fn s : ByteArray) (base bits : Int) (ev : Value) (w : World) (hlim : s.size ≤ 281474976710656) (hv : w.cell? ⟨3, 0, none⟩ = some ev) (hev : ev = .nilIface ∨ ∃ te pe, ev = .iface te pe) :
    Calls Tryz.prog 127 #[.string fn, .string s, .int .i64 base, .int .i64 bits, .iface 203 (.int .i64 1)] w fun e w' => ∃ N, e = .returned (.iface 206 (.pointer (some ⟨N, 0, none⟩))) ∧ w.heap.size ≤ N ∧ w'.heap[N]? = some (.cells #[.string fn, .string s, ev] 220 (0, 0)) ∧ Below w.heap.size w w' := Any.strconv_toError_range Tryz.laysC245 fn s base bits ev w hlim hv hev
def Tryz.lays321_ren : Go.Shelf.Ren := ⟨fun | 321 => 160 | n => n, fun | 5 => 5 | n => n, fun | n => n⟩
theorem Tryz.lays321 : Go.Proofs.Lays.n321 Tryz.prog Tryz.lays321_ren := {
  mixed := by kernel_rfl
  f321 := Tryz.func160.trans (congrArg some (by kernel_rfl))
  t5 := Tryz.underlying5
  a5 := Tryz.isAgg5
  z5 := Tryz.sizeOf5
  v5 := Tryz.zeroValue5 }
open Go.RowKit in
theorem Tryz.internal_strconv_lower (c : Int) (w : World) :
    Calls Tryz.prog 160 #[.int .u8 c] w fun e w' => e = .returned (.int .u8 (bits .or .u8 c 32)) ∧ w' = w := Any.internal_strconv_lower Tryz.lays321 c w
end Go.Proofs

namespace Go.Proofs.YtlfmfhmbkpnjbaaGreatDoor
open Go.RowKit

/-- The library's tables, and its two errors. -/
structure Errs (w : World) : Prop where
  tabs : Tabs w
  syn : ∃ te pe, w.cell? ⟨2, 0, none⟩ = some (.iface te pe)
  rng : ∃ te pe, w.cell? ⟨3, 0, none⟩ = some (.iface te pe)
theorem Errs.keep {w w' : World} {S : Nat → Prop} (h : Errs w) (k : Kept S w w') (h1 : ¬ S 6) (h2 : ¬ S 4) (h3 : ¬ S 2) (h4 : ¬ S 3) : Errs w' := by
  obtain ⟨te, pe, hs⟩ := h.syn
  obtain ⟨tr, pr, hr⟩ := h.rng
  exact ⟨h.tabs.keep k h1 h2, ⟨te, pe, by rw [cell_keep k (World.block_lt_of_cell? w _ hs) h3]; exact hs⟩, ⟨tr, pr, by rw [cell_keep k (World.block_lt_of_cell? w _ hr) h4]; exact hr⟩⟩
theorem Errs.calm {w w' : World} (h : Errs w) (k : Kept (fun _ => False) w w') : Errs w' := h.keep k (fun e => e) (fun e => e) (fun e => e) (fun e => e)

/-- A text of some bytes. -/
abbrev baL (l : List UInt8) : ByteArray := ⟨l.toArray⟩
theorem baL_size (l : List UInt8) : (baL l).size = l.length := by show l.toArray.size = _; simp
theorem baL_list (l : List UInt8) : (baL l).data.toList = l := by simp
theorem baL_inj {a b : List UInt8} (h : baL a = baL b) : a = b := by
  have := congrArg (fun x : ByteArray => x.data.toList) h
  simpa using this
theorem baL_beq (a b : List UInt8) : ((baL a).toList == (baL b).toList) = decide (a = b) := by
  rw [ByteArray.toList_eq, ByteArray.toList_eq]
  by_cases h : a = b <;> simp [h]

set_option maxHeartbeats 1000000 in
set_option maxRecDepth 100000 in
/-- Where a sign stands. -/
theorem index1_c (s : ByteArray) (c : UInt8) (w : World) :
    Calls Tryz.prog 105 #[.string s, .string ⟨#[c]⟩] w fun e w' => e = .returned (.int .i64 (Lib.indexByte s.data.toList c)) ∧ w' = w := by
  have hz : ((⟨#[c]⟩ : ByteArray).size : Int) = 1 := rfl
  have hcc : ((c.toNat : Int).toNat.toUInt8) = c := by simp
  by_cases hs : (⟨#[c]⟩ : ByteArray) = s
  · subst hs
    have he : Lib.indexByte (⟨#[c]⟩ : ByteArray).data.toList c = 0 := by simp [Lib.indexByte]
    rw [he]
    go_enter Tryz.func105, Tryz.ntmps105
    go_wp2_with fail
    go_ret
    exact ⟨rfl, rfl⟩
  · have hb : ([c] == s.toList) = false := by
      rw [beq_eq_false_iff_ne]
      intro e
      apply hs
      apply bytes_inj
      rw [← e]
      simp [ByteArray.toList_eq]
    go_enter Tryz.func105, Tryz.ntmps105
    go_wp2_with fail
    refine (Tryz.stringslite_IndexByte s c.toNat w).mono ?_
    rintro e w' ⟨rfl, rfl⟩
    rw [hcc]
    go_wp2
    go_ret
    exact ⟨rfl, rfl⟩

set_option maxHeartbeats 1000000 in
set_option maxRecDepth 100000 in
/-- strings.Cut at one sign. -/
theorem cut0_c (s : List UInt8) (c : UInt8) (w : World) (hl : (s.length : Int) ≤ 4611686018427387904) :
    Calls Tryz.prog 76 #[.string (baL s), .string ⟨#[c]⟩] w fun e w' => e = .returned (.tuple #[.string (baL (cutL c s).1), .string (baL (cutL c s).2.1), .bool (cutL c s).2.2]) ∧ Kept (fun _ => False) w w' := by
  have hz : ((⟨#[c]⟩ : ByteArray).size : Int) = 1 := rfl
  have hsz := baL_size s
  rcases cutL_index c s with ⟨h1, h2⟩ | ⟨i, h1, h2, h3⟩
  · rw [h2]
    go_enter Tryz.func76, Tryz.ntmps76
    go_wp2_with fail
    refine (index1_c (baL s) c w).mono ?_
    rintro e w' ⟨rfl, rfl⟩
    rw [baL_list, h1]
    go_wp2
    go_ret3
    exact ⟨rfl, Kept.refl _ _⟩
  · have e1 : baL (s.take i) = (baL s).extract 0 i := by rw [Lib.extract_eq]; simp
    have e2 : baL (s.drop (i + 1)) = (baL s).extract (i + 1) (baL s).size := by
      rw [Lib.extract_eq, baL_list, List.take_of_length_le (by rw [List.length_drop, hsz]; exact Nat.le_refl _)]
    rw [h3]
    simp only [e1, e2]
    have c1 : (0 : Int) ≤ (i : Int) := by omega
    have c2 : (i : Int) ≤ ((baL s).size : Int) := by rw [hsz]; omega
    have c3 : (0 : Int) ≤ (i : Int) + 1 := by omega
    have c4 : (i : Int) + 1 ≤ ((baL s).size : Int) := by rw [hsz]; omega
    have HH := hide h1
    have HS := hide hsz
    clear e1 e2 h1 h3 hsz
    generalize hS : baL s = S at *
    go_enter Tryz.func76, Tryz.ntmps76
    go_wp2_with fail
    refine (index1_c S c w).mono ?_
    rintro e w' ⟨rfl, rfl⟩
    rw [show S.data.toList = s from by rw [← hS], HH.out]
    go_wp2
    go_quiet (fail)
    go_wp2
    go_ret3
    exact ⟨rfl, Kept.drewN _ _⟩

set_option maxHeartbeats 1000000 in
set_option maxRecDepth 100000 in
theorem cut1_c (s : List UInt8) (c : UInt8) (w : World) (hl : (s.length : Int) ≤ 4611686018427387904) :
    Calls Tryz.prog 47 #[.string (baL s), .string ⟨#[c]⟩] w fun e w' => e = .returned (.tuple #[.string (baL (cutL c s).1), .string (baL (cutL c s).2.1), .bool (cutL c s).2.2]) ∧ Kept (fun _ => False) w w' := by
  go_enter Tryz.func47, Tryz.ntmps47
  go_wp2_with fail
  refine (cut0_c s c w hl).mono ?_
  rintro e w1 ⟨rfl, k1⟩
  have K1 := hide k1
  clear k1
  go_wp2
  go_ret3
  exact ⟨rfl, K1.out⟩
end Go.Proofs.YtlfmfhmbkpnjbaaGreatDoor
