import Derived.Shelf.Strings.OnBuilder
import Derived.Shelf.LaysM
import Derived.Shelf.Strconv.Itoa3
import Derived.Test.YtlfmfhmbkpnjbaaGreatDoorProg
import Derived.Test.YtlfmfhmbkpnjbaaGreatDoorRc14
import Derived.Test.YtlfmfhmbkpnjbaaGreatDoorRc7
import Derived.Test.YtlfmfhmbkpnjbaaGreatDoorRc9
namespace Go.Proofs
open Go.Shelf
def Tryz.lays156_ren : Go.Shelf.Ren := ⟨fun | 156 => 93 | 165 => 116 | 166 => 35 | 169 => 37 | 240 => 62 | 241 => 134 | 276 => 92 | 277 => 146 | n => n, fun | 31 => 139 | 9 => 9 | 3 => 3 | 4 => 4 | 0 => 0 | 20 => 20 | 72 => 96 | 76 => 101 | 70 => 93 | 37 => 94 | 75 => 100 | 127 => 140 | 164 => 171 | 5 => 5 | 80 => 65 | n => n, fun | n => n⟩
theorem Tryz.lays156 : Go.Proofs.Lays.n156 Tryz.prog Tryz.lays156_ren := {
  mixed := by kernel_rfl
  f156 := Tryz.func93.trans (congrArg some (by kernel_rfl))
  f165 := Tryz.func116.trans (congrArg some (by kernel_rfl))
  f166 := Tryz.func35.trans (congrArg some (by kernel_rfl))
  f169 := Tryz.func37.trans (congrArg some (by kernel_rfl))
  f240 := Tryz.func62.trans (congrArg some (by kernel_rfl))
  f241 := Tryz.func134.trans (congrArg some (by kernel_rfl))
  f276 := Tryz.func92.trans (congrArg some (by kernel_rfl))
  f277 := Tryz.func146.trans (congrArg some (by kernel_rfl))
  t0 := Tryz.underlying0
  a0 := Tryz.isAgg0
  z0 := Tryz.sizeOf0
  v0 := Tryz.zeroValue0
  t3 := Tryz.underlying3
  a3 := Tryz.isAgg3
  z3 := Tryz.sizeOf3
  v3 := Tryz.zeroValue3
  t4 := Tryz.underlying4
  a4 := Tryz.isAgg4
  z4 := Tryz.sizeOf4
  v4 := Tryz.zeroValue4
  t9 := Tryz.underlying9
  a9 := Tryz.isAgg9
  z9 := Tryz.sizeOf9
  v9 := Tryz.zeroValue9
  t20 := Tryz.underlying20
  a20 := Tryz.isAgg20
  z20 := Tryz.sizeOf20
  v20 := Tryz.zeroValue20
  t31 := Tryz.underlying139
  a31 := Tryz.isAgg139
  z31 := Tryz.sizeOf139
  v31 := Tryz.zeroValue139
  t37 := Tryz.underlying94
  a37 := Tryz.isAgg94
  z37 := Tryz.sizeOf94
  v37 := Tryz.zeroValue94
  t70 := Tryz.underlying93
  a70 := Tryz.isAgg93
  z70 := Tryz.sizeOf93
  v70 := Tryz.zeroValue93
  t72 := Tryz.underlying96
  a72 := Tryz.isAgg96
  z72 := Tryz.sizeOf96
  v72 := Tryz.zeroValue96
  t75 := Tryz.underlying100
  a75 := Tryz.isAgg100
  z75 := Tryz.sizeOf100
  v75 := Tryz.zeroValue100
  t76 := Tryz.underlying101
  a76 := Tryz.isAgg101
  z76 := Tryz.sizeOf101
  v76 := Tryz.zeroValue101
  t127 := Tryz.underlying140
  a127 := Tryz.isAgg140
  z127 := Tryz.sizeOf140
  v127 := Tryz.zeroValue140
  t164 := Tryz.underlying171
  a164 := Tryz.isAgg171
  z164 := Tryz.sizeOf171
  v164 := Tryz.zeroValue171 }
theorem Tryz.Builder_Extra_156 : Builder.Extra Tryz.prog Tryz.lays156_ren := {
  sizeBuilder := by kernel_rfl
  liesBuilder := by kernel_rfl
  t5 := Tryz.underlying5
  a5 := Tryz.isAgg5
  z5 := Tryz.sizeOf5
  v5 := Tryz.zeroValue5
  infoByte := by kernel_rfl
  cellsByte := by kernel_rfl
  sizeByte := by kernel_rfl
  neB5 := by decide }
open Go.RowKit in
theorem Tryz.strings_Join_none (a : Option Addr) (c : Nat) (sep : ByteArray) (w : World) :
    Calls Tryz.prog 93 #[.slice a 0 c, .string sep] w fun e w' => e = .returned (.string ⟨#[]⟩) ∧ w' = w := Any.strings_Join_none Tryz.lays156 Tryz.Builder_Extra_156 a c sep w
open Go.RowKit in
theorem Tryz.strings_Join (bk o c : Nat) (xs : List ByteArray) (sep : ByteArray) (w : World) (hcells : ∀ (j : Nat) x, xs[j]? = some x → w.cell? ⟨bk, o + j, none⟩ = some (.string x)) (hbk : bk < w.heap.size) (hN : xs.length ≤ 140737488355328) (hcap : xs.length ≤ c) (hlen : (Lib.join (xs.map (·.data.toList)) sep.data.toList).length ≤ 140737488355328) :
    Calls Tryz.prog 93 #[.slice (some ⟨bk, o, none⟩) xs.length c, .string sep] w fun e w' => e = .returned (.string ⟨(Lib.join (xs.map (·.data.toList)) sep.data.toList).toArray⟩) ∧ Below w.heap.size w w' := Any.strings_Join Tryz.lays156 Tryz.Builder_Extra_156 bk o c xs sep w hcells hbk hN hcap hlen
def Tryz.laysM171_ren : Go.Shelf.Ren := ⟨fun | 171 => 94 | 243 => 117 | 246 => 135 | 283 => 147 | 284 => 148 | 285 => 149 | 286 => 150 | 129 => 156 | 317 => 155 | 318 => 157 | 319 => 158 | 320 => 159 | 337 => 162 | 338 => 163 | n => n, fun | 3 => 3 | 9 => 9 | 2 => 2 | 4 => 4 | 171 => 213 | 0 => 0 | 53 => 189 | 37 => 94 | 5 => 5 | 173 => 216 | 212 => 223 | 51 => 190 | 20 => 20 | 213 => 224 | 46 => 192 | 232 => 231 | 233 => 232 | n => n, fun | 17 => 4 | 18 => 5 | 19 => 6 | n => n⟩
theorem Tryz.laysM171 : Go.Proofs.LaysM.n171 Tryz.prog Tryz.laysM171_ren := {
  mixed := by kernel_rfl
  f129 := Tryz.func156.trans (congrArg some (by kernel_rfl))
  f171 := Tryz.func94.trans (congrArg some (by kernel_rfl))
  f243 := Tryz.func117.trans (congrArg some (by kernel_rfl))
  f246 := Tryz.func135.trans (congrArg some (by kernel_rfl))
  f283 := Tryz.func147.trans (congrArg some (by kernel_rfl))
  f284 := Tryz.func148.trans (congrArg some (by kernel_rfl))
  f285 := Tryz.func149.trans (congrArg some (by kernel_rfl))
  f286 := Tryz.func150.trans (congrArg some (by kernel_rfl))
  f317 := Tryz.func155.trans (congrArg some (by kernel_rfl))
  f318 := Tryz.func157.trans (congrArg some (by kernel_rfl))
  f319 := Tryz.func158.trans (congrArg some (by kernel_rfl))
  f320 := Tryz.func159.trans (congrArg some (by kernel_rfl))
  f337 := Tryz.func162.trans (congrArg some (by kernel_rfl))
  f338 := Tryz.func163.trans (congrArg some (by kernel_rfl))
  t0 := Tryz.underlying0
  a0 := Tryz.isAgg0
  z0 := Tryz.sizeOf0
  v0 := Tryz.zeroValue0
  t2 := Tryz.underlying2
  a2 := Tryz.isAgg2
  z2 := Tryz.sizeOf2
  v2 := Tryz.zeroValue2
  t3 := Tryz.underlying3
  a3 := Tryz.isAgg3
  z3 := Tryz.sizeOf3
  v3 := Tryz.zeroValue3
  t4 := Tryz.underlying4
  a4 := Tryz.isAgg4
  z4 := Tryz.sizeOf4
  v4 := Tryz.zeroValue4
  t5 := Tryz.underlying5
  a5 := Tryz.isAgg5
  z5 := Tryz.sizeOf5
  v5 := Tryz.zeroValue5
  t9 := Tryz.underlying9
  a9 := Tryz.isAgg9
  z9 := Tryz.sizeOf9
  v9 := Tryz.zeroValue9
  t20 := Tryz.underlying20
  a20 := Tryz.isAgg20
  z20 := Tryz.sizeOf20
  v20 := Tryz.zeroValue20
  t37 := Tryz.underlying94
  a37 := Tryz.isAgg94
  z37 := Tryz.sizeOf94
  v37 := Tryz.zeroValue94
  t46 := Tryz.underlying192
  a46 := Tryz.isAgg192
  z46 := Tryz.sizeOf192
  v46 := Tryz.zeroValue192
  t51 := Tryz.underlying190
  a51 := Tryz.isAgg190
  z51 := Tryz.sizeOf190
  v51 := Tryz.zeroValue190
  t53 := Tryz.underlying189
  a53 := Tryz.isAgg189
  z53 := Tryz.sizeOf189
  v53 := Tryz.zeroValue189
  t171 := Tryz.underlying213
  a171 := Tryz.isAgg213
  z171 := Tryz.sizeOf213
  v171 := Tryz.zeroValue213
  t173 := Tryz.underlying216
  a173 := Tryz.isAgg216
  z173 := Tryz.sizeOf216
  v173 := Tryz.zeroValue216
  t212 := Tryz.underlying223
  a212 := Tryz.isAgg223
  z212 := Tryz.sizeOf223
  v212 := Tryz.zeroValue223
  t213 := Tryz.underlying224
  a213 := Tryz.isAgg224
  z213 := Tryz.sizeOf224
  t232 := Tryz.underlying231
  a232 := Tryz.isAgg231
  z232 := Tryz.sizeOf231
  v232 := Tryz.zeroValue231
  t233 := Tryz.underlying232
  a233 := Tryz.isAgg232
  z233 := Tryz.sizeOf232
  v233 := Tryz.zeroValue232
  g17 := by kernel_rfl
  g18 := by kernel_rfl
  g19 := by kernel_rfl
  i0 := by kernel_rfl
  i2 := by kernel_rfl
  i3 := by kernel_rfl
  i4 := by kernel_rfl
  i5 := by kernel_rfl
  i9 := by kernel_rfl
  i20 := by kernel_rfl
  i37 := by kernel_rfl
  i46 := by kernel_rfl
  i51 := by kernel_rfl
  i53 := by kernel_rfl
  i171 := by kernel_rfl
  i173 := by kernel_rfl
  i212 := by kernel_rfl
  i232 := by kernel_rfl
  i233 := by kernel_rfl
  m17 := by kernel_rfl
  m18 := by kernel_rfl
  m19 := by kernel_rfl }
open Go.RowKit Go.Sort Go.Lib in
theorem Tryz.strconv_Itoa (n : Int) (h0 : -9223372036854775808 ≤ n) (h1 : n ≤ 9223372036854775807) (w : World) (htab : Lib.TabIs Tryz.prog w "internal/strconv.uint64pow10" .u64 Lib.pow10Tab) :
    Calls Tryz.prog 94 #[.int .i64 n] w fun e w' => e = .returned (.string ⟨(Lib.itoa n).toArray⟩) ∧ ∃ k os, w' = grow (w.drewN k) os := Any.strconv_Itoa Tryz.laysM171 n h0 h1 w htab
end Go.Proofs

namespace Go.Proofs.YtlfmfhmbkpnjbaaGreatDoor
open Go.RowKit

theorem Kept.of_below {w w' : World} (h : Below w.heap.size w w') : Kept (fun _ => False) w w' := ⟨h.os, h.tape, h.output, h.size, fun k hk _ => h.block k hk⟩
theorem Kept.grow (w : World) (os : Array Obj) : Kept (fun _ => False) w (Go.Sort.grow w os) := ⟨rfl, rfl, rfl, by simp [Go.Sort.grow], fun k hk _ => by simp only [Go.Sort.grow]; exact Array.getElem?_append_left hk⟩

/-- The library's tables that are asked. -/
structure Tabs (w : World) : Prop where
  four : Tab4 w
  pow : Lib.TabIs Tryz.prog w "internal/strconv.uint64pow10" .u64 Lib.pow10Tab
theorem pow_named : Tryz.prog.globalNamed "internal/strconv.uint64pow10" = some 4 := by kernel_rfl
theorem Tabs.keep {w w' : World} {S : Nat → Prop} (h : Tabs w) (k : Kept S w w') (h1 : ¬ S 6) (h2 : ¬ S 4) : Tabs w' := by
  have hp : ∃ cs T fz, w.heap[4]? = some (.cells cs T fz) := by
    have := h.pow
    unfold Lib.TabIs World.var? at this
    rw [pow_named] at this
    simp only [Option.bind_some] at this
    split at this
    · rename_i cs a b e; exact ⟨cs, a, b, e⟩
    · cases this
  obtain ⟨cs, T, fz, hc⟩ := hp
  refine ⟨?_, ?_⟩
  · show _ = _
    rw [cell_keep k (World.block_lt_of_cell? w ⟨6, 15, none⟩ h.four) h1]; exact h.four
  · have := h.pow
    unfold Lib.TabIs World.var? at this ⊢
    rw [pow_named] at this ⊢
    simp only [Option.bind_some] at this ⊢
    rw [k.block _ (heap_lt hc) h2]; exact this
theorem Tabs.pow_lt {w : World} (h : Tabs w) : 4 < w.heap.size := by
  have := h.pow
  unfold Lib.TabIs World.var? at this
  rw [pow_named] at this
  simp only [Option.bind_some] at this
  split at this
  · rename_i cs a b e; exact heap_lt e
  · cases this
theorem Tabs.calm {w w' : World} (h : Tabs w) (k : Kept (fun _ => False) w w') : Tabs w' := h.keep k (fun e => e) (fun e => e)

/-- Words. -/
def itoaW (n : Int) : ByteArray := ⟨(Lib.itoa n).toArray⟩
def hexW (x : Nat) : ByteArray := ⟨(hexL (x % 18446744073709551616)).toArray⟩

set_option maxHeartbeats 1000000 in
set_option maxRecDepth 100000 in
theorem intWord_c (n : Int) (w : World) (h0 : -9223372036854775808 ≤ n ∧ n ≤ 9223372036854775807) (h : Tabs w) :
    Calls Tryz.prog 64 #[.int .i64 n] w fun e w' => e = .returned (.string (itoaW n)) ∧ Kept (fun _ => False) w w' := by
  go_enter Tryz.func64, Tryz.ntmps64
  go_wp2_with fail
  refine (Tryz.strconv_Itoa n h0.1 h0.2 w h.pow).mono ?_
  rintro e w1 ⟨rfl, k, os, rfl⟩
  have K1 := hide ((Kept.drewN w k).calm2 (Kept.grow (w.drewN k) os))
  generalize Go.Sort.grow (w.drewN k) os = w1 at *
  go_wp2
  go_ret
  exact ⟨rfl, K1.out⟩

theorem hexWord_c (x : Nat) (w : World) (h : Tabs w) :
    Calls Tryz.prog 95 #[.float .f32 x] w fun e w' => e = .returned (.string (hexW x)) ∧ Kept (fun _ => False) w w' := floatWord_c x w h.four

def rowS (l : List ByteArray) : List Value := l.map Value.string
/-- Words that stand in a block of their own. -/
def HasW (w : World) (g : Nat) (l : List ByteArray) : Prop := w.heap[g]? = some (.cells (rowS l).toArray 9 (0, 0))

/-- The words of a command. -/
def cmdW (c : Cmd) : List ByteArray :=
  if c.kind = 1 then [itoaW c.kind, itoaW c.id, itoaW c.team, hexW c.x, hexW c.y]
  else if c.kind = 2 then [itoaW c.kind, itoaW c.id, hexW c.x, hexW c.y]
  else if c.kind = 3 then [itoaW c.kind, itoaW c.id, itoaW c.n]
  else if c.kind = 4 then [itoaW c.kind, itoaW c.id]
  else [itoaW c.kind]

/-- A command whose numbers are ints. -/
structure IntC (c : Cmd) : Prop where
  kind : -9223372036854775808 ≤ c.kind ∧ c.kind ≤ 9223372036854775807
  id : -9223372036854775808 ≤ c.id ∧ c.id ≤ 9223372036854775807
  team : -9223372036854775808 ≤ c.team ∧ c.team ≤ 9223372036854775807
  n : -9223372036854775808 ≤ c.n ∧ c.n ≤ 9223372036854775807
/-- Its numbers with a point are words of 32 bits. -/
structure F32C (c : Cmd) : Prop where
  x : c.x < 4294967296
  y : c.y < 4294967296


set_option maxHeartbeats 2000000 in
set_option maxRecDepth 100000 in
theorem cmdW_c (c : Cmd) (w : World) (hI : IntC c) (h : Tabs w) :
    Calls Tryz.prog 66 #[.agg #[.int .i64 c.kind, .int .i64 c.id, .int .i64 c.team, .float .f32 c.x, .float .f32 c.y, .int .i64 c.n]] w fun e w' =>
      ∃ g, e = .returned (.slice (some ⟨g, 0, none⟩) (cmdW c).length (cmdW c).length) ∧ w.heap.size ≤ g ∧ HasW w' g (cmdW c) ∧ Kept (fun _ => False) w w' := by
  have HT := hide h
  have HI := hide hI
  clear h hI
  have K0 := hide (Kept.alloc w (.cells #[.int .i64 c.kind, .int .i64 c.id, .int .i64 c.team, .float .f32 c.x, .float .f32 c.y, .int .i64 c.n] 57))
  have HN := hide (heap_alloc_new w (.cells #[.int .i64 c.kind, .int .i64 c.id, .int .i64 c.team, .float .f32 c.x, .float .f32 c.y, .int .i64 c.n] 57))
  go_enter Tryz.func66, Tryz.ntmps66
  go_wp2
  generalize w.alloc (.cells #[.int .i64 c.kind, .int .i64 c.id, .int .i64 c.team, .float .f32 c.x, .float .f32 c.y, .int .i64 c.n] 57) = wa at *
  have hb := heap_lt HN.out
  have CE : Hid (∀ w', Kept (fun _ => False) wa w' → w'.cell? ⟨w.heap.size, 0, none⟩ = some (.int .i64 c.kind) ∧ w'.cell? ⟨w.heap.size, 1, none⟩ = some (.int .i64 c.id) ∧ w'.cell? ⟨w.heap.size, 2, none⟩ = some (.int .i64 c.team) ∧ w'.cell? ⟨w.heap.size, 3, none⟩ = some (.float .f32 c.x) ∧ w'.cell? ⟨w.heap.size, 4, none⟩ = some (.float .f32 c.y) ∧ w'.cell? ⟨w.heap.size, 5, none⟩ = some (.int .i64 c.n)) := fun w' hk => six_cells (show w'.heap[w.heap.size]? = some _ by rw [hk.block _ hb (fun e => e)]; exact HN.out)
  obtain ⟨s0, s1, s2, s3, s4, s5⟩ := CE.out wa (Kept.refl _ _)
  go_region_held3 (fun w' => w'.cell? ⟨w.heap.size, 0, none⟩ = some (.int .i64 c.kind) ∧ w'.cell? ⟨w.heap.size, 1, none⟩ = some (.int .i64 c.id)) (go_keep)
    (first
      | (go_at_call 64; refine (intWord_c c.kind _ HI.out.kind (HT.out.calm (K0.out.calm2 (Kept.drew wa)))).mono ?_; rintro e w1 ⟨rfl, qw1⟩; have Kw1 := hide ((Kept.drew wa).calm2 qw1); clear qw1; obtain ⟨w1a, w1b, w1c, w1d, w1e, w1f⟩ := CE.out w1 Kw1.out)
      | (go_at_call 64; refine (intWord_c c.id _ HI.out.id (HT.out.calm (K0.out.calm2 Kw1.out))).mono ?_; rintro e w2 ⟨rfl, qw2⟩; have Kw2 := hide (Kw1.out.calm2 qw2); clear qw2; obtain ⟨w2a, w2b, w2c, w2d, w2e, w2f⟩ := CE.out w2 Kw2.out))
  clear s0 s1 s2 s3 s4 s5
  clear w1a w1b w1c w1d w1e w1f
  have hs2 := Kw2.out.size
  have hs0 := K0.out.size
  by_cases h1 : c.kind = 1
  · have e1 : (c.kind == 1) = true := by simp [h1]
    have HW : Hid (cmdW c = [itoaW c.kind, itoaW c.id, itoaW c.team, hexW c.x, hexW c.y]) := by show _ = _; unfold cmdW; rw [if_pos h1]
    clear h1
    go_wp2
    go_region_held3 (fun w' => w'.cell? ⟨w.heap.size, 2, none⟩ = some (.int .i64 c.team) ∧ w'.cell? ⟨w.heap.size, 3, none⟩ = some (.float .f32 c.x) ∧ w'.cell? ⟨w.heap.size, 4, none⟩ = some (.float .f32 c.y)) (go_keep)
      (first
      | (go_at_call 64; refine (intWord_c c.team _ HI.out.team (HT.out.calm (K0.out.calm2 (Kw2.out.calm2 (Kept.drew w2))))).mono ?_; rintro e w3 ⟨rfl, qw3⟩; have Kw3 := hide ((Kw2.out.calm2 (Kept.drew w2)).calm2 qw3); clear qw3; obtain ⟨w3a, w3b, w3c, w3d, w3e, w3f⟩ := CE.out w3 Kw3.out)
      | (go_at_call 95; refine (hexWord_c c.x _ (HT.out.calm (K0.out.calm2 Kw3.out))).mono ?_; rintro e w4 ⟨rfl, qw4⟩; have Kw4 := hide (Kw3.out.calm2 qw4); clear qw4; obtain ⟨w4a, w4b, w4c, w4d, w4e, w4f⟩ := CE.out w4 Kw4.out)
      | (go_at_call 95; refine (hexWord_c c.y _ (HT.out.calm (K0.out.calm2 Kw4.out))).mono ?_; rintro e w5 ⟨rfl, qw5⟩; have Kw5 := hide (Kw4.out.calm2 qw5); clear qw5; obtain ⟨w5a, w5b, w5c, w5d, w5e, w5f⟩ := CE.out w5 Kw5.out))
    clear w2a w2b w2c w2d w2e w2f w3a w3b w3c w3d w3e w3f w4a w4b w4c w4d w4e w4f w5a w5b w5c w5d w5e w5f
    have hs5 := Kw5.out.size
    go_wp2
    go_ret
    rw [HW.out]
    exact ⟨w5.heap.size, rfl, by omega, heap_alloc_new w5 _, (K0.out.calm2 Kw5.out).calm2 (Kept.alloc w5 _)⟩
  · have e1 : (c.kind == 1) = false := by simp [h1]
    by_cases h2 : c.kind = 2
    · have e2 : (c.kind == 2) = true := by simp [h2]
      have HW : Hid (cmdW c = [itoaW c.kind, itoaW c.id, hexW c.x, hexW c.y]) := by show _ = _; unfold cmdW; rw [if_neg h1, if_pos h2]
      clear h1 h2
      go_wp2
      go_region_held3 (fun w' => w'.cell? ⟨w.heap.size, 3, none⟩ = some (.float .f32 c.x) ∧ w'.cell? ⟨w.heap.size, 4, none⟩ = some (.float .f32 c.y)) (go_keep)
        (first
      | (go_at_call 95; refine (hexWord_c c.x _ (HT.out.calm (K0.out.calm2 (Kw2.out.calm2 (Kept.drew w2))))).mono ?_; rintro e w3 ⟨rfl, qw3⟩; have Kw3 := hide ((Kw2.out.calm2 (Kept.drew w2)).calm2 qw3); clear qw3; obtain ⟨w3a, w3b, w3c, w3d, w3e, w3f⟩ := CE.out w3 Kw3.out)
      | (go_at_call 95; refine (hexWord_c c.y _ (HT.out.calm (K0.out.calm2 Kw3.out))).mono ?_; rintro e w4 ⟨rfl, qw4⟩; have Kw4 := hide (Kw3.out.calm2 qw4); clear qw4; obtain ⟨w4a, w4b, w4c, w4d, w4e, w4f⟩ := CE.out w4 Kw4.out))
      clear w2a w2b w2c w2d w2e w2f w3a w3b w3c w3d w3e w3f w4a w4b w4c w4d w4e w4f
      have hs5 := Kw4.out.size
      go_wp2
      go_ret
      rw [HW.out]
      exact ⟨w4.heap.size, rfl, by omega, heap_alloc_new w4 _, (K0.out.calm2 Kw4.out).calm2 (Kept.alloc w4 _)⟩
    · have e2 : (c.kind == 2) = false := by simp [h2]
      by_cases h3 : c.kind = 3
      · have e3 : (c.kind == 3) = true := by simp [h3]
        have HW : Hid (cmdW c = [itoaW c.kind, itoaW c.id, itoaW c.n]) := by show _ = _; unfold cmdW; rw [if_neg h1, if_neg h2, if_pos h3]
        clear h1 h2 h3
        go_wp2_with fail
        refine (intWord_c c.n w2 HI.out.n (HT.out.calm (K0.out.calm2 Kw2.out))).mono ?_
        rintro e w3 ⟨rfl, q3⟩
        have K3 := hide (Kw2.out.calm2 q3)
        clear q3
        clear w2a w2b w2c w2d w2e w2f
        have hs5 := K3.out.size
        go_wp2
        go_ret
        rw [HW.out]
        exact ⟨w3.heap.size, rfl, by omega, heap_alloc_new w3 _, (K0.out.calm2 K3.out).calm2 (Kept.alloc w3 _)⟩
      · have e3 : (c.kind == 3) = false := by simp [h3]
        by_cases h4 : c.kind = 4
        · have e4 : (c.kind == 4) = true := by simp [h4]
          have HW : Hid (cmdW c = [itoaW c.kind, itoaW c.id]) := by show _ = _; unfold cmdW; rw [if_neg h1, if_neg h2, if_neg h3, if_pos h4]
          clear h1 h2 h3 h4
          go_wp2
          go_ret
          rw [HW.out]
          exact ⟨w2.heap.size, rfl, by omega, heap_alloc_new w2 _, (K0.out.calm2 Kw2.out).calm2 (Kept.alloc w2 _)⟩
        · have e4 : (c.kind == 4) = false := by simp [h4]
          have HW : Hid (cmdW c = [itoaW c.kind]) := by show _ = _; unfold cmdW; rw [if_neg h1, if_neg h2, if_neg h3, if_neg h4]
          clear h1 h2 h3 h4
          go_wp2
          go_ret
          rw [HW.out]
          exact ⟨w2.heap.size, rfl, by omega, heap_alloc_new w2 _, (K0.out.calm2 Kw2.out).calm2 (Kept.alloc w2 _)⟩

/-- The words of an entity. -/
def entW (m : Mob) : List ByteArray := [itoaW m.id, itoaW m.team, hexW m.x, hexW m.y, hexW m.vx, hexW m.vy, itoaW m.health]
structure IntM (m : Mob) : Prop where
  id : -9223372036854775808 ≤ m.id ∧ m.id ≤ 9223372036854775807
  team : -9223372036854775808 ≤ m.team ∧ m.team ≤ 9223372036854775807
  health : -9223372036854775808 ≤ m.health ∧ m.health ≤ 9223372036854775807

set_option maxHeartbeats 4000000 in
set_option maxRecDepth 100000 in
theorem entW_c (m : Mob) (w : World) (hI : IntM m) (h : Tabs w) :
    Calls Tryz.prog 67 #[.agg #[.int .i64 m.id, .int .i64 m.team, .float .f32 m.x, .float .f32 m.y, .float .f32 m.vx, .float .f32 m.vy, .int .i64 m.health]] w fun e w' =>
      ∃ g, e = .returned (.slice (some ⟨g, 0, none⟩) (entW m).length (entW m).length) ∧ w.heap.size ≤ g ∧ HasW w' g (entW m) ∧ Kept (fun _ => False) w w' := by
  have HT := hide h
  have HI := hide hI
  clear h hI
  have K0 := hide (Kept.alloc w (.cells #[.int .i64 m.id, .int .i64 m.team, .float .f32 m.x, .float .f32 m.y, .float .f32 m.vx, .float .f32 m.vy, .int .i64 m.health] 83))
  have HN := hide (heap_alloc_new w (.cells #[.int .i64 m.id, .int .i64 m.team, .float .f32 m.x, .float .f32 m.y, .float .f32 m.vx, .float .f32 m.vy, .int .i64 m.health] 83))
  go_enter Tryz.func67, Tryz.ntmps67
  go_wp2
  generalize w.alloc (.cells #[.int .i64 m.id, .int .i64 m.team, .float .f32 m.x, .float .f32 m.y, .float .f32 m.vx, .float .f32 m.vy, .int .i64 m.health] 83) = wa at *
  have hb := heap_lt HN.out
  have CE : Hid (∀ w', Kept (fun _ => False) wa w' → w'.cell? ⟨w.heap.size, 0, none⟩ = some (.int .i64 m.id) ∧ w'.cell? ⟨w.heap.size, 1, none⟩ = some (.int .i64 m.team) ∧ w'.cell? ⟨w.heap.size, 2, none⟩ = some (.float .f32 m.x) ∧ w'.cell? ⟨w.heap.size, 3, none⟩ = some (.float .f32 m.y) ∧ w'.cell? ⟨w.heap.size, 4, none⟩ = some (.float .f32 m.vx) ∧ w'.cell? ⟨w.heap.size, 5, none⟩ = some (.float .f32 m.vy) ∧ w'.cell? ⟨w.heap.size, 6, none⟩ = some (.int .i64 m.health)) := fun w' hk => seven_cells (show w'.heap[w.heap.size]? = some _ by rw [hk.block _ hb (fun e => e)]; exact HN.out)
  obtain ⟨s0, s1, s2, s3, s4, s5, s6⟩ := CE.out wa (Kept.refl _ _)
  go_region_held3 (fun w' => w'.cell? ⟨w.heap.size, 0, none⟩ = some (.int .i64 m.id) ∧ w'.cell? ⟨w.heap.size, 1, none⟩ = some (.int .i64 m.team) ∧ w'.cell? ⟨w.heap.size, 2, none⟩ = some (.float .f32 m.x) ∧ w'.cell? ⟨w.heap.size, 3, none⟩ = some (.float .f32 m.y) ∧ w'.cell? ⟨w.heap.size, 4, none⟩ = some (.float .f32 m.vx) ∧ w'.cell? ⟨w.heap.size, 5, none⟩ = some (.float .f32 m.vy) ∧ w'.cell? ⟨w.heap.size, 6, none⟩ = some (.int .i64 m.health)) (go_keep)
    (first
      | (go_at_call 64; refine (intWord_c m.id _ HI.out.id (HT.out.calm (K0.out.calm2 (Kept.drew wa)))).mono ?_; rintro e w1 ⟨rfl, qw1⟩; have Kw1 := hide ((Kept.drew wa).calm2 qw1); clear qw1; obtain ⟨w1a, w1b, w1c, w1d, w1e, w1f, w1g⟩ := CE.out w1 Kw1.out)
      | (go_at_call 64; refine (intWord_c m.team _ HI.out.team (HT.out.calm (K0.out.calm2 Kw1.out))).mono ?_; rintro e w2 ⟨rfl, qw2⟩; have Kw2 := hide (Kw1.out.calm2 qw2); clear qw2; obtain ⟨w2a, w2b, w2c, w2d, w2e, w2f, w2g⟩ := CE.out w2 Kw2.out)
      | (go_at_call 95; refine (hexWord_c m.x _ (HT.out.calm (K0.out.calm2 Kw2.out))).mono ?_; rintro e w3 ⟨rfl, qw3⟩; have Kw3 := hide (Kw2.out.calm2 qw3); clear qw3; obtain ⟨w3a, w3b, w3c, w3d, w3e, w3f, w3g⟩ := CE.out w3 Kw3.out)
      | (go_at_call 95; refine (hexWord_c m.y _ (HT.out.calm (K0.out.calm2 Kw3.out))).mono ?_; rintro e w4 ⟨rfl, qw4⟩; have Kw4 := hide (Kw3.out.calm2 qw4); clear qw4; obtain ⟨w4a, w4b, w4c, w4d, w4e, w4f, w4g⟩ := CE.out w4 Kw4.out)
      | (go_at_call 95; refine (hexWord_c m.vx _ (HT.out.calm (K0.out.calm2 Kw4.out))).mono ?_; rintro e w5 ⟨rfl, qw5⟩; have Kw5 := hide (Kw4.out.calm2 qw5); clear qw5; obtain ⟨w5a, w5b, w5c, w5d, w5e, w5f, w5g⟩ := CE.out w5 Kw5.out)
      | (go_at_call 95; refine (hexWord_c m.vy _ (HT.out.calm (K0.out.calm2 Kw5.out))).mono ?_; rintro e w6 ⟨rfl, qw6⟩; have Kw6 := hide (Kw5.out.calm2 qw6); clear qw6; obtain ⟨w6a, w6b, w6c, w6d, w6e, w6f, w6g⟩ := CE.out w6 Kw6.out)
      | (go_at_call 64; refine (intWord_c m.health _ HI.out.health (HT.out.calm (K0.out.calm2 Kw6.out))).mono ?_; rintro e w7 ⟨rfl, qw7⟩; have Kw7 := hide (Kw6.out.calm2 qw7); clear qw7; obtain ⟨w7a, w7b, w7c, w7d, w7e, w7f, w7g⟩ := CE.out w7 Kw7.out))
  clear s0 s1 s2 s3 s4 s5 s6
  clear w1a w1b w1c w1d w1e w1f w1g
  clear w2a w2b w2c w2d w2e w2f w2g
  clear w3a w3b w3c w3d w3e w3f w3g
  clear w4a w4b w4c w4d w4e w4f w4g
  clear w5a w5b w5c w5d w5e w5f w5g
  clear w6a w6b w6c w6d w6e w6f w6g
  clear w7a w7b w7c w7d w7e w7f w7g
  have hs7 := Kw7.out.size
  have hs0 := K0.out.size
  go_wp2
  go_ret
  exact ⟨w7.heap.size, rfl, by omega, heap_alloc_new w7 _, (K0.out.calm2 Kw7.out).calm2 (Kept.alloc w7 _)⟩
end Go.Proofs.YtlfmfhmbkpnjbaaGreatDoor

namespace Go.Proofs.YtlfmfhmbkpnjbaaGreatDoor
open Go.RowKit

theorem decDigits_short (k u : Nat) (hk : 1 ≤ k) (h : u < 10 ^ k) : (Lib.decDigits u).length ≤ k := by
  induction k generalizing u with
  | zero => omega
  | succ k ih =>
    rw [Lib.decDigits]
    split
    · simp
    · rename_i hu
      have hk' : 1 ≤ k := by
        by_cases e : 1 ≤ k
        · exact e
        · have : k = 0 := by omega
          subst this
          simp at h
          omega
      have := ih (u / 10) hk' (Nat.div_lt_of_lt_mul (by rw [Nat.pow_succ, Nat.mul_comm] at h; exact h))
      simp
      omega
theorem hexL_short (k u : Nat) (hk : 1 ≤ k) (h : u < 16 ^ k) : (hexL u).length ≤ k := by
  induction k generalizing u with
  | zero => omega
  | succ k ih =>
    rw [hexL]
    split
    · simp
    · rename_i hu
      have hk' : 1 ≤ k := by
        by_cases e : 1 ≤ k
        · exact e
        · have : k = 0 := by omega
          subst this
          simp at h
          omega
      have := ih (u / 16) hk' (Nat.div_lt_of_lt_mul (by rw [Nat.pow_succ, Nat.mul_comm] at h; exact h))
      simp
      omega

/-- A word is short. -/
def Short (x : ByteArray) : Prop := x.data.toList.length ≤ 24
theorem itoaW_short (n : Int) (h : -9223372036854775808 ≤ n ∧ n ≤ 9223372036854775807) : Short (itoaW n) := by
  unfold Short itoaW Lib.itoa
  simp only
  split
  · have := decDigits_short 20 n.natAbs (by decide) (by
      have h1 : n.natAbs < 10000000000000000000 := by omega
      exact Nat.lt_of_lt_of_le h1 (by decide))
    simp
    omega
  · have := decDigits_short 20 n.toNat (by decide) (by
      have h1 : n.toNat < 10000000000000000000 := by omega
      exact Nat.lt_of_lt_of_le h1 (by decide))
    simp
    omega
theorem hexW_short (x : Nat) : Short (hexW x) := by
  unfold Short hexW
  have := hexL_short 16 (x % 18446744073709551616) (by decide) (Nat.mod_lt _ (by decide))
  simp
  omega
theorem cmdW_short (c : Cmd) (h : IntC c) : ∀ x ∈ cmdW c, Short x := by
  have h1 := itoaW_short c.kind h.kind
  have h2 := itoaW_short c.id h.id
  have h3 := itoaW_short c.team h.team
  have h4 := itoaW_short c.n h.n
  have h5 := hexW_short c.x
  have h6 := hexW_short c.y
  unfold cmdW
  split
  · simp [h1, h2, h3, h5, h6]
  · split
    · simp [h1, h2, h5, h6]
    · split
      · simp [h1, h2, h4]
      · split
        · simp [h1, h2]
        · simp [h1]
theorem entW_short (m : Mob) (h : IntM m) : ∀ x ∈ entW m, Short x := by
  have h1 := itoaW_short m.id h.id
  have h2 := itoaW_short m.team h.team
  have h3 := itoaW_short m.health h.health
  unfold entW
  simp [h1, h2, h3, hexW_short]
theorem cmdW_few (c : Cmd) : (cmdW c).length ≤ 5 := by
  unfold cmdW
  split
  · simp
  · split
    · simp
    · split
      · simp
      · split <;> simp

theorem cmdW_pos (c : Cmd) : 0 < (cmdW c).length := by
  unfold cmdW
  split
  · simp
  · split
    · simp
    · split
      · simp
      · split <;> simp

/-- A line. -/
def lineL (xs : List ByteArray) : List UInt8 := Lib.join (xs.map (·.data.toList)) [32] ++ [10]
theorem join_short (xs : List ByteArray) (h : ∀ x ∈ xs, Short x) : (Lib.join (xs.map (·.data.toList)) [32]).length ≤ xs.length * 25 := by
  cases xs with
  | nil => simp [Lib.join_nil]
  | cons x r =>
    rw [List.map_cons, Lib.join_cons, List.length_append]
    have hx : x.data.toList.length ≤ 24 := h x (by simp)
    have hr : (Lib.joinTail [32] (r.map (·.data.toList))).length ≤ r.length * 25 := by
      have hr' : ∀ y ∈ r, Short y := fun y hy => h y (by simp [hy])
      clear h hx
      unfold Lib.joinTail
      induction r with
      | nil => simp
      | cons y q ih =>
        have hy : y.data.toList.length ≤ 24 := hr' y (by simp)
        have := ih (fun z hz => hr' z (by simp [hz]))
        simp only [List.map_cons, List.flatten_cons, List.length_append, List.length_cons, List.length_nil] at this ⊢
        omega
    simp only [List.length_cons]
    omega

theorem rowS_length (l : List ByteArray) : (rowS l).length = l.length := by simp [rowS]
theorem rowS_append (a b : List ByteArray) : rowS (a ++ b) = rowS a ++ rowS b := by simp [rowS]
theorem rowS_one (l : List ByteArray) : ∀ u ∈ rowS l, u.oneCell' = true := by
  intro u hu
  simp only [rowS, List.mem_map] at hu
  obtain ⟨x, _, rfl⟩ := hu
  rfl
theorem info_str : (Tryz.prog.info? 9).map (fun i => (i.zero, i.size, i.bytes)) = some (some (.string ⟨#[]⟩), 1, 16) := by kernel_rfl

theorem ba_append (a b : List UInt8) : (⟨a.toArray⟩ : ByteArray) ++ ⟨b.toArray⟩ = ⟨(a ++ b).toArray⟩ := by
  apply ByteArray.ext
  simp [ByteArray.data_append]

set_option maxHeartbeats 1000000 in
set_option maxRecDepth 100000 in
theorem line_c (g cap : Nat) (xs : List ByteArray) (w : World) (h : ∀ j x, xs[j]? = some x → w.cell? ⟨g, j, none⟩ = some (.string x)) (hg : g < w.heap.size) (hn : xs.length ≤ 1000) (hcap : xs.length ≤ cap) (hs : ∀ x ∈ xs, Short x) :
    Calls Tryz.prog 63 #[.slice (some ⟨g, 0, none⟩) xs.length cap] w fun e w' => e = .returned (.string ⟨(lineL xs).toArray⟩) ∧ Kept (fun _ => False) w w' := by
  have hj := join_short xs hs
  have HJ := hide (Tryz.strings_Join g 0 cap xs ⟨#[32]⟩ w (fun j x hx => by rw [Nat.zero_add]; exact h j x hx) hg (by omega) hcap (by show (Lib.join (xs.map (·.data.toList)) [32]).length ≤ _; omega))
  go_enter Tryz.func63, Tryz.ntmps63
  go_wp2_with fail
  refine HJ.out.mono ?_
  rintro e w1 ⟨rfl, b1⟩
  have K1 := hide (Kept.of_below b1)
  clear b1 HJ
  go_wp2
  go_ret
  exact ⟨ret1 (congrArg Value.string (ba_append _ [10])), K1.out⟩

/-- The first line. -/
def firstW (ev : Int) : List ByteArray := [⟨#[101, 110, 99, 111, 114, 101]⟩, itoaW ev]

set_option maxHeartbeats 1000000 in
set_option maxRecDepth 100000 in
theorem firstLine_c (ev : Int) (w : World) (he : 1 ≤ ev ∧ ev ≤ 64) (h : Tabs w) :
    Calls Tryz.prog 36 #[.int .i64 ev] w fun e w' => e = .returned (.string ⟨(lineL (firstW ev)).toArray⟩) ∧ Kept (fun _ => False) w w' := by
  go_enter Tryz.func36, Tryz.ntmps36
  go_wp2_with fail
  refine (intWord_c ev w (by omega) h).mono ?_
  rintro e w1 ⟨rfl, k1⟩
  have K1 := hide k1
  clear k1
  have HB := heap_alloc_new w1 (.cells (rowS (firstW ev)).toArray 9)
  have HL := hide (line_c w1.heap.size 2 (firstW ev) (w1.alloc (.cells (rowS (firstW ev)).toArray 9)) (fun j x hx => by rw [cell_block HB]; simp [rowS, hx]) (by simp) (by simp [firstW]) (by simp [firstW]) (by
    intro x hx
    simp only [firstW, List.mem_cons, List.not_mem_nil, or_false] at hx
    rcases hx with rfl | rfl
    · show (6 : Nat) ≤ 24; decide
    · exact itoaW_short ev (by omega)))
  have K2 := hide (K1.out.calm2 (Kept.alloc w1 (.cells (rowS (firstW ev)).toArray 9)))
  clear HB
  go_wp2_with fail
  refine HL.out.mono ?_
  rintro e w2 ⟨rfl, k2⟩
  have K3 := hide (K2.out.calm2 k2)
  clear k2 HL
  go_wp2
  go_ret
  exact ⟨rfl, K3.out⟩

/-- The words of a tick. -/
def headW (cs : List Cmd) : List ByteArray := itoaW cs.length :: cs.flatMap cmdW
def tickW (cs : List Cmd) (t : Int) (L : List Mob) (ev : Int) : List ByteArray := headW cs ++ (if t % ev = 0 then itoaW L.length :: L.flatMap entW else [])

theorem words_take {α : Type} (L : List α) (f : α → List ByteArray) (i : Nat) (hi : i < L.length) : (L.take (i + 1)).flatMap f = (L.take i).flatMap f ++ f L[i] := by
  rw [List.take_succ_eq_append_getElem hi, List.flatMap_append]
  simp
theorem words_len {α : Type} (L : List α) (f : α → List ByteArray) (k : Nat) (h : ∀ x ∈ L, (f x).length ≤ k) : (L.flatMap f).length ≤ L.length * k := by
  induction L with
  | nil => simp
  | cons x r ih =>
    have h1 := h x (by simp)
    have h2 := ih (fun y hy => h y (by simp [hy]))
    simp only [List.flatMap_cons, List.length_append, List.length_cons]
    rw [Nat.add_mul]
    omega

/-- Words of one's own. -/
def OwnS (w : World) (base g cap : Nat) (X : List ByteArray) : Prop := w.ownsRow base 9 1 (.slice (some ⟨g, 0, none⟩) X.length cap) X.length (rowS X)
theorem OwnS.keep {w w' : World} {S : Nat → Prop} {base g cap : Nat} {X : List ByteArray} (h : OwnS w base g cap X) (k : Kept S w w') (hS : ¬ S g) : OwnS w' base g cap X :=
  owns_block h (fun j hj => k.block j (owns_lt h j hj) (by cases hj; exact hS))
theorem OwnS.calm {w w' : World} {base g cap : Nat} {X : List ByteArray} (h : OwnS w base g cap X) (k : Kept (fun _ => False) w w') : OwnS w' base g cap X := h.keep k (fun e => e)
theorem OwnS.new (w : World) (base : Nat) (X : List ByteArray) (hb : base ≤ w.heap.size) (hn : X.length ≤ 1000) : OwnS (w.alloc (.cells (rowS X).toArray 9)) base w.heap.size X.length X :=
  ⟨by simp [rowS], Or.inr ⟨w.heap.size, X.length, (rowS X).toArray, rfl, hb, heap_alloc_new w _, Nat.le_refl _, by unfold maxLen; omega, by simp [rowS], by simp only [Nat.mul_one]; exact List.take_of_length_le (by simp [rowS])⟩⟩
theorem OwnS.cells {w : World} {base g cap : Nat} {X : List ByteArray} (h : OwnS w base g cap X) : (∀ j x, X[j]? = some x → w.cell? ⟨g, j, none⟩ = some (.string x)) ∧ g < w.heap.size ∧ X.length ≤ cap ∧ base ≤ g := by
  rcases h.2 with ⟨e, _⟩ | ⟨g', c', cur, e, hb, hh, hc, _, _, ht⟩
  · cases e
  · cases e
    refine ⟨fun j x hx => ?_, heap_lt hh, hc, hb⟩
    have h1 : (rowS X)[j]? = some (.string x) := by simp [rowS, hx]
    rw [← ht, List.getElem?_take] at h1
    split at h1
    · rw [cell_block hh]; simpa using h1
    · cases h1

/-- Words more. -/
theorem wpList_append_words (w : World) {ops : Array Oper} {rest : List Oper} {o : Oper} {a : Act} {Q : Exit → Act → World → Prop} (hgd : o.guard = none) (s x : Operand)
    (ho : o.op = .call { callee := .builtin .append, args := #[s, x], argTypes := #[139, 139] }) (base g cap : Nat) (X : List ByteArray) (hs : a.eval s = .slice (some ⟨g, 0, none⟩) X.length cap) (hown : OwnS w base g cap X)
    (g2 c2 : Nat) (Y : List ByteArray) (hx : a.eval x = .slice (some ⟨g2, 0, none⟩) Y.length c2) (hY : HasW w g2 Y) (hb : X.length + Y.length ≤ 1000) (hpos : 0 < Y.length) (hbase : base ≤ w.heap.size)
    (h : ∀ g' cap' w' R, Hid (R = X ++ Y) → Hid (OwnS w' base g' cap' R) → Hid (Kept (fun k => k = g) w w') → wpList Tryz.prog ops Q rest (a.put o.dst (.slice (some ⟨g', 0, none⟩) R.length cap')) w') :
    wpList Tryz.prog ops Q (o :: rest) a w := by
  obtain ⟨i0, hi, hz0, hz1, hz2⟩ := info_parts info_str
  refine wpList_append_at w hgd s x 139 ho base 9 i0 _ 1 16 Tryz.underlying139 hi hz0 hz1 hz2 rfl (by decide) _ X.length (rowS X) hs hown ⟨g2, 0, none⟩ Y.length c2 (rowS Y) hx (by simp [rowS]) (fun j u hu => by rw [addr_add2, Nat.zero_add, cell_block hY]; simpa using hu) (rowS_one Y) hpos (by unfold maxLen; omega) (by omega) hbase ?_
  intro g' cap' w' hown' hgr
  have e : (X ++ Y).length = X.length + Y.length := List.length_append
  have := h g' cap' w' (X ++ Y) rfl (by show World.ownsRow _ _ _ _ _ _ _; rw [e, rowS_append]; exact hown') ((Kept.of_grown hgr).mono (fun k _ e => by cases e; rfl) : Kept _ _ _)
  rw [e] at this
  exact this
end Go.Proofs.YtlfmfhmbkpnjbaaGreatDoor
