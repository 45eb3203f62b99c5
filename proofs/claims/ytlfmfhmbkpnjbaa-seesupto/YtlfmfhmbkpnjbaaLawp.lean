import Derived.Test.YtlfmfhmbkpnjbaaEqp
import Derived.Test.YtlfmfhmbkpnjbaaKey
import Derived.Test.YtlfmfhmbkpnjbaaRefok
namespace Go.Proofs.Ytlfmfhmbkpnjbaa
open Go.RowKit

/-- The mark of the list of a number. -/
def markM (k : Int) : Mob := { id := -1000 - k, team := 0, x := 0, y := 0, vx := 0, vy := 0, health := 7 }

set_option maxHeartbeats 400000 in
theorem badEntity_c (k : Int) (w : World) (hk : 0 ≤ k ∧ k ≤ 4611686018427387904) : Calls Try.prog 45 #[.int .i64 k] w fun e w' => e = .returned (.agg #[.int .i64 (-1000 - k), .int .i64 0, .float .f32 0, .float .f32 0, .float .f32 0, .float .f32 0, .int .i64 7]) ∧ Kept (fun _ => False) w w' := by
  have hsf := store_float Try.prog
  have hw : IntKind.i64.wrap (-1000 - k) = -1000 - k := wrap_id _ (by omega)
  go_enter Try.func45, Try.ntmps45
  go_wp2
  refine bodyPost_ret (v := .agg #[.int .i64 (-1000 - k), .int .i64 0, .float .f32 0, .float .f32 0, .float .f32 0, .float .f32 0, .int .i64 7]) (by simp [results, Try.results45, go_sem]) rfl ?_
  exact ⟨rfl, Kept.alloc w _⟩

/-- One number is like itself. -/
theorem like_self (x : Nat) (w : World) : Calls Try.prog 57 #[.float .f32 x, .float .f32 x] w fun e w' => e = .returned (.bool true) ∧ w' = w := by
  by_cases h : okV x
  · have h1 : (FloatKind.f32.format.order x x == some .eq) = true := by apply ford_beq; rw [ford_key h h, Int.compare_eq_eq.2 rfl]
    go_enter Try.func57, Try.ntmps57
    go_wp2
    go_ret
    exact ⟨rfl, rfl⟩
  · have h0 := nan_ord (c := x) h
    have h1 : (FloatKind.f32.format.order x x == some .eq) = false := by rw [h0]; rfl
    have h2 : (FloatKind.f32.format.order x x != some .eq) = true := by rw [h0]; rfl
    clear h0
    go_enter Try.func57, Try.ntmps57
    go_wp2
    go_ret
    exact ⟨rfl, rfl⟩

set_option maxHeartbeats 2000000 in
set_option maxRecDepth 100000 in
/-- Two worlds that are alike by the program's own equality. -/
theorem same_c (t : Int) (p p' : Option Addr) (cap cap' : Nat) (X : List Mob) (w : World) (h : Reads w p X) (h' : Reads w p' X) (hl : X.length ≤ 32) (he : ∀ m ∈ X, eqM m m = true) :
    Calls Try.prog 19 #[.agg #[.int .i64 t, .slice p X.length cap], .agg #[.int .i64 t, .slice p' X.length cap']] w fun e w' => e = .returned (.bool true) ∧ Kept (fun _ => False) w w' := by
  have HR := hide h
  have HR' := hide h'
  have HE := hide he
  clear h h' he
  have n0 : (t != t) = false := by simp
  have n1 : ((X.length : Int) != (X.length : Int)) = false := by simp
  have K0 := hide ((Kept.alloc w (.cells #[.int .i64 t, .slice p X.length cap] 40)).calm2 (Kept.alloc _ (.cells #[.int .i64 t, .slice p' X.length cap'] 40)))
  have A0 := hide (show ((w.alloc (.cells #[.int .i64 t, .slice p X.length cap] 40)).alloc (.cells #[.int .i64 t, .slice p' X.length cap'] 40)).heap[w.heap.size]? = some (.cells #[.int .i64 t, .slice p X.length cap] 40 (0, 0)) by rw [Below.heap_alloc _ _ _ (by simp)]; exact heap_alloc_new w _)
  have B0 : Hid (((w.alloc (.cells #[.int .i64 t, .slice p X.length cap] 40)).alloc (.cells #[.int .i64 t, .slice p' X.length cap'] 40)).heap[w.heap.size + 1]? = some (.cells #[.int .i64 t, .slice p' X.length cap'] 40 (0, 0))) := by
    have q := heap_alloc_new (w.alloc (.cells #[.int .i64 t, .slice p X.length cap] 40)) (.cells #[.int .i64 t, .slice p' X.length cap'] 40)
    rw [show (w.alloc (.cells #[.int .i64 t, .slice p X.length cap] 40)).heap.size = w.heap.size + 1 from by simp] at q
    exact q
  go_enter Try.func19, Try.ntmps19
  go_wp2
  generalize (w.alloc (.cells #[.int .i64 t, .slice p X.length cap] 40)).alloc (.cells #[.int .i64 t, .slice p' X.length cap'] 40) = W at *
  go_loopw [5] (fun a wr => ∃ i : Nat, i ≤ X.length ∧ a = .int .i64 i ∧ Hid (Kept (fun _ => False) W wr)) (fun a _ => X.length - (intOf a).toNat)
  case atStart => exact ⟨0, Nat.zero_le _, rfl, Kept.refl _ _⟩
  case round =>
    obtain ⟨i, hil, rfl, HK⟩ := hrel
    have AR : Hid (wr.heap[w.heap.size]? = some (.cells #[.int .i64 t, .slice p X.length cap] 40 (0, 0))) := by show _ = _; rw [HK.out.block _ (heap_lt A0.out) (fun e => e)]; exact A0.out
    have BR : Hid (wr.heap[w.heap.size + 1]? = some (.cells #[.int .i64 t, .slice p' X.length cap'] 40 (0, 0))) := by show _ = _; rw [HK.out.block _ (heap_lt B0.out) (fun e => e)]; exact B0.out
    obtain ⟨a0, a1, -, -⟩ := two_cells AR.out
    obtain ⟨b0, b1, -, -⟩ := two_cells BR.out
    have KW := hide (K0.out.calm2 HK.out)
    by_cases hlt : i < X.length
    · obtain ⟨b, off, hp, hb, c0, c1, c2, c3, c4, c5, c6⟩ := (HR.out.calm KW.out).at i hlt
      obtain ⟨b', off', hp', hb', d0, d1, d2, d3, d4, d5, d6⟩ := (HR'.out.calm KW.out).at i hlt
      have hne := neq_mob X[i] X[i]
      rw [HE.out X[i] (List.getElem_mem hlt)] at hne
      have hb1 : (0 : Int) ≤ (i : Int) := by omega
      have hb2 : (i : Int) < (X.length : Int) := by omega
      subst hp
      subst hp'
      go_wp2
      go_quiet (fail)
      go_wp2
      go_roundw
      case rel => exact ⟨i + 1, by omega, by go_num, HK.out.calm2 (Kept.drewN _ _)⟩
      case measure => simp [intOf]; omega
    · go_wp2
      go_ret
      exact ⟨rfl, KW.out⟩
theorem wpList_copy_any {P : Program} (w : World) {ops : Array Oper} {rest : List Oper} {o : Oper} {a : Act} {Q : Exit → Act → World → Prop} (hgd : o.guard = none) (d s : Operand) (dT sT : TypeId)
    (ho : o.op = .call { callee := .builtin .copy, args := #[d, s], argTypes := #[dT, sT] }) (elem : TypeId) (size : Nat) (hu : P.underlying dT = some (.slice elem)) (hsz : (P.info? elem).map (·.size) = some size)
    (dp sp : Option Addr) (dLen dCap sLen sCap : Nat) (hd : a.eval d = .slice dp dLen dCap) (hs : a.eval s = .slice sp sLen sCap)
    (g off : Nat) (cur : List Value) (t : TypeId) (hg : w.heap[g]? = some (.cells cur.toArray t (0, 0))) (n : Nat) (hn : Nat.min sLen dLen = n) (cs : List Value) (hcs : cs.length = n * size)
    (hpos : 0 < n → dp = some ⟨g, off, none⟩ ∧ ∃ ad, sp = some ad ∧ ∀ j v, cs[j]? = some v → w.cell? (ad.add j) = some v)
    (hfit : off + cs.length ≤ cur.length) (h1 : ∀ v ∈ cs, v.oneCell' = true)
    (h : ∀ w', Hid (w'.heap[g]? = some (.cells (splice cur off cs).toArray t (0, 0))) → Hid (Kept (fun k => k = g) w w') → wpList P ops Q rest (a.put o.dst (goInt n)) w') :
    wpList P ops Q (o :: rest) a w := by
  refine wpList_plain hgd fun K hK => ?_
  by_cases h0 : n = 0
  · subst h0
    obtain rfl : cs = [] := List.eq_nil_of_length_eq_zero (by simpa using hcs)
    have hrun := run_copy_zero (P := P) w dT sT o.type elem size dp sp dLen dCap sLen sCap hu hsz hn
    unfold Oper.wp
    simp [execOp, ho, resolve, invoke, builtin, hd, hs, hrun, Result.andThen]
    exact hK _ _ (h w (show _ = _ by simpa [splice] using hg) (Kept.refl _ _))
  · obtain ⟨rfl, ad, rfl, hsrc⟩ := hpos (by omega)
    have hrun := run_copy_size (P := P) w dT sT o.type elem size g off dLen dCap ad sLen sCap cur.toArray t n cs hu hsz hg hn hcs hsrc (by simpa using hfit) h1
    unfold Oper.wp
    simp [execOp, ho, resolve, invoke, builtin, hd, hs, hrun, Result.andThen]
    exact hK _ _ (h _ (show _ = _ by simpa [splice] using setRow_heap w g _ _ t _ hg) (Kept.setRow w g _))

end Go.Proofs.Ytlfmfhmbkpnjbaa
