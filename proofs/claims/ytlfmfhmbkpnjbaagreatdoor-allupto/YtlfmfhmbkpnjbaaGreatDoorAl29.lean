import Derived.Test.YtlfmfhmbkpnjbaaGreatDoorAl28
import Derived.Lib.Walk
import Derived.Lib.ConvBytes
import Derived.Lib.ParseIntBMem
import Derived.Lib.Hide
import Derived.Laws.Strings3
import Derived.Laws.Closers25
import Derived.Laws.Closers25b
import Derived.BigCall
import Derived.BigGuard
namespace Go.Proofs.YtlfmfhmbkpnjbaaGreatDoor
open Go.RowKit

/-- A reader in memory. -/
def RdAt (w : World) (b : Nat) (r : Rd) : Prop := w.heap[b]? = some (.cells #[.string (baL r.rest), .bool r.over, .bool r.broken] 162 (0, 0))
theorem RdAt.keep {w w' : World} {S : Nat → Prop} {b : Nat} {r : Rd} (h : RdAt w b r) (k : Kept S w w') (hS : ¬ S b) : RdAt w' b r := by unfold RdAt; rw [k.block b (heap_lt h) hS]; exact h
theorem RdAt.calm {w w' : World} {b : Nat} {r : Rd} (h : RdAt w b r) (k : Kept (fun _ => False) w w') : RdAt w' b r := h.keep k (fun e => e)
theorem RdAt.set2 {w : World} {b : Nat} {r : Rd} (h : RdAt w b r) : RdAt (w.setCell ⟨b, 2, none⟩ (.bool true)) b r.bad := by
  unfold RdAt
  rw [setCell_eq_setRow w b 2 _ _ (0, 0) _ h]
  exact setRow_heap w b _ _ _ _ h
theorem RdAt.set01 {w : World} {b : Nat} {r : Rd} (h : RdAt w b r) (l : List UInt8) (o : Bool) : RdAt ((w.setCell ⟨b, 0, none⟩ (.string (baL l))).setCell ⟨b, 1, none⟩ (.bool o)) b ⟨l, o, r.broken⟩ := by
  have h1 : (w.setCell ⟨b, 0, none⟩ (.string (baL l))).heap[b]? = some (.cells #[.string (baL l), .bool r.over, .bool r.broken] 162 (0, 0)) := by
    rw [setCell_eq_setRow w b 0 _ _ (0, 0) _ h]
    exact setRow_heap w b _ _ _ _ h
  unfold RdAt
  rw [setCell_eq_setRow _ b 1 _ _ (0, 0) _ h1]
  exact setRow_heap _ b _ _ _ _ h1

/-- How long a text may be. -/
def Rd.small (r : Rd) : Prop := r.rest.length ≤ 140737488355328
theorem word_small (r : Rd) (h : r.small) : r.word.1.length ≤ 140737488355328 ∧ r.word.2.small := by
  have := cutL_short 32 r.rest
  unfold Rd.small at *
  unfold Rd.word
  split
  · exact ⟨by simp, h⟩
  · dsimp only
    omega

set_option maxHeartbeats 1000000 in
set_option maxRecDepth 100000 in
theorem word_c (b : Nat) (r : Rd) (w : World) (hs : r.small) (h : RdAt w b r) :
    Calls Tryz.prog 77 #[.pointer (some ⟨b, 0, none⟩)] w fun e w' => e = .returned (.string (baL r.word.1)) ∧ RdAt w' b r.word.2 ∧ Kept (fun k => k = b) w w' := by
  obtain ⟨c0, c1, c2, f0, f1, f2⟩ := three_cells h
  have H := hide h
  clear h
  cases ho : r.over with
  | true =>
    rw [ho] at c1
    have e1 : r.word = ([], r.bad) := by unfold Rd.word; rw [if_pos ho]; unfold Rd.bad; rw [ho]
    rw [e1]
    go_enter Tryz.func77, Tryz.ntmps77
    go_wp2
    go_ret
    exact ⟨rfl, H.out.set2, Kept.setCell w ⟨b, 2, none⟩ _⟩
  | false =>
    rw [ho] at c1
    have e1 : r.word = ((cutL 32 r.rest).1, ⟨(cutL 32 r.rest).2.1, !(cutL 32 r.rest).2.2, r.broken⟩) := by unfold Rd.word; rw [if_neg (by simp [ho])]
    rw [e1]
    have HS : Hid ((r.rest.length : Int) ≤ 4611686018427387904) := by show _ ≤ _; unfold Rd.small at hs; omega
    clear hs e1
    go_enter Tryz.func77, Tryz.ntmps77
    go_wp2_with fail
    refine (cut1_c r.rest 32 w HS.out).mono ?_
    rintro e w1 ⟨rfl, k1⟩
    obtain ⟨d0, d1, d2, g0, g1, g2⟩ := three_cells (H.out.calm k1)
    have K1 := hide k1
    clear k1 c0 c1 c2 f0 f1 f2
    go_wp2
    go_ret
    refine ⟨rfl, ?_, ?_⟩
    · exact (H.out.calm K1.out).set01 _ _
    · exact K1.out.join ((Kept.setCell w1 _ _).join (Kept.setCell _ _ _) (R := fun k => k = b) (fun _ _ e => e) (fun _ _ e => e)) (fun _ _ e => e.elim) (fun _ _ e => e)

theorem Kept.bytes (w : World) (t : TypeId) (s : ByteArray) : Kept (fun _ => False) w (Lib.bytesWorld w t s) := by
  exact ⟨rfl, rfl, rfl, by rw [Lib.bytesWorld_size]; omega, fun k hk _ => Lib.bytesWorld_at_old w t s k hk⟩
theorem atoi_i64 {l : List UInt8} {n : Int} (h : Lib.atoiAll l = .ok n) : -9223372036854775808 ≤ n ∧ n ≤ 9223372036854775807 := by
  unfold Lib.atoiAll at h
  split at h
  · cases h
  · dsimp only at h
    split at h
    · cases h
    · cases h
    · split at h
      · cases h
      · split at h
        · cases h
        · injection h with h
          split at h <;> omega

/-- strconv.Atoi, whatever the text. -/
def NumOf (x : List UInt8) (e : Ending) : Prop :=
  (∃ n, Lib.atoiAll x = .ok n ∧ e = .returned (.tuple #[.int .i64 n, .nilIface])) ∨ ((∀ n, Lib.atoiAll x ≠ .ok n) ∧ ∃ v N, e = .returned (.tuple #[.int .i64 v, .iface 206 (.pointer (some ⟨N, 0, none⟩))]))
theorem atoi_c (x : List UInt8) (w : World) (hx : x.length ≤ 140737488355328) (hE : Errs w) :
    Calls Tryz.prog 106 #[.string (baL x)] w fun e w' => NumOf x e ∧ Kept (fun _ => False) w w' := by
  have hsz := baL_size x
  have hd := baL_list x
  cases ha : Lib.atoiAll x with
  | ok n =>
    refine (Tryz.strconv_Atoi_ok (baL x) (by omega) n (by rw [hd]; exact ha) w).mono ?_
    rintro e w' ⟨rfl, h⟩
    refine ⟨Or.inl ⟨n, ha, rfl⟩, ?_⟩
    rcases h with rfl | ⟨t, rfl⟩
    · exact Kept.refl _ _
    · exact Kept.bytes _ _ _
  | «syntax» =>
    obtain ⟨te, pe, hv⟩ := hE.syn
    refine (Tryz.strconv_Atoi_syntax (baL x) (by omega) (by rw [hd]; exact ha) _ w hv (Or.inr ⟨te, pe, rfl⟩)).mono ?_
    rintro e w' ⟨N, rfl, _, _, h⟩
    exact ⟨Or.inr ⟨fun n hn => (by rw [ha] at hn; cases hn), _, _, rfl⟩, Kept.of_below h⟩
  | range =>
    obtain ⟨te, pe, hv⟩ := hE.rng
    refine (Tryz.strconv_Atoi_range (baL x) (by omega) (by rw [hd]; exact ha) _ w hv (Or.inr ⟨te, pe, rfl⟩)).mono ?_
    rintro e w' ⟨N, rfl, _, _, h⟩
    exact ⟨Or.inr ⟨fun n hn => (by rw [ha] at hn; cases hn), _, _, rfl⟩, Kept.of_below h⟩

/-- A block that is none of the library's. -/
def Mine (b : Nat) : Prop := 6 < b ∧ 4 < b ∧ 2 < b ∧ 3 < b
theorem Errs.mine {w w' : World} {b : Nat} (h : Errs w) (hB : Mine b) (k : Kept (fun k => k = b) w w') : Errs w' :=
  h.keep k (by have := hB.1; omega) (by have := hB.2.1; omega) (by have := hB.2.2.1; omega) (by have := hB.2.2.2; omega)

set_option maxHeartbeats 2000000 in
set_option maxRecDepth 100000 in
theorem int_c (b : Nat) (r : Rd) (lo hi : Int) (w : World) (hs : r.small) (hB : Mine b) (hE : Errs w) (h : RdAt w b r) :
    Calls Tryz.prog 78 #[.pointer (some ⟨b, 0, none⟩), .int .i64 lo, .int .i64 hi] w fun e w' => e = .returned (.int .i64 (r.int lo hi).1) ∧ RdAt w' b (r.int lo hi).2 ∧ Kept (fun k => k = b) w w' := by
  have H := hide h
  have HE := hide hE
  have HB := hide hB
  have HS := hide (word_small r hs)
  have HS0 := hide hs
  clear h hE hB hs
  go_enter Tryz.func78, Tryz.ntmps78
  go_wp2_with fail
  refine (word_c b r w HS0.out H.out).mono ?_
  rintro e w1 ⟨rfl, q1, k1⟩
  have Q1 := hide q1
  have K1 := hide k1
  clear q1 k1
  obtain ⟨x, hx⟩ : ∃ x, r.word.1 = x := ⟨_, rfl⟩
  obtain ⟨r2, hr2⟩ : ∃ r2, r.word.2 = r2 := ⟨_, rfl⟩
  rw [hx]
  rw [hr2] at Q1
  have HX := hide hx
  have HR := hide hr2
  have HXL : Hid (x.length ≤ 140737488355328) := by show _ ≤ _; rw [← HX.out]; exact HS.out.1
  clear hx hr2
  go_wp2_with fail
  refine (atoi_c x w1 HXL.out (HE.out.mine HB.out K1.out)).mono ?_
  rintro e w2 ⟨hN, k2⟩
  have K2 := hide k2
  obtain ⟨d0, d1, d2, g0, g1, g2⟩ := three_cells (Q1.out.calm k2)
  clear k2 d0 d1 g0 g1
  have bad : Hid (∀ w3, Kept (fun _ => False) w2 w3 → numL x = none → RdAt (w3.setCell ⟨b, 2, none⟩ (.bool true)) b (r.int lo hi).2 ∧ Kept (fun k => k = b) w (w3.setCell ⟨b, 2, none⟩ (.bool true)) ∧ (r.int lo hi).1 = 0) := by
    intro w3 k3 hn
    have e1 : r.int lo hi = (0, r2.bad) := by unfold Rd.int; rw [HX.out, hn, HR.out]
    rw [e1]
    exact ⟨((Q1.out.calm K2.out).calm k3).set2, K1.out.join ((K2.out.join k3 (R := fun _ => False) (fun _ _ e => e) (fun _ _ e => e)).join (Kept.setCell w3 ⟨b, 2, none⟩ _) (R := fun k => k = b) (fun _ _ e => e.elim) (fun _ _ e => e)) (fun _ _ e => e) (fun _ _ e => e), rfl⟩
  rcases hN with ⟨n, ha, rfl⟩ | ⟨ha, v, N, rfl⟩
  · have hi64 := hide (atoi_i64 ha)
    have HA := hide ha
    have okN : Hid (∀ w3, Kept (fun _ => False) w2 w3 → Lib.itoa n = x → lo ≤ n → n ≤ hi → RdAt w3 b (r.int lo hi).2 ∧ Kept (fun k => k = b) w w3 ∧ (r.int lo hi).1 = n) := by
      intro w3 k3 h1 h2 h3
      have e1 : r.int lo hi = (n, r2) := by
        have hn : numL x = some n := by unfold numL; rw [HA.out]; exact if_pos h1
        unfold Rd.int
        rw [HX.out, hn, HR.out]
        exact if_pos ⟨h2, h3⟩
      rw [e1]
      exact ⟨(Q1.out.calm K2.out).calm k3, K1.out.join (K2.out.join k3 (R := fun _ => False) (fun _ _ e => e) (fun _ _ e => e)) (fun _ _ e => e) (fun _ _ e => e.elim), rfl⟩
    have badN : Hid (∀ w3, Kept (fun _ => False) w2 w3 → ¬ (lo ≤ n ∧ n ≤ hi) → RdAt (w3.setCell ⟨b, 2, none⟩ (.bool true)) b (r.int lo hi).2 ∧ Kept (fun k => k = b) w (w3.setCell ⟨b, 2, none⟩ (.bool true)) ∧ (r.int lo hi).1 = 0) := by
      intro w3 k3 h1
      by_cases h2 : Lib.itoa n = x
      · have e1 : r.int lo hi = (0, r2.bad) := by
          have hn : numL x = some n := by unfold numL; rw [HA.out]; exact if_pos h2
          unfold Rd.int
          rw [HX.out, hn, HR.out]
          exact if_neg h1
        rw [e1]
        exact ⟨((Q1.out.calm K2.out).calm k3).set2, K1.out.join ((K2.out.join k3 (R := fun _ => False) (fun _ _ e => e) (fun _ _ e => e)).join (Kept.setCell w3 ⟨b, 2, none⟩ _) (R := fun k => k = b) (fun _ _ e => e.elim) (fun _ _ e => e)) (fun _ _ e => e) (fun _ _ e => e), rfl⟩
      · exact bad.out w3 k3 (by unfold numL; rw [HA.out]; exact if_neg h2)
    clear ha
    go_wp2_with fail
    refine (intWord_c n w2 hi64.out ((HE.out.mine HB.out K1.out).calm K2.out).tabs).mono ?_
    rintro e w3 ⟨rfl, k3⟩
    have K3 := hide k3
    obtain ⟨p0, p1, p2, z0, z1, z2⟩ := three_cells ((Q1.out.calm K2.out).calm k3)
    clear k3 p0 p1 z0 z1 d2 g2
    by_cases hw : Lib.itoa n = x
    · have hb : ((itoaW n).toList == x) = true := by rw [← hw]; simp [itoaW, ByteArray.toList_eq]
      have hb' : ((itoaW n).toList == (baL x).toList) = true := by rw [← hw]; simp [itoaW, ByteArray.toList_eq]
      have HW := hide hw
      clear hw
      by_cases h1 : n < lo
      · go_wp2
        go_ret
        obtain ⟨q1, q2, q3⟩ := badN.out w3 K3.out (by omega)
        exact ⟨ret1 (by rw [q3]; rfl), q1, q2⟩
      · by_cases h2 : hi < n
        · go_wp2
          go_ret
          obtain ⟨q1, q2, q3⟩ := badN.out w3 K3.out (by omega)
          exact ⟨ret1 (by rw [q3]; rfl), q1, q2⟩
        · go_wp2
          go_ret
          obtain ⟨q1, q2, q3⟩ := okN.out w3 K3.out HW.out (by omega) (by omega)
          exact ⟨ret1 (by rw [q3]; rfl), q1, q2⟩
    · have hb : ((itoaW n).toList == x) = false := by
        rw [beq_eq_false_iff_ne]
        intro e
        apply hw
        rw [← e]
        simp [itoaW, ByteArray.toList_eq]
      have hb' : ((itoaW n).toList == (baL x).toList) = false := by
        rw [beq_eq_false_iff_ne]
        intro e
        apply hw
        simpa [itoaW, ByteArray.toList_eq] using e
      have HW : Hid (numL x = none) := by show _ = _; unfold numL; rw [HA.out]; exact if_neg hw
      clear hw
      go_wp2
      go_ret
      obtain ⟨q1, q2, q3⟩ := bad.out w3 K3.out HW.out
      exact ⟨ret1 (by rw [q3]; rfl), q1, q2⟩
  · have HA : Hid (numL x = none) := by
      show _ = _
      unfold numL
      split
      · rename_i n hn; exact absurd hn (ha n)
      · rfl
    clear ha
    go_wp2
    go_ret
    obtain ⟨q1, q2, q3⟩ := bad.out w2 (Kept.refl _ _) HA.out
    exact ⟨ret1 (by rw [q3]; rfl), q1, q2⟩
end Go.Proofs.YtlfmfhmbkpnjbaaGreatDoor

namespace Go.Proofs.YtlfmfhmbkpnjbaaGreatDoor
open Go.RowKit

theorem low_fin : ∀ c : Fin 256, ¬ (48 ≤ c.val ∧ c.val ≤ 57) → (97 ≤ bits .or .u8 (c.val : Int) 32 ∧ bits .or .u8 (c.val : Int) 32 ≤ 102 → hexD c.val = some (bits .or .u8 (c.val : Int) 32 - 87).toNat) ∧ (¬ (97 ≤ bits .or .u8 (c.val : Int) 32 ∧ bits .or .u8 (c.val : Int) 32 ≤ 102) → hexD c.val = none) := by decide +kernel
theorem low_hex (c : UInt8) (l : Int) (hl : bits .or .u8 (c.toNat : Int) 32 = l) (h : ¬ (48 ≤ c.toNat ∧ c.toNat ≤ 57)) : (97 ≤ l ∧ l ≤ 102 → hexD c.toNat = some (l - 87).toNat) ∧ (¬ (97 ≤ l ∧ l ≤ 102) → hexD c.toNat = none) := by
  have := low_fin ⟨c.toNat, c.toNat_lt⟩ h
  simp only at this
  rw [hl] at this
  exact this

/-- How ParseUint at base 16 and 32 bits ends. -/
def HexEnd (x : List UInt8) (e : Ending) : Prop :=
  (∃ u : Nat, hexA 0 x = some u ∧ e = .returned (.tuple #[.int .u64 u, .nilIface])) ∨
  (hexA 0 x = none ∧ ∃ v k, (k = 1 ∨ k = 2) ∧ e = .returned (.tuple #[.int .u64 v, .iface 203 (.int .i64 k)]))

set_option maxHeartbeats 32000000 in
set_option maxRecDepth 100000 in
theorem hexu_c (x : List UInt8) (hne : x ≠ []) (hmax : x.length ≤ 140737488355328) (w : World) :
    Calls Tryz.prog 152 #[.string (baL x), .int .i64 16, .int .i64 32] w fun e w' => HexEnd x e ∧ w' = Lib.bytesWorld w 5 (baL x) := by
  obtain ⟨t, ht⟩ : ∃ t, t = baL x := ⟨_, rfl⟩
  have hts : t.size = x.length := by rw [ht]; exact baL_size x
  have htl : t.data.toList = x := by rw [ht]
  rw [← ht]
  have hne' : t.size ≠ 0 := by rw [hts]; intro h; exact hne (List.eq_nil_of_length_eq_zero h)
  have hmax' : t.size ≤ 9223372036854775806 := by omega
  have hemp : t.toList.isEmpty = false := by
    rw [← decide_eq_emptyBytes]
    exact decide_eq_false (fun h => hne' (by rw [h]; rfl))
  have hcv := Lib.run_convert_string_bytes (P := Tryz.prog) w 9 94 5 t (u := .string) Tryz.underlying9 Tryz.underlying94 Tryz.underlying5
  have hB : ∀ j, j < t.size → (Lib.bytesWorld w 5 t).cell? ⟨w.heap.size, j, none⟩ = some (.int .u8 (t.data.toList.getD j 0).toNat) := fun j hj => Lib.bytesWorld_cell w 5 t j hj
  obtain ⟨W1, hW1⟩ : ∃ W1, W1 = Lib.bytesWorld w 5 t := ⟨_, rfl⟩
  rw [← hW1] at hcv hB ⊢
  clear hW1
  have HLn : Hid (x.length = t.size) := hts.symm
  rw [htl] at hB
  clear htl ht hts hmax hne
  have hmv : IntKind.u64.wrap (IntKind.u64.wrap 4294967296 - 1) = 4294967295 := by
    rw [IntKind.wrap_u64, IntKind.wrap_u64]
    decide
  go_enter Tryz.func152, Tryz.ntmps152
  go_wp2
  go_loop [12, 13, 101] (fun vu vn vi => ∃ (k acc : Nat) (a : Int), vu = .bool false ∧ vn = .int .u64 a ∧ vi = .int .i64 k ∧ k ≤ t.size ∧ Hid (a = (acc : Int) ∧ acc ≤ 4294967295 ∧ hexA 0 x = hexA acc (x.drop k)))
    (fun _ _ vi => t.size - (intOf vi).toNat)
  case atStart => exact ⟨0, 0, 0, rfl, rfl, rfl, by omega, rfl, by omega, rfl⟩
  case round =>
    obtain ⟨k, acc, a, rfl, rfl, rfl, hk, hh⟩ := hrel
    obtain ⟨ha, hacc, hdec⟩ := hh.out
    clear hh
    have a0 : 0 ≤ a := by omega
    have a1 : a ≤ 4294967295 := by omega
    by_cases hkn : k < t.size
    · have hc := hB k hkn
      have hkx : k < x.length := by have := HLn.out; omega
      have hdrop : x.drop k = x[k]'hkx :: x.drop (k + 1) := List.drop_eq_getElem_cons hkx
      have hget : x.getD k 0 = x[k]'hkx := by simp [List.getD, List.getElem?_eq_getElem hkx]
      rw [hdrop] at hdec
      rw [hget] at hc
      generalize x[k]'hkx = c at hc hdec
      have hc256 : c.toNat < 256 := c.toNat_lt
      clear hB hdrop hget hkx
      have fin : Hid (∀ d : Nat, hexD c.toNat = some d → (4294967295 < acc * 16 + d → hexA 0 x = none) ∧ (¬ 4294967295 < acc * 16 + d → hexA 0 x = hexA (acc * 16 + d) (x.drop (k + 1)))) := by
        intro d hd
        rw [hdec]
        simp only [hexA, hd]
        exact ⟨fun h => if_pos (by omega), fun h => if_neg (by omega)⟩
      have finN : Hid (hexD c.toNat = none → hexA 0 x = none) := by
        intro hd
        rw [hdec]
        simp only [hexA, hd]
      have HA := hide (And.intro ha hacc)
      clear hdec
      by_cases hdig : 48 ≤ c.toNat ∧ c.toNat ≤ 57
      · obtain ⟨hd0, hd1⟩ := hdig
        have hD : hexD c.toNat = some (c.toNat - 48) := by unfold hexD; exact if_pos ⟨hd0, hd1⟩
        obtain ⟨f1, f2⟩ := fin.out _ hD
        clear hD fin finN
        by_cases hov : 4294967295 < acc * 16 + (c.toNat - 48)
        · have HF := hide (f1 hov)
          have iov : 4294967295 < a * 16 + ((c.toNat : Int) - 48) := by omega
          clear f1 f2 hov ha hacc
          go_wp2
          go_ret2
          exact ⟨Or.inr ⟨HF.out, _, 1, Or.inl rfl, rfl⟩, rfl⟩
        · have HN : Hid (a * 16 + ((c.toNat : Int) - 48) = ((acc * 16 + (c.toNat - 48) : Nat) : Int) ∧ acc * 16 + (c.toNat - 48) ≤ 4294967295 ∧ hexA 0 x = hexA (acc * 16 + (c.toNat - 48)) (x.drop (k + 1))) := Lib.hid ⟨by omega, by omega, f2 hov⟩
          have iov : a * 16 + ((c.toNat : Int) - 48) ≤ 4294967295 := by omega
          clear f1 f2 hov ha hacc
          go_wp2
          refine ⟨⟨k + 1, acc * 16 + (c.toNat - 48), a * 16 + ((c.toNat : Int) - 48), rfl, (by first | rfl | (congr 1; omega)), (by first | rfl | (congr 1; omega)), by omega, HN⟩, by simp [intOf]; omega⟩
      · by_cases h95 : c.toNat = 95
        · have HF : Hid (hexA 0 x = none) := finN.out (by rw [h95]; rfl)
          have hu : bits .or .u8 95 32 = 127 := by decide
          have hc95 : (c.toNat : Int) = 95 := by omega
          rw [hc95] at hc
          clear fin finN ha hacc h95 hdig hc256 hc95
          go_wp2_with (go_at_call 160; refine (Tryz.internal_strconv_lower _ _).mono ?_; rintro e w' ⟨rfl, rfl⟩)
          all_goals go_ret2
          all_goals exact ⟨Or.inr ⟨HF.out, _, 2, Or.inr rfl, rfl⟩, rfl⟩
        · have hn95 : ((c.toNat : Int) == 95) = false := by simp; omega
          obtain ⟨l, hl⟩ : ∃ l, bits .or .u8 (c.toNat : Int) 32 = l := ⟨_, rfl⟩
          obtain ⟨q1, q2⟩ := low_hex c l hl hdig
          have hv0 := bits_lo_u8 .or (c.toNat : Int) 32
          have hv1 := bits_hi_u8 .or (c.toNat : Int) 32
          rw [hl] at hv0 hv1
          have HL := hide hl
          clear hl
          by_cases hlet : 97 ≤ l ∧ l ≤ 122
          · by_cases h16 : l ≤ 102
            · have hD := q1 ⟨hlet.1, h16⟩
              obtain ⟨f1, f2⟩ := fin.out _ hD
              obtain ⟨l0, l1⟩ := hlet
              clear hD fin finN q1 q2
              by_cases hov : 4294967295 < acc * 16 + (l - 87).toNat
              · have HF := hide (f1 hov)
                have iov : 4294967295 < a * 16 + (l - 87) := by omega
                clear f1 f2 hov ha hacc
                go_wp2_with (go_at_call 160; refine (Tryz.internal_strconv_lower _ _).mono ?_; rintro e w' ⟨rfl, rfl⟩; rw [HL.out])
                all_goals go_ret2
                all_goals exact ⟨Or.inr ⟨HF.out, _, 1, Or.inl rfl, rfl⟩, rfl⟩
              · have HN : Hid (a * 16 + (l - 97 + 10) = ((acc * 16 + (l - 87).toNat : Nat) : Int) ∧ acc * 16 + (l - 87).toNat ≤ 4294967295 ∧ hexA 0 x = hexA (acc * 16 + (l - 87).toNat) (x.drop (k + 1))) := Lib.hid ⟨by omega, by omega, f2 hov⟩
                have iov : a * 16 + (l - 97 + 10) ≤ 4294967295 := by omega
                clear f1 f2 hov ha hacc
                go_wp2_with (go_at_call 160; refine (Tryz.internal_strconv_lower _ _).mono ?_; rintro e w' ⟨rfl, rfl⟩; rw [HL.out])
                all_goals refine ⟨⟨k + 1, acc * 16 + (l - 87).toNat, a * 16 + (l - 97 + 10), rfl, (by first | rfl | (congr 1; omega)), (by first | rfl | (congr 1; omega)), by omega, HN⟩, by simp [intOf]; omega⟩
            · have HF := hide (finN.out (q2 (fun h => h16 h.2)))
              obtain ⟨l0, l1⟩ := hlet
              clear fin finN q1 q2 ha hacc
              go_wp2_with (go_at_call 160; refine (Tryz.internal_strconv_lower _ _).mono ?_; rintro e w' ⟨rfl, rfl⟩; rw [HL.out])
              all_goals go_ret2
              all_goals exact ⟨Or.inr ⟨HF.out, _, 2, Or.inr rfl, rfl⟩, rfl⟩
          · have HF := hide (finN.out (q2 (fun h => hlet (by omega))))
            clear fin finN q1 q2 ha hacc
            go_wp2_with (go_at_call 160; refine (Tryz.internal_strconv_lower _ _).mono ?_; rintro e w' ⟨rfl, rfl⟩; rw [HL.out])
            all_goals go_ret2
            all_goals exact ⟨Or.inr ⟨HF.out, _, 2, Or.inr rfl, rfl⟩, rfl⟩
    · have hkk : k = t.size := by omega
      subst hkk
      have HF : Hid (hexA 0 x = some acc) := by
        show _ = _
        rw [hdec, List.drop_eq_nil_of_le (by rw [HLn.out]; omega)]
        rfl
      subst ha
      clear hacc a0 a1 hdec
      go_wp2
      go_ret2
      exact ⟨Or.inl ⟨acc, HF.out, rfl⟩, rfl⟩
end Go.Proofs.YtlfmfhmbkpnjbaaGreatDoor

namespace Go.Proofs.YtlfmfhmbkpnjbaaGreatDoor
open Go.RowKit

set_option maxHeartbeats 2000000 in
set_option maxRecDepth 100000 in
theorem hexu_nil (w : World) :
    Calls Tryz.prog 152 #[.string (baL []), .int .i64 16, .int .i64 32] w fun e w' => e = .returned (.tuple #[.int .u64 0, .iface 203 (.int .i64 2)]) ∧ w' = w := by
  go_enter Tryz.func152, Tryz.ntmps152
  go_wp2
  go_ret2
  exact ⟨rfl, rfl⟩

theorem hexi_c (x : List UInt8) (hmax : x.length ≤ 140737488355328) (w : World) :
    Calls Tryz.prog 152 #[.string (baL x), .int .i64 16, .int .i64 32] w fun e w' => ((∃ u : Nat, x ≠ [] ∧ hexA 0 x = some u ∧ e = .returned (.tuple #[.int .u64 u, .nilIface])) ∨
      ((x = [] ∨ hexA 0 x = none) ∧ ∃ v k, (k = 1 ∨ k = 2) ∧ e = .returned (.tuple #[.int .u64 v, .iface 203 (.int .i64 k)]))) ∧ Kept (fun _ => False) w w' := by
  by_cases hx : x = []
  · subst hx
    refine (hexu_nil w).mono ?_
    rintro e w' ⟨rfl, rfl⟩
    exact ⟨Or.inr ⟨Or.inl rfl, _, 2, Or.inr rfl, rfl⟩, Kept.refl _ _⟩
  · refine (hexu_c x hx hmax w).mono ?_
    rintro e w' ⟨h, rfl⟩
    refine ⟨?_, Kept.bytes _ _ _⟩
    rcases h with ⟨u, h1, h2⟩ | ⟨h1, v, k, h2, h3⟩
    · exact Or.inl ⟨u, hx, h1, h2⟩
    · exact Or.inr ⟨Or.inr h1, v, k, h2, h3⟩

set_option maxHeartbeats 2000000 in
set_option maxRecDepth 100000 in
theorem hexp_c (x : List UInt8) (hmax : x.length ≤ 140737488355328) (w : World) (hE : Errs w) :
    Calls Tryz.prog 144 #[.string (baL x), .int .i64 16, .int .i64 32] w fun e w' => ((∃ u : Nat, x ≠ [] ∧ hexA 0 x = some u ∧ e = .returned (.tuple #[.int .u64 u, .nilIface])) ∨
      ((x = [] ∨ hexA 0 x = none) ∧ ∃ v N, e = .returned (.tuple #[.int .u64 v, .iface 206 (.pointer (some ⟨N, 0, none⟩))]))) ∧ Kept (fun _ => False) w w' := by
  have hsz := hide (baL_size x)
  have HE := hide hE
  have HM := hide hmax
  clear hE hmax
  go_enter Tryz.func144, Tryz.ntmps144
  go_wp2_with fail
  refine (hexi_c x HM.out w).mono ?_
  rintro e w1 ⟨h, k1⟩
  have K1 := hide k1
  clear k1
  rcases h with ⟨u, h0, h1, rfl⟩ | ⟨h1, v, k, hk, rfl⟩
  · have HH := hide (And.intro h0 h1)
    clear h0 h1
    go_wp2
    go_ret2
    exact ⟨Or.inl ⟨u, HH.out.1, HH.out.2, rfl⟩, K1.out⟩
  · have HH := hide h1
    clear h1
    rcases hk with rfl | rfl
    · obtain ⟨te, pe, hv⟩ := (HE.out.calm K1.out).rng
      have HV := hide hv
      clear hv
      go_wp2_with fail
      refine (Tryz.strconv_toError_range _ (baL x) _ _ _ w1 (by have := hsz.out; have := HM.out; omega) HV.out (Or.inr ⟨te, pe, rfl⟩)).mono ?_
      rintro e w2 ⟨N, rfl, _, _, h2⟩
      have K2 := hide (Kept.of_below h2)
      clear h2
      go_wp2
      go_ret2
      exact ⟨Or.inr ⟨HH.out, _, _, rfl⟩, K1.out.join K2.out (fun _ _ e => e) (fun _ _ e => e)⟩
    · obtain ⟨te, pe, hv⟩ := (HE.out.calm K1.out).syn
      have HV := hide hv
      clear hv
      go_wp2_with fail
      refine (Tryz.strconv_toError_syntax _ (baL x) _ _ _ w1 (by have := hsz.out; have := HM.out; omega) HV.out (Or.inr ⟨te, pe, rfl⟩)).mono ?_
      rintro e w2 ⟨N, rfl, _, _, h2⟩
      have K2 := hide (Kept.of_below h2)
      clear h2
      go_wp2
      go_ret2
      exact ⟨Or.inr ⟨HH.out, _, _, rfl⟩, K1.out.join K2.out (fun _ _ e => e) (fun _ _ e => e)⟩

theorem bitsL_ok {x : List UInt8} {u : Nat} (h0 : x ≠ []) (h1 : hexA 0 x = some u) (h2 : hexL u = x) : bitsL x = some u := by unfold bitsL; rw [if_neg h0, h1]; exact if_pos h2
theorem bitsL_not {x : List UInt8} {u : Nat} (h0 : x ≠ []) (h1 : hexA 0 x = some u) (h2 : ¬ hexL u = x) : bitsL x = none := by unfold bitsL; rw [if_neg h0, h1]; exact if_neg h2
theorem bitsL_bad {x : List UInt8} (h : x = [] ∨ hexA 0 x = none) : bitsL x = none := by
  unfold bitsL
  by_cases h0 : x = []
  · exact if_pos h0
  · rw [if_neg h0, h.resolve_left h0]

set_option maxHeartbeats 2000000 in
set_option maxRecDepth 100000 in
theorem flt_c (b : Nat) (r : Rd) (w : World) (hs : r.small) (hB : Mine b) (hE : Errs w) (h : RdAt w b r) :
    Calls Tryz.prog 130 #[.pointer (some ⟨b, 0, none⟩)] w fun e w' => e = .returned (.float .f32 r.flt.1) ∧ RdAt w' b r.flt.2 ∧ Kept (fun k => k = b) w w' := by
  have H := hide h
  have HE := hide hE
  have HB := hide hB
  have HS := hide (word_small r hs)
  have HS0 := hide hs
  clear h hE hB hs
  go_enter Tryz.func130, Tryz.ntmps130
  go_wp2_with fail
  refine (word_c b r w HS0.out H.out).mono ?_
  rintro e w1 ⟨rfl, q1, k1⟩
  have Q1 := hide q1
  have K1 := hide k1
  clear q1 k1
  obtain ⟨x, hx⟩ : ∃ x, r.word.1 = x := ⟨_, rfl⟩
  obtain ⟨r2, hr2⟩ : ∃ r2, r.word.2 = r2 := ⟨_, rfl⟩
  rw [hx]
  rw [hr2] at Q1
  have HX := hide hx
  have HR := hide hr2
  have HXL : Hid (x.length ≤ 140737488355328) := by show _ ≤ _; rw [← HX.out]; exact HS.out.1
  clear hx hr2
  go_wp2_with fail
  refine (hexp_c x HXL.out w1 (HE.out.mine HB.out K1.out)).mono ?_
  rintro e w2 ⟨hN, k2⟩
  have K2 := hide k2
  obtain ⟨d0, d1, d2, g0, g1, g2⟩ := three_cells (Q1.out.calm k2)
  clear k2 d0 d1 g0 g1
  have bad : Hid (∀ w3, Kept (fun _ => False) w2 w3 → bitsL x = none → RdAt (w3.setCell ⟨b, 2, none⟩ (.bool true)) b r.flt.2 ∧ Kept (fun k => k = b) w (w3.setCell ⟨b, 2, none⟩ (.bool true)) ∧ r.flt.1 = 0) := by
    intro w3 k3 hn
    have e1 : r.flt = (0, r2.bad) := by unfold Rd.flt; rw [HX.out, hn, HR.out]
    rw [e1]
    exact ⟨((Q1.out.calm K2.out).calm k3).set2, K1.out.join ((K2.out.join k3 (R := fun _ => False) (fun _ _ e => e) (fun _ _ e => e)).join (Kept.setCell w3 ⟨b, 2, none⟩ _) (R := fun k => k = b) (fun _ _ e => e.elim) (fun _ _ e => e)) (fun _ _ e => e) (fun _ _ e => e), rfl⟩
  rcases hN with ⟨u, h0, ha, rfl⟩ | ⟨ha, v, N, rfl⟩
  · have hu := hexA_lt x 0 u (by decide) ha
    have HA := hide (And.intro h0 ha)
    have okN : Hid (∀ w3, Kept (fun _ => False) w2 w3 → hexL u = x → RdAt w3 b r.flt.2 ∧ Kept (fun k => k = b) w w3 ∧ r.flt.1 = u) := by
      intro w3 k3 h1
      have e1 : r.flt = (u, r2) := by unfold Rd.flt; rw [HX.out, bitsL_ok HA.out.1 HA.out.2 h1, HR.out]
      rw [e1]
      exact ⟨(Q1.out.calm K2.out).calm k3, K1.out.join (K2.out.join k3 (R := fun _ => False) (fun _ _ e => e) (fun _ _ e => e)) (fun _ _ e => e) (fun _ _ e => e.elim), rfl⟩
    have hwr : IntKind.u32.wrap (u : Int) = (u : Int) := by rw [IntKind.wrap_u32]; omega
    have hbits : ∀ w : World, (callFunc 145 #[.int .u32 u]).run Tryz.prog w = .ok (.value (.float .f32 u)) w := fun w => by
      rw [run_callFunc_extern Tryz.func145 (by kernel_rfl) (by kernel_rfl) (by kernel_rfl) (e := Extern.MathFloatBits.float32frombits) (by kernel_rfl)]
      rfl
    clear h0 ha
    go_wp2_with fail
    refine (bitsWord_c u w2 (by omega) ((HE.out.mine HB.out K1.out).calm K2.out).tabs.four).mono ?_
    rintro e w3 ⟨rfl, k3⟩
    have K3 := hide k3
    obtain ⟨p0, p1, p2, z0, z1, z2⟩ := three_cells ((Q1.out.calm K2.out).calm k3)
    clear k3 p0 p1 z0 z1 d2 g2
    by_cases hw : hexL u = x
    · have hb : (hexL u == x) = true := by rw [← hw]; simp
      have hb' : ((baL (hexL u)).toList == (baL x).toList) = true := by rw [baL_beq]; simp [hw]
      have HW := hide hw
      clear hw
      go_wp2
      go_ret
      obtain ⟨q1, q2, q3⟩ := okN.out w3 K3.out HW.out
      exact ⟨ret1 (by rw [q3]; rfl), q1, q2⟩
    · have hb : (hexL u == x) = false := by simp [hw]
      have hb' : ((baL (hexL u)).toList == (baL x).toList) = false := by rw [baL_beq]; simp [hw]
      have HW : Hid (bitsL x = none) := bitsL_not HA.out.1 HA.out.2 hw
      clear hw
      go_wp2
      go_ret
      obtain ⟨q1, q2, q3⟩ := bad.out w3 K3.out HW.out
      exact ⟨ret1 (by rw [q3]; rfl), q1, q2⟩
  · have HA : Hid (bitsL x = none) := bitsL_bad ha
    clear ha
    go_wp2
    go_ret
    obtain ⟨q1, q2, q3⟩ := bad.out w2 (Kept.refl _ _) HA.out
    exact ⟨ret1 (by rw [q3]; rfl), q1, q2⟩

set_option maxHeartbeats 2000000 in
set_option maxRecDepth 100000 in
theorem any_c (b : Nat) (r : Rd) (w : World) (hs : r.small) (hB : Mine b) (hE : Errs w) (h : RdAt w b r) :
    Calls Tryz.prog 129 #[.pointer (some ⟨b, 0, none⟩)] w fun e w' => e = .returned (.int .i64 r.any.1) ∧ RdAt w' b r.any.2 ∧ Kept (fun k => k = b) w w' := by
  go_enter Tryz.func129, Tryz.ntmps129
  go_wp2_with fail
  refine (int_c b r _ _ w hs hB hE h).mono ?_
  rintro e w1 ⟨rfl, q1, k1⟩
  have Q1 := hide q1
  have K1 := hide k1
  clear q1 k1
  go_wp2
  go_ret
  exact ⟨rfl, Q1.out, K1.out⟩

set_option maxHeartbeats 2000000 in
set_option maxRecDepth 100000 in
theorem done_c (b : Nat) (r : Rd) (w : World) (h : RdAt w b r) :
    Calls Tryz.prog 79 #[.pointer (some ⟨b, 0, none⟩)] w fun e w' => e = .returned (.bool r.done) ∧ w' = w := by
  obtain ⟨c0, c1, c2, f0, f1, f2⟩ := three_cells h
  clear h c0 f0 f1 f2
  unfold Rd.done
  cases ho : r.over with
  | true =>
    rw [ho] at c1
    go_enter Tryz.func79, Tryz.ntmps79
    go_wp2
    go_ret
    exact ⟨rfl, rfl⟩
  | false =>
    rw [ho] at c1
    go_enter Tryz.func79, Tryz.ntmps79
    go_wp2
    go_ret
    exact ⟨rfl, rfl⟩
end Go.Proofs.YtlfmfhmbkpnjbaaGreatDoor

namespace Go.Proofs.YtlfmfhmbkpnjbaaGreatDoor
open Go.RowKit

/-- A reader that goes on from a world. -/
structure RS (w0 w : World) (b : Nat) (r : Rd) : Prop where
  at_ : RdAt w b r
  kept : Kept (fun k => k = b) w0 w
  errs : Errs w
  small : r.small
theorem RS.start {w : World} {b : Nat} {r : Rd} (h : RdAt w b r) (hE : Errs w) (hs : r.small) : RS w w b r := ⟨h, Kept.refl _ _, hE, hs⟩
theorem RS.calm {w0 w w' : World} {b : Nat} {r : Rd} (h : RS w0 w b r) (k : Kept (fun _ => False) w w') : RS w0 w' b r := ⟨h.at_.calm k, h.kept.join k (fun _ _ e => e) (fun _ _ e => e.elim), h.errs.calm k, h.small⟩
theorem RS.blk {w0 w : World} {b c : Nat} {r : Rd} {o : Obj} (h : RS w0 w b r) (hc : w0.heap[c]? = some o) (hne : c ≠ b) : w.heap[c]? = some o := by rw [h.kept.block c (heap_lt hc) hne]; exact hc
theorem bad_small {r : Rd} (h : r.small) : r.bad.small := h
theorem int_small {r : Rd} (lo hi : Int) (h : r.small) : (r.int lo hi).2.small := by
  have := (word_small r h).2
  unfold Rd.int
  split
  · split
    · exact this
    · exact bad_small this
  · exact bad_small this
theorem any_small {r : Rd} (h : r.small) : r.any.2.small := int_small _ _ h
theorem flt_small {r : Rd} (h : r.small) : r.flt.2.small := by
  have := (word_small r h).2
  unfold Rd.flt
  split
  · exact this
  · exact bad_small this
theorem any_s (b : Nat) (r : Rd) (w0 w : World) (hB : Mine b) (h : RS w0 w b r) :
    Calls Tryz.prog 129 #[.pointer (some ⟨b, 0, none⟩)] w fun e w' => ∃ v r', r.any = (v, r') ∧ e = .returned (.int .i64 v) ∧ RS w0 w' b r' := by
  refine (any_c b r w h.small hB h.errs h.at_).mono ?_
  rintro e w' ⟨rfl, q1, q2⟩
  exact ⟨_, _, rfl, rfl, q1, h.kept.join q2 (fun _ _ e => e) (fun _ _ e => e), h.errs.mine hB q2, any_small h.small⟩
theorem int_s (b : Nat) (r : Rd) (lo hi : Int) (w0 w : World) (hB : Mine b) (h : RS w0 w b r) :
    Calls Tryz.prog 78 #[.pointer (some ⟨b, 0, none⟩), .int .i64 lo, .int .i64 hi] w fun e w' => ∃ v r', r.int lo hi = (v, r') ∧ e = .returned (.int .i64 v) ∧ RS w0 w' b r' := by
  refine (int_c b r lo hi w h.small hB h.errs h.at_).mono ?_
  rintro e w' ⟨rfl, q1, q2⟩
  exact ⟨_, _, rfl, rfl, q1, h.kept.join q2 (fun _ _ e => e) (fun _ _ e => e), h.errs.mine hB q2, int_small lo hi h.small⟩
theorem flt_s (b : Nat) (r : Rd) (w0 w : World) (hB : Mine b) (h : RS w0 w b r) :
    Calls Tryz.prog 130 #[.pointer (some ⟨b, 0, none⟩)] w fun e w' => ∃ v r', r.flt = (v, r') ∧ e = .returned (.float .f32 v) ∧ RS w0 w' b r' := by
  refine (flt_c b r w h.small hB h.errs h.at_).mono ?_
  rintro e w' ⟨rfl, q1, q2⟩
  exact ⟨_, _, rfl, rfl, q1, h.kept.join q2 (fun _ _ e => e) (fun _ _ e => e), h.errs.mine hB q2, flt_small h.small⟩

def six (w : World) (c : Nat) (k i t : Int) (x y : Nat) (n : Int) : Prop := w.heap[c]? = some (.cells #[.int .i64 k, .int .i64 i, .int .i64 t, .float .f32 x, .float .f32 y, .int .i64 n] 57 (0, 0))
theorem six_all {w : World} {c : Nat} {k i t : Int} {x y : Nat} {n : Int} (h : six w c k i t x y n) :
    (w.cell? ⟨c, 0, none⟩ = some (.int .i64 k) ∧ w.cell? ⟨c, 1, none⟩ = some (.int .i64 i) ∧ w.cell? ⟨c, 2, none⟩ = some (.int .i64 t) ∧ w.cell? ⟨c, 3, none⟩ = some (.float .f32 x) ∧ w.cell? ⟨c, 4, none⟩ = some (.float .f32 y) ∧ w.cell? ⟨c, 5, none⟩ = some (.int .i64 n)) ∧
    (w.frozen? ⟨c, 0, none⟩ = false ∧ w.frozen? ⟨c, 1, none⟩ = false ∧ w.frozen? ⟨c, 2, none⟩ = false ∧ w.frozen? ⟨c, 3, none⟩ = false ∧ w.frozen? ⟨c, 4, none⟩ = false ∧ w.frozen? ⟨c, 5, none⟩ = false) := by
  unfold six at h
  refine ⟨six_cells h, ?_⟩
  simp [World.frozen?, h]
/-- Only two blocks of one's own have turned besides. -/
theorem ends_kept {w w1 w2 : World} {b b2 b3 : Nat} (h : Kept (fun k => k = b ∨ k = b2 ∨ k = b3) w1 w2) (k1 : Kept (fun k => k = b) w w1) (h2 : w.heap.size ≤ b2) (h3 : w.heap.size ≤ b3) : Kept (fun k => k = b) w w2 :=
  k1.join h (fun _ _ e => e) (fun j hj e => by rcases e with e | e | e <;> omega)
theorem Kept.set' {S : Nat → Prop} {a w : World} {p : Addr} {u : Value} (h : Kept S a w) (hp : S p.block) : Kept S a (w.setCell p u) := h.join (Kept.setCell w p u) (fun _ _ e => e) (fun j _ e => by rw [e]; exact hp)
theorem Mine.up {b c : Nat} (h : Mine b) (hc : b ≤ c) : Mine c := ⟨Nat.lt_of_lt_of_le h.1 hc, Nat.lt_of_lt_of_le h.2.1 hc, Nat.lt_of_lt_of_le h.2.2.1 hc, Nat.lt_of_lt_of_le h.2.2.2 hc⟩
theorem cmd_end {w WA w1 W3 wn we : World} {b b2 b3 : Nat} {r1 r2 rn : Rd} (hb : b < w.heap.size) (hB : Mine b) (kA : Kept (fun _ => False) w WA) (s1 : RS WA w1 b r1) (k3 : Kept (fun _ => False) w1 W3) (sn : RS W3 wn b rn) (h2 : w.heap.size ≤ b2) (h3 : w.heap.size ≤ b3)
    (ke : Kept (fun k => k = b2 ∨ k = b3) wn we) (hr : rn = r2) : RS w we b r2 := by
  subst hr
  have m2 : Mine b2 := hB.up (by omega)
  have m3 : Mine b3 := hB.up (by omega)
  refine ⟨sn.at_.keep ke (fun e => by rcases e with e | e <;> omega), ?_, ?_, sn.small⟩
  · exact (kA.join s1.kept (R := fun k => k = b) (fun _ _ e => e.elim) (fun _ _ e => e)).join ((k3.join sn.kept (R := fun k => k = b) (fun _ _ e => e.elim) (fun _ _ e => e)).join ke (R := fun k => k = b ∨ k = b2 ∨ k = b3) (fun _ _ e => Or.inl e) (fun _ _ e => Or.inr e)) (fun _ _ e => e) (fun j hj e => by rcases e with e | e | e <;> omega)
  · refine sn.errs.keep ke (fun e => ?_) (fun e => ?_) (fun e => ?_) (fun e => ?_)
    · have := m2.1; have := m3.1; rcases e with e | e <;> omega
    · have := m2.2.1; have := m3.2.1; rcases e with e | e <;> omega
    · have := m2.2.2.1; have := m3.2.2.1; rcases e with e | e <;> omega
    · have := m2.2.2.2; have := m3.2.2.2; rcases e with e | e <;> omega
theorem six_set0 {w : World} {c : Nat} {k i t : Int} {x y : Nat} {n : Int} (h : six w c k i t x y n) (k' i' t' : Int) (x' y' : Nat) (n' : Int) :
    six ((((((w.setCell ⟨c, 0, none⟩ (.int .i64 k')).setCell ⟨c, 1, none⟩ (.int .i64 i')).setCell ⟨c, 2, none⟩ (.int .i64 t')).setCell ⟨c, 3, none⟩ (.float .f32 x')).setCell ⟨c, 4, none⟩ (.float .f32 y')).setCell ⟨c, 5, none⟩ (.int .i64 n')) c k' i' t' x' y' n' := by
  have e := (setCells_row c 57 [.int .i64 k', .int .i64 i', .int .i64 t', .float .f32 x', .float .f32 y', .int .i64 n'] 0 [.int .i64 k, .int .i64 i, .int .i64 t, .float .f32 x, .float .f32 y, .int .i64 n] w h (by simp)).1
  exact e
end Go.Proofs.YtlfmfhmbkpnjbaaGreatDoor
