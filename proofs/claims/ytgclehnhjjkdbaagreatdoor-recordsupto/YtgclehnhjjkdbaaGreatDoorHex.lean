import Derived.Test.YtgclehnhjjkdbaaGreatDoorBldr
import Derived.Lib.LaidTab
import Derived.Laws.Bits64b
import Derived.Laws.BytesArg
namespace Go.Proofs.YtgclehnhjjkdbaaGreatDoor
open Go.RowKit

/-- A digit; a number by its digits to the base 16. -/
def hexc (d : Nat) : UInt8 := if d < 10 then UInt8.ofNat (48 + d) else UInt8.ofNat (87 + d)
def hexL (u : Nat) : List UInt8 := if u < 16 then [hexc u] else hexL (u / 16) ++ [hexc (u % 16)]
termination_by u
decreasing_by omega

theorem hexL_one {u : Nat} (h : u < 16) : hexL u = [hexc u] := by rw [hexL, if_pos h]
theorem hexL_more {u : Nat} (h : ¬ u < 16) : hexL u = hexL (u / 16) ++ [hexc (u % 16)] := by rw [hexL, if_neg h]

/-- The table of bits that is asked. -/
def Tab4 (w : World) : Prop := w.cell? ⟨4, 15, none⟩ = some (.int .u8 4)

set_option maxHeartbeats 1000000 in
set_option maxRecDepth 100000 in
theorem tz_c (w : World) (h : Tab4 w) : Calls Tryz.prog 97 #[.int .u64 16] w fun e w' => e = .returned (.int .i64 4) ∧ w' = w := by
  have hc : w.cell? ⟨4, 15, none⟩ = some (.int .u8 4) := h
  have key : IntKind.u64.wrap (bits BinOp.and IntKind.u64 16 (IntKind.u64.wrap (-16)) * 285870213051353865) / 288230376151711744 = 15 := by kernel_rfl
  go_enter Tryz.func97, Tryz.ntmps97
  go_wp2_with (simp only [key])
  go_ret
  exact ⟨rfl, rfl⟩

set_option maxHeartbeats 1000000 in
set_option maxRecDepth 100000 in
theorem tzz_c (w : World) (h : Tab4 w) : Calls Tryz.prog 95 #[.int .u64 16] w fun e w' => e = .returned (.int .i64 4) ∧ w' = w := by
  go_enter Tryz.func95, Tryz.ntmps95
  go_wp2_with fail
  refine (tz_c w h).mono ?_
  rintro e w1 ⟨rfl, rfl⟩
  go_wp2
  go_ret
  exact ⟨rfl, rfl⟩

set_option maxHeartbeats 1000000 in
set_option maxRecDepth 100000 in
theorem pow_c (w : World) : Calls Tryz.prog 94 #[.int .i64 16] w fun e w' => e = .returned (.bool true) ∧ w' = w := by
  have key : bits BinOp.and IntKind.i64 16 15 = 0 := by kernel_rfl
  go_enter Tryz.func94, Tryz.ntmps94
  go_wp2_with (simp only [key])
  go_ret
  exact ⟨rfl, rfl⟩

/-- What has been written at the array's end. -/
structure Digs (w : World) (g : Nat) (cur : List Value) (suf : List UInt8) : Prop where
  blk : w.heap[g]? = some (.cells cur.toArray 156 (0, 0))
  len : cur.length = 65
  row : cur.drop (65 - suf.length) = Lib.byteCells suf
  fit : suf.length ≤ 65

def digs : ByteArray := ⟨#[48, 49, 50, 51, 52, 53, 54, 55, 56, 57, 97, 98, 99, 100, 101, 102, 103, 104, 105, 106, 107, 108, 109, 110, 111, 112, 113, 114, 115, 116, 117, 118, 119, 120, 121, 122]⟩
theorem digs_fin : ∀ d : Fin 16, digs[d.val]'(Nat.lt_of_lt_of_le d.isLt (by decide)) = hexc d.val := by decide
theorem digs_at (d : Nat) (h : d < 16) (h' : d < digs.size) : digs[d]'h' = hexc d := digs_fin ⟨d, h⟩

theorem Digs.more {w : World} {g i : Nat} {cur : List Value} {suf : List UInt8} (h : Digs w g cur suf) (hi : i + suf.length = 65) (h1 : 1 ≤ i) (c : UInt8) : Digs (w.setCell ⟨g, i - 1, none⟩ (.int .u8 c.toNat)) g (cur.set (i - 1) (.int .u8 c.toNat)) (c :: suf) := by
  refine ⟨?_, by simpa using h.len, ?_, by simp; omega⟩
  · have := row_set h.blk (i - 1) (.int .u8 c.toNat)
    simpa using this
  · have h2 := h.row
    rw [show 65 - suf.length = i from by omega] at h2
    rw [show 65 - (c :: suf).length = i - 1 from by simp; omega]
    have hl : i - 1 < cur.length := by rw [h.len]; omega
    rw [List.drop_eq_getElem_cons (by simpa using hl), List.getElem_set_self, List.drop_set_of_lt (by omega), show i - 1 + 1 = i from by omega, h2]
    rfl

theorem hex_conv {w : World} {g i : Nat} {cur : List Value} {l : List UInt8} (h : Digs w g cur l) (hi : i + l.length = 65) : (convert 81 9 (.slice (some ⟨g, i, none⟩) (65 - i) (65 - i))).run Tryz.prog w = .ok (.string ⟨l.toArray⟩) w := by
  have h2 := h.row
  rw [show 65 - l.length = i from by omega] at h2
  have := run_convert_bytes_arg (P := Tryz.prog) w 81 5 Tryz.underlying81 Tryz.underlying5 g i (65 - i) (65 - i) (l.map (fun b => (b.toNat : Int))) (by simp; omega) (fun k hk => by
    rw [cell_block h.blk]
    have h3 : (cur.drop i)[k]? = (Lib.byteCells l)[k]? := by rw [h2]
    rw [List.getElem?_drop] at h3
    have hkl : k < l.length := by omega
    simp only [List.getElem?_toArray, h3, Lib.byteCells, List.getElem?_map, List.getElem?_eq_getElem hkl, Option.map_some, List.getD]
    rfl) 9 Tryz.underlying9
  have e1 : (l.map (fun b => (b.toNat : Int))).map (fun n => UInt8.ofNat n.toNat) = l := by
    rw [List.map_map]
    have : ((fun n : Int => UInt8.ofNat n.toNat) ∘ fun b : UInt8 => (b.toNat : Int)) = id := by funext b; simp
    rw [this, List.map_id]
  rw [this]
  unfold strOfNums
  rw [e1]

set_option maxHeartbeats 2000000 in
set_option maxRecDepth 100000 in
theorem bits_c (u : Nat) (w : World) (hu : u < 18446744073709551616) (h : Tab4 w) :
    Calls Tryz.prog 89 #[.slice none 0 0, .int .u64 u, .int .i64 16, .bool false, .bool false] w fun e w' => e = .returned (.tuple #[.slice none 0 0, .string ⟨(hexL u).toArray⟩]) ∧ Kept (fun _ => False) w w' := by
  have H := hide h
  clear h
  go_enter Tryz.func89, Tryz.ntmps89
  go_wp2_with fail
  refine (pow_c _).mono ?_
  rintro e w1 ⟨rfl, rfl⟩
  have HT : Hid (Tab4 (w.alloc (Obj.cells Tryz.zeroCells156 156))) := by
    show _ = _
    have hlt := World.block_lt_of_cell? w ⟨4, 15, none⟩ H.out
    rw [cell_keep (Kept.alloc w _) hlt (fun e => e)]; exact H.out
  have K0 := hide (Kept.alloc w (Obj.cells Tryz.zeroCells156 156))
  have D0 : Hid (Digs (w.alloc (Obj.cells Tryz.zeroCells156 156)) w.heap.size Tryz.zeroCells156.toList []) := ⟨by simpa using heap_alloc_new w (Obj.cells Tryz.zeroCells156 156), by kernel_rfl, by kernel_rfl, by decide⟩
  go_wp2_with fail
  refine (tzz_c _ HT.out).mono ?_
  rintro e w1 ⟨rfl, rfl⟩
  go_wp2
  generalize w.alloc (Obj.cells Tryz.zeroCells156 156) = W at *
  have hW := heap_lt D0.out.blk
  go_loopw [1, 13] (fun a b wr => ∃ (v i : Nat) (suf : List UInt8) (cur : List Value), a = .int .u64 v ∧ b = .int .i64 i ∧ i + suf.length = 65 ∧ suf.length ≤ 15 ∧ v < 16 ^ (16 - suf.length) ∧ Hid (hexL u = hexL v ++ suf) ∧ Hid (Digs wr w.heap.size cur suf) ∧ Hid (Kept (fun _ => False) w wr)) (fun a _ _ => (intOf a).toNat)
  case atStart => exact ⟨u, 65, [], _, rfl, rfl, rfl, by decide, by simpa using hu, (by show _ = _; simp), D0, K0⟩
  case round =>
    obtain ⟨v, i, suf, cur, rfl, rfl, his, hk, hv, HX, HD, HK⟩ := hrel
    clear D0
    have hv64 : v < 18446744073709551616 := Nat.lt_of_lt_of_le hv (by
      have : 16 ^ (16 - suf.length) ≤ 16 ^ 16 := Nat.pow_le_pow_right (by decide) (by omega)
      exact this)
    by_cases hge : 16 ≤ v
    · have h1 : (16 : Int) ≤ (v : Int) := by omega
      have hand : bits BinOp.and IntKind.u64 (v : Int) 15 = ((v % 16 : Nat) : Int) := by
        have := bits_and_u64_nat v 15 hv64 (by decide)
        rw [show (15 : Nat) = 2 ^ 4 - 1 from rfl, Nat.and_two_pow_sub_one_eq_mod] at this
        exact this
      have hk14 : suf.length ≤ 14 := by
        by_cases e : suf.length ≤ 14
        · exact e
        · have : suf.length = 15 := by omega
          rw [this] at hv
          simp at hv
          omega
      obtain ⟨u0, hu0⟩ : ∃ u0, wr.cell? ⟨w.heap.size, i - 1, none⟩ = some u0 := ⟨cur[i - 1]'(by rw [HD.out.len]; omega), by rw [cell_block HD.out.blk]; simp⟩
      have ffz : ∀ j, wr.frozen? ⟨w.heap.size, j, none⟩ = false := fun j => by simp [World.frozen?, HD.out.blk]
      have hi1 : (1 : Int) ≤ (i : Int) := by omega
      have hi2 : (i : Int) ≤ 65 := by omega
      have hm16 : v % 16 < 16 := Nat.mod_lt _ (by decide)
      go_wp2_with (simp only [hand])
      go_roundw
      case rel =>
        refine ⟨v / 16, i - 1, hexc (v % 16) :: suf, cur.set (i - 1) (.int .u8 (hexc (v % 16)).toNat), by go_num, by go_num, by simp; omega, by simp; omega, ?_, ?_, ?_, ?_⟩
        · simp only [List.length_cons]
          have e : 16 ^ (16 - suf.length) = 16 ^ (16 - (suf.length + 1)) * 16 := by rw [← Nat.pow_succ]; congr 1; omega
          rw [e] at hv
          exact Nat.div_lt_of_lt_mul (by rw [Nat.mul_comm]; exact hv)
        · show _ = _
          rw [HX.out, hexL_more (by omega), List.append_assoc]; rfl
        · have := HD.out.more his (by omega) (hexc (v % 16))
          rw [← digs_at (v % 16) hm16 (Nat.lt_of_lt_of_le hm16 (by decide))] at this ⊢
          exact this
        · exact HK.out.join (Kept.setCell wr _ _) (fun _ _ e => e) (fun j hj e => by have e' : j = w.heap.size := e; omega)
      case measure => simp [intOf]; omega
    · have h1 : ¬ (16 : Int) ≤ (v : Int) := by omega
      obtain ⟨u0, hu0⟩ : ∃ u0, wr.cell? ⟨w.heap.size, i - 1, none⟩ = some u0 := ⟨cur[i - 1]'(by rw [HD.out.len]; omega), by rw [cell_block HD.out.blk]; simp⟩
      have ffz : ∀ j, wr.frozen? ⟨w.heap.size, j, none⟩ = false := fun j => by simp [World.frozen?, HD.out.blk]
      have hi1 : (1 : Int) ≤ (i : Int) := by omega
      have hi2 : (i : Int) ≤ 65 := by omega
      have hv16 : v < 16 := by omega
      have hv36 : (v : Int) < 36 := by omega
      have HX2 : Hid (hexL u = hexc v :: suf) := by show _ = _; rw [HX.out, hexL_one hv16]; rfl
      have hs0 : (0 : Int) ≤ (i : Int) - 1 := by omega
      have hs1 : (i : Int) - 1 ≤ 65 := by omega
      have hs2 : (i : Int) - 1 ≤ ((Tryz.prog.arrayLen 156 : Nat) : Int) := hs1
      have HDX : Hid (Digs (wr.setCell ⟨w.heap.size, i - 1, none⟩ (.int .u8 ((digs[v]'(Nat.lt_of_lt_of_le hv16 (by decide)) : UInt8).toNat))) w.heap.size (cur.set (i - 1) (.int .u8 (hexc v).toNat)) (hexc v :: suf)) := by
        have := HD.out.more his (by omega) (hexc v)
        rw [← digs_at v hv16 (Nat.lt_of_lt_of_le hv16 (by decide))] at this ⊢
        exact this
      have HKX : Hid (Kept (fun _ => False) w (wr.setCell ⟨w.heap.size, i - 1, none⟩ (.int .u8 ((digs[v]'(Nat.lt_of_lt_of_le hv16 (by decide)) : UInt8).toNat)))) := HK.out.join (Kept.setCell wr _ _) (fun _ _ e => e) (fun j hj e => by have e' : j = w.heap.size := e; omega)
      unfold digs at HDX HKX
      go_wp2
      generalize wr.setCell ⟨w.heap.size, i - 1, none⟩ _ = wX at *
      have hcv := hex_conv HDX.out (i := i - 1) (by simp; omega)
      rw [hcv]
      simp only [Result.andThen]
      rw [Oper.upon_value]
      go_wp2
      go_ret2
      exact ⟨ret2 rfl (by rw [HX2.out]; rfl), HKX.out⟩

set_option maxHeartbeats 1000000 in
set_option maxRecDepth 100000 in
theorem fmtu_c (u : Nat) (w : World) (hu : u < 18446744073709551616) (h : Tab4 w) :
    Calls Tryz.prog 84 #[.int .u64 u, .int .i64 16] w fun e w' => e = .returned (.string ⟨(hexL u).toArray⟩) ∧ Kept (fun _ => False) w w' := by
  go_enter Tryz.func84, Tryz.ntmps84
  go_wp2_with fail
  refine (bits_c u w hu h).mono ?_
  rintro e w1 ⟨rfl, k1⟩
  have K1 := hide k1
  clear k1
  go_wp2
  go_ret
  exact ⟨rfl, K1.out⟩

set_option maxHeartbeats 1000000 in
set_option maxRecDepth 100000 in
theorem fmtU_c (u : Nat) (w : World) (hu : u < 18446744073709551616) (h : Tab4 w) :
    Calls Tryz.prog 77 #[.int .u64 u, .int .i64 16] w fun e w' => e = .returned (.string ⟨(hexL u).toArray⟩) ∧ Kept (fun _ => False) w w' := by
  go_enter Tryz.func77, Tryz.ntmps77
  go_wp2_with fail
  refine (fmtu_c u w hu h).mono ?_
  rintro e w1 ⟨rfl, k1⟩
  have K1 := hide k1
  clear k1
  go_wp2
  go_ret
  exact ⟨rfl, K1.out⟩

set_option maxHeartbeats 1000000 in
set_option maxRecDepth 100000 in
theorem floatWord_c (x : Nat) (w : World) (h : Tab4 w) :
    Calls Tryz.prog 64 #[.float .f32 x] w fun e w' => e = .returned (.string ⟨(hexL (x % 18446744073709551616)).toArray⟩) ∧ Kept (fun _ => False) w w' := by
  have hwr : IntKind.u64.wrap (x : Int) = ((x % 18446744073709551616 : Nat) : Int) := by rw [IntKind.wrap_u64]; omega
  have hbits : ∀ w : World, (callFunc 78 #[.float .f32 x]).run Tryz.prog w = .ok (.value (.int .u32 x)) w := fun w => by
    rw [run_callFunc_extern Tryz.func78 (by kernel_rfl) (by kernel_rfl) (by kernel_rfl) (e := Extern.MathFloatBits.float32bits) (by kernel_rfl)]
    rfl
  go_enter Tryz.func64, Tryz.ntmps64
  go_wp2_with (simp only [hwr])
  refine (fmtU_c (x % 18446744073709551616) w (Nat.mod_lt _ (by decide)) h).mono ?_
  rintro e w1 ⟨rfl, k1⟩
  have K1 := hide k1
  clear k1
  go_wp2
  go_ret
  exact ⟨rfl, K1.out⟩
end Go.Proofs.YtgclehnhjjkdbaaGreatDoor

