import Derived.Test.YtlfmfhmbkpnjbabGreatDoorPy9
import Derived.Test.YtlfmfhmbkpnjbabGreatDoorPy6
namespace Go.Proofs.YtlfmfhmbkpnjbabGreatDoor
open Go.RowKit

theorem decDigits_short (k u : Nat) (hk : 1 ≤ k) (h : u < 10 ^ k) : (Lib.decDigits u).length ≤ k := by
  induction k generalizing u with
  | zero => omega
  | succ k ih =>
    rw [Lib.decDigits]
    split
    · simp
    · rename_i hu
      have hk' : 1 ≤ k := by
        by_cases e : 1 ≤ k
        · exact e
        · have : k = 0 := by omega
          subst this
          simp at h
          omega
      have := ih (u / 10) hk' (Nat.div_lt_of_lt_mul (by rw [Nat.pow_succ, Nat.mul_comm] at h; exact h))
      simp
      omega
theorem hexL_short (k u : Nat) (hk : 1 ≤ k) (h : u < 16 ^ k) : (hexL u).length ≤ k := by
  induction k generalizing u with
  | zero => omega
  | succ k ih =>
    rw [hexL_eq]
    split
    · simp
    · rename_i hu
      have hk' : 1 ≤ k := by
        by_cases e : 1 ≤ k
        · exact e
        · have : k = 0 := by omega
          subst this
          simp at h
          omega
      have := ih (u / 16) hk' (Nat.div_lt_of_lt_mul (by rw [Nat.pow_succ, Nat.mul_comm] at h; exact h))
      simp
      omega

/-- A word is short. -/
def Short (x : ByteArray) : Prop := x.data.toList.length ≤ 24
theorem itoaW_short (n : Int) (h : -9223372036854775808 ≤ n ∧ n ≤ 9223372036854775807) : Short (itoaW n) := by
  unfold Short itoaW Lib.itoa
  simp only
  split
  · have := decDigits_short 20 n.natAbs (by decide) (by
      have h1 : n.natAbs < 10000000000000000000 := by omega
      exact Nat.lt_of_lt_of_le h1 (by decide))
    simp
    omega
  · have := decDigits_short 20 n.toNat (by decide) (by
      have h1 : n.toNat < 10000000000000000000 := by omega
      exact Nat.lt_of_lt_of_le h1 (by decide))
    simp
    omega
theorem hexW_short (x : Nat) : Short (hexW x) := by
  unfold Short hexW
  have := hexL_short 16 (x % 18446744073709551616) (by decide) (Nat.mod_lt _ (by decide))
  simp
  omega
theorem cmdW_short (c : Cmd) (h : IntC c) : ∀ x ∈ cmdW c, Short x := by
  have h1 := itoaW_short c.kind h.kind
  have h2 := itoaW_short c.id h.id
  have h3 := itoaW_short c.team h.team
  have h4 := itoaW_short c.n h.n
  have h5 := hexW_short c.x
  have h6 := hexW_short c.y
  unfold cmdW
  split
  · simp [h1, h2, h3, h5, h6]
  · split
    · simp [h1, h2, h5, h6]
    · split
      · simp [h1, h2, h4]
      · split
        · simp [h1, h2]
        · simp [h1]
theorem entW_short (m : Mob) (h : IntM m) : ∀ x ∈ entW m, Short x := by
  have h1 := itoaW_short m.id h.id
  have h2 := itoaW_short m.team h.team
  have h3 := itoaW_short m.health h.health
  unfold entW
  simp [h1, h2, h3, hexW_short]
theorem cmdW_few (c : Cmd) : (cmdW c).length ≤ 5 := by
  unfold cmdW
  split
  · simp
  · split
    · simp
    · split
      · simp
      · split <;> simp

theorem cmdW_pos (c : Cmd) : 0 < (cmdW c).length := by
  unfold cmdW
  split
  · simp
  · split
    · simp
    · split
      · simp
      · split <;> simp

/-- A line. -/
def lineL (xs : List ByteArray) : List UInt8 := Lib.join (xs.map (·.data.toList)) [32] ++ [10]
theorem join_short (xs : List ByteArray) (h : ∀ x ∈ xs, Short x) : (Lib.join (xs.map (·.data.toList)) [32]).length ≤ xs.length * 25 := by
  cases xs with
  | nil => simp [Lib.join_nil]
  | cons x r =>
    rw [List.map_cons, Lib.join_cons, List.length_append]
    have hx : x.data.toList.length ≤ 24 := h x (by simp)
    have hr : (Lib.joinTail [32] (r.map (·.data.toList))).length ≤ r.length * 25 := by
      have hr' : ∀ y ∈ r, Short y := fun y hy => h y (by simp [hy])
      clear h hx
      unfold Lib.joinTail
      induction r with
      | nil => simp
      | cons y q ih =>
        have hy : y.data.toList.length ≤ 24 := hr' y (by simp)
        have := ih (fun z hz => hr' z (by simp [hz]))
        simp only [List.map_cons, List.flatten_cons, List.length_append, List.length_cons, List.length_nil] at this ⊢
        omega
    simp only [List.length_cons]
    omega

theorem rowS_length (l : List ByteArray) : (rowS l).length = l.length := by simp [rowS]
theorem rowS_append (a b : List ByteArray) : rowS (a ++ b) = rowS a ++ rowS b := by simp [rowS]
theorem rowS_one (l : List ByteArray) : ∀ u ∈ rowS l, u.oneCell' = true := by
  intro u hu
  simp only [rowS, List.mem_map] at hu
  obtain ⟨x, _, rfl⟩ := hu
  rfl
theorem info_str : (Tryz.prog.info? 9).map (fun i => (i.zero, i.size, i.bytes)) = some (some (.string ⟨#[]⟩), 1, 16) := by kernel_rfl

theorem ba_append (a b : List UInt8) : (⟨a.toArray⟩ : ByteArray) ++ ⟨b.toArray⟩ = ⟨(a ++ b).toArray⟩ := by
  apply ByteArray.ext
  simp [ByteArray.data_append]

set_option maxHeartbeats 1000000 in
set_option maxRecDepth 100000 in
theorem line_c (g cap : Nat) (xs : List ByteArray) (w : World) (h : ∀ j x, xs[j]? = some x → w.cell? ⟨g, j, none⟩ = some (.string x)) (hg : g < w.heap.size) (hn : xs.length ≤ 1000) (hcap : xs.length ≤ cap) (hs : ∀ x ∈ xs, Short x) :
    Calls Tryz.prog 56 #[.slice (some ⟨g, 0, none⟩) xs.length cap] w fun e w' => e = .returned (.string ⟨(lineL xs).toArray⟩) ∧ Kept (fun _ => False) w w' := by
  have hj := join_short xs hs
  have HJ := hide (Tryz.strings_Join g 0 cap xs ⟨#[32]⟩ w (fun j x hx => by rw [Nat.zero_add]; exact h j x hx) hg (by omega) hcap (by show (Lib.join (xs.map (·.data.toList)) [32]).length ≤ _; omega))
  go_enter Tryz.func56, Tryz.ntmps56
  go_wp2_with fail
  refine HJ.out.mono ?_
  rintro e w1 ⟨rfl, b1⟩
  have K1 := hide (Kept.of_below b1)
  clear b1 HJ
  go_wp2
  go_ret
  exact ⟨ret1 (congrArg Value.string (ba_append _ [10])), K1.out⟩

/-- The first line. -/
def firstW (ev : Int) : List ByteArray := [⟨#[101, 110, 99, 111, 114, 101]⟩, itoaW ev]

set_option maxHeartbeats 1000000 in
set_option maxRecDepth 100000 in
theorem firstLine_c (ev : Int) (w : World) (he : 1 ≤ ev ∧ ev ≤ 64) (h : Tabs w) :
    Calls Tryz.prog 29 #[.int .i64 ev] w fun e w' => e = .returned (.string ⟨(lineL (firstW ev)).toArray⟩) ∧ Kept (fun _ => False) w w' := by
  go_enter Tryz.func29, Tryz.ntmps29
  go_wp2_with fail
  refine (intWord_c ev w (by omega) h).mono ?_
  rintro e w1 ⟨rfl, k1⟩
  have K1 := hide k1
  clear k1
  have HB := heap_alloc_new w1 (.cells (rowS (firstW ev)).toArray 9)
  have HL := hide (line_c w1.heap.size 2 (firstW ev) (w1.alloc (.cells (rowS (firstW ev)).toArray 9)) (fun j x hx => by rw [cell_block HB]; simp [rowS, hx]) (by simp) (by simp [firstW]) (by simp [firstW]) (by
    intro x hx
    simp only [firstW, List.mem_cons, List.not_mem_nil, or_false] at hx
    rcases hx with rfl | rfl
    · show (6 : Nat) ≤ 24; decide
    · exact itoaW_short ev (by omega)))
  have K2 := hide (K1.out.calm2 (Kept.alloc w1 (.cells (rowS (firstW ev)).toArray 9)))
  clear HB
  go_wp2_with fail
  refine HL.out.mono ?_
  rintro e w2 ⟨rfl, k2⟩
  have K3 := hide (K2.out.calm2 k2)
  clear k2 HL
  go_wp2
  go_ret
  exact ⟨rfl, K3.out⟩

/-- The words of a tick. -/
def headW (cs : List Cmd) : List ByteArray := itoaW cs.length :: cs.flatMap cmdW
def tickW (cs : List Cmd) (t : Int) (L : List Mob) (ev : Int) : List ByteArray := headW cs ++ (if t % ev = 0 then itoaW L.length :: L.flatMap entW else [])

theorem words_take {α : Type} (L : List α) (f : α → List ByteArray) (i : Nat) (hi : i < L.length) : (L.take (i + 1)).flatMap f = (L.take i).flatMap f ++ f L[i] := by
  rw [List.take_succ_eq_append_getElem hi, List.flatMap_append]
  simp
theorem words_len {α : Type} (L : List α) (f : α → List ByteArray) (k : Nat) (h : ∀ x ∈ L, (f x).length ≤ k) : (L.flatMap f).length ≤ L.length * k := by
  induction L with
  | nil => simp
  | cons x r ih =>
    have h1 := h x (by simp)
    have h2 := ih (fun y hy => h y (by simp [hy]))
    simp only [List.flatMap_cons, List.length_append, List.length_cons]
    rw [Nat.add_mul]
    omega

/-- Words of one's own. -/
def OwnS (w : World) (base g cap : Nat) (X : List ByteArray) : Prop := w.ownsRow base 9 1 (.slice (some ⟨g, 0, none⟩) X.length cap) X.length (rowS X)
theorem OwnS.keep {w w' : World} {S : Nat → Prop} {base g cap : Nat} {X : List ByteArray} (h : OwnS w base g cap X) (k : Kept S w w') (hS : ¬ S g) : OwnS w' base g cap X :=
  owns_block h (fun j hj => k.block j (owns_lt h j hj) (by cases hj; exact hS))
theorem OwnS.calm {w w' : World} {base g cap : Nat} {X : List ByteArray} (h : OwnS w base g cap X) (k : Kept (fun _ => False) w w') : OwnS w' base g cap X := h.keep k (fun e => e)
theorem OwnS.new (w : World) (base : Nat) (X : List ByteArray) (hb : base ≤ w.heap.size) (hn : X.length ≤ 1000) : OwnS (w.alloc (.cells (rowS X).toArray 9)) base w.heap.size X.length X :=
  ⟨by simp [rowS], Or.inr ⟨w.heap.size, X.length, (rowS X).toArray, rfl, hb, heap_alloc_new w _, Nat.le_refl _, by unfold maxLen; omega, by simp [rowS], by simp only [Nat.mul_one]; exact List.take_of_length_le (by simp [rowS])⟩⟩
theorem OwnS.cells {w : World} {base g cap : Nat} {X : List ByteArray} (h : OwnS w base g cap X) : (∀ j x, X[j]? = some x → w.cell? ⟨g, j, none⟩ = some (.string x)) ∧ g < w.heap.size ∧ X.length ≤ cap ∧ base ≤ g := by
  rcases h.2 with ⟨e, _⟩ | ⟨g', c', cur, e, hb, hh, hc, _, _, ht⟩
  · cases e
  · cases e
    refine ⟨fun j x hx => ?_, heap_lt hh, hc, hb⟩
    have h1 : (rowS X)[j]? = some (.string x) := by simp [rowS, hx]
    rw [← ht, List.getElem?_take] at h1
    split at h1
    · rw [cell_block hh]; simpa using h1
    · cases h1

/-- Words more. -/
theorem wpList_append_words (w : World) {ops : Array Oper} {rest : List Oper} {o : Oper} {a : Act} {Q : Exit → Act → World → Prop} (hgd : o.guard = none) (s x : Operand)
    (ho : o.op = .call { callee := .builtin .append, args := #[s, x], argTypes := #[114, 114] }) (base g cap : Nat) (X : List ByteArray) (hs : a.eval s = .slice (some ⟨g, 0, none⟩) X.length cap) (hown : OwnS w base g cap X)
    (g2 c2 : Nat) (Y : List ByteArray) (hx : a.eval x = .slice (some ⟨g2, 0, none⟩) Y.length c2) (hY : HasW w g2 Y) (hb : X.length + Y.length ≤ 1000) (hpos : 0 < Y.length) (hbase : base ≤ w.heap.size)
    (h : ∀ g' cap' w' R, Hid (R = X ++ Y) → Hid (OwnS w' base g' cap' R) → Hid (Kept (fun k => k = g) w w') → wpList Tryz.prog ops Q rest (a.put o.dst (.slice (some ⟨g', 0, none⟩) R.length cap')) w') :
    wpList Tryz.prog ops Q (o :: rest) a w := by
  obtain ⟨i0, hi, hz0, hz1, hz2⟩ := info_parts info_str
  refine wpList_append_at w hgd s x 114 ho base 9 i0 _ 1 16 Tryz.underlying114 hi hz0 hz1 hz2 rfl (by decide) _ X.length (rowS X) hs hown ⟨g2, 0, none⟩ Y.length c2 (rowS Y) hx (by simp [rowS]) (fun j u hu => by rw [addr_add2, Nat.zero_add, cell_block hY]; simpa using hu) (rowS_one Y) hpos (by unfold maxLen; omega) (by omega) hbase ?_
  intro g' cap' w' hown' hgr
  have e : (X ++ Y).length = X.length + Y.length := List.length_append
  have := h g' cap' w' (X ++ Y) rfl (by show World.ownsRow _ _ _ _ _ _ _; rw [e, rowS_append]; exact hown') ((Kept.of_grown hgr).mono (fun k _ e => by cases e; rfl) : Kept _ _ _)
  rw [e] at this
  exact this
end Go.Proofs.YtlfmfhmbkpnjbabGreatDoor

namespace Go.Proofs.YtlfmfhmbkpnjbabGreatDoor
open Go.RowKit

theorem ReadsC.calm1 {w w' : World} {p : Option Addr} {L : List Cmd} (h : ReadsC w p L) (hk : Kept (fun _ => False) w w') : ReadsC w' p L := h.keep hk (fun _ _ _ _ e => e)

theorem headW_short (cs : List Cmd) (hn : cs.length ≤ 64) (h : ∀ c ∈ cs, IntC c) (i : Nat) : (∀ x ∈ itoaW cs.length :: (cs.take i).flatMap cmdW, Short x) ∧ (itoaW cs.length :: (cs.take i).flatMap cmdW).length ≤ 321 := by
  constructor
  · intro x hx
    rcases List.mem_cons.1 hx with rfl | hx
    · exact itoaW_short _ (by omega)
    · obtain ⟨c, hc, hx⟩ := List.mem_flatMap.1 hx
      exact cmdW_short c (h c (List.mem_of_mem_take hc)) x hx
  · have := words_len (cs.take i) cmdW 5 (fun c _ => cmdW_few c)
    rw [List.length_take] at this
    simp only [List.length_cons]
    have : min i cs.length * 5 ≤ 64 * 5 := Nat.mul_le_mul_right 5 (by omega)
    omega

set_option maxHeartbeats 4000000 in
set_option maxRecDepth 100000 in
theorem tickLine_c (pc : Option Addr) (capc : Nat) (cs : List Cmd) (t : Int) (p : Option Addr) (cap : Nat) (L : List Mob) (ev : Int) (w : World) (hn : cs.length ≤ 64) (hl : L.length ≤ 32) (hC : ReadsC w pc cs) (hR : Reads w p L) (hIC : ∀ c ∈ cs, IntC c) (hIM : ∀ m ∈ L, IntM m) (he : 1 ≤ ev ∧ ev ≤ 64) (ht : 0 ≤ t ∧ t ≤ 500) (hT : Tabs w) :
    Calls Tryz.prog 32 #[.slice pc cs.length capc, .agg #[.int .i64 t, .slice p L.length cap], .int .i64 ev] w fun e w' => e = .returned (.string ⟨(lineL (tickW cs t L ev)).toArray⟩) ∧ Kept (fun _ => False) w w' := by
  have hsf := store_float Tryz.prog
  have HC := hide hC
  have HR := hide hR
  have HIC := hide hIC
  have HIM := hide hIM
  have HT := hide hT
  have hev : (ev == 0) = false := by simp; omega
  have hev0 : ev ≠ 0 := by omega
  clear hC hR hIC hIM hT
  have K0 := hide (Kept.alloc w (.cells #[.int .i64 t, .slice p L.length cap] 34))
  have HB := hide (heap_alloc_new w (.cells #[.int .i64 t, .slice p L.length cap] 34))
  go_enter Tryz.func32, Tryz.ntmps32
  go_wp2_with fail
  generalize w.alloc (.cells #[.int .i64 t, .slice p L.length cap] 34) = W at *
  have hWb := heap_lt HB.out
  refine (intWord_c (cs.length : Int) W (by omega) (HT.out.calm K0.out)).mono ?_
  rintro e w1 ⟨rfl, k1⟩
  have K1 := hide k1
  clear k1
  have O1 := hide (OwnS.new w1 w1.heap.size [itoaW cs.length] (Nat.le_refl _) (by simp))
  have KA := hide (Kept.alloc w1 (.cells (rowS [itoaW cs.length]).toArray 9))
  go_wp2
  go_loopw [7, 18] (fun s a wr => ∃ i g cp, ∃ X : List ByteArray, i ≤ cs.length ∧ a = .int .i64 (i : Nat) ∧ s = .slice (some ⟨g, 0, none⟩) X.length cp ∧ Hid (X = itoaW cs.length :: (cs.take i).flatMap cmdW) ∧ Hid (OwnS wr w1.heap.size g cp X) ∧ Hid (Kept (fun _ => False) w1 wr)) (fun _ a _ => cs.length - (intOf a).toNat)
  case atStart => exact ⟨0, _, _, [itoaW cs.length], Nat.zero_le _, rfl, rfl, rfl, O1, KA⟩
  case round =>
    obtain ⟨i, g, cp, X, hil, rfl, rfl, HX, HO, HK⟩ := hrel
    clear O1 KA
    have hXs : (∀ x ∈ X, Short x) ∧ X.length ≤ 321 := by rw [HX.out]; exact headW_short cs hn HIC.out i
    have hXl := hXs.2
    have HKW := hide ((K0.out.calm2 K1.out).calm2 HK.out)
    have hsz := HK.out.size
    by_cases hlt : i < cs.length
    · obtain ⟨b, off, rfl, hb', c0, c1, c2, c3, c4, c5⟩ := (HC.out.calm1 HKW.out).at i hlt
      have hb1 : (0 : Int) ≤ (i : Int) := by omega
      have hb2 : (i : Int) < (cs.length : Int) := by omega
      have HX' : Hid (X ++ cmdW cs[i] = itoaW cs.length :: (cs.take (i + 1)).flatMap cmdW) := by show _ = _; rw [HX.out, words_take cs cmdW i hlt]; rfl
      have HIc := hide (HIC.out cs[i] (List.getElem_mem hlt))
      have hfew := cmdW_few cs[i]
      have hpos := cmdW_pos cs[i]
      generalize cs[i] = c at *
      have KB := hide (Kept.alloc wr (.cells #[.int .i64 c.kind, .int .i64 c.id, .int .i64 c.team, .float .f32 c.x, .float .f32 c.y, .int .i64 c.n] 90))
      go_wp2_with fail
      refine (cmdW_c c _ HIc.out (HT.out.calm (HKW.out.calm2 KB.out))).mono ?_
      rintro e w2 ⟨g2, rfl, hg2, q2, k2⟩
      have Q2 := hide q2
      have K2 := hide (KB.out.calm2 k2)
      have hs2 := K2.out.size
      clear q2 k2 c0 c1 c2 c3 c4 c5
      generalize cmdW c = Y at *
      go_wp2_with (at_builtin; refine wpList_append_words _ rfl (.tmp 22) (.tmp 24) rfl w1.heap.size g cp X rfl (HO.out.calm K2.out) g2 Y.length Y rfl Q2.out (by omega) hpos (by omega) ?_)
      intro g3 cp3 w3 R HRR O3 HK3
      have K3 : Hid (Kept (fun _ => False) w1 w3) := (HK.out.calm2 K2.out).join HK3.out (fun _ _ e => e) (fun j hj e => by have := HO.out.cells.2.2.2; omega)
      clear HK3
      go_wp2
      go_roundw
      case rel => exact ⟨i + 1, g3, cp3, R, by omega, by go_num, rfl, (by show _ = _; rw [HRR.out]; exact HX'.out), O3, K3⟩
      case measure => simp [intOf]; omega
    · obtain rfl : i = cs.length := by omega
      rw [List.take_length] at HX
      have HXH : Hid (X = headW cs) := HX
      have BR : Hid (wr.heap[w.heap.size]? = some (.cells #[.int .i64 t, .slice p L.length cap] 34 (0, 0))) := by show _ = _; rw [(K1.out.calm2 HK.out).block _ hWb (fun e => e)]; exact HB.out
      obtain ⟨a0, a1, -, -⟩ := two_cells BR.out
      clear HX
      by_cases hm : t % ev = 0
      · have hmb : (t % ev == 0) = true := by simp [hm]
        have HF : Hid (tickW cs t L ev = X ++ (itoaW L.length :: L.flatMap entW)) := by show _ = _; unfold tickW; rw [if_pos hm, HXH.out]
        clear hm
        go_wp2_with fail
        refine (intWord_c (L.length : Int) wr (by omega) (HT.out.calm HKW.out)).mono ?_
        rintro e w4 ⟨rfl, k4⟩
        have K4 := hide (HK.out.calm2 k4)
        have KA := hide (Kept.alloc w4 (.cells (rowS [itoaW L.length]).toArray 9))
        have HA := hide (heap_alloc_new w4 (.cells (rowS [itoaW L.length]).toArray 9))
        have HO4 := hide ((HO.out.calm k4).calm KA.out)
        have B4 : Hid (w4.heap[w.heap.size]? = some (.cells #[.int .i64 t, .slice p L.length cap] 34 (0, 0))) := by show _ = _; rw [k4.block _ (heap_lt BR.out) (fun e => e)]; exact BR.out
        clear k4 a0 a1
        have hs4 := K4.out.size
        go_wp2_with (at_builtin; refine wpList_append_words _ rfl (.tmp 32) (.tmp 37) rfl w1.heap.size g cp X rfl HO4.out w4.heap.size 1 [itoaW L.length] rfl HA.out (by simp; omega) (by simp) (by simp; omega) ?_)
        intro g5 cp5 w5 R5 HR5 O5 HK5
        have K5 : Hid (Kept (fun _ => False) w1 w5) := (K4.out.calm2 KA.out).join HK5.out (fun _ _ e => e) (fun j hj e => by have := HO.out.cells.2.2.2; omega)
        have B5 : Hid (w5.heap[w.heap.size]? = some (.cells #[.int .i64 t, .slice p L.length cap] 34 (0, 0))) := by show _ = _; rw [(K1.out.calm2 K5.out).block _ hWb (fun e => e)]; exact HB.out
        obtain ⟨a0, a1, -, -⟩ := two_cells B5.out
        clear HK5 HO4 HA KA K4 B4 BR HO HK
        go_wp2
        clear a0 a1
        go_loopw [7, 42] (fun s a wr => ∃ i g cp, ∃ X2 : List ByteArray, i ≤ L.length ∧ a = .int .i64 (i : Nat) ∧ s = .slice (some ⟨g, 0, none⟩) X2.length cp ∧ Hid (X2 = X ++ (itoaW L.length :: (L.take i).flatMap entW)) ∧ Hid (OwnS wr w1.heap.size g cp X2) ∧ Hid (Kept (fun _ => False) w1 wr)) (fun _ a _ => L.length - (intOf a).toNat)
        case atStart => exact ⟨0, g5, cp5, R5, Nat.zero_le _, rfl, rfl, (by show _ = _; rw [HR5.out]; rfl), O5, K5⟩
        case round =>
          clear O5 K5 B5 HR5
          obtain ⟨i, g, cp, X2, hil, rfl, rfl, HX, HO, HK⟩ := hrel
          have hX2 : (∀ x ∈ X2, Short x) ∧ X2.length ≤ 600 := by
            rw [HX.out]
            constructor
            · intro x hx
              rcases List.mem_append.1 hx with hx | hx
              · exact hXs.1 x hx
              · rcases List.mem_cons.1 hx with rfl | hx
                · exact itoaW_short _ (by omega)
                · obtain ⟨m, hm, hx⟩ := List.mem_flatMap.1 hx
                  exact entW_short m (HIM.out m (List.mem_of_mem_take hm)) x hx
            · have h7 := words_len (L.take i) entW 7 (fun m _ => by simp [entW])
              rw [List.length_take] at h7
              have h8 : min i L.length * 7 ≤ 32 * 7 := Nat.mul_le_mul_right 7 (by omega)
              simp only [List.length_append, List.length_cons]
              omega
          have hXl2 := hX2.2
          have HKW2 := hide ((K0.out.calm2 K1.out).calm2 HK.out)
          have hsz2 := HK.out.size
          by_cases hlt : i < L.length
          · obtain ⟨b, off, rfl, hb', c0, c1, c2, c3, c4, c5, c6⟩ := (HR.out.calm HKW2.out).at i hlt
            have hb1 : (0 : Int) ≤ (i : Int) := by omega
            have hb2 : (i : Int) < (L.length : Int) := by omega
            have HX' : Hid (X2 ++ entW L[i] = X ++ (itoaW L.length :: (L.take (i + 1)).flatMap entW)) := by show _ = _; rw [HX.out, words_take L entW i hlt]; simp
            have HIm := hide (HIM.out L[i] (List.getElem_mem hlt))
            generalize L[i] = m at *
            have KB := hide (Kept.alloc wr (.cells #[.int .i64 m.id, .int .i64 m.team, .float .f32 m.x, .float .f32 m.y, .float .f32 m.vx, .float .f32 m.vy, .int .i64 m.health] 63))
            go_wp2_with fail
            refine (entW_c m _ HIm.out (HT.out.calm (HKW2.out.calm2 KB.out))).mono ?_
            rintro e w2 ⟨g2, rfl, hg2, q2, k2⟩
            have Q2 := hide q2
            have K2 := hide (KB.out.calm2 k2)
            have hs2 := K2.out.size
            have h7 : (entW m).length = 7 := rfl
            clear q2 k2 c0 c1 c2 c3 c4 c5 c6
            generalize entW m = Y at *
            go_wp2_with (at_builtin; refine wpList_append_words _ rfl (.tmp 46) (.tmp 48) rfl w1.heap.size g cp X2 rfl (HO.out.calm K2.out) g2 7 Y (by rw [h7]; rfl) Q2.out (by omega) (by omega) (by omega) ?_)
            intro g3 cp3 w3 R HRR O3 HK3
            have K3 : Hid (Kept (fun _ => False) w1 w3) := (HK.out.calm2 K2.out).join HK3.out (fun _ _ e => e) (fun j hj e => by have := HO.out.cells.2.2.2; omega)
            clear HK3
            go_wp2
            go_roundw
            case rel => exact ⟨i + 1, g3, cp3, R, by omega, by go_num, rfl, (by show _ = _; rw [HRR.out]; exact HX'.out), O3, K3⟩
            case measure => simp [intOf]; omega
          · obtain rfl : i = L.length := by omega
            rw [List.take_length] at HX
            have HF2 : Hid (tickW cs t L ev = X2) := by show _ = _; rw [HF.out, HX.out]
            have LC := hide (line_c g cp X2 wr HO.out.cells.1 HO.out.cells.2.1 (by omega) HO.out.cells.2.2.1 hX2.1)
            clear HF HX
            go_wp2_with fail
            refine LC.out.mono ?_
            rintro e w6 ⟨rfl, k6⟩
            have K6 := hide (HKW2.out.calm2 k6)
            clear k6 LC
            go_wp2
            go_ret
            exact ⟨ret1 (by rw [HF2.out]; rfl), K6.out⟩
      · have hmb : (t % ev == 0) = false := by simp [hm]
        have HF : Hid (tickW cs t L ev = X) := by show _ = _; unfold tickW; rw [if_neg hm, List.append_nil, HXH.out]
        clear hm
        have LC := hide (line_c g cp X wr HO.out.cells.1 HO.out.cells.2.1 (by omega) HO.out.cells.2.2.1 hXs.1)
        go_wp2_with fail
        refine LC.out.mono ?_
        rintro e w6 ⟨rfl, k6⟩
        have K6 := hide (HKW.out.calm2 k6)
        clear k6 LC
        go_wp2
        go_ret
        exact ⟨ret1 (by rw [HF.out]; rfl), K6.out⟩
end Go.Proofs.YtlfmfhmbkpnjbabGreatDoor

namespace Go.Proofs.YtlfmfhmbkpnjbabGreatDoor
open Ieee

/-- Rounding to the nearest whole number, ties to even: what it keeps to. -/
theorem cut_spec (neg : Bool) (n d : Nat) : 2 * n ≤ 2 ^ d * (2 * (Toward.even.cut neg n d) + 1) ∧ 2 ^ d * (2 * (Toward.even.cut neg n d)) ≤ 2 * n + 2 ^ d ∧
    (2 * n = 2 ^ d * (2 * (Toward.even.cut neg n d) + 1) → (Toward.even.cut neg n d) % 2 = 0) ∧ (2 ^ d * (2 * (Toward.even.cut neg n d)) = 2 * n + 2 ^ d → (Toward.even.cut neg n d) % 2 = 0) := by
  have hG : 0 < 2 ^ d := Nat.two_pow_pos d
  by_cases hd : d ≤ n.log2 + 2
  · have e1 : (1 <<< min d (n.log2 + 2)) = 2 ^ d := by rw [Nat.min_eq_left hd, Nat.one_shiftLeft]
    have e2 : Toward.even.cut neg n d = n / 2 ^ d + (decide (2 ^ d < 2 * (n % 2 ^ d)) || (2 ^ d == 2 * (n % 2 ^ d) && (n / 2 ^ d) % 2 == 1)).toNat := by
      unfold Toward.cut
      simp only [e1]
    have hn := Nat.div_add_mod n (2 ^ d)
    have hr := Nat.mod_lt n hG
    rw [e2]
    generalize 2 ^ d = G at *
    generalize n / G = low at *
    generalize n % G = rest at *
    subst hn
    by_cases h1 : G < 2 * rest
    · simp only [h1, decide_true, Bool.true_or, Bool.toNat_true]
      have q : G * (2 * (low + 1)) = 2 * (G * low) + 2 * G := by rw [Nat.mul_left_comm, Nat.mul_add, Nat.mul_one, Nat.mul_add]
      have q' : G * (2 * (low + 1) + 1) = 2 * (G * low) + 3 * G := by rw [Nat.mul_add, q]; omega
      rw [q, q']
      refine ⟨by omega, by omega, fun h => by omega, fun h => by omega⟩
    · by_cases h2 : G = 2 * rest
      · by_cases h3 : low % 2 = 1
        · have e : (decide (G < 2 * rest) || (G == 2 * rest && low % 2 == 1)) = true := by simp [h2.symm, h3]
          rw [e]
          simp only [Bool.toNat_true]
          have q : G * (2 * (low + 1)) = 2 * (G * low) + 2 * G := by rw [Nat.mul_left_comm, Nat.mul_add, Nat.mul_one, Nat.mul_add]
          have q' : G * (2 * (low + 1) + 1) = 2 * (G * low) + 3 * G := by rw [Nat.mul_add, q]; omega
          rw [q, q']
          refine ⟨by omega, by omega, fun h => by omega, fun h => by omega⟩
        · have e : (decide (G < 2 * rest) || (G == 2 * rest && low % 2 == 1)) = false := by simp [h1, h3]
          rw [e]
          simp only [Bool.toNat_false, Nat.add_zero]
          have q : G * (2 * low) = 2 * (G * low) := by rw [← Nat.mul_assoc, Nat.mul_comm G 2, Nat.mul_assoc]
          have q' : G * (2 * low + 1) = 2 * (G * low) + G := by rw [Nat.mul_add, q]; omega
          rw [q, q']
          refine ⟨by omega, by omega, fun h => by omega, fun h => by omega⟩
      · have e : (decide (G < 2 * rest) || (G == 2 * rest && low % 2 == 1)) = false := by simp [h1, h2]
        rw [e]
        simp only [Bool.toNat_false, Nat.add_zero]
        have q : G * (2 * low) = 2 * (G * low) := by rw [← Nat.mul_assoc, Nat.mul_comm G 2, Nat.mul_assoc]
        have q' : G * (2 * low + 1) = 2 * (G * low) + G := by rw [Nat.mul_add, q]; omega
        rw [q, q']
        refine ⟨by omega, by omega, fun h => by omega, fun h => by omega⟩
  · have e1 : (1 <<< min d (n.log2 + 2)) = 2 ^ (n.log2 + 2) := by rw [Nat.min_eq_right (by omega), Nat.one_shiftLeft]
    have hlt : n < 2 ^ (n.log2 + 1) := Nat.lt_log2_self
    have hp : 2 ^ (n.log2 + 2) = 2 * 2 ^ (n.log2 + 1) := by rw [Nat.pow_succ, Nat.mul_comm]
    have hle : 2 ^ (n.log2 + 2) ≤ 2 ^ d := Nat.pow_le_pow_right (by decide) (by omega)
    have e2 : Toward.even.cut neg n d = 0 := by
      unfold Toward.cut
      simp only [e1]
      rw [Nat.div_eq_of_lt (by omega), Nat.mod_eq_of_lt (by omega)]
      have h1 : ¬ 2 ^ (n.log2 + 2) < 2 * n := by omega
      simp [h1]
    rw [e2]
    refine ⟨by omega, by omega, fun _ => rfl, fun _ => rfl⟩

theorem cut_mono (s t : Bool) (n d n' d' : Nat) (h : n * 2 ^ d' ≤ n' * 2 ^ d) : Toward.even.cut s n d ≤ Toward.even.cut t n' d' := by
  obtain ⟨_, p2, _, p4⟩ := cut_spec s n d
  obtain ⟨q1, _, q3, _⟩ := cut_spec t n' d'
  generalize Toward.even.cut s n d = k at *
  generalize Toward.even.cut t n' d' = k' at *
  have hA : 0 < 2 ^ d := Nat.two_pow_pos d
  have hB : 0 < 2 ^ d' := Nat.two_pow_pos d'
  generalize 2 ^ d = A at *
  generalize 2 ^ d' = B at *
  apply Nat.le_of_not_lt
  intro hk
  have m1 := Nat.mul_le_mul_left B p2
  have m2 := Nat.mul_le_mul_left A q1
  have x1 : B * (A * (2 * k)) = (A * B) * (2 * k) := by rw [← Nat.mul_assoc, Nat.mul_comm B A]
  have x2 : B * (2 * n + A) = 2 * (n * B) + A * B := by rw [Nat.mul_add, Nat.mul_comm B A, ← Nat.mul_assoc, Nat.mul_comm B 2, Nat.mul_assoc, Nat.mul_comm B n]
  have x3 : A * (2 * n') = 2 * (n' * A) := by rw [← Nat.mul_assoc, Nat.mul_comm A 2, Nat.mul_assoc, Nat.mul_comm A n']
  have x4 : A * (B * (2 * k' + 1)) = (A * B) * (2 * k' + 1) := by rw [Nat.mul_assoc]
  rw [x1, x2] at m1
  rw [x3, x4] at m2
  have hAB : 0 < A * B := Nat.mul_pos hA hB
  have x5 : (A * B) * (2 * k' + 1) + A * B = (A * B) * (2 * (k' + 1)) := by rw [show 2 * (k' + 1) = (2 * k' + 1) + 1 from by omega, Nat.mul_add (A * B) (2 * k' + 1) 1, Nat.mul_one]
  have hle : (A * B) * (2 * k) ≤ (A * B) * (2 * (k' + 1)) := by rw [← x5]; omega
  have hkk : k ≤ k' + 1 := by
    have := Nat.le_of_mul_le_mul_left hle hAB
    omega
  obtain rfl : k = k' + 1 := by omega
  have t1 : A * (2 * (k' + 1)) = 2 * n + A := by
    apply Nat.eq_of_mul_eq_mul_left hB
    rw [x1, x2]; omega
  have t2 : 2 * n' = B * (2 * k' + 1) := by
    apply Nat.eq_of_mul_eq_mul_left hA
    rw [x3, x4]; omega
  have e1 := p4 t1
  have e2 := q3 t2
  omega

/-- m * 2 ^ i is not above n * 2 ^ j. -/
def LeV (m : Nat) (i : Int) (n : Nat) (j : Int) : Prop := ∀ b : Int, b ≤ i → b ≤ j → m * 2 ^ (i - b).toNat ≤ n * 2 ^ (j - b).toNat

theorem leV_of {m : Nat} {i : Int} {n : Nat} {j : Int} (c : Int) (h1 : c ≤ i) (h2 : c ≤ j) (h : m * 2 ^ (i - c).toNat ≤ n * 2 ^ (j - c).toNat) : LeV m i n j := by
  intro b hb1 hb2
  by_cases hbc : b ≤ c
  · rw [show (i - b).toNat = (i - c).toNat + (c - b).toNat from by omega, show (j - b).toNat = (j - c).toNat + (c - b).toNat from by omega, Nat.pow_add, Nat.pow_add, ← Nat.mul_assoc, ← Nat.mul_assoc]
    exact Nat.mul_le_mul_right _ h
  · rw [show (i - c).toNat = (i - b).toNat + (b - c).toNat from by omega, show (j - c).toNat = (j - b).toNat + (b - c).toNat from by omega, Nat.pow_add, Nat.pow_add, ← Nat.mul_assoc, ← Nat.mul_assoc] at h
    exact Nat.le_of_mul_le_mul_right h (Nat.two_pow_pos _)

theorem LeV.total (m : Nat) (i : Int) (n : Nat) (j : Int) : LeV m i n j ∨ LeV n j m i := by
  rcases Nat.le_total (m * 2 ^ (i - min i j).toNat) (n * 2 ^ (j - min i j).toNat) with h | h
  · exact Or.inl (leV_of (min i j) (by omega) (by omega) h)
  · exact Or.inr (leV_of (min i j) (by omega) (by omega) h)

/-- The last place that is kept; the rung. -/
def lastOf (m : Nat) (i : Int) : Int := max (i + m.log2 - 23) (-149)
def keptOf (m : Nat) (i : Int) : Nat := Toward.even.cut false (m <<< (i - lastOf m i).toNat) (lastOf m i - i).toNat
def rungOf (m : Nat) (i : Int) : Nat := if m = 0 then 0 else min ((lastOf m i + 149).toNat * 8388608 + keptOf m i) 2139095040

theorem least_single : Ieee.single.leastPlace = -149 := by decide

theorem nearest_rung (neg : Bool) (m : Nat) (i : Int) : Ieee.single.nearest neg m i = Ieee.single.word neg (rungOf m i) := by
  unfold Format.nearest rungOf
  split
  · rfl
  · rw [inf_single, bin_single, least_single]
    rfl

theorem rungOf_le (m : Nat) (i : Int) : rungOf m i ≤ 2139095040 := by
  unfold rungOf; split <;> omega

theorem cut_shift_le (m : Nat) (i l : Int) (n : Nat) (j l' : Int) (hl : l = l') (h : LeV m i n j) : Toward.even.cut false (m <<< (i - l).toNat) (l - i).toNat ≤ Toward.even.cut false (n <<< (j - l').toNat) (l' - j).toNat := by
  subst hl
  apply cut_mono
  rw [Nat.shiftLeft_eq, Nat.shiftLeft_eq, Nat.mul_assoc, Nat.mul_assoc, ← Nat.pow_add, ← Nat.pow_add]
  have := h (min (min i j) l) (by omega) (by omega)
  have h2 := Nat.mul_le_mul_right (2 ^ (((i - l).toNat + (l - j).toNat) - (i - min (min i j) l).toNat)) this
  by_cases hc : (i - min (min i j) l).toNat ≤ (i - l).toNat + (l - j).toNat
  · rw [Nat.mul_assoc, Nat.mul_assoc, ← Nat.pow_add, ← Nat.pow_add] at h2
    rw [show (i - l).toNat + (l - j).toNat = (i - min (min i j) l).toNat + ((i - l).toNat + (l - j).toNat - (i - min (min i j) l).toNat) from by omega]
    rw [show (j - l).toNat + (l - i).toNat = (j - min (min i j) l).toNat + ((i - l).toNat + (l - j).toNat - (i - min (min i j) l).toNat) from by omega]
    exact h2
  · rw [show (i - min (min i j) l).toNat = ((i - l).toNat + (l - j).toNat) + ((i - min (min i j) l).toNat - ((i - l).toNat + (l - j).toNat)) from by omega,
      show (j - min (min i j) l).toNat = ((j - l).toNat + (l - i).toNat) + ((i - min (min i j) l).toNat - ((i - l).toNat + (l - j).toNat)) from by omega,
      Nat.pow_add, Nat.pow_add _ ((j - l).toNat + (l - i).toNat), ← Nat.mul_assoc, ← Nat.mul_assoc] at this
    exact Nat.le_of_mul_le_mul_right this (Nat.two_pow_pos _)

theorem cut_zero (n : Nat) : Toward.even.cut false n 0 = n := by
  obtain ⟨h1, h2, _, _⟩ := cut_spec false n 0
  simp only [Nat.pow_zero, Nat.one_mul] at h1 h2
  omega

theorem kept_le (m : Nat) (i : Int) : keptOf m i ≤ 16777216 := by
  have hlt : m < 2 ^ (m.log2 + 1) := Nat.lt_log2_self
  unfold keptOf
  have : Toward.even.cut false (m <<< (i - lastOf m i).toNat) (lastOf m i - i).toNat ≤ Toward.even.cut false 16777216 0 := by
    apply cut_mono
    rw [Nat.shiftLeft_eq, Nat.pow_zero, Nat.mul_one]
    have hl : i + m.log2 - 23 ≤ lastOf m i := by unfold lastOf; omega
    generalize lastOf m i = l at *
    have e : (16777216 : Nat) = 2 ^ 24 := by decide
    rw [e, ← Nat.pow_add]
    calc m * 2 ^ (i - l).toNat ≤ 2 ^ (m.log2 + 1) * 2 ^ (i - l).toNat := Nat.mul_le_mul_right _ (Nat.le_of_lt hlt)
      _ = 2 ^ (m.log2 + 1 + (i - l).toNat) := (Nat.pow_add 2 _ _).symm
      _ ≤ 2 ^ (24 + (l - i).toNat) := Nat.pow_le_pow_right (by decide) (by omega)
  rwa [cut_zero] at this

theorem pow_swap (a b c d : Nat) (m : Nat) (hm : 2 ^ a ≤ m) (h : b + c ≤ a + d) : 2 ^ b * 2 ^ c ≤ m * 2 ^ d :=
  Nat.le_trans (by rw [← Nat.pow_add, ← Nat.pow_add]; exact Nat.pow_le_pow_right (by decide) h) (Nat.mul_le_mul_right _ hm)

theorem kept_ge (m : Nat) (i : Int) (hm : m ≠ 0) (hl : lastOf m i ≠ -149) : 2 ^ 23 ≤ keptOf m i := by
  have hge : 2 ^ m.log2 ≤ m := Nat.log2_self_le hm
  have hle : lastOf m i = i + m.log2 - 23 := by unfold lastOf at *; omega
  have : Toward.even.cut false (2 ^ 23) 0 ≤ Toward.even.cut false (m <<< (i - lastOf m i).toNat) (lastOf m i - i).toNat := by
    apply cut_mono
    rw [Nat.shiftLeft_eq, Nat.pow_zero, Nat.mul_one]
    exact pow_swap m.log2 23 _ _ m hge (by omega)
  rw [cut_zero] at this
  exact this

end Go.Proofs.YtlfmfhmbkpnjbabGreatDoor

namespace Go.Proofs.YtlfmfhmbkpnjbabGreatDoor
open Ieee

theorem leV_pos {m : Nat} {i : Int} {n : Nat} {j : Int} (h : LeV m i n j) (hm : m ≠ 0) : n ≠ 0 := by
  intro e
  have h1 := h (min i j) (by omega) (by omega)
  rw [e, Nat.zero_mul] at h1
  have h2 := Nat.mul_pos (Nat.pos_of_ne_zero hm) (Nat.two_pow_pos (i - min i j).toNat)
  exact Nat.lt_irrefl _ (Nat.lt_of_lt_of_le h2 h1)

theorem leV_log {m : Nat} {i : Int} {n : Nat} {j : Int} (h : LeV m i n j) (hm : m ≠ 0) : i + m.log2 ≤ j + n.log2 := by
  apply Int.le_of_not_gt
  intro hgt
  have h0 := h (min i j) (by omega) (by omega)
  have h2 : n < 2 ^ (n.log2 + 1) := Nat.lt_log2_self
  have h3 : n * 2 ^ (j - min i j).toNat < 2 ^ (n.log2 + 1) * 2 ^ (j - min i j).toNat := Nat.mul_lt_mul_of_pos_right h2 (Nat.two_pow_pos _)
  have h4 := pow_swap m.log2 (n.log2 + 1) (j - min i j).toNat (i - min i j).toNat m (Nat.log2_self_le hm) (by omega)
  exact Nat.lt_irrefl _ (Nat.lt_of_lt_of_le (Nat.lt_of_lt_of_le h3 h4) h0)

theorem last_lo (m : Nat) (i : Int) : -149 ≤ lastOf m i := by unfold lastOf; omega

theorem step_up (a b k k' : Nat) (h : a + 1 ≤ b) (h1 : k ≤ 2 * 8388608) (h2 : 8388608 ≤ k') : a * 8388608 + k ≤ b * 8388608 + k' := by
  omega

theorem rung_key {m : Nat} {i : Int} {n : Nat} {j : Int} (h : LeV m i n j) (hm : m ≠ 0) : (lastOf m i + 149).toNat * 8388608 + keptOf m i ≤ (lastOf n j + 149).toNat * 8388608 + keptOf n j := by
  have hL := leV_log h hm
  have hn := leV_pos h hm
  have hlast : lastOf m i ≤ lastOf n j := by unfold lastOf; omega
  have hlo := last_lo m i
  by_cases e : lastOf m i = lastOf n j
  · have h1 : keptOf m i ≤ keptOf n j := cut_shift_le m i (lastOf m i) n j (lastOf n j) e h
    rw [e]
    exact Nat.add_le_add_left h1 _
  · have h1 := kept_le m i
    have h2 := kept_ge n j hn (by omega)
    exact step_up _ _ _ _ (by omega) h1 h2

/-- To round keeps the order. -/
theorem rung_mono (m : Nat) (i : Int) (n : Nat) (j : Int) (h : LeV m i n j) : rungOf m i ≤ rungOf n j := by
  unfold rungOf
  by_cases hm : m = 0
  · rw [if_pos hm]; exact Nat.zero_le _
  · have hk := rung_key h hm
    rw [if_neg hm, if_neg (leV_pos h hm)]
    exact Nat.le_min.2 ⟨Nat.le_trans (Nat.min_le_left ..) hk, Nat.min_le_right ..⟩
end Go.Proofs.YtlfmfhmbkpnjbabGreatDoor
