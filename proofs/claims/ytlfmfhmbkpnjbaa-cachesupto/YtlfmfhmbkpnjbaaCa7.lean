import Derived.Test.YtlfmfhmbkpnjbaaCa6
import Derived.Deep.Slices
import Derived.ChangeOld
import Derived.Below
namespace Go.Proofs.Ytlfmfhmbkpnjbaa
open Go.RowKit

theorem made_good' (M : Int) (n : Nat) (hM : M = n) (w : World) (h1 : 1 ≤ n) (h2 : n ≤ 64) :
    Calls Try.prog 10 #[.int .i64 M] w fun e w' => ∃ cc x z y, e = .returned (.tuple #[.pointer (some ⟨cc, 0, none⟩), .bool true]) ∧
      Tri w' cc x z y (.slice none 0 0) (.slice none 0 0) (.slice none 0 0) n [] [] [] ∧ Kept (fun _ => False) w w' ∧ (∀ j, TFoot cc x z y (.slice none 0 0) (.slice none 0 0) (.slice none 0 0) j → w.heap.size ≤ j) := by
  subst hM
  exact made_good n w h1 h2

def begCells : Array Value := #[.int .i64 2, .int .i64 0, .int .i64 1, .int .i64 0, .string ⟨#[97]⟩, .int .i64 2, .int .i64 0, .int .i64 2, .int .i64 0, .string ⟨#[98]⟩, .int .i64 3, .int .i64 0, .int .i64 1, .int .i64 0, .string ⟨#[]⟩,
  .int .i64 2, .int .i64 0, .int .i64 3, .int .i64 0, .string ⟨#[99]⟩, .int .i64 4, .int .i64 0, .int .i64 0, .int .i64 0, .string ⟨#[]⟩]

/-- A step in memory. -/
structure UseAt (w : World) (b off : Nat) (kd ca k N : Int) (t : ByteArray) : Prop where
  c0 : w.cell? ⟨b, off, none⟩ = some (.int .i64 kd)
  c1 : w.cell? ⟨b, off + 1, none⟩ = some (.int .i64 ca)
  c2 : w.cell? ⟨b, off + 2, none⟩ = some (.int .i64 k)
  c3 : w.cell? ⟨b, off + 3, none⟩ = some (.int .i64 N)
  c4 : w.cell? ⟨b, off + 4, none⟩ = some (.string t)
  r0 : In64 kd
  r1 : In64 ca
  r2 : In64 k
  r3 : In64 N

theorem UseAt.later {w wr : World} {b off : Nat} {kd ca k N : Int} {t : ByteArray} (h : UseAt w b off kd ca k N t) (hb : Below w.heap.size w wr) (hlt : b < w.heap.size) : UseAt wr b off kd ca k N t :=
  ⟨(hb.cell (p := ⟨b, off, none⟩) hlt).trans h.c0, (hb.cell (p := ⟨b, off + 1, none⟩) hlt).trans h.c1, (hb.cell (p := ⟨b, off + 2, none⟩) hlt).trans h.c2, (hb.cell (p := ⟨b, off + 3, none⟩) hlt).trans h.c3, (hb.cell (p := ⟨b, off + 4, none⟩) hlt).trans h.c4, h.r0, h.r1, h.r2, h.r3⟩

theorem beg_at {w : World} {bg : Nat} (h : w.heap[bg]? = some (.cells begCells 33 (0, 0))) (i : Nat) (hi : i < 5) : ∃ kd ca k N t, UseAt w bg (i * 5) kd ca k N t := by
  have hc := cell_block h
  match i, hi with
  | 0, _ => exact ⟨2, 0, 1, 0, ⟨#[97]⟩, hc 0, hc 1, hc 2, hc 3, hc 4, ⟨by decide, by decide⟩, ⟨by decide, by decide⟩, ⟨by decide, by decide⟩, ⟨by decide, by decide⟩⟩
  | 1, _ => exact ⟨2, 0, 2, 0, ⟨#[98]⟩, hc 5, hc 6, hc 7, hc 8, hc 9, ⟨by decide, by decide⟩, ⟨by decide, by decide⟩, ⟨by decide, by decide⟩, ⟨by decide, by decide⟩⟩
  | 2, _ => exact ⟨3, 0, 1, 0, ⟨#[]⟩, hc 10, hc 11, hc 12, hc 13, hc 14, ⟨by decide, by decide⟩, ⟨by decide, by decide⟩, ⟨by decide, by decide⟩, ⟨by decide, by decide⟩⟩
  | 3, _ => exact ⟨2, 0, 3, 0, ⟨#[99]⟩, hc 15, hc 16, hc 17, hc 18, hc 19, ⟨by decide, by decide⟩, ⟨by decide, by decide⟩, ⟨by decide, by decide⟩, ⟨by decide, by decide⟩⟩
  | 4, _ => exact ⟨4, 0, 0, 0, ⟨#[]⟩, hc 20, hc 21, hc 22, hc 23, hc 24, ⟨by decide, by decide⟩, ⟨by decide, by decide⟩, ⟨by decide, by decide⟩, ⟨by decide, by decide⟩⟩

/-- Ahead of the loop. -/
theorem CInv.start {w w1 : World} {cc x z y : Nat} (h : Tri w1 cc x z y (.slice none 0 0) (.slice none 0 0) (.slice none 0 0) 2 [] [] [])
    (hk : Kept (fun _ => False) (w.alloc (.cells #[.slice none 0 0, .slice none 0 0] 27)) w1) (hf : ∀ j, TFoot cc x z y (.slice none 0 0) (.slice none 0 0) (.slice none 0 0) j → (w.alloc (.cells #[.slice none 0 0, .slice none 0 0] 27)).heap.size ≤ j) :
    CInv w.heap.size w ((w1.alloc (.cells #[.pointer (some ⟨cc, 0, none⟩)] 28)).alloc (.cells begCells 33)) w.heap.size (.slice none 0 0) [] (.slice (some ⟨w1.heap.size, 0, none⟩) 1 1) [⟨cc, x, z, y, .slice none 0 0, .slice none 0 0, .slice none 0 0, 2, []⟩] (w1.heap.size + 1) begCells := by
  have e0 : (w.alloc (.cells #[.slice none 0 0, .slice none 0 0] 27)).heap.size = w.heap.size + 1 := by simp
  have s1 := hk.size
  have ka := Kept.alloc w1 (.cells #[.pointer (some ⟨cc, 0, none⟩)] 28)
  have kb := Kept.alloc (w1.alloc (.cells #[.pointer (some ⟨cc, 0, none⟩)] 28)) (.cells begCells 33)
  have kab := ka.join kb (R := fun _ => False) (fun _ _ e => e) (fun _ _ e => e)
  have e1 : (w1.alloc (.cells #[.pointer (some ⟨cc, 0, none⟩)] 28)).heap.size = w1.heap.size + 1 := by simp
  have hb1 : w1.heap[w.heap.size]? = some (.cells #[.slice none 0 0, .slice none 0 0] 27 (0, 0)) := by
    rw [hk.block _ (by rw [e0]; omega) (fun e => e)]; exact heap_alloc_new w _
  constructor
  · exact (((Kept.alloc w _).join hk (R := fun _ => False) (fun _ _ e => e) (fun _ _ e => e)).join kab (R := fun _ => False) (fun _ _ e => e) (fun _ _ e => e)).below _ (Nat.le_refl _) (fun _ _ e => e)
  · have := kab.size; omega
  · refine ⟨?_, World.ownsRow_nil _ _ _ _, fun i hi => absurd hi (by simp), fun i hi => absurd hi (by simp), rfl⟩
    rw [kab.block _ (by omega) (fun e => e)]; exact hb1
  · intro j hj
    rcases hj with rfl | hj
    · exact Nat.le_refl _
    · cases hj
  · refine owns_block (owns_new w1 w.heap.size 28 1 1 [.pointer (some ⟨cc, 0, none⟩)] _ rfl (by omega) (by decide) rfl) (fun g hg => kb.block g ?_ (fun e => e))
    simp only [Value.ownBlock, Option.some.injEq] at hg
    subst hg
    rw [e1]; omega
  · intro i hi
    match i, hi with
    | 0, _ => exact ⟨h.keep kab (fun _ _ e => e), KeysOk.nil, by simp, by simp, by simp⟩
  · intro i hi j hj
    match i, hi with
    | 0, _ => have := hf j hj; omega
  · intro i hi i' hi' hne
    match i, hi, i', hi' with
    | 0, _, 0, _ => exact absurd rfl hne
  · rw [← e1]; exact heap_alloc_new _ _

/-- What a step on a cache does not touch. -/
theorem used_far {B : Nat} {w wr w' : World} {bk : Nat} {kv : Value} {Q : List Lst} {lv : Value} {D : List TD} {bg : Nat} {bc : Array Value} (h : CInv B w wr bk kv Q lv D bg bc) (q : Nat) (hq : q < D.length) (hu : UsedPost bk kv Q wr D[q].cc D[q].x D[q].z D[q].y D[q].rx D[q].rz D[q].ry D[q].n w') (j : Nat) (t : TypeId) (ht : typ wr j t)
    (h0 : t ≠ 85) (h1 : t ≠ 129) (h2 : t ≠ 135) (h3 : t ≠ 132) (h4 : t ≠ 138) (h5 : t ≠ 83) (h6 : t ≠ 95) (h7 : t ≠ 27) (h8 : t ≠ 53) : w'.heap[j]? = wr.heap[j]? := by
  obtain ⟨rx', rz', ry', L', kv', Q', t', ok', l', b', hq', k', f', g'⟩ := hu
  refine k'.block j (typ_lt ht) (fun e => ?_)
  rcases e with e | e
  · exact (h.each q hq).tri.not_typ j e t ht h0 h1 h2 h3 h4 h5 h6
  · rcases bfoot_typ h.book j e with q1 | q1
    · exact typ_two ht q1 h7
    · exact typ_two ht q1 h8

theorem list_cell {B : Nat} {w wr : World} {bk : Nat} {kv : Value} {Q : List Lst} {gl cpl : Nat} {D : List TD} {bg : Nat} {bc : Array Value} (h : CInv B w wr bk kv Q (.slice (some ⟨gl, 0, none⟩) D.length cpl) D bg bc) (q : Nat) (hq : q < D.length) : wr.cell? ⟨gl, q, none⟩ = some (.pointer (some ⟨D[q].cc, 0, none⟩)) :=
  row_cell (owns_base h.list) q _ (by simp [hq, ptr])

theorem info_ptr : (Try.prog.info? 28).map (fun i => (i.zero, i.size, i.bytes)) = some (some (.pointer none), 1, 8) := by kernel_rfl

set_option maxHeartbeats 6400000 in
set_option maxRecDepth 100000 in
theorem caches_any (ao : Option Addr) (b off len cp : Nat) (w : World) (hlen : len ≤ 1048576) (hao : Hid (0 < len → ao = some ⟨b, off, none⟩ ∧ b < w.heap.size)) (hc : Hid (∀ j, j < len → ∃ kd ca k N t, UseAt w b (off + j * 5) kd ca k N t)) :
    Calls Try.prog 3 #[.slice ao len cp] w fun e w' => e = .returned (.bool true) ∧ Below w.heap.size w w' := by
  obtain ⟨i0, hi, hz0, hz1, hz2⟩ := info_parts info_ptr
  go_enter Try.func3, Try.ntmps3
  go_wp2_with fail
  refine (made_good' 2 2 rfl _ (by decide) (by decide)).mono ?_
  rintro e w1 ⟨cc, x, z, y, rfl, t1, k1, f1⟩
  have T1 := hide (And.intro t1 (And.intro k1 f1))
  clear t1 k1 f1
  have I0 := hide (CInv.start T1.out.1 T1.out.2.1 T1.out.2.2)
  clear T1
  go_wp2_with fail
  go_loopw [6, 8] (fun l t wr => ∃ i : Nat, i ≤ len + 6 ∧ t = .int .i64 i ∧ ∃ gl cpl kv Q D, l = .slice (some ⟨gl, 0, none⟩) D.length cpl ∧ 1 ≤ D.length ∧ D.length ≤ i + 1 ∧ Q.length ≤ 4 * i ∧ Hid (CInv w.heap.size w wr w.heap.size kv Q (.slice (some ⟨gl, 0, none⟩) D.length cpl) D (w1.heap.size + 1) begCells)) (fun _ t _ => len + 6 - (intOf t).toNat)
  case atStart => exact ⟨0, Nat.zero_le _, rfl, w1.heap.size, 1, _, [], [⟨cc, x, z, y, .slice none 0 0, .slice none 0 0, .slice none 0 0, 2, []⟩], rfl, by simp, by simp, by simp, I0⟩
  case round =>
    obtain ⟨i, hil, rfl, gl, cpl, kv, Q, D, rfl, hD1, hD2, hQ2, HI⟩ := hrel
    clear I0
    have hbg : w1.heap.size + 1 < wr.heap.size := heap_lt HI.out.beg
    have hgl : gl < wr.heap.size := owns_lt HI.out.list gl rfl
    have hws : w.heap.size ≤ wr.heap.size := HI.out.size
    by_cases hlt : i < len + 6
    · by_cases h5 : i < 5
      · obtain ⟨kd, ca, k, N, t, hu⟩ := beg_at HI.out.beg i h5
        obtain ⟨u0, u1, u2, u3, u4, r0, r1, r2, r3⟩ := hu
        have hb1 : (0 : Int) ≤ (i : Int) := by omega
        have hb2 : (i : Int) < 5 := by omega
        by_cases h1 : kd = 1
        · subst h1
          by_cases hbad : N < 1 ∨ 64 < N
          · have IA : Hid (CInv w.heap.size w (wr.alloc (.cells #[.int .i64 1, .int .i64 ca, .int .i64 k, .int .i64 N, .string t] 33)) w.heap.size kv Q (.slice (some ⟨gl, 0, none⟩) D.length cpl) D (w1.heap.size + 1) begCells) := HI.out.kept (Kept.alloc _ _)
            go_wp2_with fail
            refine (made_bad N _ hbad).mono ?_
            rintro e w' ⟨rfl, rfl⟩
            go_wp2_with fail
            refine (whole_any w.heap.size kv Q _ (by omega) (by exact IA.out.book)).mono ?_
            rintro e w'' ⟨rfl, rfl⟩
            clear HI
            go_wp2
            go_roundw
            case rel => exact ⟨i + 1, by omega, by go_num, gl, cpl, kv, Q, D, rfl, hD1, by omega, by omega, IA⟩
            case measure => simp [intOf]; omega
          · obtain ⟨n, rfl⟩ : ∃ n : Nat, N = n := ⟨N.toNat, by omega⟩
            have hn1 : 1 ≤ n := by omega
            have hn2 : n ≤ 64 := by omega
            have IA : Hid (CInv w.heap.size w (wr.alloc (.cells #[.int .i64 1, .int .i64 ca, .int .i64 k, .int .i64 (n : Int), .string t] 33)) w.heap.size kv Q (.slice (some ⟨gl, 0, none⟩) D.length cpl) D (w1.heap.size + 1) begCells) := HI.out.kept (Kept.alloc _ _)
            go_wp2_with fail
            refine (made_good' (n : Int) n rfl _ hn1 hn2).mono ?_
            rintro e w2 ⟨cc2, x2, z2, y2, rfl, t2, k2, f2⟩
            have IA2 := hide (IA.out.kept k2)
            have T2 := hide (And.intro t2 (And.intro k2 f2))
            clear t2 k2 f2 HI
            go_wp2_with (at_builtin; refine wpList_append_at _ rfl (.tmp 78) (.tmp 80) 31 rfl w.heap.size 28 i0 (.pointer none) 1 8 Try.underlying31 hi hz0 hz1 hz2 rfl (by decide) _ _ _ rfl (IA2.out.list.alloc _) ⟨w2.heap.size, 0, none⟩ 1 1 [.pointer (some ⟨cc2, 0, none⟩)] rfl rfl ?nwa ?oca (by decide) ?baa ?bba ?bca ?_)
            case nwa => exact new_cells _ [.pointer (some ⟨cc2, 0, none⟩)] _ _ rfl
            case oca => intro u hu; simp only [List.mem_cons, List.not_mem_nil, or_false] at hu; subst hu; rfl
            case baa => unfold maxLen; omega
            case bba => omega
            case bca => have := IA2.out.size; simp; omega
            intro g3 cp3 w3 hown3 hgrow3
            have hlen3 : (D ++ [(⟨cc2, x2, z2, y2, .slice none 0 0, .slice none 0 0, .slice none 0 0, n, []⟩ : TD)]).length = D.length + 1 := by simp
            have I3 : Hid (CInv w.heap.size w w3 w.heap.size kv Q (.slice (some ⟨g3, 0, none⟩) (D ++ [(⟨cc2, x2, z2, y2, .slice none 0 0, .slice none 0 0, .slice none 0 0, n, []⟩ : TD)]).length cp3) (D ++ [(⟨cc2, x2, z2, y2, .slice none 0 0, .slice none 0 0, .slice none 0 0, n, []⟩ : TD)]) (w1.heap.size + 1) begCells) := by
              rw [hlen3]
              exact CInv.more IA.out ⟨T2.out.1, KeysOk.nil, Nat.zero_le _, hn1, hn2⟩ T2.out.2.1 T2.out.2.2 rfl hgrow3 hown3
            clear hown3 hgrow3 IA IA2 T2
            go_wp2_with fail
            refine (whole_any w.heap.size kv Q _ (by omega) (by exact I3.out.book)).mono ?_
            rintro e w'' ⟨rfl, rfl⟩
            go_wp2
            go_roundw
            case rel => exact ⟨i + 1, by omega, by go_num, g3, cp3, kv, Q, _, by rw [hlen3], by omega, by omega, by omega, I3⟩
            case measure => simp [intOf]; omega
        · have h1' : (kd == 1) = false := by simp [h1]
          have IA : Hid (CInv w.heap.size w (wr.alloc (.cells #[.int .i64 kd, .int .i64 ca, .int .i64 k, .int .i64 N, .string t] 33)) w.heap.size kv Q (.slice (some ⟨gl, 0, none⟩) D.length cpl) D (w1.heap.size + 1) begCells) := HI.out.kept (Kept.alloc _ _)
          have hq := pickN_lt_law ca D.length (by omega)
          have IB := hide (IA.out.kept (Kept.drew _))
          have l1 := list_cell IA.out _ hq
          have hob : typ (wr.alloc (.cells #[.int .i64 kd, .int .i64 ca, .int .i64 k, .int .i64 N, .string t] 33)).drew wr.heap.size 33 := typ_blk (heap_alloc_new wr _)
          have HOB := hide hob
          have OKD := hide (IB.out.each _ hq)
          have HU := hide (fun w6 hu => used_far IB.out _ hq (w' := w6) hu)
          have HV := hide (fun w6 hu => CInv.used IB.out _ hq (w' := w6) hu)
          have tgl : Hid (typ (wr.alloc (.cells #[.int .i64 kd, .int .i64 ca, .int .i64 k, .int .i64 N, .string t] 33)).drew gl 28) := typ_own IB.out.list gl rfl
          have BKB := hide IB.out.book
          clear hob HI
          go_wp2_with fail
          generalize hpk : pickN_law ca D.length = q at *
          have HPK := hide hpk
          clear hpk
          have hq0 : (0 : Int) ≤ (q : Int) := by omega
          have hq1 : (q : Int) < (D.length : Int) := by omega
          generalize hd : D[q] = d at *
          have HD := hide hd
          clear hd
          obtain ⟨o0, o1, o2, o3, o4⟩ := five_cells (heap_alloc_new wr (.cells #[.int .i64 kd, .int .i64 ca, .int .i64 k, .int .i64 N, .string t] 33))
          generalize hwa : wr.alloc (.cells #[.int .i64 kd, .int .i64 ca, .int .i64 k, .int .i64 N, .string t] 33) = wa at *
          have HWA := hide hwa
          clear hwa
          go_region_held3 (fun w' => w'.cell? ⟨wr.heap.size, 0, none⟩ = some (.int .i64 kd) ∧ w'.cell? ⟨wr.heap.size, 1, none⟩ = some (.int .i64 ca) ∧ w'.cell? ⟨wr.heap.size, 2, none⟩ = some (.int .i64 k) ∧ w'.cell? ⟨wr.heap.size, 3, none⟩ = some (.int .i64 N) ∧ w'.cell? ⟨wr.heap.size, 4, none⟩ = some (.string t) ∧ w'.cell? ⟨gl, q, none⟩ = some (.pointer (some ⟨d.cc, 0, none⟩))) (go_keep)
            (first | (go_at_call 12; refine (pick_law ca _ D.length _ r1.1 r1.2 rfl (by omega) (by omega)).mono ?_; rw [HPK.out]; rintro e w5 ⟨rfl, rfl⟩) | (go_at_call 11; refine (used_any w.heap.size kd ca k N t d.cc d.x d.z d.y d.rx d.rz d.ry d.n d.L kv Q _ r2 (by omega) (by exact OKD.out.n0) (by exact OKD.out.n64) (by exact OKD.out.len) (by exact OKD.out.keys) (by exact BKB.out) (by exact OKD.out.tri)).mono ?_; rintro e w6 ⟨rfl, hu⟩; have ja := HU.out w6 hu wr.heap.size _ HOB.out (by decide) (by decide) (by decide) (by decide) (by decide) (by decide) (by decide) (by decide) (by decide); have jb := HU.out w6 hu gl _ tgl.out (by decide) (by decide) (by decide) (by decide) (by decide) (by decide) (by decide) (by decide) (by decide); have o0' := (World.cell?_of_block (a := ⟨wr.heap.size, 0, none⟩) ja).trans o0; have o1' := (World.cell?_of_block (a := ⟨wr.heap.size, 1, none⟩) ja).trans o1; have o2' := (World.cell?_of_block (a := ⟨wr.heap.size, 2, none⟩) ja).trans o2; have o3' := (World.cell?_of_block (a := ⟨wr.heap.size, 3, none⟩) ja).trans o3; have o4' := (World.cell?_of_block (a := ⟨wr.heap.size, 4, none⟩) ja).trans o4; have l1' := (World.cell?_of_block (a := ⟨gl, q, none⟩) jb).trans l1; clear ja jb))
          obtain ⟨kv', Q', D', I6, dl6, ql6⟩ := HV.out w6 hu
          have J6 : Hid (CInv w.heap.size w w6 w.heap.size kv' Q' (.slice (some ⟨gl, 0, none⟩) D'.length cpl) D' (w1.heap.size + 1) begCells) := by rw [dl6]; exact I6
          have DL := hide dl6
          clear I6 dl6 hu o0' o1' o2' o3' o4' l1' o0 o1 o2 o3 o4 l1 HU HV OKD BKB IA IB HOB tgl
          go_wp2_with fail
          refine (whole_any w.heap.size kv' Q' _ (by omega) (by exact J6.out.book)).mono ?_
          rintro e w'' ⟨rfl, rfl⟩
          go_wp2
          go_roundw
          case rel => exact ⟨i + 1, by omega, by go_num, gl, cpl, kv', Q', D', by rw [DL.out], by rw [DL.out]; omega, by rw [DL.out]; omega, by omega, J6⟩
          case measure => simp [intOf]; omega
      · by_cases h6 : i < len + 5
        · obtain ⟨j, rfl⟩ : ∃ j, i = j + 5 := ⟨i - 5, by omega⟩
          have hjl : j < len := by omega
          obtain ⟨rfl, hb⟩ := hao.out (by omega)
          clear hao
          obtain ⟨kd, ca, k, N, t, hu⟩ := hc.out j hjl
          obtain ⟨u0, u1, u2, u3, u4, r0, r1, r2, r3⟩ := hu.later HI.out.low hb
          have hb1 : (0 : Int) ≤ (j : Int) := by omega
          have hb2 : (j : Int) < (len : Int) := by omega
          have hb3 : b < wr.heap.size := by omega
          clear hu
          by_cases h1 : kd = 1
          · subst h1
            by_cases hbad : N < 1 ∨ 64 < N
            · have IA : Hid (CInv w.heap.size w (wr.alloc (.cells #[.int .i64 1, .int .i64 ca, .int .i64 k, .int .i64 N, .string t] 33)) w.heap.size kv Q (.slice (some ⟨gl, 0, none⟩) D.length cpl) D (w1.heap.size + 1) begCells) := HI.out.kept (Kept.alloc _ _)
              go_wp2_with fail
              refine (made_bad N _ hbad).mono ?_
              rintro e w' ⟨rfl, rfl⟩
              go_wp2_with fail
              refine (whole_any w.heap.size kv Q _ (by omega) (by exact IA.out.book)).mono ?_
              rintro e w'' ⟨rfl, rfl⟩
              clear HI
              go_wp2
              go_roundw
              case rel => exact ⟨j + 5 + 1, by omega, by go_num, gl, cpl, kv, Q, D, rfl, hD1, by omega, by omega, IA⟩
              case measure => simp [intOf]; omega
            · obtain ⟨n, rfl⟩ : ∃ n : Nat, N = n := ⟨N.toNat, by omega⟩
              have hn1 : 1 ≤ n := by omega
              have hn2 : n ≤ 64 := by omega
              have IA : Hid (CInv w.heap.size w (wr.alloc (.cells #[.int .i64 1, .int .i64 ca, .int .i64 k, .int .i64 (n : Int), .string t] 33)) w.heap.size kv Q (.slice (some ⟨gl, 0, none⟩) D.length cpl) D (w1.heap.size + 1) begCells) := HI.out.kept (Kept.alloc _ _)
              go_wp2_with fail
              refine (made_good' (n : Int) n rfl _ hn1 hn2).mono ?_
              rintro e w2 ⟨cc2, x2, z2, y2, rfl, t2, k2, f2⟩
              have IA2 := hide (IA.out.kept k2)
              have T2 := hide (And.intro t2 (And.intro k2 f2))
              clear t2 k2 f2 HI
              go_wp2_with (at_builtin; refine wpList_append_at _ rfl (.tmp 78) (.tmp 80) 31 rfl w.heap.size 28 i0 (.pointer none) 1 8 Try.underlying31 hi hz0 hz1 hz2 rfl (by decide) _ _ _ rfl (IA2.out.list.alloc _) ⟨w2.heap.size, 0, none⟩ 1 1 [.pointer (some ⟨cc2, 0, none⟩)] rfl rfl ?nwb ?ocb (by decide) ?bab ?bbb ?bcb ?_)
              case nwb => exact new_cells _ [.pointer (some ⟨cc2, 0, none⟩)] _ _ rfl
              case ocb => intro u hu; simp only [List.mem_cons, List.not_mem_nil, or_false] at hu; subst hu; rfl
              case bab => unfold maxLen; omega
              case bbb => omega
              case bcb => have := IA2.out.size; simp; omega
              intro g3 cp3 w3 hown3 hgrow3
              have hlen3 : (D ++ [(⟨cc2, x2, z2, y2, .slice none 0 0, .slice none 0 0, .slice none 0 0, n, []⟩ : TD)]).length = D.length + 1 := by simp
              have I3 : Hid (CInv w.heap.size w w3 w.heap.size kv Q (.slice (some ⟨g3, 0, none⟩) (D ++ [(⟨cc2, x2, z2, y2, .slice none 0 0, .slice none 0 0, .slice none 0 0, n, []⟩ : TD)]).length cp3) (D ++ [(⟨cc2, x2, z2, y2, .slice none 0 0, .slice none 0 0, .slice none 0 0, n, []⟩ : TD)]) (w1.heap.size + 1) begCells) := by
                rw [hlen3]
                exact CInv.more IA.out ⟨T2.out.1, KeysOk.nil, Nat.zero_le _, hn1, hn2⟩ T2.out.2.1 T2.out.2.2 rfl hgrow3 hown3
              clear hown3 hgrow3 IA IA2 T2
              go_wp2_with fail
              refine (whole_any w.heap.size kv Q _ (by omega) (by exact I3.out.book)).mono ?_
              rintro e w'' ⟨rfl, rfl⟩
              go_wp2
              go_roundw
              case rel => exact ⟨j + 5 + 1, by omega, by go_num, g3, cp3, kv, Q, _, by rw [hlen3], by omega, by omega, by omega, I3⟩
              case measure => simp [intOf]; omega
          · have h1' : (kd == 1) = false := by simp [h1]
            have IA : Hid (CInv w.heap.size w (wr.alloc (.cells #[.int .i64 kd, .int .i64 ca, .int .i64 k, .int .i64 N, .string t] 33)) w.heap.size kv Q (.slice (some ⟨gl, 0, none⟩) D.length cpl) D (w1.heap.size + 1) begCells) := HI.out.kept (Kept.alloc _ _)
            have hq := pickN_lt_law ca D.length (by omega)
            have IB := hide (IA.out.kept (Kept.drew _))
            have l1 := list_cell IA.out _ hq
            have hob : typ (wr.alloc (.cells #[.int .i64 kd, .int .i64 ca, .int .i64 k, .int .i64 N, .string t] 33)).drew wr.heap.size 33 := typ_blk (heap_alloc_new wr _)
            have HOB := hide hob
            have OKD := hide (IB.out.each _ hq)
            have HU := hide (fun w6 hu => used_far IB.out _ hq (w' := w6) hu)
            have HV := hide (fun w6 hu => CInv.used IB.out _ hq (w' := w6) hu)
            have tgl : Hid (typ (wr.alloc (.cells #[.int .i64 kd, .int .i64 ca, .int .i64 k, .int .i64 N, .string t] 33)).drew gl 28) := typ_own IB.out.list gl rfl
            have BKB := hide IB.out.book
            clear hob HI
            go_wp2_with fail
            generalize hpk : pickN_law ca D.length = q at *
            have HPK := hide hpk
            clear hpk
            have hq0 : (0 : Int) ≤ (q : Int) := by omega
            have hq1 : (q : Int) < (D.length : Int) := by omega
            generalize hd : D[q] = d at *
            have HD := hide hd
            clear hd
            obtain ⟨o0, o1, o2, o3, o4⟩ := five_cells (heap_alloc_new wr (.cells #[.int .i64 kd, .int .i64 ca, .int .i64 k, .int .i64 N, .string t] 33))
            generalize hwa : wr.alloc (.cells #[.int .i64 kd, .int .i64 ca, .int .i64 k, .int .i64 N, .string t] 33) = wa at *
            have HWA := hide hwa
            clear hwa
            go_region_held3 (fun w' => w'.cell? ⟨wr.heap.size, 0, none⟩ = some (.int .i64 kd) ∧ w'.cell? ⟨wr.heap.size, 1, none⟩ = some (.int .i64 ca) ∧ w'.cell? ⟨wr.heap.size, 2, none⟩ = some (.int .i64 k) ∧ w'.cell? ⟨wr.heap.size, 3, none⟩ = some (.int .i64 N) ∧ w'.cell? ⟨wr.heap.size, 4, none⟩ = some (.string t) ∧ w'.cell? ⟨gl, q, none⟩ = some (.pointer (some ⟨d.cc, 0, none⟩))) (go_keep)
              (first | (go_at_call 12; refine (pick_law ca _ D.length _ r1.1 r1.2 rfl (by omega) (by omega)).mono ?_; rw [HPK.out]; rintro e w5 ⟨rfl, rfl⟩) | (go_at_call 11; refine (used_any w.heap.size kd ca k N t d.cc d.x d.z d.y d.rx d.rz d.ry d.n d.L kv Q _ r2 (by omega) (by exact OKD.out.n0) (by exact OKD.out.n64) (by exact OKD.out.len) (by exact OKD.out.keys) (by exact BKB.out) (by exact OKD.out.tri)).mono ?_; rintro e w6 ⟨rfl, hu⟩; have ja := HU.out w6 hu wr.heap.size _ HOB.out (by decide) (by decide) (by decide) (by decide) (by decide) (by decide) (by decide) (by decide) (by decide); have jb := HU.out w6 hu gl _ tgl.out (by decide) (by decide) (by decide) (by decide) (by decide) (by decide) (by decide) (by decide) (by decide); have o0' := (World.cell?_of_block (a := ⟨wr.heap.size, 0, none⟩) ja).trans o0; have o1' := (World.cell?_of_block (a := ⟨wr.heap.size, 1, none⟩) ja).trans o1; have o2' := (World.cell?_of_block (a := ⟨wr.heap.size, 2, none⟩) ja).trans o2; have o3' := (World.cell?_of_block (a := ⟨wr.heap.size, 3, none⟩) ja).trans o3; have o4' := (World.cell?_of_block (a := ⟨wr.heap.size, 4, none⟩) ja).trans o4; have l1' := (World.cell?_of_block (a := ⟨gl, q, none⟩) jb).trans l1; clear ja jb))
            obtain ⟨kv', Q', D', I6, dl6, ql6⟩ := HV.out w6 hu
            have J6 : Hid (CInv w.heap.size w w6 w.heap.size kv' Q' (.slice (some ⟨gl, 0, none⟩) D'.length cpl) D' (w1.heap.size + 1) begCells) := by rw [dl6]; exact I6
            have DL := hide dl6
            clear I6 dl6 hu o0' o1' o2' o3' o4' l1' o0 o1 o2 o3 o4 l1 HU HV OKD BKB IA IB HOB tgl
            go_wp2_with fail
            refine (whole_any w.heap.size kv' Q' _ (by omega) (by exact J6.out.book)).mono ?_
            rintro e w'' ⟨rfl, rfl⟩
            go_wp2
            go_roundw
            case rel => exact ⟨j + 5 + 1, by omega, by go_num, gl, cpl, kv', Q', D', by rw [DL.out], by rw [DL.out]; omega, by rw [DL.out]; omega, by omega, J6⟩
            case measure => simp [intOf]; omega
        · have z64 : In64 0 := ⟨by decide, by decide⟩
          have IA : Hid (CInv w.heap.size w (wr.alloc (.cells #[.int .i64 4, .int .i64 0, .int .i64 0, .int .i64 0, .string ⟨#[]⟩] 33)) w.heap.size kv Q (.slice (some ⟨gl, 0, none⟩) D.length cpl) D (w1.heap.size + 1) begCells) := HI.out.kept (Kept.alloc _ _)
          have hq := pickN_lt_law 0 D.length (by omega)
          have IB := hide (IA.out.kept (Kept.drew _))
          have l1 := list_cell IA.out _ hq
          have hob : typ (wr.alloc (.cells #[.int .i64 4, .int .i64 0, .int .i64 0, .int .i64 0, .string ⟨#[]⟩] 33)).drew wr.heap.size 33 := typ_blk (heap_alloc_new wr _)
          have HOB := hide hob
          have OKD := hide (IB.out.each _ hq)
          have HU := hide (fun w6 hu => used_far IB.out _ hq (w' := w6) hu)
          have HV := hide (fun w6 hu => CInv.used IB.out _ hq (w' := w6) hu)
          have tgl : Hid (typ (wr.alloc (.cells #[.int .i64 4, .int .i64 0, .int .i64 0, .int .i64 0, .string ⟨#[]⟩] 33)).drew gl 28) := typ_own IB.out.list gl rfl
          have BKB := hide IB.out.book
          clear hob HI
          go_wp2_with fail
          generalize hpk : pickN_law 0 D.length = q at *
          have HPK := hide hpk
          clear hpk
          have hq0 : (0 : Int) ≤ (q : Int) := by omega
          have hq1 : (q : Int) < (D.length : Int) := by omega
          generalize hd : D[q] = d at *
          have HD := hide hd
          clear hd
          obtain ⟨o0, o1, o2, o3, o4⟩ := five_cells (heap_alloc_new wr (.cells #[.int .i64 4, .int .i64 0, .int .i64 0, .int .i64 0, .string ⟨#[]⟩] 33))
          generalize hwa : wr.alloc (.cells #[.int .i64 4, .int .i64 0, .int .i64 0, .int .i64 0, .string ⟨#[]⟩] 33) = wa at *
          have HWA := hide hwa
          clear hwa
          go_region_held3 (fun w' => w'.cell? ⟨wr.heap.size, 0, none⟩ = some (.int .i64 4) ∧ w'.cell? ⟨wr.heap.size, 1, none⟩ = some (.int .i64 0) ∧ w'.cell? ⟨wr.heap.size, 2, none⟩ = some (.int .i64 0) ∧ w'.cell? ⟨wr.heap.size, 3, none⟩ = some (.int .i64 0) ∧ w'.cell? ⟨wr.heap.size, 4, none⟩ = some (.string ⟨#[]⟩) ∧ w'.cell? ⟨gl, q, none⟩ = some (.pointer (some ⟨d.cc, 0, none⟩))) (go_keep)
            (first | (go_at_call 12; refine (pick_law 0 _ D.length _ z64.1 z64.2 rfl (by omega) (by omega)).mono ?_; rw [HPK.out]; rintro e w5 ⟨rfl, rfl⟩) | (go_at_call 11; refine (used_any w.heap.size 4 0 0 0 ⟨#[]⟩ d.cc d.x d.z d.y d.rx d.rz d.ry d.n d.L kv Q _ z64 (by omega) (by exact OKD.out.n0) (by exact OKD.out.n64) (by exact OKD.out.len) (by exact OKD.out.keys) (by exact BKB.out) (by exact OKD.out.tri)).mono ?_; rintro e w6 ⟨rfl, hu⟩; have ja := HU.out w6 hu wr.heap.size _ HOB.out (by decide) (by decide) (by decide) (by decide) (by decide) (by decide) (by decide) (by decide) (by decide); have jb := HU.out w6 hu gl _ tgl.out (by decide) (by decide) (by decide) (by decide) (by decide) (by decide) (by decide) (by decide) (by decide); have o0' := (World.cell?_of_block (a := ⟨wr.heap.size, 0, none⟩) ja).trans o0; have o1' := (World.cell?_of_block (a := ⟨wr.heap.size, 1, none⟩) ja).trans o1; have o2' := (World.cell?_of_block (a := ⟨wr.heap.size, 2, none⟩) ja).trans o2; have o3' := (World.cell?_of_block (a := ⟨wr.heap.size, 3, none⟩) ja).trans o3; have o4' := (World.cell?_of_block (a := ⟨wr.heap.size, 4, none⟩) ja).trans o4; have l1' := (World.cell?_of_block (a := ⟨gl, q, none⟩) jb).trans l1; clear ja jb))
          obtain ⟨kv', Q', D', I6, dl6, ql6⟩ := HV.out w6 hu
          have J6 : Hid (CInv w.heap.size w w6 w.heap.size kv' Q' (.slice (some ⟨gl, 0, none⟩) D'.length cpl) D' (w1.heap.size + 1) begCells) := by rw [dl6]; exact I6
          have DL := hide dl6
          clear I6 dl6 hu o0' o1' o2' o3' o4' l1' o0 o1 o2 o3 o4 l1 HU HV OKD BKB IA IB HOB tgl
          go_wp2_with fail
          refine (whole_any w.heap.size kv' Q' _ (by omega) (by exact J6.out.book)).mono ?_
          rintro e w'' ⟨rfl, rfl⟩
          go_wp2
          go_roundw
          case rel => exact ⟨i + 1, by omega, by go_num, gl, cpl, kv', Q', D', by rw [DL.out], by rw [DL.out]; omega, by rw [DL.out]; omega, by omega, J6⟩
          case measure => simp [intOf]; omega
    · have HB := hide HI.out.low
      clear HI
      go_wp2
      go_ret
      exact ⟨rfl, HB.out⟩
end Go.Proofs.Ytlfmfhmbkpnjbaa

namespace Go.Proofs.Ytlfmfhmbkpnjbaa.caches
open Go.ChangeShapes Go.WideShapes Go.ChangeAt Go.RowKit Go.Deep
set_option linter.unusedVariables false
set_option maxRecDepth 100000

theorem own : ownKnob Try.prog.godebug = none := by kernel_rfl
theorem laidOut : laidOutB Try.prog = true := by kernel_rfl
theorem cellsU : Try.prog.cellsOf 33 = 5 := by kernel_rfl
theorem cellsI : Try.prog.cellsOf 3 = 1 := by kernel_rfl
theorem cellsS : Try.prog.cellsOf 9 = 1 := by kernel_rfl

theorem one_le {H : Type} (d : DataW H) : 1 ≤ Rows.uptoBulk d := by
  cases d with
  | lit l => cases l <;> simp [Rows.uptoBulk]
  | _ => simp [Rows.uptoBulk]

theorem many_le {H : Type} (l : List (DataW H)) : l.length ≤ Rows.uptoBulkAll l := by
  induction l with
  | nil => exact Nat.zero_le _
  | cons x r ih =>
    have := one_le x
    simp only [Rows.uptoBulkAll, List.length_cons]
    omega

theorem short {H : Type} {es sp : List (DataW H)} (hk : Rows.uptoSmall H [.slice es sp] = true) : es.length ≤ 1048576 := by
  have h : Rows.uptoBulkAll [DataW.slice es sp] ≤ 1048576 := of_decide_eq_true hk
  have := many_le es
  simp only [Rows.uptoBulkAll, Rows.uptoBulk] at h
  omega

theorem use_of {H : Type} {enc : TypeId × Value → H} {W : World} {spare : Nat → Bool} {held : Bool} {n : Nat} {cs : List Value} {x : DataW H × List MemPlace} (h : DataW.trod enc Try.prog W 0 spare held n 33 cs = some x) :
    ∃ kd ca k N t, cs = [.int .i64 kd, .int .i64 ca, .int .i64 k, .int .i64 N, .string t] ∧ In64 kd ∧ In64 ca ∧ In64 k ∧ In64 N := by
  obtain ⟨xs, m, _, rfl, hl, hlen, hf⟩ := DataW.trod_struct Try.underlying33 h
  rw [cellsU] at hl
  match cs, hl, xs, hlen with
  | [c0, c1, c2, c3, c4], _, [y0, y1, y2, y3, y4], _ =>
    have f0 : DataW.trod enc Try.prog W 0 spare held m 3 [c0] = some y0 := by have := hf 0 _ rfl; simpa [cellsI] using this
    have f1 : DataW.trod enc Try.prog W 0 spare held m 3 [c1] = some y1 := by have := hf 1 _ rfl; simpa [cellsI] using this
    have f2 : DataW.trod enc Try.prog W 0 spare held m 3 [c2] = some y2 := by have := hf 2 _ rfl; simpa [cellsI] using this
    have f3 : DataW.trod enc Try.prog W 0 spare held m 3 [c3] = some y3 := by have := hf 3 _ rfl; simpa [cellsI] using this
    have f4 : DataW.trod enc Try.prog W 0 spare held m 9 [c4] = some y4 := by have := hf 4 _ rfl; simpa [cellsS] using this
    obtain ⟨kd, e0, _, w0⟩ := DataW.trod_int Try.underlying3 f0
    obtain ⟨ca, e1, _, w1⟩ := DataW.trod_int Try.underlying3 f1
    obtain ⟨k, e2, _, w2⟩ := DataW.trod_int Try.underlying3 f2
    obtain ⟨N, e3, _, w3⟩ := DataW.trod_int Try.underlying3 f3
    obtain ⟨t, e4, _, w4⟩ := DataW.trod_string Try.underlying9 f4
    simp only [List.cons.injEq, and_true] at e0 e1 e2 e3 e4
    subst e0 e1 e2 e3 e4
    exact ⟨kd, ca, k, N, t, rfl, bounds_i64 w0, bounds_i64 w1, bounds_i64 w2, bounds_i64 w3⟩

/-- The steps that came in. -/
theorem uses_at {H : Type} {enc : TypeId × Value → H} {W : World} {spare : Nat → Bool} {held : Bool} {a : Addr} {len m n : Nat} {D : Nat → DataW H} {Pl : Nat → List MemPlace} (hlm : len ≤ m) (hpos : 0 < len)
    (hel : ∀ i, i < m → ∃ cs', W.cells? 0 (a.add (i * Try.prog.cellsOf 33)) (Try.prog.cellsOf 33) = some cs' ∧ DataW.trod enc Try.prog W 0 spare held n 33 cs' = some (D i, Pl i)) :
    ∃ b off, a = ⟨b, off, none⟩ ∧ b < W.heap.size ∧ ∀ j, j < len → ∃ kd ca k N t, UseAt W b (off + j * 5) kd ca k N t := by
  rw [cellsU] at hel
  obtain ⟨b, off, spot⟩ := a
  have hfirst : spot = none ∧ b < W.heap.size := by
    obtain ⟨cs', h1, h2⟩ := hel 0 (by omega)
    obtain ⟨kd, ca, k, N, t, rfl, _⟩ := use_of h2
    have h3 := (World.cells?_some h1).2.2 0 (by omega)
    have h4 : W.cell? (((⟨b, off, spot⟩ : Addr).add (0 * 5)).add 0) = some (.int .i64 kd) := h3
    simp only [Nat.zero_mul] at h4
    have e : ((⟨b, off, spot⟩ : Addr).add 0).add 0 = ⟨b, off, spot⟩ := by simp [Addr.add]
    rw [e] at h4
    exact ⟨World.cell?_spot h4, World.block_lt_of_cell? (w := W) (a := ⟨b, off, spot⟩) h4⟩
  obtain ⟨rfl, hb⟩ := hfirst
  refine ⟨b, off, rfl, hb, ?_⟩
  intro j hj
  obtain ⟨cs', h1, h2⟩ := hel j (by omega)
  obtain ⟨kd, ca, k, N, t, rfl, r0, r1, r2, r3⟩ := use_of h2
  have hc := (World.cells?_some h1).2.2
  have g : ∀ i, i < 5 → W.cell? ⟨b, off + j * 5 + i, none⟩ = [Value.int .i64 kd, .int .i64 ca, .int .i64 k, .int .i64 N, .string t][i]? := by
    intro i hi
    have := hc i hi
    rwa [add_plain, add_plain] at this
  exact ⟨kd, ca, k, N, t, g 0 (by omega), g 1 (by omega), g 2 (by omega), g 3 (by omega), g 4 (by omega), r0, r1, r2, r3⟩

theorem contract (H : Type) (enc : TypeId × Value → H) (W : World) (base : Nat) (args : Array Value) (ds gs : List (DataW H)) (before : List MemPlace)
    (hval : ∀ (j : Nat) t v, Try.f3.params[j]? = some t → args[j]? = some v → Value.okWide Try.prog W .any base t v)
    (hW : DataW.Whole enc Try.prog Try.f3.params.toList Rows.cachesSpec.vars false W args.toList ds gs before) (hk : Rows.uptoSmall H (ds ++ gs) = true) :
    Calls Try.prog 3 args W fun e W' => ∃ v, e = .returned v ∧ Rows.cachesSpec.post enc Try.prog Try.f3 false true false false W args v W' := by
  have hW' := hW
  obtain ⟨p, q, hA0, hV, rfl, hfz, hnd⟩ := hW
  have hA : DataW.TrodAll enc Try.prog W 0 (fun _ => true) true Try.f3.params.toList args.toList ds p := hA0
  rw [Try.params3] at hA hval
  obtain ⟨v0, vs0, d0, ds0, p0, q0, hargs, rfl, rfl, h0, r0⟩ := trodAll_cons hA
  obtain ⟨rfl, rfl, rfl⟩ := trodAll_nil r0
  obtain rfl : args = #[v0] := by cases args; simp_all
  obtain ⟨rfl, rfl⟩ := trodVars_none hV
  obtain ⟨a0, len0, cap0, rfl⟩ := okWide_slice Try.underlying22 (hval 0 22 v0 rfl rfl)
  have k0 := h0
  have lt0 : ∀ x ∈ p0, x.block < W.heap.size := by obtain ⟨m, hm⟩ := k0; exact DataW.trod_lt m _ _ _ hm
  clear hA0
  simp only [List.append_nil] at hk
  have walk : Calls Try.prog 3 #[.slice a0 len0 cap0] W fun e w' => e = .returned (.bool true) ∧ Below W.heap.size W w' := by
    obtain ⟨fuel, hf⟩ := h0
    rcases open_slice Try.underlying22 hf with ⟨hcs, _⟩ | ⟨a, len, cap, m, n, D, Pl, hcs, _, hl, _, hmm, hx, hel⟩
    · simp [Value.cells] at hcs
      obtain ⟨rfl, rfl, rfl⟩ := hcs
      exact caches_any none 0 0 0 0 W (by omega) (fun h => absurd h (by omega)) (fun j hj => absurd hj (by omega))
    · simp [Value.cells] at hcs
      obtain ⟨rfl, rfl, rfl⟩ := hcs
      simp only [Prod.mk.injEq] at hx
      obtain ⟨rfl, _⟩ := hx
      have hlen := short hk
      simp only [List.length_map, List.length_range] at hlen
      have hlm : len0 ≤ m := by rw [hmm]; split <;> omega
      by_cases hpos : 0 < len0
      · obtain ⟨b, off, rfl, hb, hu⟩ := uses_at hlm hpos hel
        exact caches_any _ b off len0 cap0 W hlen (fun _ => ⟨rfl, hb⟩) hu
      · exact caches_any _ 0 0 len0 cap0 W hlen (fun h => absurd h hpos) (fun j hj => absurd hj (by omega))
  refine walk.mono fun e W' ⟨he, bel⟩ => ?_
  subst he
  exact ⟨_, rfl, _, _, _, [], _, [], hW', trodAll_mk1 (shut_bool Try.underlying4 _), (trodAll_cons_mk (Below.trod laidOut (by kernel_rfl) (of_decide_eq_true (by kernel_rfl)) k0 bel lt0) trodAll_mk0), rfl, bel.frame _, fun h => by cases h⟩

set_option maxRecDepth 100000 in
theorem lifted (os : Os) (started : os.Started) (H : Type) (enc : TypeId × Value → H) (F : Stop.Interp) :
    ReturnsInHanded {} Try.checked os 3 .any ((Rows.OpenSpec.upto Rows.cachesSpec).pre6 enc Try.prog Try.f3 Rows.cachesUptoRow.domain false) (((Rows.OpenSpec.upto Rows.cachesSpec).at F).post enc Try.prog Try.f3 false true false false) := by
  refine returnsInHanded_of_cond (C := Try.checked) (s := Rows.OpenSpec.upto Rows.cachesSpec) (k := Rows.uptoSmall) rfl own started (by kernel_rfl) Try.func3
    (OpenSpec.witness (enc := enc) (C := Try.checked) (s := Rows.OpenSpec.upto Rows.cachesSpec) (k := Rows.uptoSmall) rfl false ⟨#[], #[.slice none 0 0], []⟩ 8 (by kernel_rfl) (by kernel_rfl) (by kernel_rfl)
      (x := ([.nil], [], [])) (by kernel_rfl) rfl (by kernel_rfl)) ?_
  intro W base args ds gs before hval hW _ hk _
  exact contract H enc W base args ds gs before hval hW hk

theorem over : Rows.cachesUptoRow.holds Try.pinned (Rows.OpenSpec.upto Rows.cachesSpec) :=
  OpenClaim.holds_of_cond 3 Try.f3 rfl rfl rfl rfl rfl rfl rfl ⟨rfl, rfl, rfl, rfl, rfl⟩ rfl rfl rfl rfl rfl (by kernel_rfl) Try.func3 (by kernel_rfl)
    (of_decide_eq_true (by kernel_rfl)) (by unfold Func.isWrapper; first | (rw [if_pos (by decide +kernel)]; kernel_rfl) | (rw [if_neg (by decide +kernel)]; exact ⟨rfl, rfl⟩))
    (fun os started H enc _ F => lifted os started H enc F)
end Go.Proofs.Ytlfmfhmbkpnjbaa.caches

namespace Go.Proofs.Ytlfmfhmbkpnjbaa
theorem caches_holds : Rows.CachesUptoSaid := caches.over
#print axioms caches_holds
end Go.Proofs.Ytlfmfhmbkpnjbaa
