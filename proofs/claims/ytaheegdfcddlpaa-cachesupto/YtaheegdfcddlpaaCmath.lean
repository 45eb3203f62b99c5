import Derived.Test.YtaheegdfcddlpaaGetis
import Derived.Test.YtaheegdfcddlpaaGetsi
import Derived.Test.YtaheegdfcddlpaaRefput
import Derived.Test.YtaheegdfcddlpaaText
namespace Go.Proofs.Ytaheegdfcddlpaa

def In64 (n : Int) : Prop := -9223372036854775808 ≤ n ∧ n ≤ 9223372036854775807
/-- An entry of the cache of texts. -/
def tz (p : Ent) : ByteArray × Int := (textOf p.1, (p.2.size : Int))

structure KeysOk (L : List Ent) : Prop where
  nodup : (L.map Prod.fst).Nodup
  rng : ∀ p ∈ L, In64 p.1

theorem idx_map (L : List Ent) (k : Int) (hL : ∀ p ∈ L, In64 p.1) (hk : In64 k) : idx (L.map tz) (textOf k) = idx L k := by
  induction L with
  | nil => rfl
  | cons p r ih =>
    have hp := hL p List.mem_cons_self
    have hr := ih (fun q hq => hL q (List.mem_cons_of_mem _ hq))
    simp only [List.map_cons, idx]
    by_cases e : p.1 = k
    · have : (tz p).1 = textOf k := by simp [tz, e]
      simp only [e, this, if_true]
    · have : ¬ (tz p).1 = textOf k := fun h => e (textOf_inj _ _ hp.1 hp.2 hk.1 hk.2 h)
      simp only [e, this, if_false, hr]

theorem touch_map {α β : Type} (f : α → β) (L : List α) (p : Nat) (e : α) : touch (L.map f) p (f e) = (touch L p e).map f := by
  simp [touch, List.map_take, List.map_drop]

theorem z_put (n : Nat) (L : List Ent) (k : Int) (x : ByteArray) (hL : ∀ p ∈ L, In64 p.1) (hk : In64 k) : putL n (L.map tz) (textOf k, (x.size : Int)) = (putL n L (k, x)).map tz := by
  have h1 := idx_map L k hL hk
  have h2 : fHas (L.map tz) (textOf k) = fHas L k := by simp [fHas, h1]
  have h3 : fAt (L.map tz) (textOf k) = fAt L k := by simp [fAt, h1]
  have e : ((textOf k, (x.size : Int)) : ByteArray × Int) = tz (k, x) := rfl
  unfold putL
  simp only [h2, h3, List.length_map]
  split
  · rw [e, touch_map]
  · split
    · rw [e]; rfl
    · rw [e, ← List.map_take]; rfl

theorem z_get (L : List Ent) (k : Int) (hL : ∀ p ∈ L, In64 p.1) (hk : In64 k) :
    getL_si (L.map tz) (textOf k) = (((getL_is L k).1.size : Int), (getL_is L k).2.1, (getL_is L k).2.2.map tz) := by
  have h1 := idx_map L k hL hk
  by_cases h : idx L k < L.length
  · have h' : idx (L.map tz) (textOf k) < (L.map tz).length := by rw [h1, List.length_map]; exact h
    have g1 : getL_si (L.map tz) (textOf k) = ((L.map tz)[idx (L.map tz) (textOf k)].2, true, touch (L.map tz) (idx (L.map tz) (textOf k)) (L.map tz)[idx (L.map tz) (textOf k)]) := dif_pos h'
    have g2 : getL_is L k = (L[idx L k].2, true, touch L (idx L k) L[idx L k]) := dif_pos h
    have e1 : (L.map tz)[idx (L.map tz) (textOf k)] = tz L[idx L k] := by simp [h1]
    rw [g1, g2, e1, h1, touch_map]
    rfl
  · have h' : ¬ idx (L.map tz) (textOf k) < (L.map tz).length := by rw [h1, List.length_map]; exact h
    simp only [getL_si, getL_is, h, h', dif_neg, not_false_eq_true]
    rfl

theorem mem_touch {α : Type} (L : List α) (p : Nat) (e x : α) (h : x ∈ touch L p e) : x = e ∨ x ∈ L := by
  simp only [touch, List.mem_cons, List.mem_append] at h
  rcases h with h | h | h
  · exact Or.inl h
  · exact Or.inr (List.mem_of_mem_take h)
  · exact Or.inr (List.mem_of_mem_drop h)

theorem idx_key {V : Type} (L : List (Int × V)) (k : Int) (h : idx L k < L.length) : L[idx L k].1 = k := by
  induction L with
  | nil => simp at h
  | cons p r ih =>
    by_cases e : p.1 = k
    · simp [idx, e]
    · have h2 : idx r k < r.length := by simpa [idx, e] using h
      have := ih h2
      simpa [idx, e] using this

theorem idx_out {V : Type} (L : List (Int × V)) (k : Int) (h : ¬ idx L k < L.length) : ∀ p ∈ L, ¬ p.1 = k := by
  induction L with
  | nil => simp
  | cons p r ih =>
    by_cases e : p.1 = k
    · simp [idx, e] at h
    · have h2 : ¬ idx r k < r.length := by simpa [idx, e] using h
      intro q hq
      rcases List.mem_cons.1 hq with rfl | hq
      · exact e
      · exact ih h2 q hq

theorem fold_none (k : Int) (r : List Ent) (a : ByteArray × Bool) (h : ∀ q ∈ r, ¬ q.1 = k) : r.foldl (fun a p => if p.1 = k then (p.2, true) else a) a = a := by
  induction r generalizing a with
  | nil => rfl
  | cons p r ih =>
    rw [List.foldl_cons, if_neg (h p List.mem_cons_self)]
    exact ih a (fun q hq => h q (List.mem_cons_of_mem _ hq))

theorem drop_none (k : Int) (r : List Ent) (h : ∀ q ∈ r, ¬ q.1 = k) : dropKey r k = r := by
  unfold dropKey
  rw [List.filter_eq_self]
  intro q hq
  simp [h q hq]

theorem parts (L : List Ent) (p : Nat) (hp : p < L.length) : L = L.take p ++ L[p] :: L.drop (p + 1) := by rw [← List.drop_eq_getElem_cons hp, List.take_append_drop]

theorem nodup_off (L : List Ent) (hd : (L.map Prod.fst).Nodup) (p : Nat) (hp : p < L.length) : ∀ q ∈ L.take p ++ L.drop (p + 1), ¬ q.1 = L[p].1 := by
  have e := parts L p hp
  have h1 : ((L.take p ++ L[p] :: L.drop (p + 1)).map Prod.fst).Nodup := by rw [← e]; exact hd
  rw [List.map_append, List.map_cons] at h1
  have h2 := (List.perm_middle.nodup_iff).1 h1
  rw [List.nodup_cons] at h2
  intro q hq hc
  apply h2.1
  rw [← hc, ← List.map_append]
  exact List.mem_map_of_mem hq

theorem drop_has (L : List Ent) (hd : (L.map Prod.fst).Nodup) (p : Nat) (hp : p < L.length) : dropKey L L[p].1 = L.take p ++ L.drop (p + 1) ∧ seek L L[p].1 = (L[p].2, true) := by
  have hoff := nodup_off L hd p hp
  have e := parts L p hp
  have o1 : ∀ q ∈ L.take p, ¬ q.1 = L[p].1 := fun q hq => hoff q (List.mem_append_left _ hq)
  have o2 : ∀ q ∈ L.drop (p + 1), ¬ q.1 = L[p].1 := fun q hq => hoff q (List.mem_append_right _ hq)
  generalize L[p] = x at *
  generalize L.take p = A at *
  generalize L.drop (p + 1) = B at *
  subst e
  constructor
  · have h1 := drop_none x.1 A o1
    have h2 := drop_none x.1 B o2
    unfold dropKey at *
    rw [List.filter_append, List.filter_cons_of_neg (by simp), h1, h2]
  · unfold seek
    rw [List.foldl_append, fold_none _ _ _ o1, List.foldl_cons, if_pos rfl, fold_none _ _ _ o2]

theorem ref_put (n : Nat) (L : List Ent) (e : Ent) (hn : 1 ≤ n) (hl : L.length ≤ n) (hd : (L.map Prod.fst).Nodup) : refPutL n L e = putL n L e := by
  unfold refPutL putL
  by_cases h : idx L e.1 < L.length
  · have hf : fHas L e.1 = true := by simp [fHas, h]
    have ha : fAt L e.1 = idx L e.1 := by simp [fAt, h]
    have hk := idx_key L e.1 h
    have := (drop_has L hd _ h).1
    rw [hk] at this
    rw [if_pos hf, ha, this]
    show (touch L (idx L e.1) e).take n = _
    exact List.take_of_length_le (by rw [touch_length L _ e h]; exact hl)
  · have hf : fHas L e.1 = false := by simp [fHas, h]
    rw [drop_none _ _ (idx_out L e.1 h), if_neg (by rw [hf]; decide)]
    obtain ⟨m, rfl⟩ : ∃ m, n = m + 1 := ⟨n - 1, by omega⟩
    rw [List.take_succ_cons]
    split
    · rw [List.take_of_length_le (by omega)]
    · congr 2
      omega

theorem ref_get (L : List Ent) (k : Int) (hd : (L.map Prod.fst).Nodup) : seek L k = ((getL_is L k).1, (getL_is L k).2.1) ∧ refGetL L k = (getL_is L k).2.2 := by
  by_cases h : idx L k < L.length
  · have hk := idx_key L k h
    obtain ⟨h1, h2⟩ := drop_has L hd _ h
    rw [hk] at h1 h2
    have e1 : getL_is L k = (L[idx L k].2, true, touch L (idx L k) L[idx L k]) := by simp [getL_is, h]
    rw [e1, h2]
    refine ⟨rfl, ?_⟩
    unfold refGetL
    rw [h2, h1, if_pos rfl]
    unfold touch
    congr 1
    exact Prod.ext hk.symm rfl
  · have hn := idx_out L k h
    have e1 : getL_is L k = (ByteArray.empty, false, L) := by simp [getL_is, h]
    have e2 : seek L k = (ByteArray.empty, false) := fold_none k L _ hn
    rw [e1, e2]
    refine ⟨rfl, ?_⟩
    unfold refGetL
    rw [e2]; rfl

theorem KeysOk.put {n : Nat} {L : List Ent} (h : KeysOk L) (k : Int) (x : ByteArray) (hk : In64 k) : KeysOk (putL n L (k, x)) := by
  refine ⟨?_, ?_⟩
  · unfold putL
    split
    · rename_i hf
      have hi : idx L k < L.length := by simpa [fHas] using hf
      have ha : fAt L k = idx L k := by simp [fAt, hi]
      show ((touch L (fAt L k) (k, x)).map Prod.fst).Nodup
      rw [ha]
      have hoff := nodup_off L h.nodup _ hi
      have e := parts L _ hi
      have h1 : ((L.take (idx L k) ++ L[idx L k] :: L.drop (idx L k + 1)).map Prod.fst).Nodup := by rw [← e]; exact h.nodup
      rw [List.map_append, List.map_cons] at h1
      have h2 := (List.perm_middle.nodup_iff).1 h1
      rw [idx_key L k hi] at h2
      simpa [touch] using h2
    · rename_i hf
      have hi : ¬ idx L k < L.length := by simpa [fHas] using hf
      have hno := idx_out L k hi
      split
      · rw [List.map_cons, List.nodup_cons]
        refine ⟨fun hm => ?_, h.nodup⟩
        obtain ⟨q, hq, hqe⟩ := List.mem_map.1 hm
        exact hno q hq hqe
      · rw [List.map_cons, List.nodup_cons]
        refine ⟨fun hm => ?_, ?_⟩
        · obtain ⟨q, hq, hqe⟩ := List.mem_map.1 hm
          exact hno q (List.mem_of_mem_take hq) hqe
        · rw [List.map_take]
          exact h.nodup.sublist (List.take_sublist _ _)
  · intro q hq
    unfold putL at hq
    split at hq
    · rcases mem_touch _ _ _ _ hq with rfl | hq
      · exact hk
      · exact h.rng q hq
    · split at hq
      · rcases List.mem_cons.1 hq with rfl | hq
        · exact hk
        · exact h.rng q hq
      · rcases List.mem_cons.1 hq with rfl | hq
        · exact hk
        · exact h.rng q (List.mem_of_mem_take hq)

theorem KeysOk.get {L : List Ent} (h : KeysOk L) (k : Int) : KeysOk (getL_is L k).2.2 ∧ (getL_is L k).2.2.length = L.length := by
  by_cases hi : idx L k < L.length
  · have e1 : getL_is L k = (L[idx L k].2, true, touch L (idx L k) L[idx L k]) := by simp [getL_is, hi]
    rw [e1]
    refine ⟨⟨?_, ?_⟩, touch_length L _ _ hi⟩
    · have e := parts L _ hi
      have h1 : ((L.take (idx L k) ++ L[idx L k] :: L.drop (idx L k + 1)).map Prod.fst).Nodup := by rw [← e]; exact h.nodup
      rw [List.map_append, List.map_cons] at h1
      have h2 := (List.perm_middle.nodup_iff).1 h1
      simpa [touch] using h2
    · intro q hq
      rcases mem_touch _ _ _ _ hq with rfl | hq
      · exact h.rng _ (List.getElem_mem hi)
      · exact h.rng q hq
  · have e1 : getL_is L k = (ByteArray.empty, false, L) := by simp [getL_is, hi]
    rw [e1]
    exact ⟨h, rfl⟩

theorem KeysOk.nil : KeysOk [] := ⟨by simp, by simp⟩
end Go.Proofs.Ytaheegdfcddlpaa
