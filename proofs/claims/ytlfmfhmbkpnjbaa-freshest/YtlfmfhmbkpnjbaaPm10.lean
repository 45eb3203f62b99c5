import Derived.Test.YtlfmfhmbkpnjbaaPm1
namespace Go.Proofs.Ytlfmfhmbkpnjbaa

/-- How many of the first m were used later than t. -/
def cntTo (W : Nat → Int) (t : Int) : Nat → Nat
  | 0 => 0
  | m + 1 => cntTo W t m + (if t < W m then 1 else 0)

def upd (W : Nat → Int) (k : Nat) (t : Int) : Nat → Int := fun j => if j = k then t else W j

theorem cntTo_anti (W : Nat → Int) (s t : Int) (h : s ≤ t) (m : Nat) : cntTo W t m ≤ cntTo W s m := by
  induction m with
  | zero => simp [cntTo]
  | succ m ih => simp only [cntTo]; split <;> split <;> omega

theorem cntTo_ge (W : Nat → Int) (k : Nat) (t' t : Int) (m : Nat) (h : m ≤ k) : cntTo (upd W k t') t m = cntTo W t m := by
  induction m with
  | zero => rfl
  | succ m ih =>
    have e : upd W k t' m = W m := by simp [upd, show m ≠ k by omega]
    simp only [cntTo, e, ih (by omega)]

theorem cntTo_upd (W : Nat → Int) (k : Nat) (t' t : Int) (h : t < t') (m : Nat) (hk : k < m) : cntTo (upd W k t') t m = cntTo W t m + (if t < W k then 0 else 1) := by
  induction m with
  | zero => omega
  | succ m ih =>
    by_cases hm : k = m
    · subst hm
      have e : upd W k t' k = t' := by simp [upd]
      simp only [cntTo, e, cntTo_ge W k t' t k (Nat.le_refl _), h, if_true]
      split <;> omega
    · have e : upd W k t' m = W m := by simp [upd, show m ≠ k by omega]
      simp only [cntTo, e, ih (by omega)]
      omega

theorem cntTo_none (W : Nat → Int) (t : Int) (m : Nat) (h : ∀ j, j < m → W j ≤ t) : cntTo W t m = 0 := by
  induction m with
  | zero => rfl
  | succ m ih =>
    have := h m (by omega)
    simp only [cntTo, ih (fun j hj => h j (by omega)), show ¬ t < W m by omega, if_false]

theorem cntTo_le (W : Nat → Int) (t : Int) (m : Nat) : cntTo W t m ≤ m := by
  induction m with
  | zero => simp [cntTo]
  | succ m ih => simp only [cntTo]; split <;> omega

theorem cntTo_upd_none (W : Nat → Int) (k : Nat) (t : Int) (m : Nat) (h : ∀ j, j < m → W j ≤ t) : cntTo (upd W k t) t m = 0 := by
  apply cntTo_none
  intro j hj
  unfold upd
  split
  · omega
  · exact h j hj

theorem touch_mem {α : Type} (R : List α) (p : Nat) (hp : p < R.length) (x : α) : x ∈ touch R p R[p] ↔ x ∈ R := by
  have e : R = R.take p ++ R[p] :: R.drop (p + 1) := by rw [← List.drop_eq_getElem_cons hp, List.take_append_drop]
  constructor
  · intro h
    simp only [touch, List.mem_cons, List.mem_append] at h
    rcases h with h | h | h
    · rw [h]; exact List.getElem_mem hp
    · exact List.mem_of_mem_take h
    · exact List.mem_of_mem_drop h
  · intro h
    rw [e] at h
    simp only [List.mem_append, List.mem_cons] at h
    simp only [touch, List.mem_cons, List.mem_append]
    rcases h with h | h | h
    · exact Or.inr (Or.inl h)
    · exact Or.inl h
    · exact Or.inr (Or.inr h)

theorem touch_nodup {α : Type} (R : List α) (p : Nat) (hp : p < R.length) (h : R.Nodup) : (touch R p R[p]).Nodup := by
  have e : R = R.take p ++ R[p] :: R.drop (p + 1) := by rw [← List.drop_eq_getElem_cons hp, List.take_append_drop]
  have : (R.take p ++ R[p] :: R.drop (p + 1)).Nodup := by rw [← e]; exact h
  exact (List.perm_middle.nodup_iff).1 this

theorem touch_rest {α : Type} (R : List α) (p : Nat) (hp : p < R.length) (h : R.Nodup) : ∀ x ∈ R.take p ++ R.drop (p + 1), x ≠ R[p] := by
  have := touch_nodup R p hp h
  intro x hx e
  subst e
  simp only [touch, List.nodup_cons] at this
  exact this.1 hx

theorem touch_get {α : Type} (R : List α) (p : Nat) (e : α) (hp : p < R.length) (q : Nat) (hq : q + 1 < (touch R p e).length) :
    ∃ h : (if q < p then q else q + 1) < R.length, (touch R p e)[q + 1] = R[if q < p then q else q + 1] := by
  have hl := touch_length R p e hp
  have hb : (if q < p then q else q + 1) < R.length := by split <;> omega
  refine ⟨hb, ?_⟩
  simp only [touch, List.getElem_cons_succ]
  by_cases h : q < p
  · simp only [h, if_true]
    rw [List.getElem_append_left (by simp; omega)]
    simp
  · simp only [h, if_false]
    rw [List.getElem_append_right (by simp; omega)]
    simp only [List.getElem_drop, List.length_take]
    congr 1
    omega

/-- What 'when' says of the keys that were used, the last one first. -/
structure St (i : Int) (W : Nat → Int) (R : List Nat) : Prop where
  nodup : R.Nodup
  lt : ∀ k ∈ R, k < 12
  pos : ∀ k ∈ R, 0 < W k
  le : ∀ k, k < 12 → W k ≤ i
  zero : ∀ k, k < 12 → k ∉ R → W k = 0
  cnt : ∀ p (h : p < R.length), cntTo W (W R[p]) 12 = p

theorem St.start : St 0 (fun _ => 0) [] :=
  ⟨List.nodup_nil, by simp, by simp, by simp, by simp, by simp⟩

theorem St.later {i : Int} {W : Nat → Int} {R : List Nat} (h : St i W R) : St (i + 1) W R :=
  ⟨h.nodup, h.lt, h.pos, fun k hk => by have := h.le k hk; omega, h.zero, h.cnt⟩

theorem St.hit {i : Int} {W : Nat → Int} {R : List Nat} (h : St i W R) (p : Nat) (hp : p < R.length) (hi : 0 ≤ i) : St (i + 1) (upd W R[p] (i + 1)) (touch R p R[p]) := by
  have hk12 := h.lt R[p] (List.getElem_mem hp)
  have hcp := h.cnt p hp
  refine ⟨touch_nodup R p hp h.nodup, fun k hk => h.lt k ((touch_mem R p hp k).1 hk), ?_, ?_, ?_, ?_⟩
  · intro k hk
    unfold upd
    split
    · omega
    · exact h.pos k ((touch_mem R p hp k).1 hk)
  · intro k hk
    unfold upd
    split
    · omega
    · have := h.le k hk; omega
  · intro k hk hn
    have hn' : k ∉ R := fun e => hn ((touch_mem R p hp k).2 e)
    have : k ≠ R[p] := fun e => hn' (by rw [e]; exact List.getElem_mem hp)
    simp only [upd, this, if_false]
    exact h.zero k hk hn'
  · intro q hq
    cases q with
    | zero =>
      have e : upd W R[p] (i + 1) (touch R p R[p])[0] = i + 1 := by simp [touch, upd]
      rw [e]
      exact cntTo_upd_none W _ _ 12 (fun j hj => by have := h.le j hj; omega)
    | succ q =>
      obtain ⟨hb, he⟩ := touch_get R p R[p] hp q hq
      rw [he]
      generalize hj : (if q < p then q else q + 1) = j at hb he
      have hne : R[j] ≠ R[p] := by
        intro e
        have := (List.getElem_inj h.nodup).1 e
        split at hj <;> omega
      have hcj := h.cnt j hb
      have hlt : W R[j] ≤ i := h.le _ (h.lt _ (List.getElem_mem hb))
      have e1 : upd W R[p] (i + 1) R[j] = W R[j] := by simp [upd, hne]
      rw [e1, cntTo_upd W _ _ _ (by omega) 12 hk12, hcj]
      by_cases hqp : q < p
      · simp only [hqp, if_true] at hj
        have : ¬ W R[j] < W R[p] := by
          intro hl
          have := cntTo_anti W (W R[j]) (W R[p]) (by omega) 12
          omega
        simp only [this, if_false]; omega
      · simp only [hqp, if_false] at hj
        have : W R[j] < W R[p] := by
          by_cases hl : W R[j] < W R[p]
          · exact hl
          · have := cntTo_anti W (W R[p]) (W R[j]) (by omega) 12
            omega
        simp only [this, if_true]; omega

theorem St.new {i : Int} {W : Nat → Int} {R : List Nat} (h : St i W R) (k : Nat) (hk : k < 12) (hn : k ∉ R) (hi : 0 ≤ i) : St (i + 1) (upd W k (i + 1)) (k :: R) := by
  have hz := h.zero k hk hn
  refine ⟨List.nodup_cons.2 ⟨hn, h.nodup⟩, ?_, ?_, ?_, ?_, ?_⟩
  · intro j hj
    rcases List.mem_cons.1 hj with rfl | hj
    · exact hk
    · exact h.lt j hj
  · intro j hj
    unfold upd
    split
    · omega
    · rcases List.mem_cons.1 hj with e | hj
      · contradiction
      · exact h.pos j hj
  · intro j hj
    unfold upd
    split
    · omega
    · have := h.le j hj; omega
  · intro j hj hjn
    have h1 : j ≠ k := fun e => hjn (by rw [e]; exact List.mem_cons_self)
    simp only [upd, h1, if_false]
    exact h.zero j hj (fun e => hjn (List.mem_cons_of_mem _ e))
  · intro q hq
    cases q with
    | zero =>
      have e : upd W k (i + 1) (k :: R)[0] = i + 1 := by simp [upd]
      rw [e]
      exact cntTo_upd_none W _ _ 12 (fun j hj => by have := h.le j hj; omega)
    | succ q =>
      simp only [List.getElem_cons_succ]
      have hb : q < R.length := by simpa using hq
      have hm : R[q] ∈ R := List.getElem_mem hb
      have hne : R[q] ≠ k := fun e => hn (by rw [← e]; exact hm)
      have e1 : upd W k (i + 1) R[q] = W R[q] := by simp [upd, hne]
      have h2 := h.le _ (h.lt _ hm)
      have h3 := h.pos _ hm
      rw [e1, cntTo_upd W _ _ _ (by omega) 12 hk, h.cnt q hb, hz]
      simp only [show ¬ W R[q] < 0 by omega, if_false]

/-- All that was ever put, the last one first; the cache has as many as there is room for. -/
def full (V : Nat → Int) (R : List Nat) : List (Int × Int) := R.map (fun k : Nat => ((k : Int), V k)) ++ [(100, 7)]

theorem full_len (V : Nat → Int) (R : List Nat) : (full V R).length = R.length + 1 := by simp [full]

theorem idx_take {K V : Type} [DecidableEq K] (X : List (K × V)) (n : Nat) (k : K) : idx (X.take n) k = min n (idx X k) := by
  induction X generalizing n with
  | nil => simp [idx]
  | cons p r ih =>
    cases n with
    | zero => simp [idx]
    | succ n =>
      simp only [List.take_succ_cons, idx]
      split
      · simp
      · rw [ih]; omega

theorem idx_full (V : Nat → Int) (R : List Nat) (hd : R.Nodup) (p : Nat) (hp : p < R.length) : idx (full V R) (R[p] : Int) = p := by
  induction R generalizing p with
  | nil => simp at hp
  | cons a r ih =>
    have hd' := List.nodup_cons.1 hd
    cases p with
    | zero => simp [full, idx]
    | succ q =>
      have hq : q < r.length := by simpa using hp
      have hne : ¬ (a : Int) = (r[q] : Int) := by
        intro e
        have : a = r[q] := by exact_mod_cast e
        exact hd'.1 (by rw [this]; exact List.getElem_mem hq)
      have := ih hd'.2 q hq
      simp only [full, List.map_cons, List.cons_append, idx, List.getElem_cons_succ, hne, if_false]
      simp only [full] at this
      rw [this]

theorem idx_full_not (V : Nat → Int) (R : List Nat) (k : Nat) (hk : k < 12) (hn : k ∉ R) : idx (full V R) (k : Int) = R.length + 1 := by
  induction R with
  | nil =>
    have : ¬ (100 : Int) = (k : Int) := by omega
    simp [full, idx, this]
  | cons a r ih =>
    have hne : ¬ (a : Int) = (k : Int) := by
      intro e
      have : a = k := by exact_mod_cast e
      exact hn (by rw [this]; exact List.mem_cons_self)
    have := ih (fun e => hn (List.mem_cons_of_mem _ e))
    simp only [full, List.map_cons, List.cons_append, idx, hne, if_false, List.length_cons]
    simp only [full] at this
    rw [this]

theorem touch_full (V : Nat → Int) (R : List Nat) (p : Nat) (hp : p < R.length) (x : Int) (hd : R.Nodup) :
    touch (full V R) p ((R[p] : Int), x) = full (upd V R[p] x) (touch R p R[p]) := by
  have h1 : ∀ l : List Nat, (∀ j ∈ l, j ≠ R[p]) → l.map (fun k : Nat => ((k : Int), V k)) = l.map (fun k : Nat => ((k : Int), upd V R[p] x k)) := by
    intro l hl
    apply List.map_congr_left
    intro j hj
    simp [upd, hl j hj]
  have h2 := touch_rest R p hp hd
  simp only [touch, full, List.map_cons, List.map_append, List.cons_append]
  have e0 : upd V R[p] x R[p] = x := by simp [upd]
  rw [e0, List.take_append_of_le_length (by simp; omega), List.drop_append_of_le_length (by simp; omega), ← List.map_take, ← List.map_drop]
  rw [h1 (R.take p) (fun j hj => h2 j (List.mem_append_left _ hj)), h1 (R.drop (p + 1)) (fun j hj => h2 j (List.mem_append_right _ hj))]
  simp

theorem new_full (V : Nat → Int) (R : List Nat) (k : Nat) (hn : k ∉ R) (x : Int) : ((k : Int), x) :: full V R = full (upd V k x) (k :: R) := by
  have h1 : R.map (fun k : Nat => ((k : Int), V k)) = R.map (fun j : Nat => ((j : Int), upd V k x j)) := by
    apply List.map_congr_left
    intro j hj
    have : j ≠ k := fun e => hn (by rw [← e]; exact hj)
    simp [upd, this]
  have e0 : upd V k x k = x := by simp [upd]
  simp only [full, List.map_cons, List.cons_append, e0]
  rw [h1]

theorem touch_take {α : Type} (X : List α) (n p : Nat) (hp : p < n) (hx : p < X.length) (e : α) : touch (X.take n) p e = (touch X p e).take n := by
  obtain ⟨m, rfl⟩ : ∃ m, n = m + 1 := ⟨n - 1, by omega⟩
  simp only [touch, List.take_succ_cons]
  have e1 : ((X.take (m + 1)).take p) = X.take p := by rw [List.take_take, show min p (m + 1) = p from by omega]
  have e2 : (X.take (m + 1)).drop (p + 1) = (X.drop (p + 1)).take (m - p) := by rw [List.drop_take, show m + 1 - (p + 1) = m - p from by omega]
  have e3 : (X.take p ++ X.drop (p + 1)).take m = X.take p ++ (X.drop (p + 1)).take (m - p) := by
    have hl : (X.take p).length = p := by rw [List.length_take]; omega
    rw [List.take_append, hl, List.take_of_length_le (by omega)]
  rw [e1, e2, e3]

/-- Put of a key that is there no longer, or never was. -/
theorem put_far {α : Type} (X : List α) (n p : Nat) (hn : 1 ≤ n) (hp : n ≤ p) (hx : p < X.length) (e : α) : e :: (X.take n).take ((X.take n).length - 1) = (touch X p e).take n := by
  obtain ⟨m, rfl⟩ : ∃ m, n = m + 1 := ⟨n - 1, by omega⟩
  simp only [touch, List.take_succ_cons, List.length_take]
  congr 1
  rw [List.take_take, List.take_append_of_le_length (by simp; omega), List.take_take]
  congr 1
  omega

theorem put_new {α : Type} (X : List α) (n : Nat) (hn : 1 ≤ n) (e : α) : (if (X.take n).length < n then e :: X.take n else e :: (X.take n).take ((X.take n).length - 1)) = (e :: X).take n := by
  obtain ⟨m, rfl⟩ : ∃ m, n = m + 1 := ⟨n - 1, by omega⟩
  simp only [List.take_succ_cons]
  split
  · rename_i h
    rw [List.length_take] at h
    rw [List.take_of_length_le (by omega), List.take_of_length_le (by omega)]
  · rename_i h
    rw [List.length_take] at h
    rw [List.take_take, List.length_take]
    congr 2
    omega

variable {i : Int} {W V : Nat → Int} {R : List Nat}

theorem St.at_ (h : St i W R) (k : Nat) (hk : k < 12) (hw : 0 < W k) : ∃ p, ∃ hp : p < R.length, R[p] = k ∧ cntTo W (W k) 12 = p := by
  have hm : k ∈ R := by
    by_cases hm : k ∈ R
    · exact hm
    · have := h.zero k hk hm; omega
  obtain ⟨p, hp, e⟩ := List.getElem_of_mem hm
  exact ⟨p, hp, e, by rw [← e]; exact h.cnt p hp⟩

/-- The key is there. -/
theorem St.has (h : St i W R) (hi : 0 ≤ i) (n k : Nat) (hk : k < 12) (hw : 0 < W k) (hc : cntTo W (W k) 12 < n) :
    fHas ((full V R).take n) (k : Int) = true ∧ ∃ R', St (i + 1) (upd W k (i + 1)) R' ∧
      (∃ hx : idx ((full V R).take n) (k : Int) < ((full V R).take n).length, ((full V R).take n)[idx ((full V R).take n) (k : Int)] = ((k : Int), V k) ∧ touch ((full V R).take n) (idx ((full V R).take n) (k : Int)) ((k : Int), V k) = (full V R').take n) ∧
      ∀ x, putL n ((full V R).take n) ((k : Int), x) = (full (upd V k x) R').take n := by
  obtain ⟨p, hp, e, hcp⟩ := h.at_ k hk hw
  have hpn : p < n := by omega
  have hix : idx ((full V R).take n) (k : Int) = p := by
    rw [idx_take, ← e, idx_full V R h.nodup p hp]; omega
  have hl : p < ((full V R).take n).length := by rw [List.length_take, full_len]; omega
  have hh : fHas ((full V R).take n) (k : Int) = true := by simp only [fHas, hix, hl]; rfl
  have hfa : fAt ((full V R).take n) (k : Int) = p := by simp only [fAt, hix, hl, if_true]
  have hself : upd V k (V k) = V := by funext j; unfold upd; split <;> simp_all
  refine ⟨hh, touch R p R[p], by rw [← e]; exact h.hit p hp hi, ⟨by rw [hix]; exact hl, ?_, ?_⟩, ?_⟩
  · simp only [hix]
    rw [List.getElem_take]
    simp only [full]
    rw [List.getElem_append_left (by simpa using hp), List.getElem_map, e]
  · rw [hix, touch_take _ _ _ hpn (by rw [full_len]; omega)]
    have := touch_full V R p hp (V k) h.nodup
    rw [e, hself] at this
    rw [this, e]
  · intro x
    rw [putL_has n _ _ hh]
    show touch _ (fAt _ (k : Int)) _ = _
    rw [hfa, touch_take _ _ _ hpn (by rw [full_len]; omega)]
    have := touch_full V R p hp x h.nodup
    rw [e] at this
    rw [this, e]

/-- It is not. -/
theorem St.hasnt (h : St i W R) (hi : 0 ≤ i) (n k : Nat) (hn : 1 ≤ n) (hk : k < 12) (hc : ¬ (0 < W k ∧ cntTo W (W k) 12 < n)) :
    fHas ((full V R).take n) (k : Int) = false ∧ ∃ R', St (i + 1) (upd W k (i + 1)) R' ∧ ∀ x, putL n ((full V R).take n) ((k : Int), x) = (full (upd V k x) R').take n := by
  by_cases hw : 0 < W k
  · obtain ⟨p, hp, e, hcp⟩ := h.at_ k hk hw
    have hpn : n ≤ p := by omega
    have hix : idx ((full V R).take n) (k : Int) = n := by
      rw [idx_take, ← e, idx_full V R h.nodup p hp]; omega
    have hl : ((full V R).take n).length = n := by rw [List.length_take, full_len]; omega
    have hh : fHas ((full V R).take n) (k : Int) = false := by simp only [fHas, hix, hl]; simp
    refine ⟨hh, touch R p R[p], by rw [← e]; exact h.hit p hp hi, ?_⟩
    intro x
    have hu : putL n ((full V R).take n) ((k : Int), x) = ((k : Int), x) :: ((full V R).take n).take (((full V R).take n).length - 1) := by
      unfold putL
      rw [if_neg (by rw [show (((k : Int), x) : Int × Int).1 = (k : Int) from rfl, hh]; decide), if_neg (by omega)]
    rw [hu, put_far _ n p hn hpn (by rw [full_len]; omega)]
    have := touch_full V R p hp x h.nodup
    rw [e] at this
    rw [this, e]
  · have hm : k ∉ R := fun e => hw (h.pos k e)
    have hix : idx ((full V R).take n) (k : Int) = ((full V R).take n).length := by
      rw [idx_take, idx_full_not V R k hk hm, List.length_take, full_len]
    have hh : fHas ((full V R).take n) (k : Int) = false := by simp [fHas, hix]
    refine ⟨hh, k :: R, h.new k hk hm hi, ?_⟩
    intro x
    have hu : putL n ((full V R).take n) ((k : Int), x) = (if ((full V R).take n).length < n then ((k : Int), x) :: (full V R).take n else ((k : Int), x) :: ((full V R).take n).take (((full V R).take n).length - 1)) := by
      unfold putL
      rw [if_neg (by rw [show (((k : Int), x) : Int × Int).1 = (k : Int) from rfl, hh]; decide)]
    rw [hu, put_new _ n hn, new_full V R k hm x]

theorem putL_head {K V : Type} [DecidableEq K] (n : Nat) (L : List (K × V)) (e : K × V) : ∃ r, putL n L e = e :: r := by
  unfold putL
  split
  · exact ⟨_, rfl⟩
  · split
    · exact ⟨_, rfl⟩
    · exact ⟨_, rfl⟩

theorem full_start (V : Nat → Int) (n : Nat) (hn : 1 ≤ n) : (full V []).take n = [(100, 7)] := by
  simp only [full, List.map_nil, List.nil_append]
  exact List.take_of_length_le (by simpa using hn)

end Go.Proofs.Ytlfmfhmbkpnjbaa
