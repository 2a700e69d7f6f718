/- How long each task may be held up, as plain numbers: the greatest of those of lesser priorities, by the program's way and by the reference's. No program is named here. -/
import Derived.Test.YtlkbphogpbcjfaaGreatDoorRows
namespace Go.Proofs.YtlkbphogpbcjfaaGreatDoor

/-- The greatest of b and of those l k, k below n, of which c holds. -/
def upK (c : Nat → Bool) (l : Nat → Int) (b : Int) : Nat → Int
  | 0 => b
  | k + 1 => if c k = true then max (upK c l b k) (l k) else upK c l b k
theorem upK_le (c : Nat → Bool) (l : Nat → Int) (b x : Int) : ∀ n, upK c l b n ≤ x ↔ b ≤ x ∧ ∀ k, k < n → c k = true → l k ≤ x
  | 0 => by simp [upK]
  | n + 1 => by
    have ih := upK_le c l b x n
    rw [upK]
    constructor
    · intro h
      split at h
      · have h1 := ih.1 (by omega)
        refine ⟨h1.1, fun k hk hc => ?_⟩
        by_cases e : k = n
        · subst e; omega
        · exact h1.2 k (by omega) hc
      · rename_i hn
        have h1 := ih.1 h
        refine ⟨h1.1, fun k hk hc => ?_⟩
        by_cases e : k = n
        · subst e; exact absurd hc hn
        · exact h1.2 k (by omega) hc
    · rintro ⟨h1, h2⟩
      have h3 := ih.2 ⟨h1, fun k hk hc => h2 k (by omega) hc⟩
      split
      · rename_i hc
        have := h2 n (by omega) hc
        omega
      · exact h3
theorem le_ext {a b : Int} (h : ∀ x, a ≤ x ↔ b ≤ x) : a = b := by
  have h1 := (h b).2 (Int.le_refl _)
  have h2 := (h a).1 (Int.le_refl _)
  omega
theorem upK_ge (c : Nat → Bool) (l : Nat → Int) (b : Int) (n : Nat) : b ≤ upK c l b n := ((upK_le c l b _ n).1 (Int.le_refl _)).1
theorem upK_at {c : Nat → Bool} {l : Nat → Int} {b : Int} {n k : Nat} (h : k < n) (hc : c k = true) : l k ≤ upK c l b n := ((upK_le c l b _ n).1 (Int.le_refl _)).2 k h hc

/-- How long task i may be held up by the first q locks: p are the priorities, c the ceilings, l q the sections of lock q. -/
def blkN (n : Nat) (p c : Nat → Int) (l : Nat → Nat → Int) (i : Nat) : Nat → Int
  | 0 => 0
  | q + 1 => upK (fun k => decide (p k < p i) && decide (p i ≤ c q)) (l q) (blkN n p c l i q) n
theorem blkN_le (n : Nat) (p c : Nat → Int) (l : Nat → Nat → Int) (i : Nat) (x : Int) : ∀ q, blkN n p c l i q ≤ x ↔ 0 ≤ x ∧ ∀ r k, r < q → k < n → p k < p i → p i ≤ c r → l r k ≤ x
  | 0 => by simp [blkN]
  | q + 1 => by
    have ih := blkN_le n p c l i x q
    rw [blkN, upK_le, ih]
    constructor
    · rintro ⟨⟨h0, h1⟩, h2⟩
      refine ⟨h0, fun r k hr hk hp hc => ?_⟩
      by_cases e : r = q
      · subst e
        exact h2 k hk (by simp [hp, hc])
      · exact h1 r k (by omega) hk hp hc
    · rintro ⟨h0, h1⟩
      refine ⟨⟨h0, fun r k hr => h1 r k (by omega)⟩, fun k hk hc => ?_⟩
      simp only [Bool.and_eq_true, decide_eq_true_eq] at hc
      exact h1 q k (by omega) hk hc.1 hc.2
theorem blkN_nn (n : Nat) (p c : Nat → Int) (l : Nat → Nat → Int) (i q : Nat) : 0 ≤ blkN n p c l i q := ((blkN_le n p c l i _ q).1 (Int.le_refl _)).1
/-- The longest of the sections of the tasks whose priorities are j at most. -/
def longN (n : Nat) (p : Nat → Int) (l : Nat → Int) (j : Nat) : Int := upK (fun k => decide (p k ≤ (j : Int))) l 0 n
theorem longN_zero {n : Nat} {p : Nat → Int} {l : Nat → Int} (hp : ∀ k, k < n → 1 ≤ p k) : longN n p l 0 = 0 := by
  refine le_ext (fun x => ?_)
  unfold longN
  rw [upK_le]
  constructor
  · exact fun h => h.1
  · refine fun h => ⟨h, fun k hk hc => ?_⟩
    have := hp k hk
    simp only [decide_eq_true_eq] at hc
    omega
theorem longN_next {n : Nat} {p : Nat → Int} {l : Nat → Int} {i j : Nat} (hi : i < n) (hpi : p i = (j : Int) + 1) (inj : ∀ k, k < n → p k = p i → k = i) : longN n p l (j + 1) = max (longN n p l j) (l i) := by
  refine le_ext (fun x => ?_)
  have e1 : (max (longN n p l j) (l i) ≤ x) ↔ (longN n p l j ≤ x ∧ l i ≤ x) := by omega
  rw [e1]
  unfold longN
  rw [upK_le, upK_le]
  simp only [decide_eq_true_eq]
  constructor
  · rintro ⟨h0, h1⟩
    exact ⟨⟨h0, fun k hk hc => h1 k hk (by omega)⟩, h1 i hi (by omega)⟩
  · rintro ⟨⟨h0, h1⟩, h2⟩
    refine ⟨h0, fun k hk hc => ?_⟩
    by_cases e : p k ≤ (j : Int)
    · exact h1 k hk e
    · have := inj k hk (by omega)
      subst this
      exact h2
theorem blk_next {n : Nat} {p c : Nat → Int} {l : Nat → Nat → Int} {i q j : Nat} (hpi : p i = (j : Int) + 1) (hc : p i ≤ c q) : blkN n p c l i (q + 1) = max (blkN n p c l i q) (longN n p (l q) j) := by
  have hnn := blkN_nn n p c l i q
  refine le_ext (fun x => ?_)
  have e1 : (max (blkN n p c l i q) (longN n p (l q) j) ≤ x) ↔ (blkN n p c l i q ≤ x ∧ longN n p (l q) j ≤ x) := by omega
  rw [e1, blkN, upK_le]
  unfold longN
  rw [upK_le]
  simp only [Bool.and_eq_true, decide_eq_true_eq]
  constructor
  · rintro ⟨h0, h1⟩
    exact ⟨h0, by omega, fun k hk hk2 => h1 k hk ⟨by omega, hc⟩⟩
  · rintro ⟨h0, _, h2⟩
    exact ⟨h0, fun k hk hk2 => h2 k hk (by omega)⟩
theorem blk_past {n : Nat} {p c : Nat → Int} {l : Nat → Nat → Int} {i q : Nat} (hc : c q < p i) : blkN n p c l i (q + 1) = blkN n p c l i q := by
  refine le_ext (fun x => ?_)
  rw [blkN, upK_le]
  constructor
  · exact fun h => h.1
  · refine fun h => ⟨h, fun k hk hk2 => ?_⟩
    simp only [Bool.and_eq_true, decide_eq_true_eq] at hk2
    omega
/-- The row of all tasks, as it is behind lock q's first j places. -/
def blkT (n : Nat) (p c : Nat → Int) (l : Nat → Nat → Int) (q j : Nat) : List Int := (List.range n).map (fun i => if p i ≤ (j : Int) then blkN n p c l i (q + 1) else blkN n p c l i q)
def blkD (n : Nat) (p c : Nat → Int) (l : Nat → Nat → Int) (q : Nat) : List Int := (List.range n).map (fun i => blkN n p c l i q)
theorem blkT_len (n : Nat) (p c : Nat → Int) (l : Nat → Nat → Int) (q j : Nat) : (blkT n p c l q j).length = n := by simp [blkT]
theorem blkD_len (n : Nat) (p c : Nat → Int) (l : Nat → Nat → Int) (q : Nat) : (blkD n p c l q).length = n := by simp [blkD]
theorem blkD_get {n : Nat} {p c : Nat → Int} {l : Nat → Nat → Int} {q i : Nat} (h : i < n) : (blkD n p c l q)[i]? = some (blkN n p c l i q) := by simp [blkD, h]
theorem blkD_zero (n : Nat) (p c : Nat → Int) (l : Nat → Nat → Int) : blkD n p c l 0 = List.replicate n 0 := by
  apply List.ext_getElem
  · simp [blkD]
  · intro i h1 h2
    simp [blkD, blkN]
theorem blkT_zero {n : Nat} {p c : Nat → Int} {l : Nat → Nat → Int} {q : Nat} (hp : ∀ k, k < n → 1 ≤ p k) : blkT n p c l q 0 = blkD n p c l q := by
  unfold blkT blkD
  refine List.map_congr_left (fun i hi => ?_)
  have := hp i (List.mem_range.1 hi)
  rw [if_neg (by omega)]
theorem blkT_end {n : Nat} {p c : Nat → Int} {l : Nat → Nat → Int} {q : Nat} (hp : ∀ k, k < n → p k ≤ (n : Int)) : blkT n p c l q n = blkD n p c l (q + 1) := by
  unfold blkT blkD
  refine List.map_congr_left (fun i hi => ?_)
  have := hp i (List.mem_range.1 hi)
  rw [if_pos (by omega)]
theorem blkT_past {n : Nat} {p c : Nat → Int} {l : Nat → Nat → Int} {q j : Nat} (hc : c q ≤ (j : Int)) : blkT n p c l q j = blkD n p c l (q + 1) := by
  unfold blkT blkD
  refine List.map_congr_left (fun i _ => ?_)
  split
  · rfl
  · rw [blk_past (by omega)]
theorem blkT_get {n : Nat} {p c : Nat → Int} {l : Nat → Nat → Int} {q i j : Nat} (hi : i < n) (hpi : p i = (j : Int) + 1) : (blkT n p c l q j)[i]? = some (blkN n p c l i q) := by
  simp only [blkT, List.getElem?_map, List.getElem?_range hi, Option.map_some]
  rw [if_neg (by omega)]
theorem blkT_set {n : Nat} {p c : Nat → Int} {l : Nat → Nat → Int} {q i j : Nat} (_hi : i < n) (hpi : p i = (j : Int) + 1) (hc : p i ≤ c q) (inj : ∀ k, k < n → p k = p i → k = i) : (blkT n p c l q j).set i (max (blkN n p c l i q) (longN n p (l q) j)) = blkT n p c l q (j + 1) := by
  apply List.ext_getElem
  · simp [blkT]
  · intro k h1 h2
    rw [List.getElem_set]
    simp only [blkT, List.getElem_map, List.getElem_range]
    have hk : k < n := by simpa [blkT] using h2
    by_cases e : i = k
    · subst e
      rw [if_pos rfl, if_pos (by omega), blk_next hpi hc]
    · rw [if_neg e]
      by_cases e2 : p k ≤ (j : Int)
      · rw [if_pos e2, if_pos (by omega)]
      · rw [if_neg e2, if_neg]
        intro e3
        exact e (inj k hk (by omega)).symm
/-- The row as the reference has it: behind lock q's tasks below i, and of task i behind the first k. -/
def blkR (n : Nat) (p c : Nat → Int) (l : Nat → Nat → Int) (q i k : Nat) : List Int := (List.range n).map (fun t => if t < i then blkN n p c l t (q + 1) else if t = i then upK (fun k => decide (p k < p i) && decide (p i ≤ c q)) (l q) (blkN n p c l i q) k else blkN n p c l t q)
theorem blkR_len (n : Nat) (p c : Nat → Int) (l : Nat → Nat → Int) (q i k : Nat) : (blkR n p c l q i k).length = n := by simp [blkR]
theorem blkR_zero (n : Nat) (p c : Nat → Int) (l : Nat → Nat → Int) (q : Nat) : blkR n p c l q 0 0 = blkD n p c l q := by
  unfold blkR blkD
  refine List.map_congr_left (fun i hi => ?_)
  rw [if_neg (by omega)]
  split
  · rename_i e; subst e; rfl
  · rfl
theorem blkR_next (n : Nat) (p c : Nat → Int) (l : Nat → Nat → Int) (q i : Nat) : blkR n p c l q i n = blkR n p c l q (i + 1) 0 := by
  unfold blkR
  refine List.map_congr_left (fun t ht => ?_)
  by_cases e1 : t < i
  · rw [if_pos e1, if_pos (by omega)]
  · rw [if_neg e1]
    by_cases e2 : t = i
    · subst e2
      rw [if_pos rfl, if_pos (by omega)]
      rfl
    · rw [if_neg e2, if_neg (by omega)]
      split
      · rename_i e; subst e; rfl
      · rfl
theorem blkR_end (n : Nat) (p c : Nat → Int) (l : Nat → Nat → Int) (q : Nat) : blkR n p c l q n 0 = blkD n p c l (q + 1) := by
  unfold blkR blkD
  refine List.map_congr_left (fun t ht => ?_)
  rw [if_pos (List.mem_range.1 ht)]
theorem blkR_get {n : Nat} {p c : Nat → Int} {l : Nat → Nat → Int} {q i k : Nat} (hi : i < n) : (blkR n p c l q i k)[i]? = some (upK (fun k => decide (p k < p i) && decide (p i ≤ c q)) (l q) (blkN n p c l i q) k) := by
  simp [blkR, hi]
theorem blkR_set {n : Nat} {p c : Nat → Int} {l : Nat → Nat → Int} {q i k : Nat} (hc : (p k < p i ∧ p i ≤ c q) ∧ upK (fun k => decide (p k < p i) && decide (p i ≤ c q)) (l q) (blkN n p c l i q) k < l q k) : (blkR n p c l q i k).set i (l q k) = blkR n p c l q i (k + 1) := by
  apply List.ext_getElem
  · simp [blkR]
  · intro t h1 h2
    rw [List.getElem_set]
    simp only [blkR, List.getElem_map, List.getElem_range]
    by_cases e : i = t
    · subst e
      rw [if_pos rfl, if_neg (by omega), if_pos rfl, upK, if_pos (by simp [hc.1])]
      omega
    · rw [if_neg e]
      by_cases e2 : t < i
      · rw [if_pos e2, if_pos e2]
      · rw [if_neg e2, if_neg e2, if_neg (fun h => e h.symm), if_neg (fun h => e h.symm)]
theorem blkR_same {n : Nat} {p c : Nat → Int} {l : Nat → Nat → Int} {q i k : Nat} (hc : ¬ ((p k < p i ∧ p i ≤ c q) ∧ upK (fun k => decide (p k < p i) && decide (p i ≤ c q)) (l q) (blkN n p c l i q) k < l q k)) : blkR n p c l q i (k + 1) = blkR n p c l q i k := by
  unfold blkR
  refine List.map_congr_left (fun t ht => ?_)
  by_cases e1 : t < i
  · rw [if_pos e1, if_pos e1]
  · rw [if_neg e1, if_neg e1]
    by_cases e2 : t = i
    · rw [if_pos e2, if_pos e2, upK]
      by_cases e3 : (p k < p i ∧ p i ≤ c q)
      · rw [if_pos (by simp [e3])]
        have : ¬ upK (fun k => decide (p k < p i) && decide (p i ≤ c q)) (l q) (blkN n p c l i q) k < l q k := fun h => hc ⟨e3, h⟩
        omega
      · rw [if_neg (by simpa using e3)]
    · rw [if_neg e2, if_neg e2]
/-- Which task has which place, that of the least priority first. -/
structure RisOk (n : Nat) (p : Nat → Int) (ro : Nat → Nat) : Prop where
  lt : ∀ j, j < n → ro j < n
  pr : ∀ j, j < n → p (ro j) = (j : Int) + 1
  all : ∀ i, i < n → ∃ j, j < n ∧ ro j = i
theorem RisOk.inj {n : Nat} {p : Nat → Int} {ro : Nat → Nat} (h : RisOk n p ro) {x y : Nat} (hx : x < n) (hy : y < n) (e : p x = p y) : x = y := by
  obtain ⟨j, hj, rfl⟩ := h.all x hx
  obtain ⟨k, hk, rfl⟩ := h.all y hy
  rw [h.pr j hj, h.pr k hk] at e
  have : j = k := by omega
  rw [this]
theorem RisOk.bd {n : Nat} {p : Nat → Int} {ro : Nat → Nat} (h : RisOk n p ro) {x : Nat} (hx : x < n) : 1 ≤ p x ∧ p x ≤ (n : Int) := by
  obtain ⟨j, hj, rfl⟩ := h.all x hx
  rw [h.pr j hj]
  omega
/-- The row of places, with the tasks below k alone. -/
def risT (n : Nat) (ro : Nat → Nat) (k : Nat) : List Int := (List.range n).map (fun j => if ro j < k then ((ro j : Nat) : Int) else 0)
def risD (n : Nat) (ro : Nat → Nat) : List Int := (List.range n).map (fun j => ((ro j : Nat) : Int))
theorem risT_len (n : Nat) (ro : Nat → Nat) (k : Nat) : (risT n ro k).length = n := by simp [risT]
theorem risD_len (n : Nat) (ro : Nat → Nat) : (risD n ro).length = n := by simp [risD]
theorem risD_get {n : Nat} {ro : Nat → Nat} {j : Nat} (h : j < n) : (risD n ro)[j]? = some ((ro j : Nat) : Int) := by simp [risD, h]
theorem risT_zero (n : Nat) (ro : Nat → Nat) : risT n ro 0 = List.replicate n 0 := by
  apply List.ext_getElem
  · simp [risT]
  · intro i h1 h2
    simp [risT]
theorem risT_end {n : Nat} {p : Nat → Int} {ro : Nat → Nat} (h : RisOk n p ro) : risT n ro n = risD n ro := by
  unfold risT risD
  refine List.map_congr_left (fun j hj => ?_)
  rw [if_pos (h.lt j (List.mem_range.1 hj))]
theorem risT_set {n : Nat} {p : Nat → Int} {ro : Nat → Nat} (h : RisOk n p ro) {j : Nat} (hj : j < n) : (risT n ro (ro j)).set j ((ro j : Nat) : Int) = risT n ro (ro j + 1) := by
  apply List.ext_getElem
  · simp [risT]
  · intro k h1 h2
    have hk : k < n := by simpa [risT] using h2
    rw [List.getElem_set]
    simp only [risT, List.getElem_map, List.getElem_range]
    by_cases e : j = k
    · subst e
      rw [if_pos rfl, if_pos (by omega)]
    · rw [if_neg e]
      by_cases e2 : ro k < ro j
      · rw [if_pos e2, if_pos (by omega)]
      · rw [if_neg e2, if_neg]
        intro e3
        have e4 : ro k = ro j := by omega
        have h3 := h.pr k hk
        rw [e4, h.pr j hj] at h3
        omega
end Go.Proofs.YtlkbphogpbcjfaaGreatDoor
