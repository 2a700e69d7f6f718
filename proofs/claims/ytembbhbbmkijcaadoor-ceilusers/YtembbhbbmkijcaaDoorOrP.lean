/- Tasks in a row by their deadlines: plain mathematics. -/
import Derived.Test.YtembbhbbmkijcaaDoorSrt
import Derived.Test.YtembbhbbmkijcaaDoorSetD
import Derived.Test.YtembbhbbmkijcaaDoorTwo
namespace Go.Proofs.YtembbhbbmkijcaaDoor
open Go.RowKit Go.Sort

/-- j goes ahead of i. -/
def befB (D : Nat → Int) (j i : Nat) : Bool := decide (D j < D i) || (decide (D j = D i) && decide (j < i))
def bef (D : Nat → Int) (j i : Nat) : Prop := D j < D i ∨ (D j = D i ∧ j < i)
theorem befB_iff (D : Nat → Int) (j i : Nat) : befB D j i = true ↔ bef D j i := by simp [befB, bef]
/-- All tasks, each once, the first ones first. -/
structure RowOk (n : Nat) (D : Nat → Int) (R : List Nat) : Prop where
  len : R.length = n
  perm : R.Perm (List.range n)
  ord : R.Pairwise (bef D)
theorem RowOk.lt {n : Nat} {D : Nat → Int} {R : List Nat} (h : RowOk n D R) {x : Nat} (hx : x ∈ R) : x < n := List.mem_range.1 (h.perm.mem_iff.1 hx)
theorem RowOk.all {n : Nat} {D : Nat → Int} {R : List Nat} (h : RowOk n D R) {x : Nat} (hx : x < n) : x ∈ R := h.perm.mem_iff.2 (List.mem_range.2 hx)
theorem RowOk.before {n : Nat} {D : Nat → Int} {R : List Nat} (h : RowOk n D R) {i j : Nat} (hij : i < j) {x y : Nat} (hx : R[i]? = some x) (hy : R[j]? = some y) : bef D x y := by
  obtain ⟨h1, e1⟩ := List.getElem?_eq_some_iff.1 hx
  obtain ⟨h2, e2⟩ := List.getElem?_eq_some_iff.1 hy
  rw [← e1, ← e2]
  exact List.pairwise_iff_getElem.1 h.ord i j h1 h2 hij
/-- How many go ahead of i. -/
def rank (n : Nat) (D : Nat → Int) (i : Nat) : Nat := (List.range n).countP (fun j => befB D j i)
theorem RowOk.rank {n : Nat} {D : Nat → Int} {R : List Nat} (h : RowOk n D R) {k x : Nat} (hx : R[k]? = some x) : rank n D x = k := by
  unfold YtembbhbbmkijcaaDoor.rank
  rw [← h.perm.countP_eq]
  obtain ⟨hk, e⟩ := List.getElem?_eq_some_iff.1 hx
  have hR : R = R.take k ++ x :: R.drop (k + 1) := by rw [← e, ← List.drop_eq_getElem_cons hk, List.take_append_drop]
  have c1 : (R.take k).countP (fun j => befB D j x) = k := by
    have hl : (R.take k).length = k := by rw [List.length_take]; omega
    have := List.countP_eq_length (p := fun j => befB D j x) (l := R.take k)
    rw [hl] at this
    refine this.2 (fun y hy => ?_)
    obtain ⟨i, hi, ey⟩ := List.getElem_of_mem hy
    have hi2 : i < k := by rw [hl] at hi; exact hi
    rw [befB_iff]
    refine h.before (i := i) (j := k) hi2 ?_ hx
    rw [← ey, List.getElem_take, List.getElem?_eq_getElem]
  have c2 : (R.drop (k + 1)).countP (fun j => befB D j x) = 0 := by
    rw [List.countP_eq_zero]
    intro y hy hb
    rw [befB_iff] at hb
    obtain ⟨i, hi, ey⟩ := List.getElem_of_mem hy
    have := h.before (i := k) (j := k + 1 + i) (by omega) (x := x) (y := y) hx (by rw [← ey, List.getElem_drop, List.getElem?_eq_getElem])
    unfold bef at *
    omega
  have c3 : befB D x x = false := by simp [befB]
  rw [hR, List.countP_append, List.countP_cons, c1, c2]
  simp [c3]
theorem RowOk.at {n : Nat} {D : Nat → Int} {R : List Nat} (h : RowOk n D R) {x : Nat} (hx : x < n) : R[YtembbhbbmkijcaaDoor.rank n D x]? = some x := by
  obtain ⟨k, hk, e⟩ := List.getElem_of_mem (h.all hx)
  have e2 : R[k]? = some x := by rw [List.getElem?_eq_getElem hk, e]
  rw [h.rank e2]
  exact e2
/-- The priorities; those that are given before the k-th of the row. -/
def prT (n : Nat) (D : Nat → Int) (k : Nat) : List Int := (List.range n).map (fun i => if rank n D i < k then (n : Int) - (rank n D i : Int) else 0)
def prD (n : Nat) (D : Nat → Int) : List Int := (List.range n).map (fun i => (n : Int) - (rank n D i : Int))
theorem prT_len (n : Nat) (D : Nat → Int) (k : Nat) : (prT n D k).length = n := by simp [prT]
theorem prD_len (n : Nat) (D : Nat → Int) : (prD n D).length = n := by simp [prD]
theorem prT_zero (n : Nat) (D : Nat → Int) : prT n D 0 = List.replicate n 0 := by
  apply List.ext_getElem
  · simp [prT]
  · intro i h1 h2
    simp [prT]
theorem prT_set {n : Nat} {D : Nat → Int} {R : List Nat} (h : RowOk n D R) {k x : Nat} (hx : R[k]? = some x) : (prT n D k).set x ((n : Int) - (k : Int)) = prT n D (k + 1) := by
  have hxn : x < n := h.lt (List.mem_of_getElem? hx)
  apply List.ext_getElem
  · simp [prT]
  · intro i h1 h2
    have hi : i < n := by simpa [prT] using h2
    rw [List.getElem_set]
    by_cases e : x = i
    · subst e
      rw [if_pos rfl]
      simp only [prT, List.getElem_map, List.getElem_range, h.rank hx]
      rw [if_pos (by omega)]
    · rw [if_neg e]
      simp only [prT, List.getElem_map, List.getElem_range]
      have hne : YtembbhbbmkijcaaDoor.rank n D i ≠ k := fun hr => by
        have := h.at hi
        rw [hr, hx] at this
        exact e (Option.some.inj this)
      by_cases hlt : YtembbhbbmkijcaaDoor.rank n D i < k
      · rw [if_pos hlt, if_pos (by omega)]
      · rw [if_neg hlt, if_neg (by omega)]
theorem prT_end {n : Nat} {D : Nat → Int} {R : List Nat} (h : RowOk n D R) : prT n D n = prD n D := by
  unfold prT prD
  refine List.map_congr_left (fun i hi => ?_)
  have := (List.getElem?_eq_some_iff.1 (h.at (List.mem_range.1 hi))).1
  rw [h.len] at this
  rw [if_pos this]
/-- The ones ahead of i, and behind it, rising. -/
def hiD (n : Nat) (D : Nat → Int) (i : Nat) : List Int := ((List.range n).filter (fun j => befB D j i)).map (fun j : Nat => (j : Int))
def loD (n : Nat) (D : Nat → Int) (i : Nat) : List Int := ((List.range n).filter (fun j => befB D i j)).map (fun j : Nat => (j : Int))
theorem sorted_lt (l : List Int) (hn : l.Nodup) : (l.mergeSort fun x y => decide (x ≤ y)).Pairwise (· < ·) := by
  have h1 := sorted_le l
  have h2 : (l.mergeSort fun x y => decide (x ≤ y)).Nodup := (List.mergeSort_perm l _).nodup_iff.2 hn
  rw [List.pairwise_iff_getElem] at h1 ⊢
  intro i j hi hj hij
  have a := h1 i j hi hj hij
  have b := (List.pairwise_iff_getElem.1 h2) i j hi hj hij
  omega
theorem ints_nodup {l : List Nat} (h : l.Nodup) : (l.map (fun j : Nat => (j : Int))).Nodup := by
  unfold List.Nodup at *
  rw [List.pairwise_map]
  exact h.imp (fun hne e => hne (by omega))
theorem range_lt (n : Nat) (f : Nat → Bool) : (((List.range n).filter f).map (fun j : Nat => (j : Int))).Pairwise (· < ·) := by
  rw [List.pairwise_map]
  exact (List.Pairwise.filter _ List.pairwise_lt_range).imp (fun h => by omega)
theorem RowOk.nodup {n : Nat} {D : Nat → Int} {R : List Nat} (h : RowOk n D R) : R.Nodup := h.perm.nodup_iff.2 List.nodup_range
/-- What is ahead of a place in the row, sorted. -/
theorem RowOk.high {n : Nat} {D : Nat → Int} {R : List Nat} (h : RowOk n D R) {k x : Nat} (hx : R[k]? = some x) : ((R.take k).map (fun j : Nat => (j : Int))).mergeSort (fun x y => decide (x ≤ y)) = hiD n D x := by
  refine strict_ext _ _ (sorted_lt _ (ints_nodup (h.nodup.sublist (List.take_sublist _ _)))) (range_lt n _) (fun z => ?_)
  rw [(List.mergeSort_perm _ _).mem_iff]
  unfold hiD
  simp only [List.mem_map, List.mem_filter, List.mem_range, befB_iff]
  constructor
  · rintro ⟨j, hj, rfl⟩
    refine ⟨j, ⟨h.lt (List.mem_of_mem_take hj), ?_⟩, rfl⟩
    obtain ⟨i, hi, e⟩ := List.getElem_of_mem hj
    rw [List.length_take] at hi
    exact h.before (i := i) (j := k) (by omega) (by rw [← e, List.getElem_take, List.getElem?_eq_getElem]) hx
  · rintro ⟨j, ⟨hj, hb⟩, rfl⟩
    refine ⟨j, ?_, rfl⟩
    have ha := h.at hj
    have hlt : YtembbhbbmkijcaaDoor.rank n D j < k := by
      rcases Nat.lt_trichotomy (YtembbhbbmkijcaaDoor.rank n D j) k with hh | hh | hh
      · exact hh
      · rw [hh, hx] at ha
        obtain rfl := Option.some.inj ha
        unfold bef at hb
        omega
      · have := h.before hh hx ha
        unfold bef at *
        omega
    obtain ⟨h1, e1⟩ := List.getElem?_eq_some_iff.1 ha
    rw [List.mem_take_iff_getElem]
    exact ⟨_, by omega, e1⟩
theorem RowOk.low {n : Nat} {D : Nat → Int} {R : List Nat} (h : RowOk n D R) {k x : Nat} (hx : R[k]? = some x) : ((R.drop (k + 1)).map (fun j : Nat => (j : Int))).mergeSort (fun x y => decide (x ≤ y)) = loD n D x := by
  refine strict_ext _ _ (sorted_lt _ (ints_nodup (h.nodup.sublist (List.drop_sublist _ _)))) (range_lt n _) (fun z => ?_)
  rw [(List.mergeSort_perm _ _).mem_iff]
  unfold loD
  simp only [List.mem_map, List.mem_filter, List.mem_range, befB_iff]
  constructor
  · rintro ⟨j, hj, rfl⟩
    refine ⟨j, ⟨h.lt (List.mem_of_mem_drop hj), ?_⟩, rfl⟩
    obtain ⟨i, hi, e⟩ := List.getElem_of_mem hj
    exact h.before (i := k) (j := k + 1 + i) (by omega) hx (by rw [← e, List.getElem_drop, List.getElem?_eq_getElem])
  · rintro ⟨j, ⟨hj, hb⟩, rfl⟩
    refine ⟨j, ?_, rfl⟩
    have ha := h.at hj
    have hlt : k < YtembbhbbmkijcaaDoor.rank n D j := by
      rcases Nat.lt_trichotomy (YtembbhbbmkijcaaDoor.rank n D j) k with hh | hh | hh
      · have := h.before hh ha hx
        unfold bef at *
        omega
      · rw [hh, hx] at ha
        obtain rfl := Option.some.inj ha
        unfold bef at hb
        omega
      · exact hh
    obtain ⟨h1, e1⟩ := List.getElem?_eq_some_iff.1 ha
    rw [List.mem_drop_iff_getElem]
    exact ⟨YtembbhbbmkijcaaDoor.rank n D j - (k + 1), by omega, by simp only [show k + 1 + (YtembbhbbmkijcaaDoor.rank n D j - (k + 1)) = YtembbhbbmkijcaaDoor.rank n D j by omega]; exact e1⟩
def cfD (n : Nat) (D : Nat → Int) (x y : Fin n) : Int := if D x.1 < D y.1 then -1 else if D y.1 < D x.1 then 1 else 0
theorem ltOf_cf (n : Nat) (D : Nat → Int) (x y : Fin n) : ltOf (cfD n D) x y = decide (D x.1 < D y.1) := by
  unfold ltOf cfD
  by_cases h1 : D x.1 < D y.1
  · simp [h1]
  · by_cases h2 : D y.1 < D x.1
    · simp [h1, h2]
    · simp [h1, h2]
def ltL (n : Nat) (D : Nat → Int) (x y : Fin n) : Bool := befB D x.1 y.1
theorem swp_lo {α : Type} [Inhabited α] (d : Array α) (j : Nat) (h : j + 1 < d.size) : (swp d (j + 1) j)[j]! = d[j + 1]! := by
  unfold swp
  exact getElem!_set_same _ _ _ (by simp; omega)
theorem swp_hi {α : Type} [Inhabited α] (d : Array α) (j : Nat) (h : j + 1 < d.size) : (swp d (j + 1) j)[j + 1]! = d[j]! := by
  unfold swp
  rw [getElem!_set_other _ _ _ _ (by omega), getElem!_set_same _ _ _ h]
theorem swp_oth {α : Type} [Inhabited α] (d : Array α) (j k : Nat) (h1 : k ≠ j) (h2 : k ≠ j + 1) : (swp d (j + 1) j)[k]! = d[k]! := by
  unfold swp
  rw [getElem!_set_other _ _ _ _ h1, getElem!_set_other _ _ _ _ h2]
/-- What one insertion leaves. -/
theorem inner_keep {α : Type} [Inhabited α] (lt : α → α → Bool) : ∀ (j : Nat) (d : Array α), j < d.size → (insInner lt 0 j d).size = d.size ∧ (∀ k, j < k → (insInner lt 0 j d)[k]! = d[k]!) ∧ (∀ Q : α → Prop, (∀ k, k ≤ j → Q d[k]!) → ∀ k, k ≤ j → Q (insInner lt 0 j d)[k]!)
  | 0, d, _ => by
    rw [insInner]
    exact ⟨rfl, fun _ _ => rfl, fun Q h => h⟩
  | j + 1, d, hj => by
    rw [insInner]
    split
    · have hs : (swp d (j + 1) j).size = d.size := size_swp _ _ _
      obtain ⟨i1, i2, i3⟩ := inner_keep lt j (swp d (j + 1) j) (by omega)
      refine ⟨by rw [i1, hs], fun k hk => ?_, fun Q hQ k hk => ?_⟩
      · rw [i2 k (by omega), swp_oth d j k (by omega) (by omega)]
      · by_cases hkj : k ≤ j
        · refine i3 Q (fun q hq => ?_) k hkj
          by_cases e : q = j
          · subst e
            rw [swp_lo d q hj]
            exact hQ _ (by omega)
          · rw [swp_oth d j q e (by omega)]
            exact hQ q (by omega)
        · obtain rfl : k = j + 1 := by omega
          rw [i2 (j + 1) (by omega), swp_hi d j hj]
          exact hQ j (by omega)
    · exact ⟨rfl, fun _ _ => rfl, fun Q h => h⟩
theorem inner_eq (n : Nat) (D : Nat → Int) [Inhabited (Fin n)] (i : Nat) : ∀ (j : Nat) (d : Array (Fin n)), j < d.size → (d[j]!).1 = i → (∀ k, k < j → (d[k]!).1 < i) → insInner (ltOf (cfD n D)) 0 j d = insInner (ltL n D) 0 j d
  | 0, d, _, _, _ => by rw [insInner, insInner]
  | j + 1, d, hj, h1, h2 => by
    rw [insInner, insInner]
    have e : ltOf (cfD n D) d[j + 1]! d[j]! = ltL n D d[j + 1]! d[j]! := by
      rw [ltOf_cf]
      unfold ltL befB
      have hlt := h2 j (by omega)
      have : decide ((d[j + 1]!).1 < (d[j]!).1) = false := decide_eq_false (by omega)
      rw [this, Bool.and_false, Bool.or_false]
    rw [e]
    split
    · exact inner_eq n D i j (swp d (j + 1) j) (by rw [size_swp]; omega) (by rw [swp_lo d j hj]; exact h1) (fun k hk => by rw [swp_oth d j k (by omega) (by omega)]; exact h2 k (by omega))
    · rfl
theorem outer_eq (n : Nat) (D : Nat → Int) [Inhabited (Fin n)] : ∀ (m i : Nat) (d : Array (Fin n)), n - i = m → d.size = n → (∀ k, k < i → k < n → (d[k]!).1 < i) → (∀ k, i ≤ k → k < n → (d[k]!).1 = k) → insOuter (ltOf (cfD n D)) 0 n i d = insOuter (ltL n D) 0 n i d
  | 0, i, d, hm, _, _, _ => by
    rw [insOuter_stop (ltOf (cfD n D)) 0 n i d (by omega), insOuter_stop (ltL n D) 0 n i d (by omega)]
  | m + 1, i, d, hm, hs, h1, h2 => by
    have hi : i < n := by omega
    rw [insOuter_go (ltOf (cfD n D)) 0 n i d hi, insOuter_go (ltL n D) 0 n i d hi, inner_eq n D i i d (by omega) (h2 i (Nat.le_refl _) hi) (fun k hk => h1 k hk (by omega))]
    obtain ⟨k1, k2, k3⟩ := inner_keep (ltL n D) i d (by omega)
    refine outer_eq n D m (i + 1) _ (by omega) (by rw [k1, hs]) (fun k hk hkn => ?_) (fun k hk hkn => ?_)
    · refine k3 (fun x => x.1 < i + 1) (fun q hq => ?_) k (by omega)
      by_cases e : q = i
      · subst e
        rw [h2 q (Nat.le_refl _) hi]
        omega
      · have := h1 q (by omega) (by omega)
        omega
    · rw [k2 k (by omega)]
      exact h2 k (by omega) hkn
theorem swo_ltL (n : Nat) (D : Nat → Int) : SWO (ltL n D) := by
  refine ⟨fun x => ?_, fun x y z h1 h2 => ?_, fun x y z h1 h2 => ?_⟩
  · simp [ltL, befB]
  · unfold ltL at *
    rw [befB_iff] at *
    unfold bef at *
    omega
  · unfold ltL at *
    rw [Bool.eq_false_iff, ne_eq, befB_iff] at *
    unfold bef at *
    omega
def idArr (n : Nat) : Array (Fin n) := Array.ofFn (fun i : Fin n => i)
theorem idArr_size (n : Nat) : (idArr n).size = n := by simp [idArr]
theorem idArr_get (n : Nat) [Inhabited (Fin n)] (k : Nat) (h : k < n) : (idArr n)[k]! = ⟨k, h⟩ := by
  rw [getElem!_pos _ k (by rw [idArr_size]; exact h)]
  simp [idArr]
theorem idArr_map (n : Nat) : (idArr n).toList.map (·.1) = List.range n := by
  apply List.ext_getElem
  · simp [idArr]
  · intro i h1 h2
    simp [idArr]
/-- The sort, as it is, puts the tasks in their row. -/
theorem sort_ok (n : Nat) (D : Nat → Int) [Inhabited (Fin n)] : ∃ R : List Nat, RowOk n D R ∧ (Sort.insertionSort (ltOf (cfD n D)) (idArr n) 0 n).toList.map (·.1) = R ∧ (Sort.insertionSort (ltOf (cfD n D)) (idArr n) 0 n).size = n := by
  have e : Sort.insertionSort (ltOf (cfD n D)) (idArr n) 0 n = Sort.insertionSort (ltL n D) (idArr n) 0 n := by
    unfold Sort.insertionSort
    refine outer_eq n D (n - (0 + 1)) (0 + 1) _ rfl (idArr_size n) (fun k hk hkn => ?_) (fun k _ hkn => ?_)
    · rw [idArr_get n k hkn]
      simp only
      omega
    · rw [idArr_get n k hkn]
  rw [e]
  obtain ⟨⟨p1, _, p3⟩, q⟩ := insertionSort_holds (lt := ltL n D) (swo_ltL n D) (idArr n) 0 n (Nat.zero_le _) (by rw [idArr_size]; exact Nat.le_refl _)
  generalize Sort.insertionSort (ltL n D) (idArr n) 0 n = d' at *
  have hs : d'.size = n := by rw [p1, idArr_size]
  have x1 : (d'.extract 0 n).toList = d'.toList := by
    have := Array.extract_size (xs := d')
    rw [hs] at this
    rw [this]
  have x2 : ((idArr n).extract 0 n).toList = (idArr n).toList := by
    have := Array.extract_size (xs := idArr n)
    rw [idArr_size] at this
    rw [this]
  rw [x1, x2] at p3
  have p4 := p3.map (·.1)
  rw [idArr_map] at p4
  refine ⟨_, ⟨by simp [hs], p4, ?_⟩, rfl, hs⟩
  · have hnd : (d'.toList.map (·.1)).Nodup := p4.nodup_iff.2 List.nodup_range
    rw [List.pairwise_iff_getElem]
    intro i j hi hj hij
    have hi2 : i < n := by simp at hi; omega
    have hj2 : j < n := by simp at hj; omega
    have h := q i j (Nat.zero_le _) hij hj2
    have hne := (List.pairwise_iff_getElem.1 hnd) i j hi hj hij
    rw [getElem!_pos _ i (by omega), getElem!_pos _ j (by omega)] at h
    unfold ltL at h
    rw [Bool.eq_false_iff, ne_eq, befB_iff] at h
    simp only [List.getElem_map, Array.getElem_toList] at hne ⊢
    unfold bef at *
    omega
end Go.Proofs.YtembbhbbmkijcaaDoor
