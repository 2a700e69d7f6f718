/- Tasks in a row by their deadlines: plain mathematics. Comparing deadlines, the stable sort. The row of the tasks; a place in it; what rises. Prios, Higher, Lower. Higher, Lower. Ints, the law's own set of two tasks, known. A row of tasks of the call's own; one more behind it. -/
import Derived.Test.YtlkbphogpbcjfaaGreatDoorMem
import Derived.Test.YtlkbphogpbcjfaaGreatDoorHld
namespace Go.Proofs.YtlkbphogpbcjfaaGreatDoor
open Go.RowKit Go.Sort

/-- j goes ahead of i. -/
def befB (D : Nat → Int) (j i : Nat) : Bool := decide (D j < D i) || (decide (D j = D i) && decide (j < i))
def bef (D : Nat → Int) (j i : Nat) : Prop := D j < D i ∨ (D j = D i ∧ j < i)
theorem befB_iff (D : Nat → Int) (j i : Nat) : befB D j i = true ↔ bef D j i := by simp [befB, bef]
/-- All tasks, each once, the first ones first. -/
structure RowOk (n : Nat) (D : Nat → Int) (R : List Nat) : Prop where
  len : R.length = n
  perm : R.Perm (List.range n)
  ord : R.Pairwise (bef D)
theorem RowOk.lt {n : Nat} {D : Nat → Int} {R : List Nat} (h : RowOk n D R) {x : Nat} (hx : x ∈ R) : x < n := List.mem_range.1 (h.perm.mem_iff.1 hx)
theorem RowOk.all {n : Nat} {D : Nat → Int} {R : List Nat} (h : RowOk n D R) {x : Nat} (hx : x < n) : x ∈ R := h.perm.mem_iff.2 (List.mem_range.2 hx)
theorem RowOk.before {n : Nat} {D : Nat → Int} {R : List Nat} (h : RowOk n D R) {i j : Nat} (hij : i < j) {x y : Nat} (hx : R[i]? = some x) (hy : R[j]? = some y) : bef D x y := by
  obtain ⟨h1, e1⟩ := List.getElem?_eq_some_iff.1 hx
  obtain ⟨h2, e2⟩ := List.getElem?_eq_some_iff.1 hy
  rw [← e1, ← e2]
  exact List.pairwise_iff_getElem.1 h.ord i j h1 h2 hij
/-- How many go ahead of i. -/
def rank (n : Nat) (D : Nat → Int) (i : Nat) : Nat := (List.range n).countP (fun j => befB D j i)
theorem RowOk.rank {n : Nat} {D : Nat → Int} {R : List Nat} (h : RowOk n D R) {k x : Nat} (hx : R[k]? = some x) : rank n D x = k := by
  unfold YtlkbphogpbcjfaaGreatDoor.rank
  rw [← h.perm.countP_eq]
  obtain ⟨hk, e⟩ := List.getElem?_eq_some_iff.1 hx
  have hR : R = R.take k ++ x :: R.drop (k + 1) := by rw [← e, ← List.drop_eq_getElem_cons hk, List.take_append_drop]
  have c1 : (R.take k).countP (fun j => befB D j x) = k := by
    have hl : (R.take k).length = k := by rw [List.length_take]; omega
    have := List.countP_eq_length (p := fun j => befB D j x) (l := R.take k)
    rw [hl] at this
    refine this.2 (fun y hy => ?_)
    obtain ⟨i, hi, ey⟩ := List.getElem_of_mem hy
    have hi2 : i < k := by rw [hl] at hi; exact hi
    rw [befB_iff]
    refine h.before (i := i) (j := k) hi2 ?_ hx
    rw [← ey, List.getElem_take, List.getElem?_eq_getElem]
  have c2 : (R.drop (k + 1)).countP (fun j => befB D j x) = 0 := by
    rw [List.countP_eq_zero]
    intro y hy hb
    rw [befB_iff] at hb
    obtain ⟨i, hi, ey⟩ := List.getElem_of_mem hy
    have := h.before (i := k) (j := k + 1 + i) (by omega) (x := x) (y := y) hx (by rw [← ey, List.getElem_drop, List.getElem?_eq_getElem])
    unfold bef at *
    omega
  have c3 : befB D x x = false := by simp [befB]
  rw [hR, List.countP_append, List.countP_cons, c1, c2]
  simp [c3]
theorem RowOk.at {n : Nat} {D : Nat → Int} {R : List Nat} (h : RowOk n D R) {x : Nat} (hx : x < n) : R[YtlkbphogpbcjfaaGreatDoor.rank n D x]? = some x := by
  obtain ⟨k, hk, e⟩ := List.getElem_of_mem (h.all hx)
  have e2 : R[k]? = some x := by rw [List.getElem?_eq_getElem hk, e]
  rw [h.rank e2]
  exact e2
/-- The priorities; those that are given before the k-th of the row. -/
def prT (n : Nat) (D : Nat → Int) (k : Nat) : List Int := (List.range n).map (fun i => if rank n D i < k then (n : Int) - (rank n D i : Int) else 0)
def prD (n : Nat) (D : Nat → Int) : List Int := (List.range n).map (fun i => (n : Int) - (rank n D i : Int))
theorem prT_len (n : Nat) (D : Nat → Int) (k : Nat) : (prT n D k).length = n := by simp [prT]
theorem prD_len (n : Nat) (D : Nat → Int) : (prD n D).length = n := by simp [prD]
theorem prT_zero (n : Nat) (D : Nat → Int) : prT n D 0 = List.replicate n 0 := by
  apply List.ext_getElem
  · simp [prT]
  · intro i h1 h2
    simp [prT]
theorem prT_set {n : Nat} {D : Nat → Int} {R : List Nat} (h : RowOk n D R) {k x : Nat} (hx : R[k]? = some x) : (prT n D k).set x ((n : Int) - (k : Int)) = prT n D (k + 1) := by
  have hxn : x < n := h.lt (List.mem_of_getElem? hx)
  apply List.ext_getElem
  · simp [prT]
  · intro i h1 h2
    have hi : i < n := by simpa [prT] using h2
    rw [List.getElem_set]
    by_cases e : x = i
    · subst e
      rw [if_pos rfl]
      simp only [prT, List.getElem_map, List.getElem_range, h.rank hx]
      rw [if_pos (by omega)]
    · rw [if_neg e]
      simp only [prT, List.getElem_map, List.getElem_range]
      have hne : YtlkbphogpbcjfaaGreatDoor.rank n D i ≠ k := fun hr => by
        have := h.at hi
        rw [hr, hx] at this
        exact e (Option.some.inj this)
      by_cases hlt : YtlkbphogpbcjfaaGreatDoor.rank n D i < k
      · rw [if_pos hlt, if_pos (by omega)]
      · rw [if_neg hlt, if_neg (by omega)]
theorem prT_end {n : Nat} {D : Nat → Int} {R : List Nat} (h : RowOk n D R) : prT n D n = prD n D := by
  unfold prT prD
  refine List.map_congr_left (fun i hi => ?_)
  have := (List.getElem?_eq_some_iff.1 (h.at (List.mem_range.1 hi))).1
  rw [h.len] at this
  rw [if_pos this]
/-- The ones ahead of i, and behind it, rising. -/
def hiD (n : Nat) (D : Nat → Int) (i : Nat) : List Int := ((List.range n).filter (fun j => befB D j i)).map (fun j : Nat => (j : Int))
def loD (n : Nat) (D : Nat → Int) (i : Nat) : List Int := ((List.range n).filter (fun j => befB D i j)).map (fun j : Nat => (j : Int))
theorem strict_ext : ∀ (l m : List Int), l.Pairwise (· < ·) → m.Pairwise (· < ·) → (∀ x, x ∈ l ↔ x ∈ m) → l = m
  | [], [], _, _, _ => rfl
  | [], y :: m, _, _, h => by have := (h y).2 (by simp); cases this
  | x :: l, [], _, _, h => by have := (h x).1 (by simp); cases this
  | x :: l, y :: m, hl, hm, h => by
    rw [List.pairwise_cons] at hl hm
    have e : x = y := by
      have h1 := (h x).1 (by simp)
      have h2 := (h y).2 (by simp)
      rcases List.mem_cons.1 h1 with h1 | h1
      · exact h1
      · rcases List.mem_cons.1 h2 with h2 | h2
        · exact h2.symm
        · have := hm.1 x h1
          have := hl.1 y h2
          omega
    subst e
    rw [strict_ext l m hl.2 hm.2 (fun z => ?_)]
    constructor
    · intro hz
      rcases List.mem_cons.1 ((h z).1 (by simp [hz])) with e | e
      · have := hl.1 z hz; omega
      · exact e
    · intro hz
      rcases List.mem_cons.1 ((h z).2 (by simp [hz])) with e | e
      · have := hm.1 z hz; omega
      · exact e
theorem sorted_le (l : List Int) : (l.mergeSort fun x y => decide (x ≤ y)).Pairwise (· ≤ ·) := by
  have h := List.pairwise_mergeSort (le := fun x y : Int => decide (x ≤ y)) (fun a b c h1 h2 => by simp at *; omega) (fun a b => by simp; omega) l
  exact h.imp (fun h => by simpa using h)
theorem sorted_lt (l : List Int) (hn : l.Nodup) : (l.mergeSort fun x y => decide (x ≤ y)).Pairwise (· < ·) := by
  have h1 := sorted_le l
  have h2 : (l.mergeSort fun x y => decide (x ≤ y)).Nodup := (List.mergeSort_perm l _).nodup_iff.2 hn
  rw [List.pairwise_iff_getElem] at h1 ⊢
  intro i j hi hj hij
  have a := h1 i j hi hj hij
  have b := (List.pairwise_iff_getElem.1 h2) i j hi hj hij
  omega
theorem ints_nodup {l : List Nat} (h : l.Nodup) : (l.map (fun j : Nat => (j : Int))).Nodup := by
  unfold List.Nodup at *
  rw [List.pairwise_map]
  exact h.imp (fun hne e => hne (by omega))
theorem range_lt (n : Nat) (f : Nat → Bool) : (((List.range n).filter f).map (fun j : Nat => (j : Int))).Pairwise (· < ·) := by
  rw [List.pairwise_map]
  exact (List.Pairwise.filter _ List.pairwise_lt_range).imp (fun h => by omega)
theorem RowOk.nodup {n : Nat} {D : Nat → Int} {R : List Nat} (h : RowOk n D R) : R.Nodup := h.perm.nodup_iff.2 List.nodup_range
/-- What is ahead of a place in the row, sorted. -/
theorem RowOk.high {n : Nat} {D : Nat → Int} {R : List Nat} (h : RowOk n D R) {k x : Nat} (hx : R[k]? = some x) : ((R.take k).map (fun j : Nat => (j : Int))).mergeSort (fun x y => decide (x ≤ y)) = hiD n D x := by
  refine strict_ext _ _ (sorted_lt _ (ints_nodup (h.nodup.sublist (List.take_sublist _ _)))) (range_lt n _) (fun z => ?_)
  rw [(List.mergeSort_perm _ _).mem_iff]
  unfold hiD
  simp only [List.mem_map, List.mem_filter, List.mem_range, befB_iff]
  constructor
  · rintro ⟨j, hj, rfl⟩
    refine ⟨j, ⟨h.lt (List.mem_of_mem_take hj), ?_⟩, rfl⟩
    obtain ⟨i, hi, e⟩ := List.getElem_of_mem hj
    rw [List.length_take] at hi
    exact h.before (i := i) (j := k) (by omega) (by rw [← e, List.getElem_take, List.getElem?_eq_getElem]) hx
  · rintro ⟨j, ⟨hj, hb⟩, rfl⟩
    refine ⟨j, ?_, rfl⟩
    have ha := h.at hj
    have hlt : YtlkbphogpbcjfaaGreatDoor.rank n D j < k := by
      rcases Nat.lt_trichotomy (YtlkbphogpbcjfaaGreatDoor.rank n D j) k with hh | hh | hh
      · exact hh
      · rw [hh, hx] at ha
        obtain rfl := Option.some.inj ha
        unfold bef at hb
        omega
      · have := h.before hh hx ha
        unfold bef at *
        omega
    obtain ⟨h1, e1⟩ := List.getElem?_eq_some_iff.1 ha
    rw [List.mem_take_iff_getElem]
    exact ⟨_, by omega, e1⟩
theorem RowOk.low {n : Nat} {D : Nat → Int} {R : List Nat} (h : RowOk n D R) {k x : Nat} (hx : R[k]? = some x) : ((R.drop (k + 1)).map (fun j : Nat => (j : Int))).mergeSort (fun x y => decide (x ≤ y)) = loD n D x := by
  refine strict_ext _ _ (sorted_lt _ (ints_nodup (h.nodup.sublist (List.drop_sublist _ _)))) (range_lt n _) (fun z => ?_)
  rw [(List.mergeSort_perm _ _).mem_iff]
  unfold loD
  simp only [List.mem_map, List.mem_filter, List.mem_range, befB_iff]
  constructor
  · rintro ⟨j, hj, rfl⟩
    refine ⟨j, ⟨h.lt (List.mem_of_mem_drop hj), ?_⟩, rfl⟩
    obtain ⟨i, hi, e⟩ := List.getElem_of_mem hj
    exact h.before (i := k) (j := k + 1 + i) (by omega) hx (by rw [← e, List.getElem_drop, List.getElem?_eq_getElem])
  · rintro ⟨j, ⟨hj, hb⟩, rfl⟩
    refine ⟨j, ?_, rfl⟩
    have ha := h.at hj
    have hlt : k < YtlkbphogpbcjfaaGreatDoor.rank n D j := by
      rcases Nat.lt_trichotomy (YtlkbphogpbcjfaaGreatDoor.rank n D j) k with hh | hh | hh
      · have := h.before hh ha hx
        unfold bef at *
        omega
      · rw [hh, hx] at ha
        obtain rfl := Option.some.inj ha
        unfold bef at hb
        omega
      · exact hh
    obtain ⟨h1, e1⟩ := List.getElem?_eq_some_iff.1 ha
    rw [List.mem_drop_iff_getElem]
    exact ⟨YtlkbphogpbcjfaaGreatDoor.rank n D j - (k + 1), by omega, by simp only [show k + 1 + (YtlkbphogpbcjfaaGreatDoor.rank n D j - (k + 1)) = YtlkbphogpbcjfaaGreatDoor.rank n D j by omega]; exact e1⟩
def cfD (n : Nat) (D : Nat → Int) (x y : Fin n) : Int := if D x.1 < D y.1 then -1 else if D y.1 < D x.1 then 1 else 0
theorem ltOf_cf (n : Nat) (D : Nat → Int) (x y : Fin n) : ltOf (cfD n D) x y = decide (D x.1 < D y.1) := by
  unfold ltOf cfD
  by_cases h1 : D x.1 < D y.1
  · simp [h1]
  · by_cases h2 : D y.1 < D x.1
    · simp [h1, h2]
    · simp [h1, h2]
def ltL (n : Nat) (D : Nat → Int) (x y : Fin n) : Bool := befB D x.1 y.1
theorem swp_lo {α : Type} [Inhabited α] (d : Array α) (j : Nat) (h : j + 1 < d.size) : (swp d (j + 1) j)[j]! = d[j + 1]! := by
  unfold swp
  exact getElem!_set_same _ _ _ (by simp; omega)
theorem swp_hi {α : Type} [Inhabited α] (d : Array α) (j : Nat) (h : j + 1 < d.size) : (swp d (j + 1) j)[j + 1]! = d[j]! := by
  unfold swp
  rw [getElem!_set_other _ _ _ _ (by omega), getElem!_set_same _ _ _ h]
theorem swp_oth {α : Type} [Inhabited α] (d : Array α) (j k : Nat) (h1 : k ≠ j) (h2 : k ≠ j + 1) : (swp d (j + 1) j)[k]! = d[k]! := by
  unfold swp
  rw [getElem!_set_other _ _ _ _ h1, getElem!_set_other _ _ _ _ h2]
/-- What one insertion leaves. -/
theorem inner_keep {α : Type} [Inhabited α] (lt : α → α → Bool) : ∀ (j : Nat) (d : Array α), j < d.size → (insInner lt 0 j d).size = d.size ∧ (∀ k, j < k → (insInner lt 0 j d)[k]! = d[k]!) ∧ (∀ Q : α → Prop, (∀ k, k ≤ j → Q d[k]!) → ∀ k, k ≤ j → Q (insInner lt 0 j d)[k]!)
  | 0, d, _ => by
    rw [insInner]
    exact ⟨rfl, fun _ _ => rfl, fun Q h => h⟩
  | j + 1, d, hj => by
    rw [insInner]
    split
    · have hs : (swp d (j + 1) j).size = d.size := size_swp _ _ _
      obtain ⟨i1, i2, i3⟩ := inner_keep lt j (swp d (j + 1) j) (by omega)
      refine ⟨by rw [i1, hs], fun k hk => ?_, fun Q hQ k hk => ?_⟩
      · rw [i2 k (by omega), swp_oth d j k (by omega) (by omega)]
      · by_cases hkj : k ≤ j
        · refine i3 Q (fun q hq => ?_) k hkj
          by_cases e : q = j
          · subst e
            rw [swp_lo d q hj]
            exact hQ _ (by omega)
          · rw [swp_oth d j q e (by omega)]
            exact hQ q (by omega)
        · obtain rfl : k = j + 1 := by omega
          rw [i2 (j + 1) (by omega), swp_hi d j hj]
          exact hQ j (by omega)
    · exact ⟨rfl, fun _ _ => rfl, fun Q h => h⟩
theorem inner_eq (n : Nat) (D : Nat → Int) [Inhabited (Fin n)] (i : Nat) : ∀ (j : Nat) (d : Array (Fin n)), j < d.size → (d[j]!).1 = i → (∀ k, k < j → (d[k]!).1 < i) → insInner (ltOf (cfD n D)) 0 j d = insInner (ltL n D) 0 j d
  | 0, d, _, _, _ => by rw [insInner, insInner]
  | j + 1, d, hj, h1, h2 => by
    rw [insInner, insInner]
    have e : ltOf (cfD n D) d[j + 1]! d[j]! = ltL n D d[j + 1]! d[j]! := by
      rw [ltOf_cf]
      unfold ltL befB
      have hlt := h2 j (by omega)
      have : decide ((d[j + 1]!).1 < (d[j]!).1) = false := decide_eq_false (by omega)
      rw [this, Bool.and_false, Bool.or_false]
    rw [e]
    split
    · exact inner_eq n D i j (swp d (j + 1) j) (by rw [size_swp]; omega) (by rw [swp_lo d j hj]; exact h1) (fun k hk => by rw [swp_oth d j k (by omega) (by omega)]; exact h2 k (by omega))
    · rfl
theorem outer_eq (n : Nat) (D : Nat → Int) [Inhabited (Fin n)] : ∀ (m i : Nat) (d : Array (Fin n)), n - i = m → d.size = n → (∀ k, k < i → k < n → (d[k]!).1 < i) → (∀ k, i ≤ k → k < n → (d[k]!).1 = k) → insOuter (ltOf (cfD n D)) 0 n i d = insOuter (ltL n D) 0 n i d
  | 0, i, d, hm, _, _, _ => by
    rw [insOuter_stop (ltOf (cfD n D)) 0 n i d (by omega), insOuter_stop (ltL n D) 0 n i d (by omega)]
  | m + 1, i, d, hm, hs, h1, h2 => by
    have hi : i < n := by omega
    rw [insOuter_go (ltOf (cfD n D)) 0 n i d hi, insOuter_go (ltL n D) 0 n i d hi, inner_eq n D i i d (by omega) (h2 i (Nat.le_refl _) hi) (fun k hk => h1 k hk (by omega))]
    obtain ⟨k1, k2, k3⟩ := inner_keep (ltL n D) i d (by omega)
    refine outer_eq n D m (i + 1) _ (by omega) (by rw [k1, hs]) (fun k hk hkn => ?_) (fun k hk hkn => ?_)
    · refine k3 (fun x => x.1 < i + 1) (fun q hq => ?_) k (by omega)
      by_cases e : q = i
      · subst e
        rw [h2 q (Nat.le_refl _) hi]
        omega
      · have := h1 q (by omega) (by omega)
        omega
    · rw [k2 k (by omega)]
      exact h2 k (by omega) hkn
theorem swo_ltL (n : Nat) (D : Nat → Int) : SWO (ltL n D) := by
  refine ⟨fun x => ?_, fun x y z h1 h2 => ?_, fun x y z h1 h2 => ?_⟩
  · simp [ltL, befB]
  · unfold ltL at *
    rw [befB_iff] at *
    unfold bef at *
    omega
  · unfold ltL at *
    rw [Bool.eq_false_iff, ne_eq, befB_iff] at *
    unfold bef at *
    omega
def idArr (n : Nat) : Array (Fin n) := Array.ofFn (fun i : Fin n => i)
theorem idArr_size (n : Nat) : (idArr n).size = n := by simp [idArr]
theorem idArr_get (n : Nat) [Inhabited (Fin n)] (k : Nat) (h : k < n) : (idArr n)[k]! = ⟨k, h⟩ := by
  rw [getElem!_pos _ k (by rw [idArr_size]; exact h)]
  simp [idArr]
theorem idArr_map (n : Nat) : (idArr n).toList.map (·.1) = List.range n := by
  apply List.ext_getElem
  · simp [idArr]
  · intro i h1 h2
    simp [idArr]
/-- The sort, as it is, puts the tasks in their row. -/
theorem sort_ok (n : Nat) (D : Nat → Int) [Inhabited (Fin n)] : ∃ R : List Nat, RowOk n D R ∧ (Sort.insertionSort (ltOf (cfD n D)) (idArr n) 0 n).toList.map (·.1) = R ∧ (Sort.insertionSort (ltOf (cfD n D)) (idArr n) 0 n).size = n := by
  have e : Sort.insertionSort (ltOf (cfD n D)) (idArr n) 0 n = Sort.insertionSort (ltL n D) (idArr n) 0 n := by
    unfold Sort.insertionSort
    refine outer_eq n D (n - (0 + 1)) (0 + 1) _ rfl (idArr_size n) (fun k hk hkn => ?_) (fun k _ hkn => ?_)
    · rw [idArr_get n k hkn]
      simp only
      omega
    · rw [idArr_get n k hkn]
  rw [e]
  obtain ⟨⟨p1, _, p3⟩, q⟩ := insertionSort_holds (lt := ltL n D) (swo_ltL n D) (idArr n) 0 n (Nat.zero_le _) (by rw [idArr_size]; exact Nat.le_refl _)
  generalize Sort.insertionSort (ltL n D) (idArr n) 0 n = d' at *
  have hs : d'.size = n := by rw [p1, idArr_size]
  have x1 : (d'.extract 0 n).toList = d'.toList := by
    have := Array.extract_size (xs := d')
    rw [hs] at this
    rw [this]
  have x2 : ((idArr n).extract 0 n).toList = (idArr n).toList := by
    have := Array.extract_size (xs := idArr n)
    rw [idArr_size] at this
    rw [this]
  rw [x1, x2] at p3
  have p4 := p3.map (·.1)
  rw [idArr_map] at p4
  refine ⟨_, ⟨by simp [hs], p4, ?_⟩, rfl, hs⟩
  · have hnd : (d'.toList.map (·.1)).Nodup := p4.nodup_iff.2 List.nodup_range
    rw [List.pairwise_iff_getElem]
    intro i j hi hj hij
    have hi2 : i < n := by simp at hi; omega
    have hj2 : j < n := by simp at hj; omega
    have h := q i j (Nat.zero_le _) hij hj2
    have hne := (List.pairwise_iff_getElem.1 hnd) i j hi hj hij
    rw [getElem!_pos _ i (by omega), getElem!_pos _ j (by omega)] at h
    unfold ltL at h
    rw [Bool.eq_false_iff, ne_eq, befB_iff] at h
    simp only [List.getElem_map, Array.getElem_toList] at hne ⊢
    unfold bef at *
    omega
end Go.Proofs.YtlkbphogpbcjfaaGreatDoor
namespace Go.Proofs.YtlkbphogpbcjfaaGreatDoor
open Go.RowKit Go.Sort

theorem isnan_any (x : Int) (w : World) : Calls Tryz.prog 69 #[.int .i64 x] w fun e w' => e = .returned (.bool false) ∧ w' = w := by
  have hx : (x != x) = false := by simp
  go_enter Tryz.func69, Tryz.ntmps69
  go_wp2_with fail
  go_ret
  exact ⟨rfl, rfl⟩
theorem compare_any (x y : Int) (w : World) : Calls Tryz.prog 59 #[.int .i64 x, .int .i64 y] w fun e w' => e = .returned (.int .i64 (if x < y then -1 else if y < x then 1 else 0)) ∧ w' = w := by
  by_cases h1 : x < y
  · rw [if_pos h1]
    go_enter Tryz.func59, Tryz.ntmps59
    go_wp2_with (first | (go_at_call 69; refine (isnan_any _ _).mono ?_; rintro e w1 ⟨rfl, hw⟩; subst hw))
    go_ret
    exact ⟨rfl, rfl⟩
  · rw [if_neg h1]
    by_cases h2 : y < x
    · rw [if_pos h2]
      have h3 : x > y := h2
      go_enter Tryz.func59, Tryz.ntmps59
      go_wp2_with (first | (go_at_call 69; refine (isnan_any _ _).mono ?_; rintro e w1 ⟨rfl, hw⟩; subst hw))
      go_ret
      exact ⟨rfl, rfl⟩
    · rw [if_neg h2]
      have h3 : ¬ x > y := h2
      go_enter Tryz.func59, Tryz.ntmps59
      go_wp2_with (first | (go_at_call 69; refine (isnan_any _ _).mono ?_; rintro e w1 ⟨rfl, hw⟩; subst hw))
      go_ret
      exact ⟨rfl, rfl⟩
/-- What a slice of tasks shows of their deadlines. -/
def AtD (w : World) (a : Option Addr) (n : Nat) (D : Nat → Int) : Prop := ∀ j, j < n → ∃ b f, a = some ⟨b, f, none⟩ ∧ w.cell? ⟨b, f + j * 5 + 2, none⟩ = some (.int .i64 (D j))
theorem AtD.kept {w w' : World} {a : Option Addr} {n : Nat} {D : Nat → Int} (h : AtD w a n D) (t : Kept w w') : AtD w' a n D := by
  intro j hj
  obtain ⟨b, f, e, hc⟩ := h j hj
  exact ⟨b, f, e, t.cell hc⟩
set_option maxHeartbeats 2000000 in
theorem less_any (a : Option Addr) (n c : Nat) (D : Nat → Int) (bx : Nat) (x y : Nat) (hx : x < n) (hy : y < n) (w : World) (hb : w.cell? ⟨bx, 2, none⟩ = some (.slice a n c)) (hD : AtD w a n D) :
    Calls Tryz.prog 58 #[.int .i64 x, .int .i64 y, .pointer (some ⟨bx, 0, none⟩)] w fun e w' => e = .returned (.int .i64 (if D x < D y then -1 else if D y < D x then 1 else 0)) ∧ ∃ q, w' = w.drewN q := by
  obtain ⟨b, f, rfl, c1⟩ := hD x hx
  obtain ⟨b', f', e', c2⟩ := hD y hy
  cases e'
  have r1 : (x : Int) < (n : Int) := by omega
  have r2 : (y : Int) < (n : Int) := by omega
  have r3 : (0 : Int) ≤ (x : Int) := by omega
  have r4 : (0 : Int) ≤ (y : Int) := by omega
  have hc : ∀ k, Calls Tryz.prog 59 #[.int .i64 (D x), .int .i64 (D y)] (w.drewN k) fun e w' => e = .returned (.int .i64 (if D x < D y then -1 else if D y < D x then 1 else 0)) ∧ ∃ q, w' = (w.drewN k).drewN q := fun k => (compare_any _ _ _).mono (by rintro e w' ⟨rfl, rfl⟩; exact ⟨rfl, 0, rfl⟩)
  generalize (if D x < D y then (-1 : Int) else if D y < D x then 1 else 0) = z at hc ⊢
  clear hD
  go_enter Tryz.func58, Tryz.ntmps58
  go_wp2_with fail
  go_quiet (first | (go_at_call 59; refine Calls.quiet_of (hc _)))
  go_wp2_with fail
  go_ret
  exact ⟨rfl, nq, rfl⟩
def encF {n : Nat} (x : Fin n) : Value := .int .i64 (x.1 : Int)
set_option maxHeartbeats 2000000 in
theorem stable_any (n : Nat) (D : Nat → Int) [Inhabited (Fin n)] (h20 : n < 20) (cap blk bx : Nat) (w : World) (hH : Holds encF w blk 0 (idArr n)) (hcmp : CmpReads Tryz.prog 58 #[.pointer (some ⟨bx, 0, none⟩)] encF (cfD n D) blk 0 n w) :
    Calls Tryz.prog 68 #[.slice (some ⟨blk, 0, none⟩) n cap, .int .i64 n, .func (.func 58) #[] #[.pointer (some ⟨bx, 0, none⟩)]] w fun e w' => e = .returned (.tuple #[]) ∧ ∃ q, w' = (putRow encF w blk 0 (Sort.insertionSort (ltOf (cfD n D)) (idArr n) 0 n)).drewN q := by
  have hi := Tryz.insertionSortCmpFunc_one encF (fun _ => rfl) (cfD n D) 58 #[.pointer (some ⟨bx, 0, none⟩)] blk 0 cap 0 n (idArr n) w (enters_of Tryz.func58 (by kernel_rfl) rfl) (by rw [idArr_size]; exact hcmp) hH (Nat.zero_le _) (by rw [idArr_size]; exact Nat.le_refl _) (by rw [idArr_size]; omega)
  rw [idArr_size] at hi
  have hi2 : Calls Tryz.prog 78 #[.slice (some ⟨blk, 0, none⟩) n cap, .int .i64 0, .int .i64 n, .func (.func 58) #[] #[.pointer (some ⟨bx, 0, none⟩)]] w fun e w' => e = .returned (.tuple #[]) ∧ ∃ q, w' = (putRow encF w blk 0 (Sort.insertionSort (ltOf (cfD n D)) (idArr n) 0 n)).drewN q := hi
  have r1 : ¬ (20 : Int) ≤ (n : Int) := by omega
  have r2 : ¬ (20 : Int) < (n : Int) := by omega
  clear hi hcmp hH
  generalize Sort.insertionSort (ltOf (cfD n D)) (idArr n) 0 n = d' at *
  go_enter Tryz.func68, Tryz.ntmps68
  go_wp2_with fail
  refine wp_loop_rounds 1 ?_
  rw [rounds_succ]
  go_wp2_with (first | (go_at_call 78; refine hi2.mono ?_; rintro e w1 ⟨rfl, q, rfl⟩) | fail)
  refine wp_loop_rounds 1 ?_
  rw [rounds_succ]
  go_wp2_with fail
  go_end0
  exact ⟨rfl, q, rfl⟩
set_option maxHeartbeats 2000000 in
theorem sortst_any (n : Nat) (D : Nat → Int) [Inhabited (Fin n)] (h20 : n < 20) (cap blk bx : Nat) (w : World) (hH : Holds encF w blk 0 (idArr n)) (hcmp : CmpReads Tryz.prog 58 #[.pointer (some ⟨bx, 0, none⟩)] encF (cfD n D) blk 0 n w) :
    Calls Tryz.prog 57 #[.slice (some ⟨blk, 0, none⟩) n cap, .func (.func 58) #[] #[.pointer (some ⟨bx, 0, none⟩)]] w fun e w' => e = .returned (.tuple #[]) ∧ ∃ q, w' = (putRow encF w blk 0 (Sort.insertionSort (ltOf (cfD n D)) (idArr n) 0 n)).drewN q := by
  have hi := stable_any n D h20 cap blk bx w hH hcmp
  clear hcmp hH
  generalize Sort.insertionSort (ltOf (cfD n D)) (idArr n) 0 n = d' at *
  go_enter Tryz.func57, Tryz.ntmps57
  go_wp2_with (first | (go_at_call 68; refine hi.mono ?_; rintro e w1 ⟨rfl, q, rfl⟩) | fail)
  go_end0
  exact ⟨rfl, q, rfl⟩
end Go.Proofs.YtlkbphogpbcjfaaGreatDoor
namespace Go.Proofs.YtlkbphogpbcjfaaGreatDoor
open Go.RowKit Go.Sort

theorem made_zero (n : Nat) : (madeCells (Value.int IntKind.i64 0).cells (n * 1)).toList = (List.replicate n (0 : Int)).map intV := by
  rw [Nat.mul_one]
  apply List.ext_getElem?
  intro j
  by_cases hj : j < n
  · simp [madeCells, hj, intV, Value.cells, Nat.mod_one]
  · simp [madeCells, hj]
theorem info3 : ∃ i, Tryz.prog.info? 3 = some i ∧ i.zero = some (.int .i64 0) ∧ i.size = 1 ∧ i.bytes = 8 := by
  obtain ⟨i, hi, hz0, hz1, hz2⟩ := info_parts nInt.inf
  exact ⟨i, hi, hz0, hz1, hz2⟩
theorem irow_frozen {e : TypeId} {B : Nat} {w : World} {g n c : Nat} {l : List Int} (h : IRow e B w (.slice (some ⟨g, 0, none⟩) n c) l) (hn : l.length = n) (j : Nat) : w.frozen? ⟨g, j, none⟩ = false := by
  subst hn
  unfold IRow at h
  exact h.frozenAt j
theorem irow_set {e : TypeId} {B : Nat} {w : World} {g n c : Nat} {l : List Int} (h : IRow e B w (.slice (some ⟨g, 0, none⟩) n c) l) (hn : l.length = n) (j : Nat) (x : Int) : IRow e B (w.setCell ⟨g, j, none⟩ (.int .i64 x)) (.slice (some ⟨g, 0, none⟩) n c) (l.set j x) := by
  subst hn
  unfold IRow at h ⊢
  rw [List.length_set, List.map_set]
  exact (World.ownsRow.stored h j (.int .i64 x)).1
theorem irow_made {B g n : Nat} {w : World} (h : w.ownsRow B 3 1 (.slice (some ⟨g, 0, none⟩) n n) n (madeCells (Value.int IntKind.i64 0).cells (n * 1)).toList) : IRow 3 B w (.slice (some ⟨g, 0, none⟩) n n) (List.replicate n 0) := by
  unfold IRow
  rw [List.length_replicate, ← made_zero]
  exact h
/-- The numbers up to a place, then noughts. -/
def upTo (n j : Nat) : List Int := (List.range n).map (fun i : Nat => if i < j then (i : Int) else 0)
theorem upTo_len (n j : Nat) : (upTo n j).length = n := by simp [upTo]
theorem upTo_zero (n : Nat) : upTo n 0 = List.replicate n 0 := by
  apply List.ext_getElem
  · simp [upTo]
  · intro i h1 h2
    simp [upTo]
theorem upTo_set (n j : Nat) : (upTo n j).set j (j : Int) = upTo n (j + 1) := by
  apply List.ext_getElem
  · simp [upTo]
  · intro i h1 h2
    rw [List.getElem_set]
    simp only [upTo, List.getElem_map, List.getElem_range]
    by_cases e : j = i
    · subst e
      rw [if_pos rfl, if_pos (by omega)]
    · rw [if_neg e]
      by_cases hlt : i < j
      · rw [if_pos hlt, if_pos (by omega)]
      · rw [if_neg hlt, if_neg (by omega)]
theorem upTo_get (n j : Nat) (h : j < n) : (upTo n j)[j]? = some 0 := by
  rw [List.getElem?_eq_getElem (by rw [upTo_len]; exact h)]
  simp [upTo]
theorem holdsF {B g n : Nat} {w : World} [Inhabited (Fin n)] (h : IRow 3 B w (.slice (some ⟨g, 0, none⟩) n n) (upTo n n)) : Holds encF w g 0 (idArr n) := by
  intro j hj
  rw [idArr_size] at hj
  rw [Nat.zero_add, idArr_get n j hj]
  refine ⟨?_, irow_frozen h (upTo_len n n) j⟩
  have h2 : IRow 3 B w (.slice (some ⟨g, 0, none⟩) (upTo n n).length n) (upTo n n) := by rw [upTo_len]; exact h
  rw [h2.cell j j (by rw [List.getElem?_eq_getElem (by rw [upTo_len]; exact hj)]; simp [upTo, hj])]
  rfl
/-- Cells of the row as numbers. -/
theorem holdsI {n g : Nat} {w : World} [Inhabited (Fin n)] {d : Array (Fin n)} {R : List Nat} (h : Holds encF w g 0 d) (hR : d.toList.map (·.1) = R) : Holds (Value.int .i64) w g 0 (R.map (fun j : Nat => (j : Int))).toArray := by
  subst hR
  intro j hj
  have hj2 : j < d.size := by simpa using hj
  obtain ⟨h1, h2⟩ := h j hj2
  refine ⟨?_, h2⟩
  rw [h1, getElem!_pos _ j hj2]
  simp [encF, hj2]
theorem irow_cell {e : TypeId} {B : Nat} {w : World} {g n c : Nat} {l : List Int} (h : IRow e B w (.slice (some ⟨g, 0, none⟩) n c) l) (hn : l.length = n) (j : Nat) (x : Int) (hx : l[j]? = some x) : w.cell? ⟨g, j, none⟩ = some (.int .i64 x) := by
  subst hn
  exact h.cell j x hx
theorem turns_sort {α : Type} [Inhabited α] (enc : α → Value) (w : World) (n g off : Nat) (d : Array α) (os : Array Obj) : Turns (fun k => k = g) w (sortWorld enc w g off n d os) := turns_grow (turns_put enc w n g off d) os

set_option maxHeartbeats 4000000 in
theorem row_any (L : Int) (ca : Option Addr) (nc cc : Nat) (a : Option Addr) (n c : Nat) (D : Nat → Int) (w : World) (hD : AtD w a n D) (h1 : 1 ≤ n) (h20 : n < 20) :
    Calls Tryz.prog 47 #[.agg #[.int .i64 L, .slice ca nc cc, .slice a n c]] w fun e w' => ∃ R g, RowOk n D R ∧ e = .returned (.slice (some ⟨g, 0, none⟩) n n) ∧ w.heap.size ≤ g ∧ g < w'.heap.size ∧ Holds (Value.int .i64) w' g 0 (R.map (fun j : Nat => (j : Int))).toArray ∧ Kept w w' := by
  haveI : Inhabited (Fin n) := ⟨⟨0, by omega⟩⟩
  have HD : Hid (AtD w a n D) := hD
  obtain ⟨i3, hi3, hi30, hi31, hi38⟩ := info3
  have HB : Hid (Box w.heap.size (w.alloc (.cells #[.int .i64 L, .slice ca nc cc, .slice a n c] 36)) 36 w.heap.size [.int .i64 L, .slice ca nc cc, .slice a n c]) := box_new w.heap.size w 36 [.int .i64 L, .slice ca nc cc, .slice a n c] (Nat.le_refl _) (by simp)
  have hbs : w.heap.size ≤ (w.alloc (.cells #[.int .i64 L, .slice ca nc cc, .slice a n c] 36)).heap.size := by simp
  clear hD
  go_enter Tryz.func47, Tryz.ntmps47
  go_wp2_with (refine wpList_make_full _ rfl _ _ 66 rfl w.heap.size 3 i3 _ 1 Tryz.underlying66 hi3 hi30 hi31 _ _ _ _ n rfl rfl rfl rfl (by rw [hi38]; omega) (by unfold maxLen; omega) hbs ?_; intro w1 ow1 gr1)
  have hsz : (w.alloc (.cells #[.int .i64 L, .slice ca nc cc, .slice a n c] 36)).heap.size = w.heap.size + 1 := by simp
  rw [hsz] at ow1
  have HI0 : Hid (IRow 3 w.heap.size w1 (.slice (some ⟨w.heap.size + 1, 0, none⟩) n n) (upTo n 0)) := by show IRow _ _ _ _ _; rw [upTo_zero]; exact irow_made ow1
  have KA : Kept (w.alloc (.cells #[.int .i64 L, .slice ca nc cc, .slice a n c] 36)) w1 := (Turns.grown (S := fun _ => False) gr1 (fun k e => by cases e)).kept (Kept.refl _) (fun i hi => hi.elim)
  have HB1 : Hid (Box w.heap.size w1 36 w.heap.size [.int .i64 L, .slice ca nc cc, .slice a n c]) := HB.out.kept KA
  have K1 : Kept w w1 := ((Kept.refl w).alloc _).trans KA
  clear ow1 gr1 HB KA hsz hbs
  go_loopg [11] n (fun gk i wr => ∃ j : Nat, i = .int .i64 j ∧ j + gk = n ∧ Hid (IRow 3 w.heap.size wr (.slice (some ⟨w.heap.size + 1, 0, none⟩) n n) (upTo n j)) ∧ Hid (Box w.heap.size wr 36 w.heap.size [.int .i64 L, .slice ca nc cc, .slice a n c]) ∧ Kept w wr)
  case atStart => exact ⟨0, rfl, by omega, HI0, HB1, K1⟩
  case round =>
    obtain ⟨j, rfl, hj, HI, HBX, K⟩ := hrel
    by_cases hjn : j < n
    · have b1 : (j : Int) < (n : Int) := by omega
      have b2 : (0 : Int) ≤ (j : Int) := by omega
      have c1 := irow_cell HI.out (upTo_len n j) j 0 (upTo_get n j hjn)
      have f1 := irow_frozen HI.out (upTo_len n j) j
      obtain ⟨g3', rfl⟩ : ∃ g, gk = g + 1 := ⟨gk - 1, by omega⟩
      go_wp2_with fail
      go_roundg g3'
      case rel =>
        have t := turn_set wr (w.heap.size + 1) j (.int .i64 (j : Int))
        have h5 := irow_set HI.out (upTo_len n j) j (j : Int)
        rw [upTo_set] at h5
        exact ⟨j + 1, by go_num, by omega, h5, HBX.out.turns t (by omega), t.kept K (fun i hi => by omega)⟩
      case measure => omega
    · have b1 : ¬ (j : Int) < (n : Int) := by omega
      obtain rfl : j = n := by omega
      have hH := holdsF HI.out
      have hgl := (World.ownsRow.lt HI.out (w.heap.size + 1) rfl).2
      have hcmp : CmpReads Tryz.prog 58 #[.pointer (some ⟨w.heap.size, 0, none⟩)] encF (cfD j D) (w.heap.size + 1) 0 j wr := by
        intro m os dk hs x y
        have t := turns_sort encF wr m (w.heap.size + 1) 0 dk os
        have cb : (sortWorld encF wr (w.heap.size + 1) 0 m dk os).cell? ⟨w.heap.size, 2, none⟩ = some (.slice a j c) := t.cell (HBX.out.cell 2 (by simp)) HBX.out.lt.2 (by simp)
        have aD : AtD (sortWorld encF wr (w.heap.size + 1) 0 m dk os) a j D := by
          intro q hq
          obtain ⟨b, f, e, hc⟩ := HD.out q hq
          have hb := cell_lt hc
          simp only at hb
          exact ⟨b, f, e, t.cell (K.cell hc) (by have := K.size; simp only; omega) (by simp only; omega)⟩
        exact less_any a j c D w.heap.size x.1 y.1 x.2 y.2 _ cb aD
      have hst := sortst_any j D h20 j (w.heap.size + 1) w.heap.size wr hH hcmp
      obtain ⟨R, hR, e1, e2⟩ := sort_ok j D
      generalize Sort.insertionSort (ltOf (cfD j D)) (idArr j) 0 j = d' at *
      have h6 := holds_putRow encF wr (w.heap.size + 1) 0 (idArr j) d' hH (by rw [e2, idArr_size])
      have h7 := holdsI h6 e1
      have t8 : Kept w (putRow encF wr (w.heap.size + 1) 0 d') := (turns_put encF wr 0 (w.heap.size + 1) 0 d').kept K (fun i hi => by omega)
      have s8 : w.heap.size + 1 < (putRow encF wr (w.heap.size + 1) 0 d').heap.size := by rw [size_putRow]; exact hgl
      have HF : Hid (∀ q, ∃ R g, RowOk j D R ∧ Ending.returned (Value.slice (some ⟨w.heap.size + 1, 0, none⟩) j j) = .returned (.slice (some ⟨g, 0, none⟩) j j) ∧ w.heap.size ≤ g ∧ g < ((putRow encF wr (w.heap.size + 1) 0 d').drewN q).heap.size ∧ Holds (Value.int .i64) ((putRow encF wr (w.heap.size + 1) 0 d').drewN q) g 0 (R.map (fun j : Nat => (j : Int))).toArray ∧ Kept w ((putRow encF wr (w.heap.size + 1) 0 d').drewN q)) := fun q => ⟨R, w.heap.size + 1, hR, rfl, by omega, s8, h7, t8.drewN q⟩
      clear hR e1 e2 h6 h7 t8 s8 hH hcmp HI HBX
      go_wp2_with (first | (go_at_call 57; refine hst.mono ?_; rintro e w5 ⟨rfl, q, rfl⟩) | fail)
      go_ret
      exact HF.out q
end Go.Proofs.YtlkbphogpbcjfaaGreatDoor
namespace Go.Proofs.YtlkbphogpbcjfaaGreatDoor
open Go.RowKit Go.Sort

theorem row_get {n : Nat} {D : Nat → Int} {R : List Nat} (h : RowOk n D R) {k : Nat} (hk : k < n) : ∃ x, R[k]? = some x ∧ x < n := by
  have hl : k < R.length := by rw [h.len]; exact hk
  exact ⟨R[k], List.getElem?_eq_getElem hl, h.lt (List.getElem_mem hl)⟩
theorem holds_cell {w : World} {g : Nat} {R : List Nat} (h : Holds (Value.int .i64) w g 0 (R.map (fun j : Nat => (j : Int))).toArray) {k x : Nat} (hx : R[k]? = some x) : w.cell? ⟨g, k, none⟩ = some (.int .i64 (x : Int)) := by
  obtain ⟨hk, e⟩ := List.getElem?_eq_some_iff.1 hx
  have h1 := (h k (by simpa using hk)).1
  rw [Nat.zero_add] at h1
  rw [h1]
  simp [hk, e]
theorem AtI.turns {S : Nat → Prop} {w w' : World} {a : Option Addr} {l : List Int} (h : AtI w a l) (t : Turns S w w') (hs : ∀ b f, a = some ⟨b, f, none⟩ → ¬ S b) : AtI w' a l := by
  intro j x hj
  obtain ⟨b, f, e, hc⟩ := h j x hj
  exact ⟨b, f, e, t.cell hc (cell_lt hc) (hs b f e)⟩
theorem irow_at {B : Nat} {w : World} {g n c : Nat} {l : List Int} (h : IRow 3 B w (.slice (some ⟨g, 0, none⟩) n c) l) (hn : l.length = n) : AtI w (some ⟨g, 0, none⟩) l := by
  intro j x hj
  exact ⟨g, 0, rfl, by rw [Nat.zero_add]; exact irow_cell h hn j x hj⟩

set_option maxHeartbeats 4000000 in
theorem prios_any (L : Int) (ca : Option Addr) (nc cc : Nat) (a : Option Addr) (n c : Nat) (D : Nat → Int) (w : World) (hD : AtD w a n D) (h1 : 1 ≤ n) (h20 : n < 20) :
    Calls Tryz.prog 31 #[.agg #[.int .i64 L, .slice ca nc cc, .slice a n c]] w fun e w' => ∃ g, e = .returned (.slice (some ⟨g, 0, none⟩) n n) ∧ w.heap.size ≤ g ∧ AtI w' (some ⟨g, 0, none⟩) (prD n D) ∧ Kept w w' := by
  have HD : Hid (AtD w a n D) := hD
  obtain ⟨i3, hi3, hi30, hi31, hi38⟩ := info3
  have HB : Hid (Box w.heap.size (w.alloc (.cells #[.int .i64 L, .slice ca nc cc, .slice a n c] 36)) 36 w.heap.size [.int .i64 L, .slice ca nc cc, .slice a n c]) := box_new w.heap.size w 36 [.int .i64 L, .slice ca nc cc, .slice a n c] (Nat.le_refl _) (by simp)
  have hbs : w.heap.size ≤ (w.alloc (.cells #[.int .i64 L, .slice ca nc cc, .slice a n c] 36)).heap.size := by simp
  clear hD
  go_enter Tryz.func31, Tryz.ntmps31
  go_wp2_with (refine wpList_make_full _ rfl _ _ 66 rfl w.heap.size 3 i3 _ 1 Tryz.underlying66 hi3 hi30 hi31 _ _ _ _ n rfl rfl rfl rfl (by rw [hi38]; omega) (by unfold maxLen; omega) hbs ?_; intro w1 ow1 gr1; have hsz : (w.alloc (.cells #[.int .i64 L, .slice ca nc cc, .slice a n c] 36)).heap.size = w.heap.size + 1 := (by simp); rw [hsz] at ow1; have HI0 : Hid (IRow 3 w.heap.size w1 (.slice (some ⟨w.heap.size + 1, 0, none⟩) n n) (prT n D 0)) := (by show IRow _ _ _ _ _; rw [prT_zero]; exact irow_made ow1); have KA : Kept (w.alloc (.cells #[.int .i64 L, .slice ca nc cc, .slice a n c] 36)) w1 := (Turns.grown (S := fun _ => False) gr1 (fun k e => by cases e)).kept (Kept.refl _) (fun i hi => hi.elim); have HB1 : Hid (Box w.heap.size w1 36 w.heap.size [.int .i64 L, .slice ca nc cc, .slice a n c]) := HB.out.kept KA; have K1 : Kept w w1 := ((Kept.refl w).alloc _).trans KA; have s0 := HB1.out.cell 0 (by simp); have s1 := HB1.out.cell 1 (by simp); have s2 := HB1.out.cell 2 (by simp); simp only [List.getElem?_cons_zero, List.getElem?_cons_succ] at s0 s1 s2; clear ow1 gr1 HB KA hsz hbs)
  refine (row_any L ca nc cc a n c D w1 (HD.out.kept K1) h1 h20).mono ?_
  rintro e w2 ⟨R, g, hR, rfl, hg1, hg2, hH, K2⟩
  have HI1 : Hid (IRow 3 w.heap.size w2 (.slice (some ⟨w.heap.size + 1, 0, none⟩) n n) (prT n D 0)) := HI0.out.kept K2
  have hw1s := (World.ownsRow.lt HI0.out (w.heap.size + 1) rfl).2
  have HR : Hid (RowOk n D R) := hR
  have HC : Hid (∀ (k x : Nat), R[k]? = some x → w2.cell? ⟨g, k, none⟩ = some (.int .i64 (x : Int))) := fun k x hx => holds_cell hH hx
  have K12 := K1.trans K2
  clear hR hH HI0 HB1 s0 s1 s2
  go_wp2_with fail
  go_loopg [13] n (fun gk i wr => ∃ j : Nat, i = .int .i64 j ∧ j + gk = n ∧ Hid (IRow 3 w.heap.size wr (.slice (some ⟨w.heap.size + 1, 0, none⟩) n n) (prT n D j)) ∧ Hid (Turns (fun k => k = w.heap.size + 1) w2 wr) ∧ Kept w wr)
  case atStart => exact ⟨0, rfl, by omega, HI1, Turns.refl _ _, K12⟩
  case round =>
    obtain ⟨j, rfl, hj, HI, HT, K⟩ := hrel
    by_cases hjn : j < n
    · have b1 : (j : Int) < (n : Int) := by omega
      have b2 : (0 : Int) ≤ (j : Int) := by omega
      obtain ⟨x, hx, hxn⟩ := row_get HR.out hjn
      have b3 : (x : Int) < (n : Int) := by omega
      have b4 : (0 : Int) ≤ (x : Int) := by omega
      have c0 : wr.cell? ⟨g, j, none⟩ = some (.int .i64 (x : Int)) := HT.out.cell (HC.out j x hx) hg2 (by simp only; omega)
      obtain ⟨y, hy⟩ : ∃ y, (prT n D j)[x]? = some y := ⟨_, List.getElem?_eq_getElem (by rw [prT_len]; exact hxn)⟩
      have c1 := irow_cell HI.out (prT_len n D j) x y hy
      have f1 := irow_frozen HI.out (prT_len n D j) x
      have HS : Hid ((prT n D j).set x ((n : Int) - (j : Int)) = prT n D (j + 1)) := prT_set HR.out hx
      obtain ⟨g3', rfl⟩ : ∃ g, gk = g + 1 := ⟨gk - 1, by omega⟩
      clear hx hy
      go_wp2_with fail
      go_roundg g3'
      case rel =>
        have t := turn_set wr (w.heap.size + 1) x (.int .i64 ((n : Int) - (j : Int)))
        have h5 := irow_set HI.out (prT_len n D j) x ((n : Int) - (j : Int))
        rw [HS.out] at h5
        exact ⟨j + 1, by go_num, by omega, h5, HT.out.trans t, t.kept K (fun i hi => by omega)⟩
      case measure => omega
    · have b1 : ¬ (j : Int) < (n : Int) := by omega
      obtain rfl : j = n := by omega
      have HF : Hid (AtI wr (some ⟨w.heap.size + 1, 0, none⟩) (prD j D)) := by
        have h5 := irow_at HI.out (prT_len j D j)
        rw [prT_end HR.out] at h5
        exact h5
      go_wp2_with fail
      go_ret
      exact ⟨w.heap.size + 1, rfl, by omega, HF.out, K⟩
theorem row_first {n : Nat} {D : Nat → Int} {R : List Nat} (h : RowOk n D R) {x : Nat} (hx : x < n) : (R.map (fun j : Nat => (j : Int)))[rank n D x]? = some (x : Int) ∧ ∀ q, q < rank n D x → (R.map (fun j : Nat => (j : Int)))[q]? ≠ some (x : Int) := by
  refine ⟨by rw [List.getElem?_map, h.at hx]; rfl, fun q hq e => ?_⟩
  rw [List.getElem?_map] at e
  cases hy : R[q]? with
  | none => rw [hy] at e; cases e
  | some y =>
    rw [hy] at e
    have h2 : (y : Int) = (x : Int) := Option.some.inj e
    have : y = x := by omega
    subst this
    have := h.rank hy
    omega
theorem holds_take {w : World} {g : Nat} {l : List Int} (h : Holds (Value.int .i64) w g 0 l.toArray) (k : Nat) : Holds (Value.int .i64) w g 0 (l.take k).toArray := by
  intro j hj
  have hj2 : j < k ∧ j < l.length := by simp at hj; omega
  obtain ⟨h1, h2⟩ := h j (by simpa using hj2.2)
  refine ⟨?_, h2⟩
  rw [h1]
  simp [hj2.1, hj2.2]
theorem holds_drop {w : World} {g : Nat} {l : List Int} (h : Holds (Value.int .i64) w g 0 l.toArray) (k : Nat) : Holds (Value.int .i64) w g k (l.drop k).toArray := by
  intro j hj
  have hj2 : k + j < l.length := by simp at hj; omega
  have h0 := h (k + j) (by simpa using hj2)
  rw [Nat.zero_add] at h0
  refine ⟨?_, h0.2⟩
  rw [h0.1]
  simp [hj2, show j < l.length - k by omega]
end Go.Proofs.YtlkbphogpbcjfaaGreatDoor
namespace Go.Proofs.YtlkbphogpbcjfaaGreatDoor
open Go.RowKit Go.Sort

theorem rank_lt {n : Nat} {D : Nat → Int} {R : List Nat} (h : RowOk n D R) {x : Nat} (hx : x < n) : rank n D x < n := by
  have := (List.getElem?_eq_some_iff.1 (h.at hx)).1
  rw [h.len] at this
  exact this
end Go.Proofs.YtlkbphogpbcjfaaGreatDoor
namespace Go.Proofs.YtlkbphogpbcjfaaGreatDoor
open Go.RowKit

theorem lit_ints (w : World) (l : List Int) (cells : Array Value) (h : cells = (l.map intV).toArray) : AtI (w.alloc (.cells cells 3)) (some ⟨w.heap.size, 0, none⟩) l := by
  subst h
  intro j x hj
  refine ⟨w.heap.size, 0, rfl, ?_⟩
  rw [World.cell?_alloc_at _ _ _ _ rfl, Nat.zero_add]
  simp [hj, intV]
def fastW : List UInt8 := [102, 97, 115, 116]
def slowW : List UInt8 := [115, 108, 111, 119]
def D2 (j : Nat) : Int := if j = 0 then 8 else 20
theorem results_cell1 {fn : Func} {p : Tmp} {ty : TypeId} (h : fn.results = #[.cell p ty]) (tmps : Array Value) (P : Program) (w : World) :
    (results fn tmps).run P w = ((asAddr (tmps.getD p undef)).run P w).andThen fun a w1 => (loadVar ty a).run P w1 := by
  simp only [results, h]
  simp [Sem.run_bind, Result.andThen]
set_option maxHeartbeats 4000000 in
set_option maxRecDepth 20000 in
theorem two_any (w : World) : Calls Tryz.prog 13 #[] w fun e w' => e = .returned (.agg #[.int .i64 1, .slice none 0 0, .slice (some ⟨w.heap.size + 1 + 1 + 1 + 1 + 1, 0, none⟩) 2 2]) ∧ Kept w w' ∧
    Box w.heap.size w' 58 (w.heap.size + 1 + 1 + 1 + 1 + 1) [.string (B fastW), .int .i64 10, .int .i64 8, .int .i64 3, .slice (some ⟨w.heap.size + 1, 0, none⟩) 4 4, .string (B slowW), .int .i64 20, .int .i64 20, .int .i64 6, .slice (some ⟨w.heap.size + 1 + 1 + 1, 0, none⟩) 4 4] ∧ w'.heap.size = w.heap.size + 6 := by
  have K6 : Kept w ((((((w.alloc (.cells #[.int .i64 1, .slice none 0 0, .slice (some ⟨w.heap.size + 1 + 1 + 1 + 1 + 1, 0, none⟩) 2 2] 36)).alloc (.cells #[.int .i64 1, .int .i64 1, .int .i64 0, .int .i64 0, .slice none 0 0, .int .i64 2, .int .i64 0, .int .i64 0, .int .i64 0, .slice none 0 0, .int .i64 1, .int .i64 1, .int .i64 0, .int .i64 0, .slice none 0 0, .int .i64 3, .int .i64 0, .int .i64 0, .int .i64 0, .slice none 0 0] 77)).alloc (.cells #[.string { data := #[102, 97, 115, 116] }, .int .i64 10, .int .i64 8, .int .i64 3, .slice (some ⟨w.heap.size + 1, 0, none⟩) 4 4] 58)).alloc (.cells #[.int .i64 2, .int .i64 0, .int .i64 0, .int .i64 0, .slice none 0 0, .int .i64 1, .int .i64 4, .int .i64 0, .int .i64 0, .slice none 0 0, .int .i64 3, .int .i64 0, .int .i64 0, .int .i64 0, .slice none 0 0, .int .i64 1, .int .i64 1, .int .i64 0, .int .i64 0, .slice none 0 0] 77)).alloc (.cells #[.string { data := #[115, 108, 111, 119] }, .int .i64 20, .int .i64 20, .int .i64 6, .slice (some ⟨w.heap.size + 1 + 1 + 1, 0, none⟩) 4 4] 58)).alloc (.cells #[.string { data := #[102, 97, 115, 116] }, .int .i64 10, .int .i64 8, .int .i64 3, .slice (some ⟨w.heap.size + 1, 0, none⟩) 4 4, .string { data := #[115, 108, 111, 119] }, .int .i64 20, .int .i64 20, .int .i64 6, .slice (some ⟨w.heap.size + 1 + 1 + 1, 0, none⟩) 4 4] 58)) := ((((((Kept.refl w).alloc _).alloc _).alloc _).alloc _).alloc _).alloc _
  have HX : Hid (Box w.heap.size ((((((w.alloc (.cells #[.int .i64 1, .slice none 0 0, .slice (some ⟨w.heap.size + 1 + 1 + 1 + 1 + 1, 0, none⟩) 2 2] 36)).alloc (.cells #[.int .i64 1, .int .i64 1, .int .i64 0, .int .i64 0, .slice none 0 0, .int .i64 2, .int .i64 0, .int .i64 0, .int .i64 0, .slice none 0 0, .int .i64 1, .int .i64 1, .int .i64 0, .int .i64 0, .slice none 0 0, .int .i64 3, .int .i64 0, .int .i64 0, .int .i64 0, .slice none 0 0] 77)).alloc (.cells #[.string { data := #[102, 97, 115, 116] }, .int .i64 10, .int .i64 8, .int .i64 3, .slice (some ⟨w.heap.size + 1, 0, none⟩) 4 4] 58)).alloc (.cells #[.int .i64 2, .int .i64 0, .int .i64 0, .int .i64 0, .slice none 0 0, .int .i64 1, .int .i64 4, .int .i64 0, .int .i64 0, .slice none 0 0, .int .i64 3, .int .i64 0, .int .i64 0, .int .i64 0, .slice none 0 0, .int .i64 1, .int .i64 1, .int .i64 0, .int .i64 0, .slice none 0 0] 77)).alloc (.cells #[.string { data := #[115, 108, 111, 119] }, .int .i64 20, .int .i64 20, .int .i64 6, .slice (some ⟨w.heap.size + 1 + 1 + 1, 0, none⟩) 4 4] 58)).alloc (.cells #[.string { data := #[102, 97, 115, 116] }, .int .i64 10, .int .i64 8, .int .i64 3, .slice (some ⟨w.heap.size + 1, 0, none⟩) 4 4, .string { data := #[115, 108, 111, 119] }, .int .i64 20, .int .i64 20, .int .i64 6, .slice (some ⟨w.heap.size + 1 + 1 + 1, 0, none⟩) 4 4] 58)) 58 (w.heap.size + 1 + 1 + 1 + 1 + 1) [.string (B fastW), .int .i64 10, .int .i64 8, .int .i64 3, .slice (some ⟨w.heap.size + 1, 0, none⟩) 4 4, .string (B slowW), .int .i64 20, .int .i64 20, .int .i64 6, .slice (some ⟨w.heap.size + 1 + 1 + 1, 0, none⟩) 4 4]) := by
    have h := box_new w.heap.size (((((w.alloc (.cells #[.int .i64 1, .slice none 0 0, .slice (some ⟨w.heap.size + 1 + 1 + 1 + 1 + 1, 0, none⟩) 2 2] 36)).alloc (.cells #[.int .i64 1, .int .i64 1, .int .i64 0, .int .i64 0, .slice none 0 0, .int .i64 2, .int .i64 0, .int .i64 0, .int .i64 0, .slice none 0 0, .int .i64 1, .int .i64 1, .int .i64 0, .int .i64 0, .slice none 0 0, .int .i64 3, .int .i64 0, .int .i64 0, .int .i64 0, .slice none 0 0] 77)).alloc (.cells #[.string { data := #[102, 97, 115, 116] }, .int .i64 10, .int .i64 8, .int .i64 3, .slice (some ⟨w.heap.size + 1, 0, none⟩) 4 4] 58)).alloc (.cells #[.int .i64 2, .int .i64 0, .int .i64 0, .int .i64 0, .slice none 0 0, .int .i64 1, .int .i64 4, .int .i64 0, .int .i64 0, .slice none 0 0, .int .i64 3, .int .i64 0, .int .i64 0, .int .i64 0, .slice none 0 0, .int .i64 1, .int .i64 1, .int .i64 0, .int .i64 0, .slice none 0 0] 77)).alloc (.cells #[.string { data := #[115, 108, 111, 119] }, .int .i64 20, .int .i64 20, .int .i64 6, .slice (some ⟨w.heap.size + 1 + 1 + 1, 0, none⟩) 4 4] 58)) 58 [.string { data := #[102, 97, 115, 116] }, .int .i64 10, .int .i64 8, .int .i64 3, .slice (some ⟨w.heap.size + 1, 0, none⟩) 4 4, .string { data := #[115, 108, 111, 119] }, .int .i64 20, .int .i64 20, .int .i64 6, .slice (some ⟨w.heap.size + 1 + 1 + 1, 0, none⟩) 4 4] (by simp; omega) (by simp)
    rw [show (((((w.alloc (.cells #[.int .i64 1, .slice none 0 0, .slice (some ⟨w.heap.size + 1 + 1 + 1 + 1 + 1, 0, none⟩) 2 2] 36)).alloc (.cells #[.int .i64 1, .int .i64 1, .int .i64 0, .int .i64 0, .slice none 0 0, .int .i64 2, .int .i64 0, .int .i64 0, .int .i64 0, .slice none 0 0, .int .i64 1, .int .i64 1, .int .i64 0, .int .i64 0, .slice none 0 0, .int .i64 3, .int .i64 0, .int .i64 0, .int .i64 0, .slice none 0 0] 77)).alloc (.cells #[.string { data := #[102, 97, 115, 116] }, .int .i64 10, .int .i64 8, .int .i64 3, .slice (some ⟨w.heap.size + 1, 0, none⟩) 4 4] 58)).alloc (.cells #[.int .i64 2, .int .i64 0, .int .i64 0, .int .i64 0, .slice none 0 0, .int .i64 1, .int .i64 4, .int .i64 0, .int .i64 0, .slice none 0 0, .int .i64 3, .int .i64 0, .int .i64 0, .int .i64 0, .slice none 0 0, .int .i64 1, .int .i64 1, .int .i64 0, .int .i64 0, .slice none 0 0] 77)).alloc (.cells #[.string { data := #[115, 108, 111, 119] }, .int .i64 20, .int .i64 20, .int .i64 6, .slice (some ⟨w.heap.size + 1 + 1 + 1, 0, none⟩) 4 4] 58)).heap.size = w.heap.size + 1 + 1 + 1 + 1 + 1 by simp] at h
    exact h
  have hsz : Hid (((((((w.alloc (.cells #[.int .i64 1, .slice none 0 0, .slice (some ⟨w.heap.size + 1 + 1 + 1 + 1 + 1, 0, none⟩) 2 2] 36)).alloc (.cells #[.int .i64 1, .int .i64 1, .int .i64 0, .int .i64 0, .slice none 0 0, .int .i64 2, .int .i64 0, .int .i64 0, .int .i64 0, .slice none 0 0, .int .i64 1, .int .i64 1, .int .i64 0, .int .i64 0, .slice none 0 0, .int .i64 3, .int .i64 0, .int .i64 0, .int .i64 0, .slice none 0 0] 77)).alloc (.cells #[.string { data := #[102, 97, 115, 116] }, .int .i64 10, .int .i64 8, .int .i64 3, .slice (some ⟨w.heap.size + 1, 0, none⟩) 4 4] 58)).alloc (.cells #[.int .i64 2, .int .i64 0, .int .i64 0, .int .i64 0, .slice none 0 0, .int .i64 1, .int .i64 4, .int .i64 0, .int .i64 0, .slice none 0 0, .int .i64 3, .int .i64 0, .int .i64 0, .int .i64 0, .slice none 0 0, .int .i64 1, .int .i64 1, .int .i64 0, .int .i64 0, .slice none 0 0] 77)).alloc (.cells #[.string { data := #[115, 108, 111, 119] }, .int .i64 20, .int .i64 20, .int .i64 6, .slice (some ⟨w.heap.size + 1 + 1 + 1, 0, none⟩) 4 4] 58)).alloc (.cells #[.string { data := #[102, 97, 115, 116] }, .int .i64 10, .int .i64 8, .int .i64 3, .slice (some ⟨w.heap.size + 1, 0, none⟩) 4 4, .string { data := #[115, 108, 111, 119] }, .int .i64 20, .int .i64 20, .int .i64 6, .slice (some ⟨w.heap.size + 1 + 1 + 1, 0, none⟩) 4 4] 58)).heap.size = w.heap.size + 6) := by show _ = _; simp
  obtain ⟨w6, hw6⟩ : ∃ w6, w6 = ((((((w.alloc (.cells #[.int .i64 1, .slice none 0 0, .slice (some ⟨w.heap.size + 1 + 1 + 1 + 1 + 1, 0, none⟩) 2 2] 36)).alloc (.cells #[.int .i64 1, .int .i64 1, .int .i64 0, .int .i64 0, .slice none 0 0, .int .i64 2, .int .i64 0, .int .i64 0, .int .i64 0, .slice none 0 0, .int .i64 1, .int .i64 1, .int .i64 0, .int .i64 0, .slice none 0 0, .int .i64 3, .int .i64 0, .int .i64 0, .int .i64 0, .slice none 0 0] 77)).alloc (.cells #[.string { data := #[102, 97, 115, 116] }, .int .i64 10, .int .i64 8, .int .i64 3, .slice (some ⟨w.heap.size + 1, 0, none⟩) 4 4] 58)).alloc (.cells #[.int .i64 2, .int .i64 0, .int .i64 0, .int .i64 0, .slice none 0 0, .int .i64 1, .int .i64 4, .int .i64 0, .int .i64 0, .slice none 0 0, .int .i64 3, .int .i64 0, .int .i64 0, .int .i64 0, .slice none 0 0, .int .i64 1, .int .i64 1, .int .i64 0, .int .i64 0, .slice none 0 0] 77)).alloc (.cells #[.string { data := #[115, 108, 111, 119] }, .int .i64 20, .int .i64 20, .int .i64 6, .slice (some ⟨w.heap.size + 1 + 1 + 1, 0, none⟩) 4 4] 58)).alloc (.cells #[.string { data := #[102, 97, 115, 116] }, .int .i64 10, .int .i64 8, .int .i64 3, .slice (some ⟨w.heap.size + 1, 0, none⟩) 4 4, .string { data := #[115, 108, 111, 119] }, .int .i64 20, .int .i64 20, .int .i64 6, .slice (some ⟨w.heap.size + 1 + 1 + 1, 0, none⟩) 4 4] 58)) := ⟨_, rfl⟩
  rw [← hw6] at K6 HX hsz
  go_enter Tryz.func13, Tryz.ntmps13
  go_wp2_with fail
  (try simp only [Exit.inBlock, Exit.then])
  rw [← hw6]
  refine bodyPost_ret (v := .agg #[.int .i64 1, .slice none 0 0, .slice (some ⟨w.heap.size + 1 + 1 + 1 + 1 + 1, 0, none⟩) 2 2]) ?_ rfl ⟨rfl, K6, HX.out, hsz.out⟩
  rw [results_cell1 rfl, hw6]
  go_simp
theorem two_d (w : World) : Calls Tryz.prog 13 #[] w fun e w' => ∃ g, e = .returned (.agg #[.int .i64 1, .slice none 0 0, .slice (some ⟨g, 0, none⟩) 2 2]) ∧ AtD w' (some ⟨g, 0, none⟩) 2 D2 ∧ Kept w w' := by
  refine (two_any w).mono ?_
  rintro e w' ⟨rfl, K, hx, _⟩
  refine ⟨_, rfl, fun j hj => ?_, K⟩
  match j, hj with
  | 0, _ => exact ⟨_, 0, rfl, hx.cell 2 (by simp)⟩
  | 1, _ => exact ⟨_, 0, rfl, hx.cell 7 (by simp)⟩
theorem kn_p : prD 2 D2 = [2, 1] := by decide +kernel
theorem kn_h1 : hiD 2 D2 1 = [0] := by decide +kernel
theorem kn_h0 : hiD 2 D2 0 = [] := by decide +kernel
theorem kn_l0 : loD 2 D2 0 = [1] := by decide +kernel
end Go.Proofs.YtlkbphogpbcjfaaGreatDoor
namespace Go.Proofs.YtlkbphogpbcjfaaGreatDoor
open Go.RowKit Go.Sort

def nm1 (i : Nat) : List UInt8 := [UInt8.ofNat (97 + i)]
def tkV (P : Int) (e : List UInt8 × Int × Nat) : List Value := [.string (B e.1), .int .i64 P, .int .i64 e.2.1, .int .i64 1, .slice (some ⟨e.2.2, 0, none⟩) 1 1]
def flatQ (P : Int) (es : List (List UInt8 × Int × Nat)) : List Value := es.flatMap (tkV P)
theorem flatQ_get (P : Int) : ∀ (l : List (List UInt8 × Int × Nat)) (j i : Nat) (c : List UInt8 × Int × Nat), l[j]? = some c → i < 5 → (flatQ P l)[j * 5 + i]? = (tkV P c)[i]?
  | [], _, _, _, h, _ => by simp at h
  | x :: r, 0, i, e, h, hi => by
    simp at h
    subst h
    simp only [flatQ, List.flatMap_cons]
    rw [List.getElem?_append_left (by simp [tkV]; omega)]
    simp
  | x :: r, j + 1, i, e, h, hi => by
    simp only [flatQ, List.flatMap_cons]
    rw [List.getElem?_append_right (by simp [tkV]; omega)]
    have := flatQ_get P r j i e (by simpa using h) hi
    rw [show (j + 1) * 5 + i - (tkV P x).length = j * 5 + i by simp [tkV]; omega]
    exact this
def QRow (P : Int) (Bd : Nat) (w : World) (v : Value) (es : List (List UInt8 × Int × Nat)) : Prop := w.ownsRow Bd 58 5 v es.length (flatQ P es)
theorem QRow.turns {P : Int} {S : Nat → Prop} {Bd : Nat} {w w' : World} {v : Value} {l : List (List UInt8 × Int × Nat)} (h : QRow P Bd w v l) (t : Turns S w w') (hv : ∀ q, v.ownBlock = some q → ¬ S q) : QRow P Bd w' v l := owns_turns h t hv
theorem QRow.kept {P : Int} {Bd : Nat} {w w' : World} {v : Value} {l : List (List UInt8 × Int × Nat)} (h : QRow P Bd w v l) (t : Kept w w') : QRow P Bd w' v l := own_kept h t
def dlOf (es : List (List UInt8 × Int × Nat)) (j : Nat) : Int := match es[j]? with
  | some e => e.2.1
  | none => 0
theorem dlOf_old {es : List (List UInt8 × Int × Nat)} {e : List UInt8 × Int × Nat} {j : Nat} (h : j < es.length) : dlOf (es ++ [e]) j = dlOf es j := by
  unfold dlOf
  rw [List.getElem?_append_left h]
theorem dlOf_new {es : List (List UInt8 × Int × Nat)} {e : List UInt8 × Int × Nat} : dlOf (es ++ [e]) es.length = e.2.1 := by
  unfold dlOf
  rw [List.getElem?_append_right (Nat.le_refl _), Nat.sub_self]
  rfl
theorem qrow_at {P : Int} {Bd : Nat} {w : World} {g n c : Nat} {es : List (List UInt8 × Int × Nat)} (h : QRow P Bd w (.slice (some ⟨g, 0, none⟩) n c) es) (hn : es.length = n) : AtD w (some ⟨g, 0, none⟩) n (dlOf es) := by
  subst hn
  intro j hj
  refine ⟨g, 0, rfl, ?_⟩
  have hg := List.getElem?_eq_getElem hj
  unfold QRow at h
  rw [Nat.zero_add, h.cellAt (j * 5 + 2) (by omega), flatQ_get P es j 2 _ hg (by omega)]
  unfold dlOf
  rw [hg]
  rfl
theorem infoT : (Tryz.prog.info? 58).map (fun i => (i.zero, i.size, i.bytes)) = some (some (.agg #[.string ⟨#[]⟩, .int .i64 0, .int .i64 0, .int .i64 0, .slice none 0 0]), 5, 64) := by kernel_rfl
/-- One task behind a row of tasks, at one operation of a region. -/
theorem step_append_task (w : World) {ops : Array Oper} {o : Oper} {a : Act} {K : Act → World → Prop} {Q : Exit → Act → World → Prop} {E : Prop} (hgd : o.guard = none) (s x : Operand)
    (ho : o.op = .call { callee := .builtin .append, args := #[s, x], argTypes := #[34, 34] })
    (Bd : Nat) (v1 : Value) (P : Int) (es : List (List UInt8 × Int × Nat)) (e : List UInt8 × Int × Nat) (cells : Array Value) (hcells : cells = (tkV P e).toArray) (W : World) (hw1 : w = W.alloc (.cells cells 58)) (hs : a.eval s = v1) (nb : Nat) (hnb : nb = W.heap.size) (hx : a.eval x = .slice (some ⟨nb, 0, none⟩) 1 1)
    (h1 : QRow P Bd W v1 es) (hl : es.length ≤ 1000000) (hB : Bd ≤ W.heap.size)
    (h : ∀ g cap w', QRow P Bd w' (.slice (some ⟨g, 0, none⟩) (es.length + 1) cap) (es ++ [e]) → Turns (fun k => v1.ownBlock = some k) W w' → (v1.ownBlock = some g ∨ W.heap.size < g) → K (a.put o.dst (.slice (some ⟨g, 0, none⟩) (es.length + 1) cap)) w') :
    if Region.wanted o (yielded ops a.tmps) = true then Oper.wp Tryz.prog o a w K Q else E := by
  have hw : Region.wanted o (yielded ops a.tmps) = true := by simp [Region.wanted, hgd]
  rw [if_pos hw]
  subst hw1
  subst hnb
  obtain ⟨i, hi, hz0, hz1, hz2⟩ := info_parts infoT
  have hcc : ∀ j u, (tkV P e)[j]? = some u → (W.alloc (.cells cells 58)).cell? (Addr.add ⟨W.heap.size, 0, none⟩ j) = some u := by
    intro j u hu
    rw [Addr.add_lit, Nat.zero_add, World.cell?_alloc_at _ _ _ _ rfl, hcells]
    simpa using hu
  have h1' : (W.alloc (.cells cells 58)).ownsRow Bd 58 5 v1 es.length (flatQ P es) := World.ownsRow.alloc h1 _
  have hB' := le_alloc (.cells cells 58) hB
  obtain ⟨v', w', hr, k1, k2, k3, k4⟩ := run_append_own_at (P := Tryz.prog) (W.alloc (.cells cells 58)) Bd 34 o.type 58 i _ 5 64 Tryz.underlying34 hi hz0 hz1 hz2 rfl (by omega) _ es.length (flatQ P es) h1' ⟨W.heap.size, 0, none⟩ 1 1 (tkV P e) (by simp [tkV]) hcc (fun u hu => by simp [tkV] at hu; rcases hu with rfl | rfl | rfl | rfl | rfl <;> rfl) (by unfold maxLen; omega) (by omega) hB'
  obtain ⟨g, cap, rfl⟩ := own_form k1 (fun e => by have := k3.1 e; have := this.2; omega)
  have t : Turns (fun k => v1.ownBlock = some k) W w' := ((Turns.refl _ W).alloc _).trans (Turns.grown k2 (fun k e => e))
  have hg : v1.ownBlock = some g ∨ W.heap.size < g := by
    rcases k4 with k4 | k4
    · exact .inl k4.symm
    · right; simp [Value.ownBlock] at k4; omega
  unfold Oper.wp
  simp [execOp, ho, resolve, invoke, builtin, hs, hx, hr, Result.andThen]
  refine h g cap w' ?_ t hg
  unfold QRow
  rw [List.length_append, show flatQ P (es ++ [e]) = flatQ P es ++ tkV P e by simp [flatQ]]
  exact k1
/-- What a slice of bytes that came in shows. -/
def U8s (w : World) (a : Option Addr) (n : Nat) (Z : List Int) : Prop := ∀ j, j < n → ∃ b f, a = some ⟨b, f, none⟩ ∧ w.cell? ⟨b, f + j, none⟩ = some (.int .u8 (Z.getD j 0)) ∧ 0 ≤ Z.getD j 0 ∧ Z.getD j 0 ≤ 255
theorem rank_bef {n : Nat} {D : Nat → Int} {R : List Nat} (h : RowOk n D R) {q j : Nat} (hq : q < n) (hj : j < n) : rank n D q < rank n D j ↔ bef D q j := by
  constructor
  · intro hlt
    exact h.before hlt (h.at hq) (h.at hj)
  · intro hb
    rcases Nat.lt_trichotomy (rank n D q) (rank n D j) with hh | hh | hh
    · exact hh
    · have h1 := h.at hq
      rw [hh, h.at hj] at h1
      obtain rfl := Option.some.inj h1
      unfold bef at hb
      omega
    · have := h.before hh (h.at hj) (h.at hq)
      unfold bef at *
      omega
theorem rank_inj {n : Nat} {D : Nat → Int} {R : List Nat} (h : RowOk n D R) {q j : Nat} (hq : q < n) (hj : j < n) (he : rank n D q = rank n D j) : q = j := by
  have h1 := h.at hq
  rw [he, h.at hj] at h1
  exact (Option.some.inj h1).symm
theorem row_ex (n : Nat) (D : Nat → Int) (h1 : 1 ≤ n) : ∃ R, RowOk n D R := by
  haveI : Inhabited (Fin n) := ⟨⟨0, by omega⟩⟩
  obtain ⟨R, hR, _⟩ := sort_ok n D
  exact ⟨R, hR⟩
theorem prD_get {n : Nat} {D : Nat → Int} {j : Nat} (hj : j < n) : (prD n D)[j]? = some ((n : Int) - (rank n D j : Int)) := by
  rw [List.getElem?_eq_getElem (by rw [prD_len]; exact hj)]
  simp [prD]
end Go.Proofs.YtlkbphogpbcjfaaGreatDoor
