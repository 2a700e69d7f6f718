/- Sorted, each once: what the locks of a program are. -/
import Derived.Test.YtembbhbbmkijcaaDoorLck2
namespace Go.Proofs.YtembbhbbmkijcaaDoor

theorem strict_ext : ∀ (l m : List Int), l.Pairwise (· < ·) → m.Pairwise (· < ·) → (∀ x, x ∈ l ↔ x ∈ m) → l = m
  | [], [], _, _, _ => rfl
  | [], y :: m, _, _, h => by have := (h y).2 (by simp); cases this
  | x :: l, [], _, _, h => by have := (h x).1 (by simp); cases this
  | x :: l, y :: m, hl, hm, h => by
    rw [List.pairwise_cons] at hl hm
    have e : x = y := by
      have h1 := (h x).1 (by simp)
      have h2 := (h y).2 (by simp)
      rcases List.mem_cons.1 h1 with h1 | h1
      · exact h1
      · rcases List.mem_cons.1 h2 with h2 | h2
        · exact h2.symm
        · have := hm.1 x h1
          have := hl.1 y h2
          omega
    subst e
    rw [strict_ext l m hl.2 hm.2 (fun z => ?_)]
    constructor
    · intro hz
      rcases List.mem_cons.1 ((h z).1 (by simp [hz])) with e | e
      · have := hl.1 z hz; omega
      · exact e
    · intro hz
      rcases List.mem_cons.1 ((h z).2 (by simp [hz])) with e | e
      · have := hm.1 z hz; omega
      · exact e
theorem at_get (zs : List Int) (j : Nat) (h : j < zs.length) : zs.toArray[j]! = zs[j] := by
  simp [h]
theorem compact_mem (zs : List Int) (x : Int) : x ∈ Lib.compact zs ↔ x ∈ zs := by
  unfold Lib.compact Lib.compactUpTo
  constructor
  · intro h
    obtain ⟨j, hj, rfl⟩ := List.mem_map.1 h
    have hj2 := List.mem_range.1 (List.mem_filter.1 hj).1
    rw [at_get zs j hj2]
    exact List.getElem_mem hj2
  · intro h
    obtain ⟨j, hj, rfl⟩ := List.getElem_of_mem h
    have key : ∀ (i : Nat) (hi : i < zs.length), ∃ k, k < zs.length ∧ Lib.keeps zs.toArray k = true ∧ zs.toArray[k]! = zs[i] := by
      intro i
      induction i with
      | zero => intro hi; exact ⟨0, hi, by simp [Lib.keeps], at_get zs 0 hi⟩
      | succ i ih =>
        intro hi
        by_cases hk : Lib.keeps zs.toArray (i + 1) = true
        · exact ⟨i + 1, hi, hk, at_get zs _ hi⟩
        · obtain ⟨k, h1, h2, h3⟩ := ih (by omega)
          refine ⟨k, h1, h2, ?_⟩
          simp only [Lib.keeps, decide_eq_true_eq, not_or, Decidable.not_not] at hk
          have := hk.2
          rw [Nat.add_sub_cancel, at_get zs _ hi, at_get zs i (by omega)] at this
          rw [h3, this]
    obtain ⟨k, h1, h2, h3⟩ := key j hj
    exact List.mem_map.2 ⟨k, List.mem_filter.2 ⟨List.mem_range.2 h1, h2⟩, h3⟩
theorem compact_strict (zs : List Int) (hs : zs.Pairwise (· ≤ ·)) : (Lib.compact zs).Pairwise (· < ·) := by
  unfold Lib.compact Lib.compactUpTo
  rw [List.pairwise_map]
  have h1 : ((List.range zs.length).filter (Lib.keeps zs.toArray)).Pairwise (· < ·) := List.Pairwise.filter _ List.pairwise_lt_range
  refine List.Pairwise.imp_of_mem (fun {i j} hi hj hij => ?_) h1
  have hj1 := List.mem_range.1 (List.mem_filter.1 hj).1
  have hk := (List.mem_filter.1 hj).2
  simp only [Lib.keeps, decide_eq_true_eq] at hk
  have hle := List.pairwise_iff_getElem.1 hs
  rcases hk with hk | hk
  · omega
  · rw [at_get zs j hj1, at_get zs (j - 1) (by omega)] at hk
    rw [at_get zs j hj1, at_get zs i (by omega)]
    have h2 := hle (j - 1) j (by omega) hj1 (by omega)
    by_cases hij2 : i = j - 1
    · subst hij2
      omega
    · have h3 := hle i (j - 1) (by omega) (by omega) (by omega)
      omega
theorem sorted_le (l : List Int) : (l.mergeSort fun x y => decide (x ≤ y)).Pairwise (· ≤ ·) := by
  have h := List.pairwise_mergeSort (le := fun x y : Int => decide (x ≤ y)) (fun a b c h1 h2 => by simp at *; omega) (fun a b => by simp; omega) l
  exact h.imp (fun {a b} hab => by simpa using hab)
theorem locksD_strict (p : List OpD) : (locksD p).Pairwise (· < ·) := compact_strict _ (sorted_le _)
theorem locksD_mem (p : List OpD) (x : Int) : x ∈ locksD p ↔ x ∈ lockNs p := by
  unfold locksD
  rw [compact_mem]
  exact List.mem_mergeSort
end Go.Proofs.YtembbhbbmkijcaaDoor
