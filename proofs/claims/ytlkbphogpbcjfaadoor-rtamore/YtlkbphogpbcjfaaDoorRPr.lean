/- The reference's Prios, Higher, Lower. -/
import Derived.Test.YtlkbphogpbcjfaaDoorOrX
namespace Go.Proofs.YtlkbphogpbcjfaaDoor
open Go.RowKit Go.Sort

/-- How many of the first m go ahead of i. -/
def cntB (D : Nat → Int) (i m : Nat) : Nat := (List.range m).countP (fun j => befB D j i)
theorem cntB_next (D : Nat → Int) (i m : Nat) : cntB D i (m + 1) = cntB D i m + (if befB D m i = true then 1 else 0) := by
  unfold cntB
  rw [List.range_succ, List.countP_append]
  congr 1
  simp [List.countP_cons, List.countP_nil]
theorem cntB_le (D : Nat → Int) (i m : Nat) : cntB D i m ≤ m := by
  have := List.countP_le_length (p := fun j => befB D j i) (l := List.range m)
  rw [List.length_range] at this
  exact this
theorem prD_take {n : Nat} {D : Nat → Int} {j : Nat} (hj : j < n) : (prD n D).take (j + 1) = (prD n D).take j ++ [(n : Int) - (rank n D j : Int)] := by
  rw [List.take_add_one, prD_get hj]
  rfl
theorem rrow_view {B : Nat} {w : World} {v : Value} {l : List Int} (h : IRow 3 B w v l) : ∃ a c, v = .slice a l.length c ∧ AtI w a l ∧ (∀ b f, a = some ⟨b, f, none⟩ → B ≤ b) := by
  rcases h.2 with ⟨h1, h2⟩ | ⟨g, cap, cur, h1, hb, _⟩
  · refine ⟨none, 0, by rw [h1, h2], ?_, fun b f e => by cases e⟩
    rw [List.eq_nil_of_length_eq_zero h2]
    intro j x hj
    simp at hj
  · subst h1
    exact ⟨some ⟨g, 0, none⟩, cap, rfl, irow_at h rfl, fun b f e => by cases e; exact hb⟩
set_option maxHeartbeats 4000000 in
theorem hiD_next (P : Nat → Bool) (m : Nat) : ((List.range (m + 1)).filter P).map (fun j : Nat => (j : Int)) = ((List.range m).filter P).map (fun j : Nat => (j : Int)) ++ (if P m = true then [(m : Int)] else []) := by
  rw [List.range_succ, List.filter_append, List.map_append]
  congr 1
  by_cases h : P m = true
  · simp [h]
  · simp [h]
def sideB (D : Nat → Int) (x : Nat) (g : Bool) (k : Nat) : Bool := if g = true then befB D k x else befB D x k
def sideD (D : Nat → Int) (x : Nat) (g : Bool) (m : Nat) : List Int := ((List.range m).filter (sideB D x g)).map (fun j : Nat => (j : Int))
theorem sideD_hi (n : Nat) (D : Nat → Int) (x : Nat) : sideD D x true n = hiD n D x := by unfold sideD hiD sideB; simp
theorem sideD_lo (n : Nat) (D : Nat → Int) (x : Nat) : sideD D x false n = loD n D x := by unfold sideD loD sideB; simp
theorem sideD_len (D : Nat → Int) (x : Nat) (g : Bool) (m : Nat) : (sideD D x g m).length ≤ m := by
  unfold sideD
  rw [List.length_map]
  have := List.length_filter_le (sideB D x g) (List.range m)
  rw [List.length_range] at this
  exact this
/-- On which side one is, by the priorities. -/
theorem side_iff {n : Nat} {D : Nat → Int} {R : List Nat} (hR : RowOk n D R) {x k : Nat} (hx : x < n) (hk : k < n) (hne : k ≠ x) (g : Bool) : sideB D x g k = (decide ((n : Int) - (rank n D k : Int) > (n : Int) - (rank n D x : Int)) == g) := by
  have h1 := rank_bef hR hk hx
  have h2 := rank_bef hR hx hk
  have h3 : ¬ rank n D k = rank n D x := fun e => hne (rank_inj hR hk hx e)
  unfold sideB
  cases g with
  | true =>
    rw [if_pos rfl, Bool.eq_iff_iff, befB_iff, ← h1]
    simp
  | false =>
    rw [if_neg (by simp), Bool.eq_iff_iff, befB_iff, ← h2]
    simp
    omega
theorem side_self (D : Nat → Int) (x : Nat) (g : Bool) : sideB D x g x = false := by
  unfold sideB
  simp [befB]
end Go.Proofs.YtlkbphogpbcjfaaDoor
