/- Plain mathematics of a timer: a row of ids, each with the Ticks that are left. No program is named here. -/
namespace Go.Proofs.Ytohgjdefgabfeaa.Tm

structure Du where
  id : Int
  left : Int

def dflt : Du := ⟨0, 0⟩
def at' (row : List Du) (i : Nat) : Du := row.getD i dflt

theorem get_at (row : List Du) (i : Nat) (h : i < row.length) : row[i] = at' row i := by simp [at', h]

/-- The place of an id; -1: none. -/
def findL (l : List Du) (id : Int) : Int := match l.findIdx? (fun x => x.id == id) with
  | some i => (i : Int)
  | none => -1

theorem findL_cases (l : List Du) (id : Int) : (findL l id = -1 ∧ ∀ i, i < l.length → (at' l i).id ≠ id) ∨ (∃ i : Nat, i < l.length ∧ (at' l i).id = id ∧ findL l id = (i : Int) ∧ ∀ j, j < i → (at' l j).id ≠ id) := by
  cases h : l.findIdx? (fun x => x.id == id) with
  | none =>
    left
    refine ⟨by unfold findL; rw [h], ?_⟩
    intro i hi
    rw [List.findIdx?_eq_none_iff] at h
    have := h (l[i]) (List.getElem_mem hi)
    rw [get_at l i hi] at this
    simpa using this
  | some i =>
    right
    have h' := h
    rw [List.findIdx?_eq_some_iff_getElem] at h
    obtain ⟨hi, h1, h2⟩ := h
    refine ⟨i, hi, by rw [get_at l i hi] at h1; simpa using h1, by unfold findL; rw [h'], ?_⟩
    intro j hj
    have := h2 j hj
    rw [get_at l j (by omega)] at this
    simpa using this

theorem findL_eq {l : List Du} {id : Int} (i : Nat) (h1 : i < l.length) (h2 : (at' l i).id = id) (h3 : ∀ j, j < i → (at' l j).id ≠ id) : findL l id = (i : Int) := by
  rcases findL_cases l id with ⟨_, hn⟩ | ⟨k, hk, he, hf, hn⟩
  · exact absurd h2 (hn i h1)
  · have : k = i := by
      rcases Nat.lt_trichotomy k i with h | h | h
      · exact absurd he (h3 k h)
      · exact h
      · exact absurd h2 (hn i h)
    rw [hf, this]
theorem findL_none {l : List Du} {id : Int} (h : ∀ i, i < l.length → (at' l i).id ≠ id) : findL l id = -1 := by
  rcases findL_cases l id with ⟨hf, _⟩ | ⟨k, hk, he, _, _⟩
  · exact hf
  · exact absurd he (h k hk)

/-- Those that are due at the next Tick, and those that stay. -/
def dueR (row : List Du) : List Int := (row.filter (fun x => x.left == 1)).map (·.id)
def restR (row : List Du) : List Du := (row.filter (fun x => x.left != 1)).map (fun x => ⟨x.id, x.left - 1⟩)

theorem take_snoc (row : List Du) (i : Nat) (h : i < row.length) : row.take (i + 1) = row.take i ++ [at' row i] := by
  rw [← get_at row i h, List.take_add_one, List.getElem?_eq_getElem h]; rfl
theorem dueR_append (a b : List Du) : dueR (a ++ b) = dueR a ++ dueR b := by simp [dueR]
theorem restR_append (a b : List Du) : restR (a ++ b) = restR a ++ restR b := by simp [restR]
theorem due_step_in (row : List Du) (i : Nat) (h : i < row.length) (hl : (at' row i).left = 1) : dueR (row.take (i + 1)) = dueR (row.take i) ++ [(at' row i).id] ∧ restR (row.take (i + 1)) = restR (row.take i) := by
  rw [take_snoc row i h, dueR_append, restR_append]; simp [dueR, restR, hl]
theorem due_step_out (row : List Du) (i : Nat) (h : i < row.length) (hl : (at' row i).left ≠ 1) : dueR (row.take (i + 1)) = dueR (row.take i) ∧ restR (row.take (i + 1)) = restR (row.take i) ++ [⟨(at' row i).id, (at' row i).left - 1⟩] := by
  rw [take_snoc row i h, dueR_append, restR_append]; simp [dueR, restR, hl]
theorem restR_le (row : List Du) : (restR row).length ≤ row.length := by
  unfold restR; rw [List.length_map]; exact List.length_filter_le _ _
theorem dueR_le (row : List Du) : (dueR row).length ≤ row.length := by
  unfold dueR; rw [List.length_map]; exact List.length_filter_le _ _

/-- Numbers of Ticks that may be. -/
def Pos (row : List Du) : Prop := ∀ x ∈ row, 1 ≤ x.left ∧ x.left ≤ 1099511627776
theorem pos_nil : Pos [] := by intro x h; simp at h
theorem Pos.at {row : List Du} (h : Pos row) (i : Nat) (hi : i < row.length) : 1 ≤ (at' row i).left ∧ (at' row i).left ≤ 1099511627776 := by
  rw [← get_at row i hi]; exact h _ (List.getElem_mem hi)
theorem Pos.snoc {row : List Du} (h : Pos row) (id n : Int) (h1 : 1 ≤ n) (h2 : n ≤ 1099511627776) : Pos (row ++ [⟨id, n⟩]) := by
  intro x hx
  rw [List.mem_append] at hx
  rcases hx with hx | hx
  · exact h x hx
  · simp at hx; subst hx; exact ⟨h1, h2⟩
theorem Pos.rest {row : List Du} (h : Pos row) : Pos (restR row) := by
  intro x hx
  simp only [restR, List.mem_map, List.mem_filter] at hx
  obtain ⟨y, ⟨hy, hl⟩, rfl⟩ := hx
  have := h y hy
  have hne : y.left ≠ 1 := by simpa using hl
  exact ⟨by show 1 ≤ y.left - 1; omega, by show y.left - 1 ≤ _; omega⟩
theorem Pos.erase {row : List Du} (h : Pos row) (k : Nat) : Pos (row.eraseIdx k) := fun x hx => h x (List.mem_of_mem_eraseIdx hx)

/-- The row behind k Ticks. -/
def aft (k : Int) (row : List Du) : List Du := (row.filter (fun x => decide (k < x.left))).map (fun x => ⟨x.id, x.left - k⟩)
theorem aft_zero {row : List Du} (h : Pos row) : aft 0 row = row := by
  unfold aft
  rw [List.filter_eq_self.2 (fun x hx => by have := (h x hx).1; simp; omega)]
  induction row with
  | nil => rfl
  | cons x r ih => simp only [List.map_cons]; rw [ih (fun y hy => h y (List.mem_cons_of_mem _ hy))]; simp
theorem due_aft (k : Int) (row : List Du) : dueR (aft k row) = (row.filter (fun x => x.left == k + 1)).map (·.id) := by
  induction row with
  | nil => rfl
  | cons x r ih =>
    unfold dueR aft at *
    simp only [List.filter_cons]
    by_cases h1 : k < x.left
    · simp only [h1, decide_true, if_true, List.map_cons, List.filter_cons]
      by_cases h2 : x.left = k + 1
      · have e1 : (x.left - k == 1) = true := by simp; omega
        have e2 : (x.left == k + 1) = true := by simp; omega
        simp only [e1, e2, if_true, List.map_cons, ih]
      · have e1 : (x.left - k == 1) = false := by simp; omega
        have e2 : (x.left == k + 1) = false := by simp; omega
        simp only [e1, e2, ih, Bool.false_eq_true, if_false]
    · have e2 : (x.left == k + 1) = false := by simp; omega
      simp only [h1, e2, decide_false, Bool.false_eq_true, if_false, ih]
theorem rest_aft (k : Int) (row : List Du) : restR (aft k row) = aft (k + 1) row := by
  induction row with
  | nil => rfl
  | cons x r ih =>
    unfold restR aft at *
    simp only [List.filter_cons]
    by_cases h1 : k < x.left
    · simp only [h1, decide_true, if_true, List.map_cons, List.filter_cons]
      by_cases h2 : x.left = k + 1
      · have e1 : (x.left - k != 1) = false := by simp; omega
        have e2 : ¬ (k + 1 < x.left) := by omega
        simp only [e1, e2, decide_false, Bool.false_eq_true, if_false, ih]
      · have e1 : (x.left - k != 1) = true := by simp; omega
        have e2 : k + 1 < x.left := by omega
        simp only [e1, e2, decide_true, if_true, List.map_cons, ih]
        rw [show x.left - k - 1 = x.left - (k + 1) from by omega]
    · have e2 : ¬ (k + 1 < x.left) := by omega
      simp only [h1, e2, decide_false, Bool.false_eq_true, if_false, ih]
theorem aft_end (k : Int) (row : List Du) (h : ∀ x ∈ row, x.left ≤ k) : aft k row = [] := by
  unfold aft
  rw [List.filter_eq_nil_iff.2 (fun x hx => by have := h x hx; simp; omega)]
  rfl
end Go.Proofs.Ytohgjdefgabfeaa.Tm
