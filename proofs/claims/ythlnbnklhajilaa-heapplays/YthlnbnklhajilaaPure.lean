/- Plain mathematics of a heap of entries in a row: exchange, rise, sink, and the places of ids. No program is named here. -/
namespace Go.Proofs.Ythlnbnklhajilaa.Hp

structure Ent where
  id : Int
  prio : Int
  seq : Int

def dflt : Ent := ⟨0, 0, 0⟩

/-- Goes x ahead of y? -/
def ahd (x y : Ent) : Bool := if x.prio ≠ y.prio then decide (y.prio < x.prio) else if x.seq ≠ y.seq then decide (x.seq < y.seq) else decide (x.id < y.id)

def at' (row : List Ent) (i : Nat) : Ent := row.getD i dflt

def swp (row : List Ent) (a b : Nat) : List Ent := (row.set a (at' row b)).set b (at' row a)

theorem swp_length (row : List Ent) (a b : Nat) : (swp row a b).length = row.length := by simp [swp]

theorem at_set (row : List Ent) (i j : Nat) (x : Ent) : at' (row.set i x) j = if i = j ∧ i < row.length then x else at' row j := by
  unfold at'
  simp only [List.getD_eq_getElem?_getD, List.getElem?_set]
  by_cases h : i = j
  · subst h
    by_cases h2 : i < row.length
    · simp [h2]
    · simp [h2]
  · simp [h]

theorem at_swp (row : List Ent) (a b j : Nat) (ha : a < row.length) (hb : b < row.length) : at' (swp row a b) j = if j = b then at' row a else if j = a then at' row b else at' row j := by
  unfold swp
  rw [at_set, at_set]
  simp only [List.length_set]
  by_cases h1 : j = b
  · subst h1; simp [hb]
  · by_cases h2 : j = a
    · subst h2; simp [h1, ha]; intro h; omega
    · simp [h1, h2]
      rw [if_neg (by omega), if_neg (by omega)]

/-- The place of id in the row plus 1; 0: it is not there. -/
def place (row : List Ent) (id : Nat) : Int := match row.findIdx? (fun x => x.id == (id : Int)) with
  | some i => (i : Int) + 1
  | none => 0

def atOf (most : Nat) (row : List Ent) : List Int := (List.range most).map (place row)

theorem atOf_length (most : Nat) (row : List Ent) : (atOf most row).length = most := by simp [atOf]

theorem atOf_get (most : Nat) (row : List Ent) (i : Nat) (h : i < most) : (atOf most row)[i]? = some (place row i) := by
  simp [atOf, h]

/-- Ids are unlike, each from 0 to most less 1. -/
structure Good (most : Nat) (row : List Ent) : Prop where
  lo : ∀ i, i < row.length → 0 ≤ (at' row i).id
  hi : ∀ i, i < row.length → (at' row i).id < (most : Int)
  nd : ∀ i j, i < row.length → j < row.length → (at' row i).id = (at' row j).id → i = j

theorem get_at (row : List Ent) (i : Nat) (h : i < row.length) : row[i] = at' row i := by
  simp [at', List.getD_eq_getElem?_getD, h]

theorem place_eq (row : List Ent) (most id i : Nat) (g : Good most row) (hi : i < row.length) (h : (at' row i).id = (id : Int)) : place row id = (i : Int) + 1 := by
  unfold place
  have : row.findIdx? (fun x => x.id == (id : Int)) = some i := by
    rw [List.findIdx?_eq_some_iff_getElem]
    refine ⟨hi, by rw [get_at row i hi]; simpa using h, ?_⟩
    intro j hj
    rw [get_at row j (by omega)]
    intro hc
    have := g.nd j i (by omega) hi (by rw [h]; simpa using hc)
    omega
  rw [this]

theorem place_none (row : List Ent) (id : Nat) (h : ∀ i, i < row.length → (at' row i).id ≠ (id : Int)) : place row id = 0 := by
  unfold place
  have : row.findIdx? (fun x => x.id == (id : Int)) = none := by
    rw [List.findIdx?_eq_none_iff]
    intro x hx
    obtain ⟨i, hi, rfl⟩ := List.getElem_of_mem hx
    rw [get_at row i hi]
    simpa using h i hi
  rw [this]

theorem place_cases (row : List Ent) (id : Nat) : (place row id = 0 ∧ ∀ i, i < row.length → (at' row i).id ≠ (id : Int)) ∨ (∃ i, i < row.length ∧ (at' row i).id = (id : Int) ∧ place row id = (i : Int) + 1) := by
  cases h : row.findIdx? (fun x => x.id == (id : Int)) with
  | none =>
    left
    refine ⟨by unfold place; rw [h], ?_⟩
    intro i hi
    rw [List.findIdx?_eq_none_iff] at h
    have := h (row[i]) (List.getElem_mem hi)
    rw [get_at row i hi] at this
    simpa using this
  | some i =>
    right
    rw [List.findIdx?_eq_some_iff_getElem] at h
    obtain ⟨hi, h1, h2⟩ := h
    refine ⟨i, hi, by rw [get_at row i hi] at h1; simpa using h1, ?_⟩
    unfold place
    have : row.findIdx? (fun x => x.id == (id : Int)) = some i := by
      rw [List.findIdx?_eq_some_iff_getElem]; exact ⟨hi, h1, h2⟩
    rw [this]

theorem good_swp {most : Nat} {row : List Ent} (g : Good most row) {a b : Nat} (ha : a < row.length) (hb : b < row.length) : Good most (swp row a b) := by
  have e := fun j => at_swp row a b j ha hb
  refine ⟨?_, ?_, ?_⟩
  · intro i hi
    rw [swp_length] at hi
    rw [e]
    split
    · exact g.lo a ha
    · split
      · exact g.lo b hb
      · exact g.lo i hi
  · intro i hi
    rw [swp_length] at hi
    rw [e]
    split
    · exact g.hi a ha
    · split
      · exact g.hi b hb
      · exact g.hi i hi
  · intro i j hi hj h
    rw [swp_length] at hi hj
    rw [e, e] at h
    have n1 := g.nd a b ha hb
    have n2 := g.nd a j ha hj
    have n3 := g.nd b j hb hj
    have n4 := g.nd i a hi ha
    have n5 := g.nd i b hi hb
    have n6 := g.nd i j hi hj
    have n7 := g.nd b a hb ha
    split at h <;> split at h <;> (try split at h) <;> (try split at h) <;> first
      | omega
      | (have := n1 h; omega)
      | (have := n2 h; omega)
      | (have := n3 h; omega)
      | (have := n4 h; omega)
      | (have := n5 h; omega)
      | (have := n6 h; omega)
      | (have := n7 h; omega)

theorem list_ext_int {l m : List Int} (hl : l.length = m.length) (h : ∀ i, i < l.length → l[i]? = m[i]?) : l = m := by
  apply List.ext_getElem?
  intro i
  by_cases hi : i < l.length
  · exact h i hi
  · rw [List.getElem?_eq_none (by omega), List.getElem?_eq_none (by omega)]

theorem atOf_swp {most : Nat} {row : List Ent} (g : Good most row) {a b : Nat} (ha : a < row.length) (hb : b < row.length) :
    atOf most (swp row a b) = ((atOf most row).set (at' row b).id.toNat ((a : Int) + 1)).set (at' row a).id.toNat ((b : Int) + 1) := by
  have g' := good_swp g ha hb
  have e := fun j => at_swp row a b j ha hb
  apply list_ext_int
  · simp [atOf_length]
  intro i hi
  rw [atOf_length] at hi
  rw [atOf_get _ _ _ hi]
  have a0 := g.lo a ha
  have a1 := g.hi a ha
  have b0 := g.lo b hb
  have b1 := g.hi b hb
  rw [List.getElem?_set, List.getElem?_set]
  simp only [List.length_set, atOf_length]
  by_cases h1 : (at' row a).id.toNat = i
  · rw [if_pos h1, if_pos (by omega)]
    congr 1
    apply place_eq (swp row a b) most i b g' (by rw [swp_length]; exact hb)
    rw [e, if_pos rfl]
    omega
  · rw [if_neg h1]
    by_cases h2 : (at' row b).id.toNat = i
    · rw [if_pos h2, if_pos (by omega)]
      congr 1
      apply place_eq (swp row a b) most i a g' (by rw [swp_length]; exact ha)
      rw [e]
      split
      · rename_i h; subst h; exact absurd h2 h1
      · rw [if_pos rfl]; omega
    · rw [if_neg h2, atOf_get _ _ _ hi]
      congr 1
      rcases place_cases row i with ⟨h0, hn⟩ | ⟨k, hk, hid, hp⟩
      · rw [h0]
        apply place_none
        intro j hj
        rw [swp_length] at hj
        rw [e]
        split
        · omega
        · split
          · omega
          · exact hn j hj
      · rw [hp]
        apply place_eq (swp row a b) most i k g' (by rw [swp_length]; exact hk)
        rw [e]
        split
        · rename_i h; subst h; omega
        · split
          · rename_i h; subst h; omega
          · exact hid

end Go.Proofs.Ythlnbnklhajilaa.Hp
