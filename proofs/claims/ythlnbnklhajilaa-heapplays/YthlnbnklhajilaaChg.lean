/- Plain mathematics of what Put, Set and Remove do to a heap's row. -/
import Derived.Test.YthlnbnklhajilaaOrd
namespace Go.Proofs.Ythlnbnklhajilaa.Hp

theorem good_nodup {most : Nat} {row : List Ent} (g : Good most row) : row.Nodup := by
  rw [List.nodup_iff_pairwise_ne, List.pairwise_iff_getElem]
  intro i j hi hj hij h
  rw [get_at row i hi, get_at row j hj] at h
  have := g.nd i j hi hj (by rw [h])
  omega

theorem good_len {most : Nat} {row : List Ent} (g : Good most row) : row.length ≤ most := by
  have hn : (row.map (fun x => x.id.toNat)).Nodup := by
    rw [List.nodup_iff_pairwise_ne, List.pairwise_iff_getElem]
    intro i j hi hj hij h
    simp only [List.length_map] at hi hj
    simp only [List.getElem_map] at h
    rw [get_at row i hi, get_at row j hj] at h
    have h1 := g.lo i hi
    have h2 := g.lo j hj
    have := g.nd i j hi hj (by omega)
    omega
  have hs : (row.map (fun x => x.id.toNat)) ⊆ List.range most := by
    intro x hx
    rw [List.mem_map] at hx
    obtain ⟨y, hy, rfl⟩ := hx
    obtain ⟨i, hi, rfl⟩ := List.getElem_of_mem hy
    rw [get_at row i hi]
    have h1 := g.lo i hi
    have h2 := g.hi i hi
    rw [List.mem_range]
    omega
  have := hn.length_le_of_subset hs
  simpa using this

theorem at_snoc (row : List Ent) (e : Ent) (i : Nat) (hi : i ≤ row.length) : at' (row ++ [e]) i = if i = row.length then e else at' row i := by
  unfold at'
  rw [List.getD_eq_getElem?_getD, List.getD_eq_getElem?_getD]
  by_cases h : i = row.length
  · subst h; simp
  · rw [if_neg h, List.getElem?_append_left (by omega)]

theorem good_snoc {most : Nat} {row : List Ent} (g : Good most row) (e : Ent) (h0 : 0 ≤ e.id) (h1 : e.id < (most : Int)) (hn : ∀ i, i < row.length → (at' row i).id ≠ e.id) : Good most (row ++ [e]) := by
  refine ⟨?_, ?_, ?_⟩
  · intro i hi
    simp at hi
    rw [at_snoc row e i (by omega)]
    split
    · exact h0
    · exact g.lo i (by omega)
  · intro i hi
    simp at hi
    rw [at_snoc row e i (by omega)]
    split
    · exact h1
    · exact g.hi i (by omega)
  · intro i j hi hj h
    simp at hi hj
    rw [at_snoc row e i (by omega), at_snoc row e j (by omega)] at h
    split at h
    · split at h
      · omega
      · exact absurd h.symm (hn j (by omega))
    · split at h
      · exact absurd h (hn i (by omega))
      · exact g.nd i j (by omega) (by omega) h

theorem atOf_snoc {most : Nat} {row : List Ent} (g : Good most row) (e : Ent) (h0 : 0 ≤ e.id) (h1 : e.id < (most : Int)) (hn : ∀ i, i < row.length → (at' row i).id ≠ e.id) :
    atOf most (row ++ [e]) = (atOf most row).set e.id.toNat ((row.length : Int) + 1) := by
  have g' := good_snoc g e h0 h1 hn
  apply list_ext_int
  · simp [atOf_length]
  intro i hi
  rw [atOf_length] at hi
  rw [atOf_get _ _ _ hi, List.getElem?_set]
  simp only [atOf_length]
  by_cases h : e.id.toNat = i
  · rw [if_pos h, if_pos (by omega)]
    congr 1
    apply place_eq _ most i row.length g' (by simp)
    rw [at_snoc row e _ (Nat.le_refl _), if_pos rfl]
    omega
  · rw [if_neg h, atOf_get _ _ _ hi]
    congr 1
    rcases place_cases row i with ⟨hp, hx⟩ | ⟨k, hk, hid, hp⟩
    · rw [hp]
      apply place_none
      intro j hj
      simp at hj
      rw [at_snoc row e j (by omega)]
      split
      · omega
      · exact hx j (by omega)
    · rw [hp]
      apply place_eq _ most i k g' (by simp; omega)
      rw [at_snoc row e k (by omega), if_neg (by omega)]
      exact hid

theorem up_snoc {row : List Ent} (o : Ord row) (e : Ent) : Up row.length (row ++ [e]) := by
  refine ⟨?_, ?_⟩
  · intro i h0 hi hne
    simp at hi
    rw [at_snoc row e i (by omega), at_snoc row e _ (by omega), if_neg hne, if_neg (by omega)]
    exact o i h0 (by omega)
  · intro c h0 hc hp _
    simp at hc
    omega

def setPrio (row : List Ent) (p : Nat) (v : Int) : List Ent := row.set p ⟨(at' row p).id, v, (at' row p).seq⟩

theorem setPrio_length (row : List Ent) (p : Nat) (v : Int) : (setPrio row p v).length = row.length := by simp [setPrio]

theorem at_setPrio (row : List Ent) (p : Nat) (v : Int) (hp : p < row.length) (i : Nat) : at' (setPrio row p v) i = if i = p then ⟨(at' row p).id, v, (at' row p).seq⟩ else at' row i := by
  unfold setPrio
  rw [at_set]
  by_cases h : p = i
  · subst h; simp [hp]
  · rw [if_neg (by omega), if_neg (by omega)]

theorem id_setPrio (row : List Ent) (p : Nat) (v : Int) (hp : p < row.length) (i : Nat) : (at' (setPrio row p v) i).id = (at' row i).id := by
  rw [at_setPrio row p v hp]
  split
  · rename_i h; rw [h]
  · rfl

theorem good_setPrio {most : Nat} {row : List Ent} (g : Good most row) (p : Nat) (v : Int) (hp : p < row.length) : Good most (setPrio row p v) := by
  refine ⟨?_, ?_, ?_⟩
  · intro i hi; rw [setPrio_length] at hi; rw [id_setPrio row p v hp]; exact g.lo i hi
  · intro i hi; rw [setPrio_length] at hi; rw [id_setPrio row p v hp]; exact g.hi i hi
  · intro i j hi hj h; rw [setPrio_length] at hi hj; rw [id_setPrio row p v hp, id_setPrio row p v hp] at h; exact g.nd i j hi hj h

theorem atOf_setPrio {most : Nat} {row : List Ent} (g : Good most row) (p : Nat) (v : Int) (hp : p < row.length) : atOf most (setPrio row p v) = atOf most row := by
  have g' := good_setPrio g p v hp
  apply list_ext_int
  · simp [atOf_length]
  intro i hi
  rw [atOf_length] at hi
  rw [atOf_get _ _ _ hi, atOf_get _ _ _ hi]
  congr 1
  rcases place_cases row i with ⟨h0, hx⟩ | ⟨k, hk, hid, h0⟩
  · rw [h0]
    apply place_none
    intro j hj
    rw [setPrio_length] at hj
    rw [id_setPrio row p v hp]
    exact hx j hj
  · rw [h0]
    apply place_eq _ most i k g' (by rw [setPrio_length]; exact hk)
    rw [id_setPrio row p v hp]
    exact hid

theorem mid_setPrio {row : List Ent} (o : Ord row) (p : Nat) (v : Int) (hp : p < row.length) : Mid p (setPrio row p v) := by
  refine ⟨?_, ?_⟩
  · intro i h0 hi h1 h2
    rw [setPrio_length] at hi
    rw [at_setPrio row p v hp, at_setPrio row p v hp, if_neg h1, if_neg h2]
    exact o i h0 hi
  · intro c h0 hc h1 h2
    rw [setPrio_length] at hc
    rw [at_setPrio row p v hp, at_setPrio row p v hp, if_neg (by omega), if_neg (by omega)]
    have a := o c h0 hc
    rw [h1] at a
    exact nb_trans (o p h2 hp) a

/-- Without the last. -/
def cut (row : List Ent) : List Ent := row.take (row.length - 1)

theorem cut_length (row : List Ent) : (cut row).length = row.length - 1 := by simp [cut]

theorem at_cut (row : List Ent) (i : Nat) (h : i < row.length - 1) : at' (cut row) i = at' row i := by
  unfold at' cut
  rw [List.getD_eq_getElem?_getD, List.getD_eq_getElem?_getD, List.getElem?_take, if_pos h]

theorem good_cut {most : Nat} {row : List Ent} (g : Good most row) : Good most (cut row) := by
  refine ⟨?_, ?_, ?_⟩
  · intro i hi; rw [cut_length] at hi; rw [at_cut row i hi]; exact g.lo i (by omega)
  · intro i hi; rw [cut_length] at hi; rw [at_cut row i hi]; exact g.hi i (by omega)
  · intro i j hi hj h; rw [cut_length] at hi hj; rw [at_cut row i hi, at_cut row j hj] at h; exact g.nd i j (by omega) (by omega) h

theorem atOf_cut {most : Nat} {row : List Ent} (g : Good most row) (hl : 0 < row.length) : atOf most (cut row) = (atOf most row).set (at' row (row.length - 1)).id.toNat 0 := by
  have g' := good_cut g
  have l0 := g.lo (row.length - 1) (by omega)
  have l1 := g.hi (row.length - 1) (by omega)
  apply list_ext_int
  · simp [atOf_length]
  intro i hi
  rw [atOf_length] at hi
  rw [atOf_get _ _ _ hi, List.getElem?_set]
  simp only [atOf_length]
  by_cases h : (at' row (row.length - 1)).id.toNat = i
  · rw [if_pos h, if_pos (by omega)]
    congr 1
    apply place_none
    intro j hj
    rw [cut_length] at hj
    rw [at_cut row j hj]
    intro hc
    have := g.nd j (row.length - 1) (by omega) (by omega) (by omega)
    omega
  · rw [if_neg h, atOf_get _ _ _ hi]
    congr 1
    rcases place_cases row i with ⟨hp, hx⟩ | ⟨k, hk, hid, hp⟩
    · rw [hp]
      apply place_none
      intro j hj
      rw [cut_length] at hj
      rw [at_cut row j hj]
      exact hx j (by omega)
    · have hkl : k < row.length - 1 := by
        by_cases hkk : k = row.length - 1
        · subst hkk; omega
        · omega
      rw [hp]
      apply place_eq _ most i k g' (by rw [cut_length]; exact hkl)
      rw [at_cut row k hkl]
      exact hid

/-- Without the one at p: the last comes into its place. -/
def rem (row : List Ent) (p : Nat) : List Ent := cut (swp row p (row.length - 1))

theorem rem_length (row : List Ent) (p : Nat) : (rem row p).length = row.length - 1 := by
  unfold rem; rw [cut_length, swp_length]

theorem at_rem (row : List Ent) (p i : Nat) (hp : p < row.length) (h : i < row.length - 1) : at' (rem row p) i = if i = p then at' row (row.length - 1) else at' row i := by
  unfold rem
  rw [at_cut _ _ (by rw [swp_length]; exact h), at_swp row p _ i hp (by omega), if_neg (by omega)]

theorem mid_rem {row : List Ent} (o : Ord row) (p : Nat) (hp : p < row.length - 1) : Mid p (rem row p) := by
  refine ⟨?_, ?_⟩
  · intro i h0 hi h1 h2
    rw [rem_length] at hi
    rw [at_rem row p i (by omega) hi, at_rem row p _ (by omega) (by omega), if_neg h1, if_neg h2]
    exact o i h0 (by omega)
  · intro c h0 hc h1 h2
    rw [rem_length] at hc
    rw [at_rem row p c (by omega) hc, at_rem row p _ (by omega) (by omega), if_neg (by omega), if_neg (by omega)]
    have a := o c h0 (by omega)
    rw [h1] at a
    exact nb_trans (o p h2 (by omega)) a

theorem ord_rem_last {row : List Ent} (o : Ord row) (p : Nat) (hl : 0 < row.length) (hp : p = row.length - 1) : Ord (rem row p) := by
  intro i h0 hi
  rw [rem_length] at hi
  rw [at_rem row p i (by omega) hi, at_rem row p _ (by omega) (by omega), if_neg (by omega), if_neg (by omega)]
  exact o i h0 (by omega)

theorem cut_snoc (row : List Ent) (hl : 0 < row.length) : row = cut row ++ [at' row (row.length - 1)] := by
  unfold cut
  have : row.take (row.length - 1 + 1) = row := List.take_of_length_le (by omega)
  rw [← get_at row (row.length - 1) (by omega), ← List.take_succ_eq_append_getElem (by omega), this]

theorem rem_perm (row : List Ent) (p : Nat) (hp : p < row.length) : row.Perm (at' row p :: rem row p) := by
  have h1 := (swp_perm row p (row.length - 1) hp (by omega)).symm
  have h2 := cut_snoc (swp row p (row.length - 1)) (by rw [swp_length]; omega)
  rw [swp_length, at_swp row p _ _ hp (by omega), if_pos rfl] at h2
  refine h1.trans ?_
  rw [h2]
  exact List.perm_append_comm.trans (List.Perm.refl _)

end Go.Proofs.Ythlnbnklhajilaa.Hp
