/- Plain mathematics of a heap in which one is raised above all, or lowered below all. -/
import Derived.Test.YthlnbnklhajilaaSame
namespace Go.Proofs.Ythlnbnklhajilaa
open Go.RowKit Hp

/-- The row behind Set of the one at p. -/
def setR (row : List Ent) (p : Nat) (v : Int) : List Ent := sink row.length (rise p (setPrio row p v) p) p

theorem setR_len (row : List Ent) (p : Nat) (v : Int) : (setR row p v).length = row.length := by
  unfold setR; rw [sink_len, rise_len, setPrio_length]

theorem setR_perm (row : List Ent) (p : Nat) (v : Int) (hp : p < row.length) : (setR row p v).Perm (setPrio row p v) := by
  unfold setR
  have h1 := rise_perm p (setPrio row p v) p (by rw [setPrio_length]; exact hp)
  have h2 := sink_perm row.length (rise p (setPrio row p v) p) p (by rw [rise_len, setPrio_length]; exact hp)
  exact h2.trans h1

theorem setR_ord {row : List Ent} (o : Ord row) (p : Nat) (v : Int) (hp : p < row.length) : Ord (setR row p v) := by
  have := settle_ord (setPrio row p v) p (by rw [setPrio_length]; exact hp) (mid_setPrio o p v hp)
  rw [setPrio_length] at this
  exact this

theorem setR_mem {most : Nat} {row : List Ent} (g : Hp.Good most row) (p : Nat) (v : Int) (hp : p < row.length) (x : Ent) :
    x ∈ setR row p v ↔ x = ⟨(at' row p).id, v, (at' row p).seq⟩ ∨ (x ∈ row ∧ x.id ≠ (at' row p).id) := by
  rw [(setR_perm row p v hp).mem_iff]
  constructor
  · intro hx
    obtain ⟨i, hi, rfl⟩ := mem_at hx
    rw [setPrio_length] at hi
    rw [at_setPrio row p v hp]
    by_cases hip : i = p
    · rw [if_pos hip]; left; rfl
    · rw [if_neg hip]; right
      exact ⟨at_mem hi, fun e => hip (g.nd i p hi hp e)⟩
  · rintro (rfl | ⟨hx, hne⟩)
    · have : at' (setPrio row p v) p = ⟨(at' row p).id, v, (at' row p).seq⟩ := by rw [at_setPrio row p v hp, if_pos rfl]
      rw [← this]
      exact at_mem (by rw [setPrio_length]; exact hp)
    · obtain ⟨i, hi, rfl⟩ := mem_at hx
      have hip : i ≠ p := fun e => hne (by rw [e])
      have : at' (setPrio row p v) i = at' row i := by rw [at_setPrio row p v hp, if_neg hip]
      rw [← this]
      exact at_mem (by rw [setPrio_length]; exact hi)

/-- What a heap is drained to, told otherwise. -/
theorem drain_is {most : Nat} {row T : List Ent} (g : Hp.Good most row) (o : Ord row) (hT : T.Pairwise nb) (hn : T.Nodup) (h : ∀ x, x ∈ row ↔ x ∈ T) : drn row.length row = T := by
  have hp : row.Perm T := (List.perm_ext_iff_of_nodup (good_nodup g) hn).2 h
  have pr := drain_perm row.length row rfl
  exact sorted_eq (uniq_perm (good_uniq g) hp.symm) (drain_sorted _ row rfl o) hT (pr.trans hp)

theorem drain_mem (row : List Ent) (x : Ent) : x ∈ drn row.length row ↔ x ∈ row := (drain_perm row.length row rfl).mem_iff
theorem drain_nodup {most : Nat} {row : List Ent} (g : Hp.Good most row) : (drn row.length row).Nodup := (drain_perm row.length row rfl).nodup_iff.2 (good_nodup g)

def notK (k : Int) (x : Ent) : Bool := decide (x.id ≠ k)

theorem raised_first {most : Nat} {row : List Ent} {p : Nat} {v : Int} (g : Hp.Good most row) (g' : Hp.Good most (setR row p v)) (o : Ord row) (hp : p < row.length) (hv : ∀ x, x ∈ row → x.prio < v) :
    drn row.length (setR row p v) = ⟨(at' row p).id, v, (at' row p).seq⟩ :: (drn row.length row).filter (notK (at' row p).id) := by
  have h := drain_is (T := ⟨(at' row p).id, v, (at' row p).seq⟩ :: (drn row.length row).filter (notK (at' row p).id)) g' (setR_ord o p v hp) ?_ ?_ ?_
  · rw [setR_len] at h; exact h
  · refine List.Pairwise.cons ?_ ((drain_sorted _ row rfl o).filter _)
    intro y hy
    have hy' := (drain_mem row y).1 (List.mem_filter.1 hy).1
    have := hv y hy'
    show ahd y _ = false
    rw [ahd_not]
    simp only
    omega
  · refine List.nodup_cons.2 ⟨?_, (drain_nodup g).filter _⟩
    intro hx
    have := (List.mem_filter.1 hx).2
    simp [notK] at this
  · intro x
    rw [setR_mem g p v hp, List.mem_cons, List.mem_filter, drain_mem]
    simp [notK]

theorem lowered_last {most : Nat} {row : List Ent} {p : Nat} {v : Int} (g : Hp.Good most row) (g' : Hp.Good most (setR row p v)) (o : Ord row) (hp : p < row.length) (hv : ∀ x, x ∈ row → x.id ≠ (at' row p).id → v < x.prio) :
    drn row.length (setR row p v) = (drn row.length row).filter (notK (at' row p).id) ++ [⟨(at' row p).id, v, (at' row p).seq⟩] := by
  have h := drain_is (T := (drn row.length row).filter (notK (at' row p).id) ++ [⟨(at' row p).id, v, (at' row p).seq⟩]) g' (setR_ord o p v hp) ?_ ?_ ?_
  · rw [setR_len] at h; exact h
  · rw [List.pairwise_append]
    refine ⟨(drain_sorted _ row rfl o).filter _, List.pairwise_singleton _ _, ?_⟩
    intro y hy z hz
    simp only [List.mem_singleton] at hz
    subst hz
    have hy' := (drain_mem row y).1 (List.mem_filter.1 hy).1
    have hk := (List.mem_filter.1 hy).2
    simp [notK] at hk
    have := hv y hy' hk
    show ahd _ y = false
    rw [ahd_not]
    simp only
    omega
  · rw [List.nodup_append]
    refine ⟨(drain_nodup g).filter _, by simp, ?_⟩
    intro a ha b hb
    simp only [List.mem_singleton] at hb
    subst hb
    have := (List.mem_filter.1 ha).2
    simp [notK] at this
    intro e
    exact this (by rw [e])
  · intro x
    rw [setR_mem g p v hp, List.mem_append, List.mem_filter, drain_mem]
    simp [notK]
    constructor
    · rintro (h | h)
      · exact .inr h
      · exact .inl h
    · rintro (h | h)
      · exact .inr h
      · exact .inl h

theorem filter_ids (l : List Ent) (k : Int) : (l.filter (notK k)).map (·.id) = (l.map (·.id)).filter (fun i => decide (i ≠ k)) := by
  induction l with
  | nil => rfl
  | cons x r ih =>
    by_cases h : x.id = k
    · simp [notK, h] at ih ⊢; exact ih
    · simp [notK, h] at ih ⊢; exact ih

end Go.Proofs.Ythlnbnklhajilaa
