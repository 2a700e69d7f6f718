/- Plain mathematics of a heap that is drained: all come out, the one that goes first ahead. -/
import Derived.Test.YthlnbnklhajilaaTwin
namespace Go.Proofs.Ythlnbnklhajilaa
open Go.RowKit Hp

theorem remR_len (row : List Ent) (p : Nat) : (remR row p).length = row.length - 1 := by
  unfold remR
  split
  · exact rem_length row p
  · rw [sink_len, rise_len, rem_length]

theorem remR_perm (row : List Ent) (p : Nat) (hp : p < row.length) : row.Perm (at' row p :: remR row p) := by
  refine (rem_perm row p hp).trans (List.Perm.cons _ ?_)
  unfold remR
  split
  · exact List.Perm.refl _
  · have h1 := rise_perm p (rem row p) p (by rw [rem_length]; omega)
    have h2 := sink_perm (row.length - 1) (rise p (rem row p) p) p (by rw [rise_len, rem_length]; omega)
    exact (h2.trans h1).symm

theorem remR_ord {row : List Ent} (o : Ord row) (p : Nat) (hp : p < row.length) : Ord (remR row p) := by
  unfold remR
  split
  · rename_i h; exact ord_rem_last o p (by omega) h
  · have := settle_ord (rem row p) p (by rw [rem_length]; omega) (mid_rem o p (by omega))
    rw [rem_length] at this
    exact this

namespace Hp
def drn : Nat → List Ent → List Ent
  | 0, _ => []
  | f + 1, row => at' row 0 :: drn f (remR row 0)
end Hp

theorem drain_len : ∀ (f : Nat) (row : List Ent), (drn f row).length = f
  | 0, _ => rfl
  | f + 1, row => by simp [drn, drain_len f]

theorem drain_perm : ∀ (f : Nat) (row : List Ent), row.length = f → (drn f row).Perm row
  | 0, row, h => by
    have : row = [] := List.eq_nil_of_length_eq_zero h
    subst this; exact List.Perm.refl _
  | f + 1, row, h => by
    unfold drn
    exact (List.Perm.cons _ (drain_perm f (remR row 0) (by rw [remR_len]; omega))).trans (remR_perm row 0 (by omega)).symm

theorem mem_at {row : List Ent} {x : Ent} (h : x ∈ row) : ∃ i, i < row.length ∧ x = at' row i := by
  obtain ⟨i, hi, rfl⟩ := List.getElem_of_mem h
  exact ⟨i, hi, Hp.get_at row i hi⟩
theorem at_mem {row : List Ent} {i : Nat} (h : i < row.length) : at' row i ∈ row := by
  rw [← Hp.get_at row i h]; exact List.getElem_mem h

/-- Not behind. -/
def nb (x y : Ent) : Prop := ahd y x = false

theorem drain_sorted : ∀ (f : Nat) (row : List Ent), row.length = f → Ord row → (drn f row).Pairwise nb
  | 0, _, _, _ => List.Pairwise.nil
  | f + 1, row, h, o => by
    unfold drn
    refine List.Pairwise.cons ?_ (drain_sorted f (remR row 0) (by rw [remR_len]; omega) (remR_ord o 0 (by omega)))
    intro y hy
    have h1 := (drain_perm f (remR row 0) (by rw [remR_len]; omega)).mem_iff.1 hy
    have h2 : y ∈ row := (remR_perm row 0 (by omega)).mem_iff.2 (List.mem_cons_of_mem _ h1)
    obtain ⟨i, hi, rfl⟩ := mem_at h2
    exact ord_head row o i hi

/-- Ids are unlike. -/
def Uniq (S : List Ent) : Prop := ∀ x, x ∈ S → ∀ y, y ∈ S → x.id = y.id → x = y

theorem good_uniq {most : Nat} {row : List Ent} (g : Hp.Good most row) : Uniq row := by
  intro x hx y hy h
  obtain ⟨i, hi, rfl⟩ := mem_at hx
  obtain ⟨j, hj, rfl⟩ := mem_at hy
  rw [g.nd i j hi hj h]

theorem uniq_perm {S T : List Ent} (h : Uniq S) (p : T.Perm S) : Uniq T :=
  fun x hx y hy e => h x (p.mem_iff.1 hx) y (p.mem_iff.1 hy) e

/-- Two rows of the same entries, both in their order, are one. -/
theorem sorted_eq {S T : List Ent} (u : Uniq T) (hS : S.Pairwise nb) (hT : T.Pairwise nb) (p : S.Perm T) : S = T := by
  refine List.Perm.eq_of_pairwise ?_ hS hT p
  intro a b ha hb h1 h2
  have ha' := p.mem_iff.1 ha
  by_cases hid : a.id = b.id
  · exact u a ha' b hb hid
  · rcases ahd_total hid with h | h
    · rw [show ahd a b = false from h2] at h; cases h
    · rw [show ahd b a = false from h1] at h; cases h

end Go.Proofs.Ythlnbnklhajilaa
