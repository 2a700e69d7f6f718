/- checkTask, checkTasks, Check, Need, Waits of a set. -/
import Derived.Test.YtembbhbbmkijcaaDoorSetM
namespace Go.Proofs.YtembbhbbmkijcaaDoor
open Go.RowKit

theorem costD_i64 {p : List OpD} (h : checkP p = (0, 0)) : 0 ≤ costD p ∧ costD p ≤ 512000 := by
  obtain ⟨_, hc, _, f, hb, hf⟩ := taken_prog h
  rw [cost_len hb hc]
  have key : ∀ g : List OpD, (∀ o ∈ g, checkD o = 0) → 0 ≤ costF g ∧ costF g ≤ 1000 * (g.length : Int) := by
    intro g
    induction g with
    | nil => intro _; simp [costF]
    | cons o r ih =>
      intro hg
      have h1 := ih (fun q hq => hg q (by simp [hq]))
      rw [costF, List.length_cons]
      split
      · rename_i hk
        obtain ⟨k, n, v, wt, l⟩ := o
        simp only at hk
        subst hk
        have h2 := run_n (hg ⟨1, n, v, wt, l⟩ (by simp))
        simp only
        omega
      · omega
  have := key f (fun o ho => hc o (bal_mem hb o ho).1)
  omega
theorem checkP_0 {p : List OpD} (h : (checkP p).2 = 0) : checkP p = (0, 0) := by
  unfold checkP at h ⊢
  split
  · rename_i h1; rw [if_pos h1] at h; simp at h
  · rename_i h1
    rw [if_neg h1] at h
    split
    · rename_i h2
      rw [if_pos h2] at h
      split
      · rename_i h3
        rw [if_pos h3] at h
        split
        · rename_i h4; rw [if_pos h4] at h; simp at h
        · rfl
      · rename_i h3; rw [if_neg h3] at h; exact absurd h h3
    · rename_i h2; rw [if_neg h2] at h; exact absurd h h2

end Go.Proofs.YtembbhbbmkijcaaDoor
