/- Programs in order, one behind the other. -/
import Derived.Test.YtembbhbbmkijcaaDoorCst
namespace Go.Proofs.YtembbhbbmkijcaaDoor

theorem bal_app {d m m' m'' : Nat} {p f q g : List OpD} (h : Bal d m m' p f) (h2 : Bal d m' m'' q g) : Bal d m m'' (p ++ q) (f ++ g) := by
  induction h with
  | nil => exact h2
  | one h8 h9 ht _ ih => exact .one h8 h9 ht (ih h2)
  | loop h8 h9 hb _ _ ihp =>
    have := Bal.loop h8 h9 hb (ihp h2)
    simpa using this
theorem take_any {m m1 : Nat} {o : OpD} (h8 : o.kind ≠ 8) (h9 : o.kind ≠ 9) (ht : takeM m [] o = some (m1, [])) (lp : List Nat) : takeM m lp o = some (m1, lp) := by
  unfold takeM at ht ⊢
  rw [if_neg h8, if_neg h9] at ht ⊢
  split at ht
  · rename_i h2
    rw [if_pos h2]
    split at ht
    · rename_i hc
      rw [if_pos hc]
      cases ht
      rfl
    · cases ht
  · rename_i h2
    rw [if_neg h2]
    split at ht
    · rename_i h3
      rw [if_pos h3]
      split at ht
      · rename_i hc
        rw [if_pos hc]
        cases ht
        rfl
      · cases ht
    · rename_i h3
      rw [if_neg h3]
      split at ht
      · rename_i hc
        rw [if_pos hc]
        cases ht
        rfl
      · cases ht
theorem bal_run {d m m' : Nat} {p f : List OpD} (h : Bal d m m' p f) : ∀ (lp : List Nat) (q : List OpD), lp.length + d ≤ 3 → runM m lp (p ++ q) = runM m' lp q := by
  induction h with
  | nil => intro lp q _; rfl
  | one h8 h9 ht _ ih =>
    intro lp q hl
    rw [List.cons_append, runM, take_any h8 h9 ht lp]
    exact ih lp q hl
  | @loop d m m' o e b g p f h8 h9 hb _ ihb ihp =>
    intro lp q hl
    have t1 : takeM m lp o = some (m, m :: lp) := by
      unfold takeM
      rw [if_neg (by omega), if_neg (by omega), if_pos h8, if_neg (by omega)]
    have t2 : takeM m (m :: lp) e = some (m, lp) := by
      unfold takeM
      rw [if_neg (by omega), if_neg (by omega), if_neg (by omega), if_pos h9]
      simp
    rw [List.cons_append, runM, t1]
    simp only
    rw [List.append_assoc, ihb (m :: lp) _ (by simp; omega), List.cons_append, runM, t2]
    exact ihp lp q hl
theorem run_ord : ∀ (p : List OpD) (i m : Nat) (lp : List Nat), runM m lp p = some (0, []) → ordGo i m lp p = (0, 0)
  | [], _, _, _, _ => rfl
  | o :: r, i, m, lp, h => by
    rw [runM] at h
    rw [ordGo]
    cases ht : takeM m lp o with
    | none => rw [ht] at h; cases h
    | some y =>
      obtain ⟨m1, lp1⟩ := y
      rw [ht] at h
      simp only at h ⊢
      rw [if_neg, run_ord r (i + 1) m1 lp1 h]
      rintro ⟨rfl, hc⟩
      simp only [runM, Option.some.injEq, Prod.mk.injEq] at h
      rcases hc with hc | hc
      · exact hc h.1
      · exact hc h.2
theorem bal_ord {p f : List OpD} (h : Bal 3 0 0 p f) : ordGo 0 0 [] p = (0, 0) := by
  refine run_ord p 0 0 [] ?_
  have := bal_run h [] [] (by simp)
  rw [List.append_nil] at this
  rw [this]
  rfl
/-- What is in order, of ops that may be, not too many, not too long, may be. -/
theorem bal_check {p f : List OpD} (h : Bal 3 0 0 p f) (hl : p.length ≤ 48) (hc : ∀ o ∈ p, checkD o = 0) (hf : f.length ≤ 512) : checkP p = (0, 0) := by
  unfold checkP
  rw [if_neg (by omega), all_each _ 0 hc, if_pos rfl, bal_ord h, if_pos rfl, steps_len h hc, if_neg (by omega)]
end Go.Proofs.YtembbhbbmkijcaaDoor
