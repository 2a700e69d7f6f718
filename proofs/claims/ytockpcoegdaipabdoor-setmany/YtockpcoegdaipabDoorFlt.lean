/- Flat, Section, Waits. -/
import Derived.Test.YtockpcoegdaipabDoorUnr
import Derived.Test.YtockpcoegdaipabDoorStp
namespace Go.Proofs.YtockpcoegdaipabDoor
open Go.RowKit

/-- As many steps as there are ops done. -/
theorem times_bal {d m m' : Nat} {p f : List OpD} (h : Bal d m m' p f) : (∀ o ∈ p, 0 ≤ o.n) → ∀ (t : Int) (st : List Int) (r : List OpD), sumL (timesGo (t :: st) (p ++ r)) = t * f.length + sumL (timesGo (t :: st) r) := by
  induction h with
  | nil => intro _ t st r; simp
  | @one d m m1 m' o p f h8 h9 _ _ ih =>
    intro hn t st r
    rw [List.cons_append, timesGo, if_neg h8, if_neg h9, sumL, ih (fun o ho => hn o (by simp [ho])) t st r, List.length_cons]
    simp only [List.headD_cons, Int.natCast_add, Int.mul_add]
    simp
    omega
  | @loop d m m' o e b g p f h8 h9 _ _ ihb ihp =>
    intro hn t st r
    have ho : 0 ≤ o.n := hn o (by simp)
    obtain ⟨R, hR⟩ : ∃ R : Nat, o.n = (R : Int) := ⟨o.n.toNat, by omega⟩
    have e9 : e.kind ≠ 8 := by omega
    rw [List.cons_append, timesGo, if_pos h8, sumL, List.append_assoc, ihb (fun o ho => hn o (by simp [ho])) _ _ _, List.cons_append, timesGo, if_neg e9, if_pos h9, if_pos (by simp), sumL]
    have ih2 := ihp (fun o ho => hn o (by simp [ho])) t st r
    simp only [List.tail_cons, List.headD_cons]
    rw [ih2, List.length_append, rep_len, hR, show ((R : Int)).toNat = R from rfl, Int.natCast_add, Int.natCast_mul, Int.mul_add, Int.mul_assoc]
    omega
theorem op_pos {o : OpD} (h : checkD o = 0) : 0 ≤ o.n := by
  have ht := (taken_of h).takes
  have hl : ∀ k : Nat, 0 ≤ (shapeOf k).least := by intro k; unfold shapeOf; split <;> simp
  have := hl o.kind.toNat
  simp only [takesB, Bool.and_eq_true, Bool.not_eq_true', Bool.or_eq_false_iff, decide_eq_false_iff_not] at ht
  omega
theorem steps_len {p f : List OpD} (h : Bal 3 0 0 p f) (hc : ∀ o ∈ p, checkD o = 0) : stepsD p = (f.length : Int) := by
  have := times_bal h (fun o ho => op_pos (hc o ho)) 1 [] []
  rw [List.append_nil] at this
  unfold stepsD
  rw [this]
  simp [timesGo, sumL]
/-- What Check takes. -/
theorem taken_prog {p : List OpD} (h : checkP p = (0, 0)) : p.length ≤ 48 ∧ (∀ o ∈ p, checkD o = 0) ∧ runM 0 [] p = some (0, []) ∧ ∃ f, Bal 3 0 0 p f ∧ f.length ≤ 512 := by
  unfold checkP at h
  split at h
  · simp at h
  · rename_i h48
    split at h
    · rename_i he
      split at h
      · rename_i ho
        split at h
        · simp at h
        · rename_i hs
          have hc := each_all p 0 he
          obtain ⟨f, hf⟩ := ord_bal ho
          refine ⟨by omega, hc, run_of_ord ho, f, hf, ?_⟩
          have := steps_len hf hc
          omega
      · rename_i ho
        rw [h] at ho
        simp at ho
    · rename_i he
      rw [h] at he
      simp at he

/-- Does any op wait? -/
def anyW : List OpD → Bool
  | [] => false
  | o :: r => waitsD o || anyW r
def idxW (i : Nat) : List OpD → Int
  | [] => -1
  | o :: r => if waitsD o = true then (i : Int) else idxW (i + 1) r
theorem idx_any : ∀ (p : List OpD) (i : Nat), decide (0 ≤ idxW i p) = anyW p
  | [], _ => by simp [idxW, anyW]
  | o :: r, i => by
    rw [idxW, anyW]
    cases h : waitsD o with
    | true => simp
    | false => simp [idx_any r (i + 1)]
/-- The most that runs cost from a Lock of it to its Unlock. -/
def secGo (lock : Int) (most cost : Int) : List OpD → Int
  | [] => most
  | o :: r => if o.kind = 1 then secGo lock most (cost + o.n) r else if o.kind = 2 ∧ o.n = lock then secGo lock most 0 r else if o.kind = 3 ∧ o.n = lock then secGo lock (max most cost) cost r else secGo lock most cost r

end Go.Proofs.YtockpcoegdaipabDoor
