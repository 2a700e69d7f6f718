/- What a program costs, by all that is done. -/
import Derived.Test.YtembbhbbmkijcaaDoorFlt
namespace Go.Proofs.YtembbhbbmkijcaaDoor

def costF : List OpD → Int
  | [] => 0
  | o :: r => (if o.kind = 1 then o.n else 0) + costF r
theorem costF_append : ∀ a b : List OpD, costF (a ++ b) = costF a + costF b
  | [], b => by simp [costF]
  | o :: r, b => by
    rw [List.cons_append, costF, costF, costF_append r b]
    omega
theorem costF_rep (g : List OpD) : ∀ n : Nat, costF (rep n g) = (n : Int) * costF g
  | 0 => by simp [rep, costF]
  | n + 1 => by
    rw [rep_succ, costF_append, costF_rep g n, Int.natCast_add, Int.add_mul]
    simp
theorem cost_bal {d m m' : Nat} {p f : List OpD} (h : Bal d m m' p f) : (∀ o ∈ p, 0 ≤ o.n) → ∀ (t : Int) (st : List Int) (r : List OpD), sumL (costs (p ++ r) (timesGo (t :: st) (p ++ r))) = t * costF f + sumL (costs r (timesGo (t :: st) r)) := by
  induction h with
  | nil => intro _ t st r; simp [costF]
  | @one d m m1 m' o p f h8 h9 _ _ ih =>
    intro hn t st r
    rw [List.cons_append, timesGo, if_neg h8, if_neg h9, costs, sumL, ih (fun o ho => hn o (by simp [ho])) t st r, costF, Int.mul_add]
    simp only [List.headD_cons]
    split
    · omega
    · simp
  | @loop d m m' o e b g p f h8 h9 _ _ ihb ihp =>
    intro hn t st r
    have ho : 0 ≤ o.n := hn o (by simp)
    obtain ⟨R, hR⟩ : ∃ R : Nat, o.n = (R : Int) := ⟨o.n.toNat, by omega⟩
    have e9 : e.kind ≠ 8 := by omega
    have o1 : o.kind ≠ 1 := by omega
    have e1 : e.kind ≠ 1 := by omega
    rw [List.cons_append, timesGo, if_pos h8, costs, if_neg o1, sumL, List.append_assoc, ihb (fun o ho => hn o (by simp [ho])) _ _ _, List.cons_append, timesGo, if_neg e9, if_pos h9, if_pos (by simp), costs, if_neg e1, sumL]
    have ih2 := ihp (fun o ho => hn o (by simp [ho])) t st r
    simp only [List.tail_cons, List.headD_cons]
    rw [ih2, costF_append, costF_rep, hR, show ((R : Int)).toNat = R from rfl, Int.mul_add, Int.mul_assoc]
    omega
/-- What it costs is what all its Runs have, as often as they are done. -/
theorem cost_len {p f : List OpD} (h : Bal 3 0 0 p f) (hc : ∀ o ∈ p, checkD o = 0) : costD p = costF f := by
  have := cost_bal h (fun o ho => op_pos (hc o ho)) 1 [] []
  rw [List.append_nil] at this
  unfold costD
  rw [this]
  simp [costs, sumL]
end Go.Proofs.YtembbhbbmkijcaaDoor
