/- Match. -/
import Derived.Test.YtockpcoegdaipabDoorRow
namespace Go.Proofs.YtockpcoegdaipabDoor
open Go.RowKit

def dK (o : OpD) : Int := if o.kind = 8 then 1 else if o.kind = 9 then -1 else 0
theorem dK_bd (o : OpD) : -1 ≤ dK o ∧ dK o ≤ 1 := by unfold dK; split <;> (try split) <;> omega
def fwdGo (d : Int) (i : Nat) : List OpD → Int
  | [] => -1
  | o :: r => if d + dK o = 0 then (i : Int) else fwdGo (d + dK o) (i + 1) r
/-- Backwards: the op at place i first. -/
def bwdGo (d : Int) (i : Int) : List OpD → Int
  | [] => -1
  | o :: r => if d + dK o = 0 then i else bwdGo (d + dK o) (i - 1) r
def matchD (p : List OpD) (i : Int) : Int :=
  if i < 0 ∨ (p.length : Int) ≤ i then -1 else
  match p[i.toNat]? with
  | none => -1
  | some o => if o.kind = 8 then fwdGo 0 i.toNat (p.drop i.toNat) else if o.kind = 9 then bwdGo 0 i (p.take (i.toNat + 1)).reverse else -1

theorem dK8 {n v wt : Int} {l : List CaseD} : dK ⟨8, n, v, wt, l⟩ = 1 := rfl
theorem dK9 {n v wt : Int} {l : List CaseD} : dK ⟨9, n, v, wt, l⟩ = -1 := rfl
theorem dKo {k n v wt : Int} {l : List CaseD} (h8 : k ≠ 8) (h9 : k ≠ 9) : dK ⟨k, n, v, wt, l⟩ = 0 := by unfold dK; rw [if_neg h8, if_neg h9]
theorem take_rev {p : List OpD} {j : Nat} {o : OpD} (h : p[j]? = some o) : (p.take (j + 1)).reverse = o :: (p.take j).reverse := by
  rw [List.take_add_one, h]
  simp
end Go.Proofs.YtockpcoegdaipabDoor
