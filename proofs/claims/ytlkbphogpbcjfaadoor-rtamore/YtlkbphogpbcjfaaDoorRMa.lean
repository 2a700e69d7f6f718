/- The reference's Match, of any place. -/
import Derived.Test.YtlkbphogpbcjfaaDoorRMt
namespace Go.Proofs.YtlkbphogpbcjfaaDoor
open Go.RowKit

/-- As the reference goes back from an End. -/
def rbwd (d : Int) (i : Int) : List OpD → Int
  | [] => -1
  | o :: r => if o.kind = 9 then rbwd (d + 1) (i - 1) r else if o.kind = 8 then (if d - 1 = 0 then i else rbwd (d - 1) (i - 1) r) else rbwd d (i - 1) r
theorem rbwd_eq : ∀ (p : List OpD) (d i : Int), 1 ≤ d → rbwd d i p = bwdGo (-d) i p
  | [], _, _, _ => rfl
  | o :: r, d, i, hd => by
    rw [rbwd, bwdGo]
    by_cases k9 : o.kind = 9
    · have e : dK o = -1 := by unfold dK; rw [if_neg (by omega), if_pos k9]
      rw [if_pos k9, e, if_neg (by omega), rbwd_eq r (d + 1) (i - 1) (by omega)]
      congr 1
      omega
    · by_cases k8 : o.kind = 8
      · have e : dK o = 1 := by unfold dK; rw [if_pos k8]
        rw [if_neg k9, if_pos k8, e]
        by_cases h0 : d - 1 = 0
        · rw [if_pos h0, if_pos (by omega)]
        · rw [if_neg h0, if_neg (by omega), rbwd_eq r (d - 1) (i - 1) (by omega)]
          congr 1
          omega
      · have e : dK o = 0 := by unfold dK; rw [if_neg k8, if_neg k9]
        rw [if_neg k9, if_neg k8, e, if_neg (by omega), rbwd_eq r d (i - 1) hd, Int.add_zero]

end Go.Proofs.YtlkbphogpbcjfaaDoor
