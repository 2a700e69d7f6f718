/- The reference's Match. -/
import Derived.Test.YtlkbphogpbcjfaaDoorPgA
namespace Go.Proofs.YtlkbphogpbcjfaaDoor
open Go.RowKit

/-- As the reference goes: it looks at the count behind an End alone. -/
def rfwd (d : Int) (i : Nat) : List OpD → Int
  | [] => -1
  | o :: r => if o.kind = 8 then rfwd (d + 1) (i + 1) r else if o.kind = 9 then (if d - 1 = 0 then (i : Int) else rfwd (d - 1) (i + 1) r) else rfwd d (i + 1) r
theorem rfwd_eq : ∀ (p : List OpD) (d : Int) (i : Nat), 1 ≤ d → rfwd d i p = fwdGo d i p
  | [], _, _, _ => rfl
  | o :: r, d, i, hd => by
    rw [rfwd, fwdGo]
    by_cases k8 : o.kind = 8
    · have e : dK o = 1 := by unfold dK; rw [if_pos k8]
      rw [if_pos k8, e, if_neg (by omega), rfwd_eq r (d + 1) (i + 1) (by omega)]
    · by_cases k9 : o.kind = 9
      · have e : dK o = -1 := by unfold dK; rw [if_neg k8, if_pos k9]
        rw [if_neg k8, if_pos k9, e]
        by_cases h0 : d - 1 = 0
        · rw [if_pos h0, if_pos (by omega)]
        · rw [if_neg h0, if_neg (by omega), rfwd_eq r (d - 1) (i + 1) (by omega)]
          rfl
      · have e : dK o = 0 := by unfold dK; rw [if_neg k8, if_neg k9]
        rw [if_neg k8, if_neg k9, e, if_neg (by omega), rfwd_eq r d (i + 1) hd, Int.add_zero]

end Go.Proofs.YtlkbphogpbcjfaaDoor
