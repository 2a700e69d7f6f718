/- Few, ToAll and the reference's ProgWaits, of a program. -/
import Derived.Test.YtlkbphogpbcjfaaDoorTo
import Derived.Test.YtlkbphogpbcjfaaDoorCop
import Derived.Test.YtlkbphogpbcjfaaDoorPgA
namespace Go.Proofs.YtlkbphogpbcjfaaDoor
open Go.RowKit

def fewGo : List OpD → Bool
  | [] => true
  | o :: r => if o.cases.length ≤ 20 then fewGo r else false
def fewP (p : List OpD) : Bool := if 60 < p.length then false else fewGo p
theorem few_all : ∀ (p : List OpD), fewGo p = true → ∀ o ∈ p, o.cases.length ≤ 20
  | [], _, o, ho => by cases ho
  | x :: r, h, o, ho => by
    rw [fewGo] at h
    split at h
    · rename_i hx
      rcases List.mem_cons.1 ho with rfl | ho
      · exact hx
      · exact few_all r h o ho
    · cases h

end Go.Proofs.YtlkbphogpbcjfaaDoor
