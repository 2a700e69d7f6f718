/- The reference's CheckOp. The reference's CheckOp of a select. -/
import Derived.Test.YtlkbphogpbcjfaaDoorPgA
namespace Go.Proofs.YtlkbphogpbcjfaaDoor
open Go.RowKit

theorem casesE_nil {l : List CaseD} (h : l.length = 0) : casesE [] l = 0 := by rw [List.eq_nil_of_length_eq_zero h]; rfl
end Go.Proofs.YtlkbphogpbcjfaaDoor
namespace Go.Proofs.YtlkbphogpbcjfaaDoor
open Go.RowKit

end Go.Proofs.YtlkbphogpbcjfaaDoor
