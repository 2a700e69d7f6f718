/- Sets that came in. -/
import Derived.Test.YtlkbphogpbcjfaaDoorOpX
import Derived.Test.YtlkbphogpbcjfaaDoorPgA
namespace Go.Proofs.YtlkbphogpbcjfaaDoor
open Go.ChangeShapes Go.WideShapes Go.ChangeAt Go.RowKit Go.Deep

theorem o9 : Tryd.prog.cellsOf 9 = 1 := by kernel_rfl
end Go.Proofs.YtlkbphogpbcjfaaDoor
