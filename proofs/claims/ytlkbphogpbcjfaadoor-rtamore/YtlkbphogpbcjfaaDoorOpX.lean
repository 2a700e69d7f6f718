/- An op that came in, cell by cell. Ops that came in: a slice of them. -/
import Derived.Test.YtlkbphogpbcjfaaDoorCaA
import Derived.ProofKit
import Derived.OpenShut
import Derived.ShutString
import Derived.ChangeOld
import Derived.ChangeArms
import Derived.WideShapes
import Derived.Below
import Derived.Deep.Slices
import Derived.Deep.SlicePairs
namespace Go.Proofs.YtlkbphogpbcjfaaDoor
open Go.ChangeShapes Go.WideShapes Go.ChangeAt Go.RowKit Go.Deep

theorem o4 : Tryd.prog.cellsOf 4 = 1 := by kernel_rfl
theorem o3 : Tryd.prog.cellsOf 3 = 1 := by kernel_rfl
theorem o2 : Tryd.prog.cellsOf 2 = 1 := by kernel_rfl

theorem wf64 {n : Int} (h : (Lit.int .i64 n).wf = true) : in64 n := by
  obtain ⟨h1, h2⟩ := bounds_i64 h
  exact ⟨h1, h2⟩
end Go.Proofs.YtlkbphogpbcjfaaDoor
namespace Go.Proofs.YtlkbphogpbcjfaaDoor
open Go.ChangeShapes Go.WideShapes Go.ChangeAt Go.RowKit Go.Deep

end Go.Proofs.YtlkbphogpbcjfaaDoor
