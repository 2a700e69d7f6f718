/- takes, checkCases, Check. -/
import Derived.Test.YtembbhbbmkijcaaDoorCas
import Derived.Deep.LoopGhost
namespace Go.Proofs.YtembbhbbmkijcaaDoor
open Go.RowKit

theorem ret_bool {x y : Bool} (h : x = y) : Ending.returned (.bool x) = Ending.returned (.bool y) := by rw [h]
theorem ret_int {x y : Int} (h : x = y) : Ending.returned (.int .i64 x) = Ending.returned (.int .i64 y) := by rw [h]

set_option maxHeartbeats 1000000 in
theorem takes_any (wd : List UInt8) (hn hv hw hp : Bool) (le mo : Int) (k n v wt : Int) (a : Option Addr) (m c : Nat) (w : World) :
    Calls Tryd.prog 78 #[.agg #[.string (B wd), .bool hn, .bool hv, .bool hw, .bool hp, .int .i64 le, .int .i64 mo], .agg #[.int .i64 k, .int .i64 n, .int .i64 v, .int .i64 wt, .slice a m c]] w fun e w' => e = .returned (.bool (takesB ⟨wd, hn, hv, hw, hp, le, mo⟩ n v wt m)) ∧ Kept w w' := by
  go_enter Tryd.func78, Tryd.ntmps78
  go_wp2_with fail
  all_goals (go_ret; refine ⟨?_, ((Kept.refl w).alloc _).alloc _⟩; refine ret_bool ?_; rw [Bool.eq_iff_iff]; cases hv <;> cases hw <;> cases hp <;> simp [takesB] at * <;> omega)
end Go.Proofs.YtembbhbbmkijcaaDoor
