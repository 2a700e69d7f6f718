/- The law's own known, of ceilings. -/
import Derived.Test.YtlkbphogpbcjfaaGreatDoorQCe
import Derived.Test.YtlkbphogpbcjfaaGreatDoorQTw
import Derived.Test.YtlkbphogpbcjfaaGreatDoorQbase
namespace Go.Proofs.YtlkbphogpbcjfaaGreatDoor
open Go.RowKit

/-- Numbers as they are written. -/
theorem lit_nums (w : World) (t : TypeId) (l : List Int) : AtI (w.alloc (.cells (l.map (Value.int .i64)).toArray t)) (some ⟨w.heap.size, 0, none⟩) l := by
  intro j x hj
  refine ⟨w.heap.size, 0, rfl, ?_⟩
  rw [World.cell?_alloc_at _ _ _ _ rfl, Nat.zero_add]
  simp [hj]
def twF (i : Nat) : List OpD := if i = 0 then twPA else twPB
theorem twA_bal : Bal 3 0 0 twPA twPA := .one (m1 := 0) (by decide) (by decide) (by decide +kernel) (.one (m1 := 1) (by decide) (by decide) (by decide +kernel) (.one (m1 := 1) (by decide) (by decide) (by decide +kernel) (.one (m1 := 0) (by decide) (by decide) (by decide +kernel) (.nil _ _))))
theorem twB_bal : Bal 3 0 0 twPB twPB := .one (m1 := 1) (by decide) (by decide) (by decide +kernel) (.one (m1 := 1) (by decide) (by decide) (by decide +kernel) (.one (m1 := 0) (by decide) (by decide) (by decide +kernel) (.one (m1 := 0) (by decide) (by decide) (by decide +kernel) (.nil _ _))))
theorem tw_bal : ∀ i t, [twA, twBB][i]? = some t → Bal 3 0 0 t.prog (twF i)
  | 0, t, h => by cases h; exact twA_bal
  | 1, t, h => by cases h; exact twB_bal
  | n + 2, t, h => by simp at h
theorem tw_ceil : ceilD [twA, twBB] 1 = [2] := by decide +kernel
theorem tw_sec : secD 0 twF [twA, twBB] = [1, 4] := by decide +kernel
theorem tw_prog : ∀ t ∈ [twA, twBB], checkP t.prog = (0, 0) := by decide +kernel

end Go.Proofs.YtlkbphogpbcjfaaGreatDoor
