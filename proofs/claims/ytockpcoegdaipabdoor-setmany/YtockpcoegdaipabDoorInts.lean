/- Ints, of the law's package; ops as they are written. -/
import Derived.Test.YtockpcoegdaipabDoorORw
namespace Go.Proofs.YtockpcoegdaipabDoor
open Go.RowKit

/-- Ops that stand as they are written. -/
theorem lit_ops (w : World) (ps : List OpD) (hc : ∀ o ∈ ps, o.cases = []) (cells : Array Value) (h : cells = (flatO ps (ps.map fun _ => .slice none 0 0)).toArray) : AtP (w.alloc (.cells cells 32)) (some ⟨w.heap.size, 0, none⟩) ps := by
  subst h
  intro j o hj
  refine ⟨w.heap.size, 0, rfl, ?_⟩
  have hs : (ps.map fun _ => Value.slice none 0 0)[j]? = some (.slice none 0 0) := by rw [List.getElem?_map, hj]; rfl
  have hcell : ∀ i, i < 5 → (w.alloc (.cells (flatO ps (ps.map fun _ => .slice none 0 0)).toArray 32)).cell? ⟨w.heap.size, 0 + j * 5 + i, none⟩ = (opV o (.slice none 0 0))[i]? := by
    intro i hi
    rw [World.cell?_alloc_at _ _ _ _ rfl, Nat.zero_add]
    have := flatO_get ps _ j i o _ hj hs hi
    simpa using this
  have hco := hc o (List.mem_of_getElem? hj)
  refine ⟨hcell 0 (by omega), hcell 1 (by omega), hcell 2 (by omega), hcell 3 (by omega), none, 0, ?_, by rw [hco]; simp, fun _ => rfl, ?_⟩
  · rw [hco]
    exact hcell 4 (by omega)
  · rw [hco]
    exact AtC.none _
end Go.Proofs.YtockpcoegdaipabDoor
