/- Locks, walked; Ints. -/
import Derived.Test.YtcfgcbjhlamchaaLck
namespace Go.Proofs.Ytcfgcbjhlamchaa
open Go.RowKit

theorem compact_len (zs : List Int) : (Lib.compact zs).length ≤ zs.length := by
  unfold Lib.compact Lib.compactUpTo
  rw [List.length_map]
  have := List.length_filter_le (Lib.keeps zs.toArray) (List.range zs.length)
  simpa using this
/-- A row of numbers grows behind a struct of its own. -/
theorem irow_app {w wr w' : World} {v1 : Value} {l : List Int} {g n c : Nat} {o1 o2 : Obj} {l' : List Int} (h : IRow 3 w.heap.size wr v1 l) (K : Kept w wr) (gr : ((wr.alloc o1).alloc o2).grownBy w' v1.ownBlock) (r : IRow 3 w.heap.size w' (.slice (some ⟨g, 0, none⟩) n c) l') : Kept w w' := by
  have _ := r
  have t : Turns (fun k => v1.ownBlock = some k) wr w' := (((Turns.refl _ wr).alloc o1).alloc o2).trans (Turns.grown gr (fun k e => e))
  exact t.kept K (fun i hi => (World.ownsRow.lt h i hi).1)

end Go.Proofs.Ytcfgcbjhlamchaa
