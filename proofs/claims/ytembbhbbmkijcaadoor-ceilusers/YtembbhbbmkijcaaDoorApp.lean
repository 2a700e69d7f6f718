/- The table of the Kinds; rows of the call's own. -/
import Derived.Test.YtembbhbbmkijcaaDoorMem
import Derived.Test.YtembbhbbmkijcaaDoorOpT
namespace Go.Proofs.YtembbhbbmkijcaaDoor
open Go.RowKit

/-- A row of the table of the Kinds, cell by cell. -/
def shV (s : ShapeD) : List Value := [.string (B s.word), .bool s.hasN, .bool s.hasV, .bool s.waits, .bool s.picks, .int .i64 s.least, .int .i64 s.most]
/-- What the table of the Kinds holds. -/
structure Rdy (w : World) : Prop where
  sh : ∀ k, k ≤ 9 → ∀ i v, (shV (shapeOf k))[i]? = some v → w.cell? ⟨0, k * 7 + i, none⟩ = some v
theorem Rdy.kept {w w' : World} (h : Rdy w) (k : Kept w w') : Rdy w' := ⟨fun j hj i v hv => k.cell (h.sh j hj i v hv)⟩
theorem own_kept {w w' : World} {base : Nat} {e : TypeId} {size : Nat} {v : Value} {n : Nat} {xs : List Value} (h : w.ownsRow base e size v n xs) (t : Kept w w') : w'.ownsRow base e size v n xs := by
  refine ⟨h.1, ?_⟩
  rcases h.2 with hn | ⟨g, cap, cur, rfl, hb, hgg, rest⟩
  · exact .inl hn
  · refine .inr ⟨g, cap, cur, rfl, hb, ?_, rest⟩
    rw [t.5 g (Array.getElem?_eq_some_iff.1 hgg).1]
    exact hgg
theorem drewN_add (w : World) (a b : Nat) : (w.drewN a).drewN b = w.drewN (a + b) := by simp [World.drewN, Nat.add_assoc]
theorem le_alloc {b0 : Nat} {w : World} (o : Obj) (h : b0 ≤ w.heap.size) : b0 ≤ (w.alloc o).heap.size := by
  have : (w.alloc o).heap.size = w.heap.size + 1 := by simp
  omega
theorem own_form {w : World} {base : Nat} {e : TypeId} {size : Nat} {v : Value} {n : Nat} {xs : List Value} (h : w.ownsRow base e size v n xs) (hv : v ≠ .slice Option.none 0 0) : ∃ g cap, v = .slice (some ⟨g, 0, Option.none⟩) n cap := by
  rcases h.2 with ⟨h1, _⟩ | ⟨g, cap, cur, h1, _⟩
  · exact absurd h1 hv
  · exact ⟨g, cap, h1⟩

theorem below_grown {base : Nat} {w w' : World} {v : Value} {n : Nat} {e : TypeId} {size : Nat} {xs : List Value} (hg : w.grownBy w' v.ownBlock) (hv : w.ownsRow base e size v n xs) (hB : base ≤ w.heap.size) : Below base w w' :=
  ⟨hg.os, hg.tape, hg.output, hg.size, fun k hk => hg.block k (by omega) (fun e => by have := (hv.lt k e.symm).1; omega)⟩

end Go.Proofs.YtembbhbbmkijcaaDoor
