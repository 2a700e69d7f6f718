/- To, of the law's package. -/
import Derived.Test.YtlkbphogpbcjfaaDoorCaA
import Derived.Test.YtlkbphogpbcjfaaDoorHld
namespace Go.Proofs.YtlkbphogpbcjfaaDoor
open Go.RowKit

/-- What append has left of the call's own things. -/
structure App3 (w wr w3 : World) (oi oo : TypeId) (c1 c3 : List Value) (g : Nat) : Prop where
  b1 : Box w.heap.size w3 oi w.heap.size c1
  b2 : Box w.heap.size w3 oo (w.heap.size + 1) [.int .i64 0, .int .i64 0, .int .i64 0, .int .i64 0, .slice none 0 0]
  b3 : Box w.heap.size w3 oo (w.heap.size + 1 + 1) c3
  far : w.heap.size + 3 ≤ g
  kept : Kept w w3
  size : wr.heap.size ≤ w3.heap.size
theorem App3.c1 {w wr w3 : World} {oi oo : TypeId} {k n v wt s : Value} {c3 : List Value} {g : Nat} (h : App3 w wr w3 oi oo [k, n, v, wt, s] c3 g) : w3.cell? ⟨w.heap.size, 4, none⟩ = some s := h.b1.cell 4 (by simp)
theorem App3.c3 {w wr w3 : World} {oi oo : TypeId} {k n v wt s : Value} {c1 : List Value} {g : Nat} (h : App3 w wr w3 oi oo c1 [k, n, v, wt, s] g) : w3.cell? ⟨w.heap.size + 1 + 1, 4, none⟩ = some s := h.b3.cell 4 (by simp)
theorem App3.fr {w wr w3 : World} {oi oo : TypeId} {c1 c3 : List Value} {g : Nat} (h : App3 w wr w3 oi oo c1 c3 g) : w3.frozen? ⟨w.heap.size + 1 + 1, 4, none⟩ = false := h.b3.frozen 4
theorem App3.of {w wr wa w3 : World} {e oi oo : TypeId} {c1 c3 : List Value} {g : Nat} {sv : Value}  {cs : Array Value}
    (ha : wa = wr.drew.alloc (.cells cs e)) (gr : wa.grownBy w3 sv.ownBlock) (at3 : sv.ownBlock = some g ∨ wr.drew.heap.size < g) (hs : ∀ b, sv.ownBlock = some b → w.heap.size + 3 ≤ b)
    (B1 : Box w.heap.size wr oi w.heap.size c1) (B2 : Box w.heap.size wr oo (w.heap.size + 1) [.int .i64 0, .int .i64 0, .int .i64 0, .int .i64 0, .slice none 0 0]) (B3 : Box w.heap.size wr oo (w.heap.size + 1 + 1) c3) (T : Kept w wr) :
    App3 w wr w3 oi oo c1 c3 g := by
  subst ha
  have t1 : Turns (fun k => sv.ownBlock = some k) wr w3 := (((Turns.refl _ wr).drew).alloc (.cells cs e)).trans (Turns.grown gr (fun k e => e))
  have l3 := B3.lt.2
  refine ⟨B1.turns t1 (fun h => by have := hs _ h; omega), B2.turns t1 (fun h => by have := hs _ h; omega), B3.turns t1 (fun h => by have := hs _ h; omega), ?_, t1.kept T (fun i hi => by have := hs i hi; omega), t1.size⟩
  rcases at3 with h | h
  · exact hs g h
  · have : wr.drew.heap.size = wr.heap.size := rfl
    omega

end Go.Proofs.YtlkbphogpbcjfaaDoor
