/- Locks, of a program. Locks, walked; Ints. Ints, of the law's package; ops as they are written. -/
import Derived.Test.YtlkbphogpbcjfaaGreatDoorPgA
import Derived.Shelf.Slices.CompactI
import Derived.Test.YtlkbphogpbcjfaaGreatDoorORw
namespace Go.Proofs.YtlkbphogpbcjfaaGreatDoor
open Go.RowKit

/-- The numbers of the Locks, in their order. -/
def lockNs : List OpD → List Int
  | [] => []
  | o :: r => if o.kind = 2 then o.n :: lockNs r else lockNs r
theorem lockNs_next : ∀ (p : List OpD) (j : Nat) (o : OpD), p[j]? = some o → lockNs (p.take (j + 1)) = lockNs (p.take j) ++ (if o.kind = 2 then [o.n] else [])
  | [], _, _, h => by simp at h
  | q :: r, 0, o, h => by
    simp at h
    subst h
    simp only [List.take_succ_cons, List.take_zero, lockNs, List.nil_append]
  | q :: r, j + 1, o, h => by
    have := lockNs_next r j o (by simpa using h)
    simp only [List.take_succ_cons, lockNs]
    rw [this]
    split <;> simp
theorem lockNs_len : ∀ p : List OpD, (lockNs p).length ≤ p.length
  | [] => by simp [lockNs]
  | o :: r => by
    have := lockNs_len r
    rw [lockNs]
    split <;> simp <;> omega
def locksD (p : List OpD) : List Int := Lib.compact ((lockNs p).mergeSort fun x y => decide (x ≤ y))
/-- What the two calls of the library leave. -/
theorem locks_left {w w1 : World} {g n q : Nat} {os : Array Obj} {zs : List Int} (hH : Sort.Holds (Value.int .i64) w1 g 0 zs.toArray) (hg : w.heap.size ≤ g) (hgl : g < w1.heap.size) (K : Kept w w1) (ms : List Int) (hms : ms.length = zs.length) (cs : List Int) (hcs : cs.length = ms.length) (rs : List Int) (hrs : ∀ (j : Nat) (x : Int), rs[j]? = some x → cs[j]? = some x) :
    Sort.Holds (Value.int .i64) (Sort.grow (Sort.putRow (Value.int .i64) (Sort.ahead w1 n) g 0 ms.toArray) os) g 0 ms.toArray ∧
    (AtI (Sort.putRow (Value.int .i64) (Sort.ahead (Sort.grow (Sort.putRow (Value.int .i64) (Sort.ahead w1 n) g 0 ms.toArray) os) q) g 0 cs.toArray) (some ⟨g, 0, none⟩) rs) ∧
    Kept w (Sort.putRow (Value.int .i64) (Sort.ahead (Sort.grow (Sort.putRow (Value.int .i64) (Sort.ahead w1 n) g 0 ms.toArray) os) q) g 0 cs.toArray) := by
  have hH1 : Sort.Holds (Value.int .i64) (Sort.ahead w1 n) g 0 zs.toArray := hH
  have hH2 : Sort.Holds (Value.int .i64) (Sort.grow (Sort.putRow (Value.int .i64) (Sort.ahead w1 n) g 0 ms.toArray) os) g 0 ms.toArray := by
    intro j hj
    have hsz : (Sort.putRow (Value.int .i64) (Sort.ahead w1 n) g 0 ms.toArray).heap.size = w1.heap.size := by simp [Sort.ahead]
    refine ⟨?_, ?_⟩
    · rw [Sort.cell?_grow _ _ _ (by show g < _; omega)]
      exact Sort.cell?_putRow _ _ _ _ _ _ hH1 (by simp [hms]) j hj
    · have h2 := (hH1 j (by simp at hj ⊢; omega)).2
      rw [Sort.frozen?_grow _ _ _ (by show g < _; omega), Sort.frozen?_putRow]
      exact h2
  refine ⟨hH2, ?_, ?_⟩
  · intro j x hj
    refine ⟨g, 0, rfl, ?_⟩
    have hc := hrs j x hj
    have hjc : j < cs.length := (List.getElem?_eq_some_iff.1 hc).1
    have h3 : Sort.Holds (Value.int .i64) (Sort.ahead (Sort.grow (Sort.putRow (Value.int .i64) (Sort.ahead w1 n) g 0 ms.toArray) os) q) g 0 ms.toArray := hH2
    rw [Sort.cell?_putRow (Value.int .i64) _ g 0 ms.toArray cs.toArray h3 (by simp [hcs]) j (by simpa using hjc)]
    have : cs[j] = x := by rw [List.getElem?_eq_getElem hjc] at hc; exact Option.some.inj hc
    simp [hjc, this]
  · have t1 := turns_grow (turns_put (Value.int .i64) w1 n g 0 ms.toArray) os
    have t2 := t1.trans (turns_put (Value.int .i64) _ q g 0 cs.toArray)
    exact t2.kept K (fun i hi => by omega)
end Go.Proofs.YtlkbphogpbcjfaaGreatDoor
namespace Go.Proofs.YtlkbphogpbcjfaaGreatDoor
open Go.RowKit

theorem compact_len (zs : List Int) : (Lib.compact zs).length ≤ zs.length := by
  unfold Lib.compact Lib.compactUpTo
  rw [List.length_map]
  have := List.length_filter_le (Lib.keeps zs.toArray) (List.range zs.length)
  simpa using this
/-- A row of numbers grows behind a struct of its own. -/
theorem irow_app {w wr w' : World} {v1 : Value} {l : List Int} {g n c : Nat} {o1 o2 : Obj} {l' : List Int} (h : IRow 3 w.heap.size wr v1 l) (K : Kept w wr) (gr : ((wr.alloc o1).alloc o2).grownBy w' v1.ownBlock) (r : IRow 3 w.heap.size w' (.slice (some ⟨g, 0, none⟩) n c) l') : Kept w w' := by
  have _ := r
  have t : Turns (fun k => v1.ownBlock = some k) wr w' := (((Turns.refl _ wr).alloc o1).alloc o2).trans (Turns.grown gr (fun k e => e))
  exact t.kept K (fun i hi => (World.ownsRow.lt h i hi).1)

end Go.Proofs.YtlkbphogpbcjfaaGreatDoor
namespace Go.Proofs.YtlkbphogpbcjfaaGreatDoor
open Go.RowKit

/-- Ops that stand as they are written. -/
theorem lit_ops (w : World) (ps : List OpD) (hc : ∀ o ∈ ps, o.cases = []) (cells : Array Value) (h : cells = (flatO ps (ps.map fun _ => .slice none 0 0)).toArray) : AtP (w.alloc (.cells cells 77)) (some ⟨w.heap.size, 0, none⟩) ps := by
  subst h
  intro j o hj
  refine ⟨w.heap.size, 0, rfl, ?_⟩
  have hs : (ps.map fun _ => Value.slice none 0 0)[j]? = some (.slice none 0 0) := by rw [List.getElem?_map, hj]; rfl
  have hcell : ∀ i, i < 5 → (w.alloc (.cells (flatO ps (ps.map fun _ => .slice none 0 0)).toArray 77)).cell? ⟨w.heap.size, 0 + j * 5 + i, none⟩ = (opV o (.slice none 0 0))[i]? := by
    intro i hi
    rw [World.cell?_alloc_at _ _ _ _ rfl, Nat.zero_add]
    have := flatO_get ps _ j i o _ hj hs hi
    simpa using this
  have hco := hc o (List.mem_of_getElem? hj)
  refine ⟨hcell 0 (by omega), hcell 1 (by omega), hcell 2 (by omega), hcell 3 (by omega), none, 0, ?_, by rw [hco]; simp, fun _ => rfl, ?_⟩
  · rw [hco]
    exact hcell 4 (by omega)
  · rw [hco]
    exact AtC.none _
end Go.Proofs.YtlkbphogpbcjfaaGreatDoor
