/- How texts and rows of texts lie in memory, what a call may have turned, and what the library's variables hold. -/
import Derived.Test.YtembbhbbmkijcaaDoorRows
import Derived.Test.YtembbhbbmkijcaaDoorShelf
import Derived.Test.YtembbhbbmkijcaaDoorPure
import Derived.WalkKit
import Derived.WalkSpells
import Derived.WalkSmall
import Derived.WalkLawsBesides
import Derived.Deep.QuietTactic
import Derived.BigRegion
import Derived.BigQuiet
import Derived.Maps.AppendAt
import Derived.Lib.SliceRun
import Derived.Deep.RegionHeld3
import Derived.Deep.RegionLaw
import Derived.Laws.DeepStrings4
import Derived.Laws.Concat
namespace Go.Proofs.YtembbhbbmkijcaaDoor
open Go.RowKit

/-- Nothing of what was there has turned. -/
def Kept (w w' : World) : Prop := Below w.heap.size w w'
theorem Kept.refl (w : World) : Kept w w := Below.refl _ _
theorem Kept.size {a b : World} (h : Kept a b) : a.heap.size ≤ b.heap.size := Below.size h
theorem Kept.trans {a b c : World} (h : Kept a b) (k : Kept b c) : Kept a c := Below.trans h (Below.mono k (Below.size h))
theorem Kept.drewN {a w : World} (h : Kept a w) (n : Nat) : Kept a (w.drewN n) := ⟨h.1, h.2, h.3, h.4, h.5⟩
theorem Kept.drew {a w : World} (h : Kept a w) : Kept a w.drew := ⟨h.1, h.2, h.3, h.4, h.5⟩
theorem Kept.alloc {a w : World} (h : Kept a w) (o : Obj) : Kept a (w.alloc o) := h.trans ((Below.refl _ w).alloc (Nat.le_refl _) o)
theorem cell_lt {w : World} {p : Addr} {v : Value} (h : w.cell? p = some v) : p.block < w.heap.size := by
  by_cases hlt : p.block < w.heap.size
  · exact hlt
  · have : w.heap[p.block]? = none := Array.getElem?_eq_none (by omega)
    simp [World.cell?, this] at h
theorem Kept.cell {w w' : World} (t : Kept w w') {p : Addr} {v : Value} (h : w.cell? p = some v) : w'.cell? p = some v := (Below.cell t (cell_lt h)).trans h

/-- A text as a string. -/
def B (l : List UInt8) : ByteArray := ⟨l.toArray⟩
theorem B_list (l : List UInt8) : (B l).data.toList = l := rfl
theorem B_size (l : List UInt8) : (B l).size = l.length := by simp [B, ByteArray.size]
theorem B_of (s : ByteArray) : B s.data.toList = s := by cases s; rfl
theorem B_inj {a b : List UInt8} (h : B a = B b) : a = b := by
  have := congrArg (fun s => s.data.toList) h
  simpa [B] using this

theorem toList_of (s : ByteArray) : s.toList = s.data.toList := Lib.toList_data s
/-- The byte at a place of a text. -/
theorem byte_get (s : ByteArray) (k : Nat) (h : k < s.size) : ∃ c : UInt8, s[k] = c ∧ s.data.toList[k]? = some c ∧ s.data.toList.drop k = c :: s.data.toList.drop (k + 1) ∧ s.data.toList.take (k + 1) = s.data.toList.take k ++ [c] := by
  have hl : k < s.data.toList.length := by rw [← Lib.size_eq]; exact h
  refine ⟨s[k], rfl, ?_, ?_, ?_⟩
  · rw [List.getElem?_eq_getElem hl]; rfl
  · rw [List.drop_eq_getElem_cons hl]; rfl
  · rw [List.take_add_one, List.getElem?_eq_getElem hl]; rfl
end Go.Proofs.YtembbhbbmkijcaaDoor
