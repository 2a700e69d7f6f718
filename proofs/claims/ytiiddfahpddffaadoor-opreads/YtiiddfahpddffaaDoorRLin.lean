/- The reference's Lines and Split, by their contracts. -/
import Derived.Test.YtiiddfahpddffaaDoorSpl
namespace Go.Proofs.YtiiddfahpddffaaDoor
open Go.RowKit

theorem B_extract (l : List UInt8) (i j : Nat) : (B l).extract i j = B ((l.drop i).take (j - i)) := by
  rw [Lib.extract_eq, B_list]; rfl
theorem B_add (a b : List UInt8) : B a ++ B b = B (a ++ b) := by
  have h1 := B_of (B a ++ B b)
  rw [← h1]
  congr 1
theorem last_byte (l : List UInt8) (hl : l ≠ []) : ∃ c, l.getLast? = some c ∧ ∀ h, (B l)[l.length - 1]'h = c := by
  obtain ⟨a, c, rfl⟩ : ∃ a c, l = a ++ [c] := ⟨l.dropLast, l.getLast hl, (List.dropLast_concat_getLast hl).symm⟩
  refine ⟨c, by simp, fun h => ?_⟩
  obtain ⟨d, e1, e2, _, _⟩ := byte_get (B (a ++ [c])) ((a ++ [c]).length - 1) h
  rw [e1]
  rw [B_list] at e2
  simpa using e2.symm
/-- The piece of a text from i on, up to j. -/
def piece (l : List UInt8) (i j : Nat) : List UInt8 := (l.drop i).take (j - i)
theorem piece_same (l : List UInt8) (i : Nat) : piece l i i = [] := by simp [piece]
theorem piece_next {l : List UInt8} {i j : Nat} {c : UInt8} (h : l[j]? = some c) (hij : i ≤ j) : piece l i (j + 1) = piece l i j ++ [c] := by
  unfold piece
  rw [show j + 1 - i = (j - i) + 1 by omega, List.take_add_one, List.getElem?_drop, show i + (j - i) = j by omega, h]
  rfl

end Go.Proofs.YtiiddfahpddffaaDoor
