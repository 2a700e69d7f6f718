/- How texts and rows of texts lie in memory, what a call may have turned, and what the library's variables hold. -/
import Derived.Test.YtlkbphogpbcjfaaGreatDoorRows
import Derived.Test.YtlkbphogpbcjfaaGreatDoorMem
import Derived.Test.YtlkbphogpbcjfaaGreatDoorPuA
import Derived.WalkKit
import Derived.WalkSpells
import Derived.WalkSmall
import Derived.WalkLawsBesides
import Derived.Deep.QuietTactic
import Derived.BigRegion
import Derived.BigQuiet
import Derived.Maps.AppendAt
import Derived.Lib.SliceRun
import Derived.Deep.RegionHeld3
import Derived.Deep.RegionLaw
import Derived.Laws.DeepStrings4
import Derived.Laws.Concat
namespace Go.Proofs.YtlkbphogpbcjfaaGreatDoor
open Go.RowKit

theorem B_of (s : ByteArray) : B s.data.toList = s := by cases s; rfl
theorem B_inj {a b : List UInt8} (h : B a = B b) : a = b := by
  have := congrArg (fun s => s.data.toList) h
  simpa [B] using this

theorem toList_of (s : ByteArray) : s.toList = s.data.toList := Lib.toList_data s
/-- The byte at a place of a text. -/
theorem byte_get (s : ByteArray) (k : Nat) (h : k < s.size) : ∃ c : UInt8, s[k] = c ∧ s.data.toList[k]? = some c ∧ s.data.toList.drop k = c :: s.data.toList.drop (k + 1) ∧ s.data.toList.take (k + 1) = s.data.toList.take k ++ [c] := by
  have hl : k < s.data.toList.length := by rw [← Lib.size_eq]; exact h
  refine ⟨s[k], rfl, ?_, ?_, ?_⟩
  · rw [List.getElem?_eq_getElem hl]; rfl
  · rw [List.drop_eq_getElem_cons hl]; rfl
  · rw [List.take_add_one, List.getElem?_eq_getElem hl]; rfl
end Go.Proofs.YtlkbphogpbcjfaaGreatDoor
