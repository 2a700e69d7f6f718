/- Words of the law's package, Lines and Split of the program, by their contracts. -/
import Derived.Test.YtiiddfahpddffaaDoorApp
namespace Go.Proofs.YtiiddfahpddffaaDoor
open Go.RowKit

theorem B_empty {l : List UInt8} : (B l).toList.isEmpty = l.isEmpty := by rw [toList_of, B_list]
theorem B_eq (a b : List UInt8) : ((B a).toList == (B b).toList) = (a == b) := by rw [toList_of, toList_of, B_list, B_list]

set_option maxHeartbeats 1000000 in
theorem cut_hit (c : UInt8) (a b : List UInt8) (hn : c ∉ a) (w : World) (hr : Rdy w) (hl : (a ++ c :: b).length ≤ 1000000) :
    Calls Tryd.prog 46 #[.string (B (a ++ c :: b)), .string ⟨#[c]⟩] w fun e w' => e = .returned (.tuple #[.string (B a), .string (B b), .bool true]) ∧ ∃ n, w' = w.drewN n := by
  obtain ⟨m, hm⟩ := hr.m
  have := Tryd.strings_Cut (B (a ++ c :: b)) ⟨#[c]⟩ m w (by rw [B_size]; omega) hm
  have e : Lib.cut (B (a ++ c :: b)).data.toList (⟨#[c]⟩ : ByteArray).data.toList = (a, b, true) := by
    rw [B_list]
    show Lib.cut (a ++ c :: b) [c] = _
    rcases cut_one c (a ++ c :: b) with ⟨a', b', e1, e2, e3⟩ | ⟨e1, _⟩
    · rw [e3]
      have ha : a = a' := by
        clear this hl hm e3
        induction a generalizing a' with
        | nil => cases a' with
          | nil => rfl
          | cons x y => simp at e1; rw [e1.1] at e2; simp at e2
        | cons x a ih => cases a' with
          | nil => simp at e1; rw [e1.1] at hn; simp at hn
          | cons x' a' =>
            simp at e1
            rw [e1.1, ih (fun h => hn (by simp [h])) a' (by simp [e1.2]) (fun h => e2 (by simp [h]))]
      subst ha
      have := List.append_cancel_left e1
      simp at this
      rw [this]
    · simp at e1
  rw [e] at this
  exact this
theorem cut_miss (c : UInt8) (l : List UInt8) (hn : c ∉ l) (w : World) (hr : Rdy w) (hl : l.length ≤ 1000000) :
    Calls Tryd.prog 46 #[.string (B l), .string ⟨#[c]⟩] w fun e w' => e = .returned (.tuple #[.string (B l), .string (B []), .bool false]) ∧ ∃ n, w' = w.drewN n := by
  obtain ⟨m, hm⟩ := hr.m
  have := Tryd.strings_Cut (B l) ⟨#[c]⟩ m w (by rw [B_size]; omega) hm
  have e : Lib.cut (B l).data.toList (⟨#[c]⟩ : ByteArray).data.toList = (l, [], false) := by
    rw [B_list]
    show Lib.cut l [c] = _
    rcases cut_one c l with ⟨a', b', e1, e2, e3⟩ | ⟨_, e2⟩
    · rw [e1] at hn; simp at hn
    · exact e2
  rw [e] at this
  exact this
/-- A text's length, of a slot. -/
def strLen : Value → Nat
  | .string s => s.size
  | _ => 0

end Go.Proofs.YtiiddfahpddffaaDoor
