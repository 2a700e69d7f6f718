/- isAboveAll, isLast, isOpen; a program's state in memory. -/
import Derived.Test.YtembbhbbmkijcaaDoorPrgP
import Derived.Test.YtembbhbbmkijcaaDoorTrn
namespace Go.Proofs.YtembbhbbmkijcaaDoor
open Go.RowKit

theorem above_any (m n : Nat) (hm : m < 256) (hn : n ≤ 7) (w : World) : Calls Tryd.prog 80 #[.int .u64 m, .int .i64 n] w fun e w' => e = .returned (.bool (decide (m < 2 ^ n))) ∧ w' = w := by
  have hc : n = 0 ∨ n = 1 ∨ n = 2 ∨ n = 3 ∨ n = 4 ∨ n = 5 ∨ n = 6 ∨ n = 7 := by omega
  rcases hc with rfl | rfl | rfl | rfl | rfl | rfl | rfl | rfl
  · go_enter Tryd.func80, Tryd.ntmps80
    go_wp2_with fail
    go_ret
    refine ⟨congrArg (fun b => Ending.returned (Value.bool b)) (show ((m : Int) == 0) = decide (m < 2 ^ 0) from ?_), rfl⟩
    rw [Bool.eq_iff_iff]
    simp
  · go_enter Tryd.func80, Tryd.ntmps80
    go_wp2_with fail
    go_ret
    refine ⟨congrArg (fun b => Ending.returned (Value.bool b)) (show ((m : Int) / 2 == 0) = decide (m < 2 ^ 1) from ?_), rfl⟩
    rw [Bool.eq_iff_iff]
    simp
    omega
  · go_enter Tryd.func80, Tryd.ntmps80
    go_wp2_with fail
    go_ret
    refine ⟨congrArg (fun b => Ending.returned (Value.bool b)) (show ((m : Int) / 4 == 0) = decide (m < 2 ^ 2) from ?_), rfl⟩
    rw [Bool.eq_iff_iff]
    simp
    omega
  · go_enter Tryd.func80, Tryd.ntmps80
    go_wp2_with fail
    go_ret
    refine ⟨congrArg (fun b => Ending.returned (Value.bool b)) (show ((m : Int) / 8 == 0) = decide (m < 2 ^ 3) from ?_), rfl⟩
    rw [Bool.eq_iff_iff]
    simp
    omega
  · go_enter Tryd.func80, Tryd.ntmps80
    go_wp2_with fail
    go_ret
    refine ⟨congrArg (fun b => Ending.returned (Value.bool b)) (show ((m : Int) / 16 == 0) = decide (m < 2 ^ 4) from ?_), rfl⟩
    rw [Bool.eq_iff_iff]
    simp
    omega
  · go_enter Tryd.func80, Tryd.ntmps80
    go_wp2_with fail
    go_ret
    refine ⟨congrArg (fun b => Ending.returned (Value.bool b)) (show ((m : Int) / 32 == 0) = decide (m < 2 ^ 5) from ?_), rfl⟩
    rw [Bool.eq_iff_iff]
    simp
    omega
  · go_enter Tryd.func80, Tryd.ntmps80
    go_wp2_with fail
    go_ret
    refine ⟨congrArg (fun b => Ending.returned (Value.bool b)) (show ((m : Int) / 64 == 0) = decide (m < 2 ^ 6) from ?_), rfl⟩
    rw [Bool.eq_iff_iff]
    simp
    omega
  · go_enter Tryd.func80, Tryd.ntmps80
    go_wp2_with fail
    go_ret
    refine ⟨congrArg (fun b => Ending.returned (Value.bool b)) (show ((m : Int) / 128 == 0) = decide (m < 2 ^ 7) from ?_), rfl⟩
    rw [Bool.eq_iff_iff]
    simp
    omega
theorem last_any (m n : Nat) (hm : m < 256) (hn : n ≤ 7) (w : World) : Calls Tryd.prog 81 #[.int .u64 m, .int .i64 n] w fun e w' => e = .returned (.bool (decide (2 ^ n ≤ m ∧ m < 2 * 2 ^ n))) ∧ w' = w := by
  have hc : n = 0 ∨ n = 1 ∨ n = 2 ∨ n = 3 ∨ n = 4 ∨ n = 5 ∨ n = 6 ∨ n = 7 := by omega
  rcases hc with rfl | rfl | rfl | rfl | rfl | rfl | rfl | rfl
  · go_enter Tryd.func81, Tryd.ntmps81
    go_wp2_with fail
    go_ret
    refine ⟨congrArg (fun b => Ending.returned (Value.bool b)) (show ((m : Int) == 1) = decide (2 ^ 0 ≤ m ∧ m < 2 * 2 ^ 0) from ?_), rfl⟩
    rw [Bool.eq_iff_iff]
    simp
    omega
  · go_enter Tryd.func81, Tryd.ntmps81
    go_wp2_with fail
    go_ret
    refine ⟨congrArg (fun b => Ending.returned (Value.bool b)) (show ((m : Int) / 2 == 1) = decide (2 ^ 1 ≤ m ∧ m < 2 * 2 ^ 1) from ?_), rfl⟩
    rw [Bool.eq_iff_iff]
    simp
    omega
  · go_enter Tryd.func81, Tryd.ntmps81
    go_wp2_with fail
    go_ret
    refine ⟨congrArg (fun b => Ending.returned (Value.bool b)) (show ((m : Int) / 4 == 1) = decide (2 ^ 2 ≤ m ∧ m < 2 * 2 ^ 2) from ?_), rfl⟩
    rw [Bool.eq_iff_iff]
    simp
    omega
  · go_enter Tryd.func81, Tryd.ntmps81
    go_wp2_with fail
    go_ret
    refine ⟨congrArg (fun b => Ending.returned (Value.bool b)) (show ((m : Int) / 8 == 1) = decide (2 ^ 3 ≤ m ∧ m < 2 * 2 ^ 3) from ?_), rfl⟩
    rw [Bool.eq_iff_iff]
    simp
    omega
  · go_enter Tryd.func81, Tryd.ntmps81
    go_wp2_with fail
    go_ret
    refine ⟨congrArg (fun b => Ending.returned (Value.bool b)) (show ((m : Int) / 16 == 1) = decide (2 ^ 4 ≤ m ∧ m < 2 * 2 ^ 4) from ?_), rfl⟩
    rw [Bool.eq_iff_iff]
    simp
    omega
  · go_enter Tryd.func81, Tryd.ntmps81
    go_wp2_with fail
    go_ret
    refine ⟨congrArg (fun b => Ending.returned (Value.bool b)) (show ((m : Int) / 32 == 1) = decide (2 ^ 5 ≤ m ∧ m < 2 * 2 ^ 5) from ?_), rfl⟩
    rw [Bool.eq_iff_iff]
    simp
    omega
  · go_enter Tryd.func81, Tryd.ntmps81
    go_wp2_with fail
    go_ret
    refine ⟨congrArg (fun b => Ending.returned (Value.bool b)) (show ((m : Int) / 64 == 1) = decide (2 ^ 6 ≤ m ∧ m < 2 * 2 ^ 6) from ?_), rfl⟩
    rw [Bool.eq_iff_iff]
    simp
    omega
  · go_enter Tryd.func81, Tryd.ntmps81
    go_wp2_with fail
    go_ret
    refine ⟨congrArg (fun b => Ending.returned (Value.bool b)) (show ((m : Int) / 128 == 1) = decide (2 ^ 7 ≤ m ∧ m < 2 * 2 ^ 7) from ?_), rfl⟩
    rw [Bool.eq_iff_iff]
    simp
    omega

def lockV (x : Nat) : Value := .int .u64 x
/-- A row of locks that the call owns. -/
def LRow (B : Nat) (w : World) (v : Value) (l : List Nat) : Prop := w.ownsRow B 95 1 v l.length (l.map lockV)
theorem LRow.nil (B : Nat) (w : World) : LRow B w (.slice Option.none 0 0) [] := World.ownsRow_nil _ _ _ _
theorem LRow.turns {S : Nat → Prop} {B : Nat} {w w' : World} {v : Value} {l : List Nat} (h : LRow B w v l) (t : Turns S w w') (hv : ∀ k, v.ownBlock = some k → ¬ S k) : LRow B w' v l := owns_turns h t hv
theorem LRow.kept {B : Nat} {w w' : World} {v : Value} {l : List Nat} (h : LRow B w v l) (t : Kept w w') : LRow B w' v l := own_kept h t
theorem LRow.form {B : Nat} {w : World} {v : Value} {l : List Nat} (h : LRow B w v l) : ∃ a c, v = .slice a l.length c := by
  rcases h.2 with ⟨h1, h2⟩ | ⟨g, cap, cur, h1, _⟩
  · exact ⟨none, 0, by rw [h1, h2]⟩
  · exact ⟨_, _, h1⟩
/-- A state: the locks held, those that each open Loop began with. -/
structure StP (B : Nat) (w : World) (sb : Nat) (lv : Value) (m : Nat) (lp : List Nat) : Prop where
  box : Box B w 98 sb [.int .u64 m, lv]
  row : LRow B w lv lp.reverse
  far : ∀ q, lv.ownBlock = some q → q ≠ sb
theorem StP.kept {B : Nat} {w w' : World} {sb : Nat} {lv : Value} {m : Nat} {lp : List Nat} (h : StP B w sb lv m lp) (t : Kept w w') : StP B w' sb lv m lp := ⟨h.box.kept t, h.row.kept t, h.far⟩

theorem open_any (B sb m : Nat) (lv : Value) (lp : List Nat) (w : World) (hs : StP B w sb lv m lp) : Calls Tryd.prog 71 #[.pointer (some ⟨sb, 0, none⟩)] w fun e w' => e = .returned (.bool (decide (m ≠ 0 ∨ lp ≠ []))) ∧ w' = w := by
  have c0 : w.cell? ⟨sb, 0, none⟩ = some (.int .u64 m) := hs.box.cell 0 (by simp)
  have c1 : w.cell? ⟨sb, 1, none⟩ = some lv := hs.box.cell 1 (by simp)
  obtain ⟨a, c, rfl⟩ := hs.row.form
  rw [List.length_reverse] at c1
  clear hs
  by_cases hm : m = 0
  · subst hm
    have HD : Hid (decide ((0 : Nat) ≠ 0 ∨ lp ≠ []) = decide (0 < lp.length)) := by
      show _ = _
      rw [decide_eq_decide]
      cases lp <;> simp
    go_enter Tryd.func71, Tryd.ntmps71
    go_wp2_with fail
    go_ret
    rw [HD.out]
    exact ⟨rfl, rfl⟩
  · have hne : ((m : Int) != 0) = true := by simp [hm]
    have HD : Hid (decide (m ≠ 0 ∨ lp ≠ []) = true) := by show _ = _; simp [hm]
    go_enter Tryd.func71, Tryd.ntmps71
    go_wp2_with fail
    go_ret
    rw [HD.out]
    exact ⟨rfl, rfl⟩
end Go.Proofs.YtembbhbbmkijcaaDoor
