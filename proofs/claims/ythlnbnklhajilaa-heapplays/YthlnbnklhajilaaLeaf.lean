/- The leaves of package heap: known, Len, Has and ahead, each by its contract. -/
import Derived.Test.YthlnbnklhajilaaRows
import Derived.WalkKit
import Derived.WalkSpells
import Derived.WalkSmall
import Derived.Deep.QuietTactic
import Derived.BigRegion
import Derived.BigQuiet
namespace Go.Proofs.Ythlnbnklhajilaa
open Go.RowKit

/-- Is id one of 0 to most less 1? -/
def knB (most : Nat) (id : Int) : Bool := decide (0 ≤ id) && decide (id < (most : Int))

set_option maxHeartbeats 400000 in
theorem known_any (hb ab ac most : Nat) (id : Int) (w : World)
    (hc : w.cell? ⟨hb, 1, none⟩ = some (.slice (some ⟨ab, 0, none⟩) most ac)) :
    Calls Try.prog 26 #[.pointer (some ⟨hb, 0, none⟩), .int .i64 id] w fun e w' => e = .returned (.bool (knB most id)) ∧ w' = w := by
  by_cases h0 : 0 ≤ id
  · have hA : knB most id = decide (id < (most : Int)) := by simp [knB, h0]
    rw [hA]
    clear hA
    go_enter Try.func26, Try.ntmps26
    go_wp2
    go_ret
    exact ⟨rfl, rfl⟩
  · have hA : knB most id = false := by simp [knB, h0]
    rw [hA]
    clear hA
    have h1 : id < 0 := by omega
    clear h0
    go_enter Try.func26, Try.ntmps26
    go_wp2
    go_ret
    exact ⟨rfl, rfl⟩

set_option maxHeartbeats 400000 in
theorem len_any (hb n cap : Nat) (a : Option Addr) (w : World)
    (hc : w.cell? ⟨hb, 0, none⟩ = some (.slice a n cap)) :
    Calls Try.prog 20 #[.pointer (some ⟨hb, 0, none⟩)] w fun e w' => e = .returned (.int .i64 n) ∧ w' = w := by
  go_enter Try.func20, Try.ntmps20
  go_wp2
  go_ret
  exact ⟨rfl, rfl⟩

/-- Goes x ahead of y? -/
def ahB (x1 x2 x3 y1 y2 y3 : Int) : Bool := if x2 ≠ y2 then decide (y2 < x2) else if x3 ≠ y3 then decide (x3 < y3) else decide (x1 < y1)

set_option maxHeartbeats 400000 in
theorem ahead_any (x1 x2 x3 y1 y2 y3 : Int) (w : World) :
    Calls Try.prog 35 #[.agg #[.int .i64 x1, .int .i64 x2, .int .i64 x3], .agg #[.int .i64 y1, .int .i64 y2, .int .i64 y3]] w fun e w' => e = .returned (.bool (ahB x1 x2 x3 y1 y2 y3)) ∧
      w' = (w.alloc (.cells #[.int .i64 x1, .int .i64 x2, .int .i64 x3] 62)).alloc (.cells #[.int .i64 y1, .int .i64 y2, .int .i64 y3] 62) := by
  by_cases h2 : x2 = y2
  · subst h2
    by_cases h3 : x3 = y3
    · subst h3
      have g2 : (x2 != x2) = false := by simp
      have g3 : (x3 != x3) = false := by simp
      have hA : ahB x1 x2 x3 y1 x2 x3 = decide (x1 < y1) := by simp [ahB]
      rw [hA]
      clear hA
      go_enter Try.func35, Try.ntmps35
      go_wp2
      go_ret
      exact ⟨rfl, rfl⟩
    · have g2 : (x2 != x2) = false := by simp
      have g3 : (x3 != y3) = true := by simpa using h3
      have hA : ahB x1 x2 x3 y1 x2 y3 = decide (x3 < y3) := by simp [ahB, h3]
      rw [hA]
      clear hA h3
      go_enter Try.func35, Try.ntmps35
      go_wp2
      go_ret
      exact ⟨rfl, rfl⟩
  · have g2 : (x2 != y2) = true := by simpa using h2
    have hA : ahB x1 x2 x3 y1 y2 y3 = decide (y2 < x2) := by simp [ahB, h2]
    rw [hA]
    clear hA h2
    go_enter Try.func35, Try.ntmps35
    go_wp2
    go_ret
    exact ⟨rfl, rfl⟩
end Go.Proofs.Ythlnbnklhajilaa
