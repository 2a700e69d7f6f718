/- RingPlays where nothing is played: a row too long, a room that may not be. -/
import Derived.Test.YtlegbdbepjcloaaPlaysW
namespace Go.Proofs.Ytlegbdbepjcloaa
open Go.RowKit Go.Conc

set_option maxHeartbeats 400000 in
theorem plays_skip (r : Int) (a : Option Addr) (n cp : Nat) (w : World) (hn : 80 < (n : Int)) :
    Calls Try.prog 3 #[.int .i64 r, .slice a n cp] w fun e w' => e = .returned (.bool true) ∧ Below w.heap.size w w' := by
  go_enter Try.func3, Try.ntmps3
  go_wp2_with fail
  refine (known_true w).mono ?_
  rintro e w1 ⟨rfl, T1⟩
  go_wp2_with fail
  go_ret
  exact ⟨rfl, T1.below (fun _ x => x.elim) (Nat.le_refl _)⟩

set_option maxHeartbeats 400000 in
theorem plays_bad (r : Int) (a : Option Addr) (n cp : Nat) (w : World) (hn : n ≤ 80) (hr : r < 0 ∨ 16 < r) :
    Calls Try.prog 3 #[.int .i64 r, .slice a n cp] w fun e w' => e = .returned (.bool true) ∧ Below w.heap.size w w' := by
  have g1 : decide (80 < (n : Int)) = false := decide_eq_false (by omega)
  go_enter Try.func3, Try.ntmps3
  go_wp2_with fail
  refine (known_true w).mono ?_
  rintro e w1 ⟨rfl, T1⟩
  go_wp2_with fail
  refine (new_bad r w1 hr).mono ?_
  rintro e w2 ⟨rfl, hw⟩
  subst w2
  go_wp2_with fail
  refine (rnew_bad r w1 hr).mono ?_
  rintro e w2 ⟨rfl, hw⟩
  subst w2
  go_wp2_with fail
  go_ret
  exact ⟨rfl, T1.below (fun _ x => x.elim) (Nat.le_refl _)⟩
end Go.Proofs.Ytlegbdbepjcloaa
