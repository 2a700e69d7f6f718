/- The reference's CheckOp. -/
import Derived.Test.YtolljdomnohmdaaGreatDoorCheck
namespace Go.Proofs.YtolljdomnohmdaaGreatDoor
open Go.RowKit

theorem casesE_nil {l : List CaseD} (h : l.length = 0) : casesE [] l = 0 := by rw [List.eq_nil_of_length_eq_zero h]; rfl
theorem rcheck_none (k n v wt : Int) (a : Option Addr) (m c : Nat) (l : List CaseD) (w : World) (hk : isKindB k = false) :
    Calls Tryz.prog 79 #[.agg #[.int .i64 k, .int .i64 n, .int .i64 v, .int .i64 wt, .slice a m c]] w fun e w' => e = .returned (.int .i64 (checkD ⟨k, n, v, wt, l⟩)) ∧ Kept w w' := by
  have HC : Hid (checkD ⟨k, n, v, wt, l⟩ = 3) := check_no hk
  have hw : k < 1 ∨ (1 ≤ k ∧ 9 < k) := by simp [isKindB] at hk; omega
  rcases hw with h | ⟨h, h2⟩
  · go_enter Tryz.func79, Tryz.ntmps79
    go_wp2_with fail
    go_ret
    rw [HC.out]
    exact ⟨rfl, (Kept.refl w).alloc _⟩
  · go_enter Tryz.func79, Tryz.ntmps79
    go_wp2_with fail
    go_ret
    rw [HC.out]
    exact ⟨rfl, (Kept.refl w).alloc _⟩

set_option maxHeartbeats 2000000 in
theorem rcheck_k1 (n v wt : Int) (a : Option Addr) (m c : Nat) (l : List CaseD) (w : World) (hA : AtC w a m l) :
    Calls Tryz.prog 79 #[.agg #[.int .i64 1, .int .i64 n, .int .i64 v, .int .i64 wt, .slice a m c]] w fun e w' => e = .returned (.int .i64 (checkD ⟨1, n, v, wt, l⟩)) ∧ Kept w w' := by
  have HL : Hid (l.length = m) := hA.1
  clear hA
  go_enter Tryz.func79, Tryz.ntmps79
  go_wp2_with fail
  all_goals (go_ret; refine ⟨?_, (Kept.refl w).alloc _⟩; refine ret_int ?_)
  all_goals (first
    | (rw [check_arg rfl (by rw [HL.out]; rw [Bool.eq_false_iff]; intro hh; simp [takesB, shapeOf] at *; omega)])
    | (rw [check_plain rfl (by rw [HL.out]; simp [takesB, shapeOf] at *; omega) rfl, casesE_nil (by rw [HL.out]; simp at *; omega)]))
set_option maxHeartbeats 2000000 in
theorem rcheck_k2 (n v wt : Int) (a : Option Addr) (m c : Nat) (l : List CaseD) (w : World) (hA : AtC w a m l) :
    Calls Tryz.prog 79 #[.agg #[.int .i64 2, .int .i64 n, .int .i64 v, .int .i64 wt, .slice a m c]] w fun e w' => e = .returned (.int .i64 (checkD ⟨2, n, v, wt, l⟩)) ∧ Kept w w' := by
  have HL : Hid (l.length = m) := hA.1
  clear hA
  go_enter Tryz.func79, Tryz.ntmps79
  go_wp2_with fail
  all_goals (go_ret; refine ⟨?_, (Kept.refl w).alloc _⟩; refine ret_int ?_)
  all_goals (first
    | (rw [check_arg rfl (by rw [HL.out]; rw [Bool.eq_false_iff]; intro hh; simp [takesB, shapeOf] at *; omega)])
    | (rw [check_plain rfl (by rw [HL.out]; simp [takesB, shapeOf] at *; omega) rfl, casesE_nil (by rw [HL.out]; simp at *; omega)]))
set_option maxHeartbeats 2000000 in
theorem rcheck_k3 (n v wt : Int) (a : Option Addr) (m c : Nat) (l : List CaseD) (w : World) (hA : AtC w a m l) :
    Calls Tryz.prog 79 #[.agg #[.int .i64 3, .int .i64 n, .int .i64 v, .int .i64 wt, .slice a m c]] w fun e w' => e = .returned (.int .i64 (checkD ⟨3, n, v, wt, l⟩)) ∧ Kept w w' := by
  have HL : Hid (l.length = m) := hA.1
  clear hA
  go_enter Tryz.func79, Tryz.ntmps79
  go_wp2_with fail
  all_goals (go_ret; refine ⟨?_, (Kept.refl w).alloc _⟩; refine ret_int ?_)
  all_goals (first
    | (rw [check_arg rfl (by rw [HL.out]; rw [Bool.eq_false_iff]; intro hh; simp [takesB, shapeOf] at *; omega)])
    | (rw [check_plain rfl (by rw [HL.out]; simp [takesB, shapeOf] at *; omega) rfl, casesE_nil (by rw [HL.out]; simp at *; omega)]))
set_option maxHeartbeats 2000000 in
theorem rcheck_k4 (n v wt : Int) (a : Option Addr) (m c : Nat) (l : List CaseD) (w : World) (hA : AtC w a m l) :
    Calls Tryz.prog 79 #[.agg #[.int .i64 4, .int .i64 n, .int .i64 v, .int .i64 wt, .slice a m c]] w fun e w' => e = .returned (.int .i64 (checkD ⟨4, n, v, wt, l⟩)) ∧ Kept w w' := by
  have HL : Hid (l.length = m) := hA.1
  clear hA
  go_enter Tryz.func79, Tryz.ntmps79
  go_wp2_with fail
  all_goals (go_ret; refine ⟨?_, (Kept.refl w).alloc _⟩; refine ret_int ?_)
  all_goals (first
    | (rw [check_arg rfl (by rw [HL.out]; rw [Bool.eq_false_iff]; intro hh; simp [takesB, shapeOf] at *; omega)])
    | (rw [check_plain rfl (by rw [HL.out]; simp [takesB, shapeOf] at *; omega) rfl, casesE_nil (by rw [HL.out]; simp at *; omega)]))
set_option maxHeartbeats 2000000 in
theorem rcheck_k5 (n v wt : Int) (a : Option Addr) (m c : Nat) (l : List CaseD) (w : World) (hA : AtC w a m l) :
    Calls Tryz.prog 79 #[.agg #[.int .i64 5, .int .i64 n, .int .i64 v, .int .i64 wt, .slice a m c]] w fun e w' => e = .returned (.int .i64 (checkD ⟨5, n, v, wt, l⟩)) ∧ Kept w w' := by
  have HL : Hid (l.length = m) := hA.1
  clear hA
  go_enter Tryz.func79, Tryz.ntmps79
  go_wp2_with fail
  all_goals (go_ret; refine ⟨?_, (Kept.refl w).alloc _⟩; refine ret_int ?_)
  all_goals (first
    | (rw [check_arg rfl (by rw [HL.out]; rw [Bool.eq_false_iff]; intro hh; simp [takesB, shapeOf] at *; omega)])
    | (rw [check_plain rfl (by rw [HL.out]; simp [takesB, shapeOf] at *; omega) rfl, casesE_nil (by rw [HL.out]; simp at *; omega)]))
set_option maxHeartbeats 2000000 in
theorem rcheck_k6 (n v wt : Int) (a : Option Addr) (m c : Nat) (l : List CaseD) (w : World) (hA : AtC w a m l) :
    Calls Tryz.prog 79 #[.agg #[.int .i64 6, .int .i64 n, .int .i64 v, .int .i64 wt, .slice a m c]] w fun e w' => e = .returned (.int .i64 (checkD ⟨6, n, v, wt, l⟩)) ∧ Kept w w' := by
  have HL : Hid (l.length = m) := hA.1
  clear hA
  go_enter Tryz.func79, Tryz.ntmps79
  go_wp2_with fail
  all_goals (go_ret; refine ⟨?_, (Kept.refl w).alloc _⟩; refine ret_int ?_)
  all_goals (first
    | (rw [check_arg rfl (by rw [HL.out]; rw [Bool.eq_false_iff]; intro hh; simp [takesB, shapeOf] at *; omega)])
    | (rw [check_plain rfl (by rw [HL.out]; simp [takesB, shapeOf] at *; omega) rfl, casesE_nil (by rw [HL.out]; simp at *; omega)]))
set_option maxHeartbeats 2000000 in
theorem rcheck_k8 (n v wt : Int) (a : Option Addr) (m c : Nat) (l : List CaseD) (w : World) (hA : AtC w a m l) :
    Calls Tryz.prog 79 #[.agg #[.int .i64 8, .int .i64 n, .int .i64 v, .int .i64 wt, .slice a m c]] w fun e w' => e = .returned (.int .i64 (checkD ⟨8, n, v, wt, l⟩)) ∧ Kept w w' := by
  have HL : Hid (l.length = m) := hA.1
  clear hA
  go_enter Tryz.func79, Tryz.ntmps79
  go_wp2_with fail
  all_goals (go_ret; refine ⟨?_, (Kept.refl w).alloc _⟩; refine ret_int ?_)
  all_goals (first
    | (rw [check_arg rfl (by rw [HL.out]; rw [Bool.eq_false_iff]; intro hh; simp [takesB, shapeOf] at *; omega)])
    | (rw [check_plain rfl (by rw [HL.out]; simp [takesB, shapeOf] at *; omega) rfl, casesE_nil (by rw [HL.out]; simp at *; omega)]))
set_option maxHeartbeats 2000000 in
theorem rcheck_k9 (n v wt : Int) (a : Option Addr) (m c : Nat) (l : List CaseD) (w : World) (hA : AtC w a m l) :
    Calls Tryz.prog 79 #[.agg #[.int .i64 9, .int .i64 n, .int .i64 v, .int .i64 wt, .slice a m c]] w fun e w' => e = .returned (.int .i64 (checkD ⟨9, n, v, wt, l⟩)) ∧ Kept w w' := by
  have HL : Hid (l.length = m) := hA.1
  clear hA
  go_enter Tryz.func79, Tryz.ntmps79
  go_wp2_with fail
  all_goals (go_ret; refine ⟨?_, (Kept.refl w).alloc _⟩; refine ret_int ?_)
  all_goals (first
    | (rw [check_arg rfl (by rw [HL.out]; rw [Bool.eq_false_iff]; intro hh; simp [takesB, shapeOf] at *; omega)])
    | (rw [check_plain rfl (by rw [HL.out]; simp [takesB, shapeOf] at *; omega) rfl, casesE_nil (by rw [HL.out]; simp at *; omega)]))
end Go.Proofs.YtolljdomnohmdaaGreatDoor
namespace Go.Proofs.YtolljdomnohmdaaGreatDoor
open Go.RowKit

theorem waits_no {k n v wt : Int} {l : List CaseD} (h : isKindB k = false) : waitsD ⟨k, n, v, wt, l⟩ = false := by unfold waitsD; rw [h]; rfl
theorem waits_none (k n v wt : Int) (a : Option Addr) (m c : Nat) (l : List CaseD) (w : World) (hk : isKindB k = false) :
    Calls Tryz.prog 145 #[.agg #[.int .i64 k, .int .i64 n, .int .i64 v, .int .i64 wt, .slice a m c]] w fun e w' => e = .returned (.bool (waitsD ⟨k, n, v, wt, l⟩)) ∧ Kept w w' := by
  have HC : Hid (waitsD ⟨k, n, v, wt, l⟩ = false) := waits_no hk
  have hi := isKind_any k
  rw [hk] at hi
  go_enter Tryz.func145, Tryz.ntmps145
  go_wp2_with fail
  refine (hi _).mono ?_
  rintro e w1 ⟨rfl, hw⟩
  subst w1
  go_wp2_with fail
  go_ret
  rw [HC.out]
  exact ⟨rfl, (Kept.refl w).alloc _⟩
theorem waits_any (k n v wt : Int) (a : Option Addr) (m c : Nat) (l : List CaseD) (w : World) (hr : Rdy w) :
    Calls Tryz.prog 145 #[.agg #[.int .i64 k, .int .i64 n, .int .i64 v, .int .i64 wt, .slice a m c]] w fun e w' => e = .returned (.bool (waitsD ⟨k, n, v, wt, l⟩)) ∧ Kept w w' := by
  cases hk : isKindB k with
  | false => exact waits_none k n v wt a m c l w hk
  | true =>
    have hi := isKind_any k
    rw [hk] at hi
    have hlt := hr.lt
    have HR : Hid (Rdy w) := hr
    clear hr
    rcases kind_cases hk with rfl | rfl | rfl | rfl | rfl | rfl | rfl | rfl | rfl
    · obtain ⟨_, _, _, g3, _⟩ := HR.out.k1
      clear hk
      go_enter Tryz.func145, Tryz.ntmps145
      go_wp2_with fail
      refine (hi _).mono ?_
      rintro e w1 ⟨rfl, hw⟩
      subst w1
      go_wp2_with fail
      go_ret
      exact ⟨rfl, (Kept.refl w).alloc _⟩
    · obtain ⟨_, _, _, g3, _⟩ := HR.out.k2
      clear hk
      go_enter Tryz.func145, Tryz.ntmps145
      go_wp2_with fail
      refine (hi _).mono ?_
      rintro e w1 ⟨rfl, hw⟩
      subst w1
      go_wp2_with fail
      go_ret
      exact ⟨rfl, (Kept.refl w).alloc _⟩
    · obtain ⟨_, _, _, g3, _⟩ := HR.out.k3
      clear hk
      go_enter Tryz.func145, Tryz.ntmps145
      go_wp2_with fail
      refine (hi _).mono ?_
      rintro e w1 ⟨rfl, hw⟩
      subst w1
      go_wp2_with fail
      go_ret
      exact ⟨rfl, (Kept.refl w).alloc _⟩
    · obtain ⟨_, _, _, g3, _⟩ := HR.out.k4
      clear hk
      go_enter Tryz.func145, Tryz.ntmps145
      go_wp2_with fail
      refine (hi _).mono ?_
      rintro e w1 ⟨rfl, hw⟩
      subst w1
      go_wp2_with fail
      go_ret
      exact ⟨rfl, (Kept.refl w).alloc _⟩
    · obtain ⟨_, _, _, g3, _⟩ := HR.out.k5
      clear hk
      go_enter Tryz.func145, Tryz.ntmps145
      go_wp2_with fail
      refine (hi _).mono ?_
      rintro e w1 ⟨rfl, hw⟩
      subst w1
      go_wp2_with fail
      go_ret
      exact ⟨rfl, (Kept.refl w).alloc _⟩
    · obtain ⟨_, _, _, g3, _⟩ := HR.out.k6
      clear hk
      go_enter Tryz.func145, Tryz.ntmps145
      go_wp2_with fail
      refine (hi _).mono ?_
      rintro e w1 ⟨rfl, hw⟩
      subst w1
      go_wp2_with fail
      go_ret
      exact ⟨rfl, (Kept.refl w).alloc _⟩
    · obtain ⟨_, _, _, g3, _⟩ := HR.out.k7
      clear hk
      go_enter Tryz.func145, Tryz.ntmps145
      go_wp2_with fail
      refine (hi _).mono ?_
      rintro e w1 ⟨rfl, hw⟩
      subst w1
      go_wp2_with fail
      go_ret
      exact ⟨rfl, (Kept.refl w).alloc _⟩
    · obtain ⟨_, _, _, g3, _⟩ := HR.out.k8
      clear hk
      go_enter Tryz.func145, Tryz.ntmps145
      go_wp2_with fail
      refine (hi _).mono ?_
      rintro e w1 ⟨rfl, hw⟩
      subst w1
      go_wp2_with fail
      go_ret
      exact ⟨rfl, (Kept.refl w).alloc _⟩
    · obtain ⟨_, _, _, g3, _⟩ := HR.out.k9
      clear hk
      go_enter Tryz.func145, Tryz.ntmps145
      go_wp2_with fail
      refine (hi _).mono ?_
      rintro e w1 ⟨rfl, hw⟩
      subst w1
      go_wp2_with fail
      go_ret
      exact ⟨rfl, (Kept.refl w).alloc _⟩
theorem rwaits_any (k n v wt : Int) (a : Option Addr) (m c : Nat) (l : List CaseD) (w : World) :
    Calls Tryz.prog 81 #[.agg #[.int .i64 k, .int .i64 n, .int .i64 v, .int .i64 wt, .slice a m c]] w fun e w' => e = .returned (.bool (waitsD ⟨k, n, v, wt, l⟩)) ∧ Kept w w' := by
  go_enter Tryz.func81, Tryz.ntmps81
  go_wp2_with fail
  all_goals (go_ret; refine ⟨?_, (Kept.refl w).alloc _⟩; refine ret_bool ?_)
  · rename_i h; subst h; rfl
  · rename_i h; subst h; rfl
  · rename_i h; subst h; rfl
  · rename_i h4 h5 h7
    unfold waitsD
    cases hk : isKindB k with
    | false => rfl
    | true => rcases kind_cases hk with rfl | rfl | rfl | rfl | rfl | rfl | rfl | rfl | rfl <;> first | rfl | (exact absurd rfl h4) | (exact absurd rfl h5) | (exact absurd rfl h7)
end Go.Proofs.YtolljdomnohmdaaGreatDoor
