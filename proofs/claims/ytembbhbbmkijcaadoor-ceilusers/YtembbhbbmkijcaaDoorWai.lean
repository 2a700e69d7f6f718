/- Waits, of the program and of the reference. -/
import Derived.Test.YtembbhbbmkijcaaDoorCheck
namespace Go.Proofs.YtembbhbbmkijcaaDoor
open Go.RowKit

theorem waits_no {k n v wt : Int} {l : List CaseD} (h : isKindB k = false) : waitsD ⟨k, n, v, wt, l⟩ = false := by unfold waitsD; rw [h]; rfl
theorem waits_none (k n v wt : Int) (a : Option Addr) (m c : Nat) (l : List CaseD) (w : World) (hk : isKindB k = false) :
    Calls Tryd.prog 82 #[.agg #[.int .i64 k, .int .i64 n, .int .i64 v, .int .i64 wt, .slice a m c]] w fun e w' => e = .returned (.bool (waitsD ⟨k, n, v, wt, l⟩)) ∧ Kept w w' := by
  have HC : Hid (waitsD ⟨k, n, v, wt, l⟩ = false) := waits_no hk
  have hi := isKind_any k
  rw [hk] at hi
  go_enter Tryd.func82, Tryd.ntmps82
  go_wp2_with fail
  refine (hi _).mono ?_
  rintro e w1 ⟨rfl, hw⟩
  subst w1
  go_wp2_with fail
  go_ret
  rw [HC.out]
  exact ⟨rfl, (Kept.refl w).alloc _⟩
theorem waits_any (k n v wt : Int) (a : Option Addr) (m c : Nat) (l : List CaseD) (w : World) (hr : Rdy w) :
    Calls Tryd.prog 82 #[.agg #[.int .i64 k, .int .i64 n, .int .i64 v, .int .i64 wt, .slice a m c]] w fun e w' => e = .returned (.bool (waitsD ⟨k, n, v, wt, l⟩)) ∧ Kept w w' := by
  cases hk : isKindB k with
  | false => exact waits_none k n v wt a m c l w hk
  | true =>
    have hi := isKind_any k
    rw [hk] at hi
    have hlt := hr.lt
    have HR : Hid (Rdy w) := hr
    clear hr
    rcases kind_cases hk with rfl | rfl | rfl | rfl | rfl | rfl | rfl | rfl | rfl
    · obtain ⟨_, _, _, g3, _⟩ := HR.out.k1
      clear hk
      go_enter Tryd.func82, Tryd.ntmps82
      go_wp2_with fail
      refine (hi _).mono ?_
      rintro e w1 ⟨rfl, hw⟩
      subst w1
      go_wp2_with fail
      go_ret
      exact ⟨rfl, (Kept.refl w).alloc _⟩
    · obtain ⟨_, _, _, g3, _⟩ := HR.out.k2
      clear hk
      go_enter Tryd.func82, Tryd.ntmps82
      go_wp2_with fail
      refine (hi _).mono ?_
      rintro e w1 ⟨rfl, hw⟩
      subst w1
      go_wp2_with fail
      go_ret
      exact ⟨rfl, (Kept.refl w).alloc _⟩
    · obtain ⟨_, _, _, g3, _⟩ := HR.out.k3
      clear hk
      go_enter Tryd.func82, Tryd.ntmps82
      go_wp2_with fail
      refine (hi _).mono ?_
      rintro e w1 ⟨rfl, hw⟩
      subst w1
      go_wp2_with fail
      go_ret
      exact ⟨rfl, (Kept.refl w).alloc _⟩
    · obtain ⟨_, _, _, g3, _⟩ := HR.out.k4
      clear hk
      go_enter Tryd.func82, Tryd.ntmps82
      go_wp2_with fail
      refine (hi _).mono ?_
      rintro e w1 ⟨rfl, hw⟩
      subst w1
      go_wp2_with fail
      go_ret
      exact ⟨rfl, (Kept.refl w).alloc _⟩
    · obtain ⟨_, _, _, g3, _⟩ := HR.out.k5
      clear hk
      go_enter Tryd.func82, Tryd.ntmps82
      go_wp2_with fail
      refine (hi _).mono ?_
      rintro e w1 ⟨rfl, hw⟩
      subst w1
      go_wp2_with fail
      go_ret
      exact ⟨rfl, (Kept.refl w).alloc _⟩
    · obtain ⟨_, _, _, g3, _⟩ := HR.out.k6
      clear hk
      go_enter Tryd.func82, Tryd.ntmps82
      go_wp2_with fail
      refine (hi _).mono ?_
      rintro e w1 ⟨rfl, hw⟩
      subst w1
      go_wp2_with fail
      go_ret
      exact ⟨rfl, (Kept.refl w).alloc _⟩
    · obtain ⟨_, _, _, g3, _⟩ := HR.out.k7
      clear hk
      go_enter Tryd.func82, Tryd.ntmps82
      go_wp2_with fail
      refine (hi _).mono ?_
      rintro e w1 ⟨rfl, hw⟩
      subst w1
      go_wp2_with fail
      go_ret
      exact ⟨rfl, (Kept.refl w).alloc _⟩
    · obtain ⟨_, _, _, g3, _⟩ := HR.out.k8
      clear hk
      go_enter Tryd.func82, Tryd.ntmps82
      go_wp2_with fail
      refine (hi _).mono ?_
      rintro e w1 ⟨rfl, hw⟩
      subst w1
      go_wp2_with fail
      go_ret
      exact ⟨rfl, (Kept.refl w).alloc _⟩
    · obtain ⟨_, _, _, g3, _⟩ := HR.out.k9
      clear hk
      go_enter Tryd.func82, Tryd.ntmps82
      go_wp2_with fail
      refine (hi _).mono ?_
      rintro e w1 ⟨rfl, hw⟩
      subst w1
      go_wp2_with fail
      go_ret
      exact ⟨rfl, (Kept.refl w).alloc _⟩
end Go.Proofs.YtembbhbbmkijcaaDoor
