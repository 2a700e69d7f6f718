/- Same, of the program and of the reference. -/
import Derived.Test.YtockpcoegdaipabDoorSam
import Derived.Test.YtockpcoegdaipabDoorChk
namespace Go.Proofs.YtockpcoegdaipabDoor
open Go.RowKit

set_option maxHeartbeats 1000000 in
theorem same_any (k n v wt k' n' v' wt' : Int) (a a' : Option Addr) (m m' c c' : Nat) (l l' : List CaseD) (w : World) (hA : AtC w a m l) (hA' : AtC w a' m' l') (hm : m ≤ 1000000) :
    Calls Tryd.prog 23 #[.agg #[.int .i64 k, .int .i64 n, .int .i64 v, .int .i64 wt, .slice a m c], .agg #[.int .i64 k', .int .i64 n', .int .i64 v', .int .i64 wt', .slice a' m' c']] w fun e w' => e = .returned (.bool (sameD ⟨k, n, v, wt, l⟩ ⟨k', n', v', wt', l'⟩)) ∧ Kept w w' := by
  by_cases hq_k : k = k'
  rotate_left
  · have t1 : (k == k') = false := by simp [hq_k]
    have HR : Hid (sameD ⟨k, n, v, wt, l⟩ ⟨k', n', v', wt', l'⟩ = false) := by show _ = _; simp [sameD, hq_k]
    clear hA hA' hq_k
    go_enter Tryd.func23, Tryd.ntmps23
    go_wp2_with fail
    go_ret
    rw [HR.out]
    exact ⟨rfl, ((Kept.refl w).alloc _).alloc _⟩
  subst hq_k
  by_cases hq_n : n = n'
  rotate_left
  · have t1 : (n == n') = false := by simp [hq_n]
    have HR : Hid (sameD ⟨k, n, v, wt, l⟩ ⟨k, n', v', wt', l'⟩ = false) := by show _ = _; simp [sameD, hq_n]
    clear hA hA' hq_n
    go_enter Tryd.func23, Tryd.ntmps23
    go_wp2_with fail
    go_ret
    rw [HR.out]
    exact ⟨rfl, ((Kept.refl w).alloc _).alloc _⟩
  subst hq_n
  by_cases hq_v : v = v'
  rotate_left
  · have t1 : (v == v') = false := by simp [hq_v]
    have HR : Hid (sameD ⟨k, n, v, wt, l⟩ ⟨k, n, v', wt', l'⟩ = false) := by show _ = _; simp [sameD, hq_v]
    clear hA hA' hq_v
    go_enter Tryd.func23, Tryd.ntmps23
    go_wp2_with fail
    go_ret
    rw [HR.out]
    exact ⟨rfl, ((Kept.refl w).alloc _).alloc _⟩
  subst hq_v
  by_cases hq_wt : wt = wt'
  rotate_left
  · have t1 : (wt == wt') = false := by simp [hq_wt]
    have HR : Hid (sameD ⟨k, n, v, wt, l⟩ ⟨k, n, v, wt', l'⟩ = false) := by show _ = _; simp [sameD, hq_wt]
    clear hA hA' hq_wt
    go_enter Tryd.func23, Tryd.ntmps23
    go_wp2_with fail
    go_ret
    rw [HR.out]
    exact ⟨rfl, ((Kept.refl w).alloc _).alloc _⟩
  subst hq_wt
  have HR : Hid (sameD ⟨k, n, v, wt, l⟩ ⟨k, n, v, wt, l'⟩ = sameL l l') := by show _ = _; simp [sameD]
  go_enter Tryd.func23, Tryd.ntmps23
  have K1 : Kept w ((w.alloc (.cells #[.int .i64 k, .int .i64 n, .int .i64 v, .int .i64 wt, .slice a m c] 32)).alloc (.cells #[.int .i64 k, .int .i64 n, .int .i64 v, .int .i64 wt, .slice a' m' c'] 32)) := ((Kept.refl w).alloc _).alloc _
  go_wp2_with fail
  refine (equal_any a a' m m' c c' l l' _ (hA.kept K1) (hA'.kept K1) hm).mono ?_
  rintro e w1 ⟨rfl, t1⟩
  go_wp2_with fail
  go_ret
  rw [HR.out]
  exact ⟨rfl, K1.trans t1⟩

end Go.Proofs.YtockpcoegdaipabDoor
