/- Comparing deadlines, the stable sort. -/
import Derived.Test.YtcfgcbjhlamchaaOrP
namespace Go.Proofs.Ytcfgcbjhlamchaa
open Go.RowKit Go.Sort

theorem isnan_any (x : Int) (w : World) : Calls Try.prog 59 #[.int .i64 x] w fun e w' => e = .returned (.bool false) ∧ w' = w := by
  have hx : (x != x) = false := by simp
  go_enter Try.func59, Try.ntmps59
  go_wp2_with fail
  go_ret
  exact ⟨rfl, rfl⟩
theorem compare_any (x y : Int) (w : World) : Calls Try.prog 46 #[.int .i64 x, .int .i64 y] w fun e w' => e = .returned (.int .i64 (if x < y then -1 else if y < x then 1 else 0)) ∧ w' = w := by
  by_cases h1 : x < y
  · rw [if_pos h1]
    go_enter Try.func46, Try.ntmps46
    go_wp2_with (first | (go_at_call 59; refine (isnan_any _ _).mono ?_; rintro e w1 ⟨rfl, hw⟩; subst hw))
    go_ret
    exact ⟨rfl, rfl⟩
  · rw [if_neg h1]
    by_cases h2 : y < x
    · rw [if_pos h2]
      have h3 : x > y := h2
      go_enter Try.func46, Try.ntmps46
      go_wp2_with (first | (go_at_call 59; refine (isnan_any _ _).mono ?_; rintro e w1 ⟨rfl, hw⟩; subst hw))
      go_ret
      exact ⟨rfl, rfl⟩
    · rw [if_neg h2]
      have h3 : ¬ x > y := h2
      go_enter Try.func46, Try.ntmps46
      go_wp2_with (first | (go_at_call 59; refine (isnan_any _ _).mono ?_; rintro e w1 ⟨rfl, hw⟩; subst hw))
      go_ret
      exact ⟨rfl, rfl⟩
/-- What a slice of tasks shows of their deadlines. -/
def AtD (w : World) (a : Option Addr) (n : Nat) (D : Nat → Int) : Prop := ∀ j, j < n → ∃ b f, a = some ⟨b, f, none⟩ ∧ w.cell? ⟨b, f + j * 5 + 2, none⟩ = some (.int .i64 (D j))
theorem AtD.kept {w w' : World} {a : Option Addr} {n : Nat} {D : Nat → Int} (h : AtD w a n D) (t : Kept w w') : AtD w' a n D := by
  intro j hj
  obtain ⟨b, f, e, hc⟩ := h j hj
  exact ⟨b, f, e, t.cell hc⟩
set_option maxHeartbeats 2000000 in
theorem less_any (a : Option Addr) (n c : Nat) (D : Nat → Int) (bx : Nat) (x y : Nat) (hx : x < n) (hy : y < n) (w : World) (hb : w.cell? ⟨bx, 2, none⟩ = some (.slice a n c)) (hD : AtD w a n D) :
    Calls Try.prog 45 #[.int .i64 x, .int .i64 y, .pointer (some ⟨bx, 0, none⟩)] w fun e w' => e = .returned (.int .i64 (if D x < D y then -1 else if D y < D x then 1 else 0)) ∧ ∃ q, w' = w.drewN q := by
  obtain ⟨b, f, rfl, c1⟩ := hD x hx
  obtain ⟨b', f', e', c2⟩ := hD y hy
  cases e'
  have r1 : (x : Int) < (n : Int) := by omega
  have r2 : (y : Int) < (n : Int) := by omega
  have r3 : (0 : Int) ≤ (x : Int) := by omega
  have r4 : (0 : Int) ≤ (y : Int) := by omega
  have hc : ∀ k, Calls Try.prog 46 #[.int .i64 (D x), .int .i64 (D y)] (w.drewN k) fun e w' => e = .returned (.int .i64 (if D x < D y then -1 else if D y < D x then 1 else 0)) ∧ ∃ q, w' = (w.drewN k).drewN q := fun k => (compare_any _ _ _).mono (by rintro e w' ⟨rfl, rfl⟩; exact ⟨rfl, 0, rfl⟩)
  generalize (if D x < D y then (-1 : Int) else if D y < D x then 1 else 0) = z at hc ⊢
  clear hD
  go_enter Try.func45, Try.ntmps45
  go_wp2_with fail
  go_quiet (first | (go_at_call 46; refine Calls.quiet_of (hc _)))
  go_wp2_with fail
  go_ret
  exact ⟨rfl, nq, rfl⟩
def encF {n : Nat} (x : Fin n) : Value := .int .i64 (x.1 : Int)
set_option maxHeartbeats 2000000 in
theorem stable_any (n : Nat) (D : Nat → Int) [Inhabited (Fin n)] (h20 : n < 20) (cap blk bx : Nat) (w : World) (hH : Holds encF w blk 0 (idArr n)) (hcmp : CmpReads Try.prog 45 #[.pointer (some ⟨bx, 0, none⟩)] encF (cfD n D) blk 0 n w) :
    Calls Try.prog 58 #[.slice (some ⟨blk, 0, none⟩) n cap, .int .i64 n, .func (.func 45) #[] #[.pointer (some ⟨bx, 0, none⟩)]] w fun e w' => e = .returned (.tuple #[]) ∧ ∃ q, w' = (putRow encF w blk 0 (Sort.insertionSort (ltOf (cfD n D)) (idArr n) 0 n)).drewN q := by
  have hi := Try.insertionSortCmpFunc_one encF (fun _ => rfl) (cfD n D) 45 #[.pointer (some ⟨bx, 0, none⟩)] blk 0 cap 0 n (idArr n) w (enters_of Try.func45 (by kernel_rfl) rfl) (by rw [idArr_size]; exact hcmp) hH (Nat.zero_le _) (by rw [idArr_size]; exact Nat.le_refl _) (by rw [idArr_size]; omega)
  rw [idArr_size] at hi
  have hi2 : Calls Try.prog 64 #[.slice (some ⟨blk, 0, none⟩) n cap, .int .i64 0, .int .i64 n, .func (.func 45) #[] #[.pointer (some ⟨bx, 0, none⟩)]] w fun e w' => e = .returned (.tuple #[]) ∧ ∃ q, w' = (putRow encF w blk 0 (Sort.insertionSort (ltOf (cfD n D)) (idArr n) 0 n)).drewN q := hi
  have r1 : ¬ (20 : Int) ≤ (n : Int) := by omega
  have r2 : ¬ (20 : Int) < (n : Int) := by omega
  clear hi hcmp hH
  generalize Sort.insertionSort (ltOf (cfD n D)) (idArr n) 0 n = d' at *
  go_enter Try.func58, Try.ntmps58
  go_wp2_with fail
  refine wp_loop_rounds 1 ?_
  rw [rounds_succ]
  go_wp2_with (first | (go_at_call 64; refine hi2.mono ?_; rintro e w1 ⟨rfl, q, rfl⟩) | fail)
  refine wp_loop_rounds 1 ?_
  rw [rounds_succ]
  go_wp2_with fail
  go_end0
  exact ⟨rfl, q, rfl⟩
set_option maxHeartbeats 2000000 in
theorem sortst_any (n : Nat) (D : Nat → Int) [Inhabited (Fin n)] (h20 : n < 20) (cap blk bx : Nat) (w : World) (hH : Holds encF w blk 0 (idArr n)) (hcmp : CmpReads Try.prog 45 #[.pointer (some ⟨bx, 0, none⟩)] encF (cfD n D) blk 0 n w) :
    Calls Try.prog 44 #[.slice (some ⟨blk, 0, none⟩) n cap, .func (.func 45) #[] #[.pointer (some ⟨bx, 0, none⟩)]] w fun e w' => e = .returned (.tuple #[]) ∧ ∃ q, w' = (putRow encF w blk 0 (Sort.insertionSort (ltOf (cfD n D)) (idArr n) 0 n)).drewN q := by
  have hi := stable_any n D h20 cap blk bx w hH hcmp
  clear hcmp hH
  generalize Sort.insertionSort (ltOf (cfD n D)) (idArr n) 0 n = d' at *
  go_enter Try.func44, Try.ntmps44
  go_wp2_with (first | (go_at_call 58; refine hi.mono ?_; rintro e w1 ⟨rfl, q, rfl⟩) | fail)
  go_end0
  exact ⟨rfl, q, rfl⟩
end Go.Proofs.Ytcfgcbjhlamchaa
