/- Comparing deadlines, the stable sort. -/
import Derived.Test.YtembbhbbmkijcaaDoorOrP
namespace Go.Proofs.YtembbhbbmkijcaaDoor
open Go.RowKit Go.Sort

theorem isnan_any (x : Int) (w : World) : Calls Tryd.prog 37 #[.int .i64 x] w fun e w' => e = .returned (.bool false) ∧ w' = w := by
  have hx : (x != x) = false := by simp
  go_enter Tryd.func37, Tryd.ntmps37
  go_wp2_with fail
  go_ret
  exact ⟨rfl, rfl⟩
theorem compare_any (x y : Int) (w : World) : Calls Tryd.prog 26 #[.int .i64 x, .int .i64 y] w fun e w' => e = .returned (.int .i64 (if x < y then -1 else if y < x then 1 else 0)) ∧ w' = w := by
  by_cases h1 : x < y
  · rw [if_pos h1]
    go_enter Tryd.func26, Tryd.ntmps26
    go_wp2_with (first | (go_at_call 37; refine (isnan_any _ _).mono ?_; rintro e w1 ⟨rfl, hw⟩; subst hw))
    go_ret
    exact ⟨rfl, rfl⟩
  · rw [if_neg h1]
    by_cases h2 : y < x
    · rw [if_pos h2]
      have h3 : x > y := h2
      go_enter Tryd.func26, Tryd.ntmps26
      go_wp2_with (first | (go_at_call 37; refine (isnan_any _ _).mono ?_; rintro e w1 ⟨rfl, hw⟩; subst hw))
      go_ret
      exact ⟨rfl, rfl⟩
    · rw [if_neg h2]
      have h3 : ¬ x > y := h2
      go_enter Tryd.func26, Tryd.ntmps26
      go_wp2_with (first | (go_at_call 37; refine (isnan_any _ _).mono ?_; rintro e w1 ⟨rfl, hw⟩; subst hw))
      go_ret
      exact ⟨rfl, rfl⟩
/-- What a slice of tasks shows of their deadlines. -/
def AtD (w : World) (a : Option Addr) (n : Nat) (D : Nat → Int) : Prop := ∀ j, j < n → ∃ b f, a = some ⟨b, f, none⟩ ∧ w.cell? ⟨b, f + j * 5 + 2, none⟩ = some (.int .i64 (D j))
theorem AtD.kept {w w' : World} {a : Option Addr} {n : Nat} {D : Nat → Int} (h : AtD w a n D) (t : Kept w w') : AtD w' a n D := by
  intro j hj
  obtain ⟨b, f, e, hc⟩ := h j hj
  exact ⟨b, f, e, t.cell hc⟩
set_option maxHeartbeats 2000000 in
theorem less_any (a : Option Addr) (n c : Nat) (D : Nat → Int) (bx : Nat) (x y : Nat) (hx : x < n) (hy : y < n) (w : World) (hb : w.cell? ⟨bx, 2, none⟩ = some (.slice a n c)) (hD : AtD w a n D) :
    Calls Tryd.prog 25 #[.int .i64 x, .int .i64 y, .pointer (some ⟨bx, 0, none⟩)] w fun e w' => e = .returned (.int .i64 (if D x < D y then -1 else if D y < D x then 1 else 0)) ∧ ∃ q, w' = w.drewN q := by
  obtain ⟨b, f, rfl, c1⟩ := hD x hx
  obtain ⟨b', f', e', c2⟩ := hD y hy
  cases e'
  have r1 : (x : Int) < (n : Int) := by omega
  have r2 : (y : Int) < (n : Int) := by omega
  have r3 : (0 : Int) ≤ (x : Int) := by omega
  have r4 : (0 : Int) ≤ (y : Int) := by omega
  have hc : ∀ k, Calls Tryd.prog 26 #[.int .i64 (D x), .int .i64 (D y)] (w.drewN k) fun e w' => e = .returned (.int .i64 (if D x < D y then -1 else if D y < D x then 1 else 0)) ∧ ∃ q, w' = (w.drewN k).drewN q := fun k => (compare_any _ _ _).mono (by rintro e w' ⟨rfl, rfl⟩; exact ⟨rfl, 0, rfl⟩)
  generalize (if D x < D y then (-1 : Int) else if D y < D x then 1 else 0) = z at hc ⊢
  clear hD
  go_enter Tryd.func25, Tryd.ntmps25
  go_wp2_with fail
  go_quiet (first | (go_at_call 26; refine Calls.quiet_of (hc _)))
  go_wp2_with fail
  go_ret
  exact ⟨rfl, nq, rfl⟩
def encF {n : Nat} (x : Fin n) : Value := .int .i64 (x.1 : Int)
set_option maxHeartbeats 2000000 in
theorem stable_any (n : Nat) (D : Nat → Int) [Inhabited (Fin n)] (h20 : n < 20) (cap blk bx : Nat) (w : World) (hH : Holds encF w blk 0 (idArr n)) (hcmp : CmpReads Tryd.prog 25 #[.pointer (some ⟨bx, 0, none⟩)] encF (cfD n D) blk 0 n w) :
    Calls Tryd.prog 36 #[.slice (some ⟨blk, 0, none⟩) n cap, .int .i64 n, .func (.func 25) #[] #[.pointer (some ⟨bx, 0, none⟩)]] w fun e w' => e = .returned (.tuple #[]) ∧ ∃ q, w' = (putRow encF w blk 0 (Sort.insertionSort (ltOf (cfD n D)) (idArr n) 0 n)).drewN q := by
  have hi := Tryd.insertionSortCmpFunc_one encF (fun _ => rfl) (cfD n D) 25 #[.pointer (some ⟨bx, 0, none⟩)] blk 0 cap 0 n (idArr n) w (enters_of Tryd.func25 (by kernel_rfl) rfl) (by rw [idArr_size]; exact hcmp) hH (Nat.zero_le _) (by rw [idArr_size]; exact Nat.le_refl _) (by rw [idArr_size]; omega)
  rw [idArr_size] at hi
  have hi2 : Calls Tryd.prog 38 #[.slice (some ⟨blk, 0, none⟩) n cap, .int .i64 0, .int .i64 n, .func (.func 25) #[] #[.pointer (some ⟨bx, 0, none⟩)]] w fun e w' => e = .returned (.tuple #[]) ∧ ∃ q, w' = (putRow encF w blk 0 (Sort.insertionSort (ltOf (cfD n D)) (idArr n) 0 n)).drewN q := hi
  have r1 : ¬ (20 : Int) ≤ (n : Int) := by omega
  have r2 : ¬ (20 : Int) < (n : Int) := by omega
  clear hi hcmp hH
  generalize Sort.insertionSort (ltOf (cfD n D)) (idArr n) 0 n = d' at *
  go_enter Tryd.func36, Tryd.ntmps36
  go_wp2_with fail
  refine wp_loop_rounds 1 ?_
  rw [rounds_succ]
  go_wp2_with (first | (go_at_call 38; refine hi2.mono ?_; rintro e w1 ⟨rfl, q, rfl⟩) | fail)
  refine wp_loop_rounds 1 ?_
  rw [rounds_succ]
  go_wp2_with fail
  go_end0
  exact ⟨rfl, q, rfl⟩
set_option maxHeartbeats 2000000 in
theorem sortst_any (n : Nat) (D : Nat → Int) [Inhabited (Fin n)] (h20 : n < 20) (cap blk bx : Nat) (w : World) (hH : Holds encF w blk 0 (idArr n)) (hcmp : CmpReads Tryd.prog 25 #[.pointer (some ⟨bx, 0, none⟩)] encF (cfD n D) blk 0 n w) :
    Calls Tryd.prog 24 #[.slice (some ⟨blk, 0, none⟩) n cap, .func (.func 25) #[] #[.pointer (some ⟨bx, 0, none⟩)]] w fun e w' => e = .returned (.tuple #[]) ∧ ∃ q, w' = (putRow encF w blk 0 (Sort.insertionSort (ltOf (cfD n D)) (idArr n) 0 n)).drewN q := by
  have hi := stable_any n D h20 cap blk bx w hH hcmp
  clear hcmp hH
  generalize Sort.insertionSort (ltOf (cfD n D)) (idArr n) 0 n = d' at *
  go_enter Tryd.func24, Tryd.ntmps24
  go_wp2_with (first | (go_at_call 36; refine hi.mono ?_; rintro e w1 ⟨rfl, q, rfl⟩) | fail)
  go_end0
  exact ⟨rfl, q, rfl⟩
end Go.Proofs.YtembbhbbmkijcaaDoor
