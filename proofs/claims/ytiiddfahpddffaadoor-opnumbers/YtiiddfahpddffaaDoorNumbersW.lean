/- OpNumbers, walked. -/
import Derived.Test.YtiiddfahpddffaaDoorKnown
namespace Go.Proofs.YtiiddfahpddffaaDoor
open Go.RowKit

theorem num_ok {k : Int} (hk : isKindB k = true) (h7 : k ≠ 7) {n : Int} (h1 : (shapeOf k.toNat).least ≤ n) (h2 : n ≤ (shapeOf k.toNat).most) : checkD ⟨k, n, 0, 0, []⟩ = 0 := by
  have ht : takesB (shapeOf k.toNat) n 0 0 0 = true := by
    simp [takesB]
    omega
  rw [check_plain hk ht (by rcases kind_cases hk with rfl | rfl | rfl | rfl | rfl | rfl | rfl | rfl | rfl <;> first | rfl | exact absurd rfl h7)]
  rfl
theorem num_bad {k : Int} (hk : isKindB k = true) {n : Int} {l : List CaseD} (h : n < (shapeOf k.toNat).least ∨ (shapeOf k.toNat).most < n) : checkD ⟨k, n, 0, 0, l⟩ = 1 := by
  refine check_arg hk ?_
  rw [Bool.eq_false_iff]
  intro hh
  simp [takesB] at hh
  omega
theorem AtC.turns {S : Nat → Prop} {w w' : World} {a : Option Addr} {n : Nat} {l : List CaseD} (h : AtC w a n l) (t : Turns S w w') (hS : ∀ b f, a = some ⟨b, f, Option.none⟩ → ¬ S b) : AtC w' a n l := by
  refine ⟨h.1, fun j hj => ?_⟩
  obtain ⟨b, f, e, h1, h2, h3⟩ := h.2 j hj
  exact ⟨b, f, e, t.cell h1 (cell_lt h1) (hS b f e), t.cell h2 (cell_lt h2) (hS b f e), t.cell h3 (cell_lt h3) (hS b f e)⟩
theorem atc_one (w : World) : AtC (w.alloc (.cells #[.bool false, .int .i64 0, .int .i64 0] 46)) (some ⟨w.heap.size, 0, none⟩) 1 [⟨false, 0, 0⟩] := by
  refine ⟨rfl, fun j hj => ⟨w.heap.size, 0, rfl, ?_⟩⟩
  obtain rfl : j = 0 := by omega
  refine ⟨?_, ?_, ?_⟩ <;> (rw [World.cell?_alloc_at _ _ _ _ rfl]; rfl)

set_option maxHeartbeats 2000000 in
theorem numbers_ok1 (x n : Int) (hx0 : 0 ≤ x) (hx1 : x ≤ 255) (hx : x % 9 = 0) (h1 : 1 ≤ n) (h2 : n ≤ 1000) (w : World) (hr : Rdy w) :
    Calls Tryd.prog 5 #[.int .u8 x, .int .i64 n] w fun e w' => e = .returned (.bool true) ∧ Kept w w' := by
  have HC : Hid (checkD ⟨1, n, 0, 0, []⟩ = 0) := num_ok rfl (by decide) h1 h2
  have e1 : decide (1 ≤ n) = true := decide_eq_true h1
  have e2 : decide (n ≤ 1000) = true := decide_eq_true h2
  go_enter Tryd.func5, Tryd.ntmps5
  go_wp2_with fail
  refine (known_true w hr).mono ?_
  rintro e w1 ⟨rfl, T1⟩
  have K2 := T1.alloc (.cells #[.int .i64 1, .int .i64 n, .int .i64 0, .int .i64 0, .slice none 0 0] 29)
  have X2 := box_new w.heap.size w1 29 [.int .i64 1, .int .i64 n, .int .i64 0, .int .i64 0, .slice none 0 0] T1.size (by simp)
  go_wp2_with fail
  refine (check_any 1 n 0 0 none 0 0 [] _ (hr.kept K2) (AtC.none _) (by omega) (by omega)).mono ?_
  rintro e w2 ⟨rfl, t2⟩
  rw [HC.out]
  have X3 := X2.kept t2
  go_wp2_with fail
  go_ret
  exact ⟨rfl, K2.trans t2⟩

set_option maxHeartbeats 2000000 in
theorem numbers_lo1 (x n : Int) (hx0 : 0 ≤ x) (hx1 : x ≤ 255) (hx : x % 9 = 0) (h1 : n < 1) (w : World) (hr : Rdy w) :
    Calls Tryd.prog 5 #[.int .u8 x, .int .i64 n] w fun e w' => e = .returned (.bool true) ∧ Kept w w' := by
  have HC : Hid (checkD ⟨1, n, 0, 0, []⟩ = 1) := num_bad rfl (.inl h1)
  have hle : ¬ 1 ≤ n := by omega
  have e1 : decide (1 ≤ n) = false := decide_eq_false hle
  go_enter Tryd.func5, Tryd.ntmps5
  go_wp2_with fail
  refine (known_true w hr).mono ?_
  rintro e w1 ⟨rfl, T1⟩
  have K2 := T1.alloc (.cells #[.int .i64 1, .int .i64 n, .int .i64 0, .int .i64 0, .slice none 0 0] 29)
  have X2 := box_new w.heap.size w1 29 [.int .i64 1, .int .i64 n, .int .i64 0, .int .i64 0, .slice none 0 0] T1.size (by simp)
  go_wp2_with fail
  refine (check_any 1 n 0 0 none 0 0 [] _ (hr.kept K2) (AtC.none _) (by omega) (by omega)).mono ?_
  rintro e w2 ⟨rfl, t2⟩
  rw [HC.out]
  have X3 := X2.kept t2
  have x0 : w2.cell? ⟨w1.heap.size, 0, none⟩ = some (.int .i64 1) := X3.cell 0 (by simp)
  have x1 : w2.cell? ⟨w1.heap.size, 1, none⟩ = some (.int .i64 n) := X3.cell 1 (by simp)
  have x2 : w2.cell? ⟨w1.heap.size, 2, none⟩ = some (.int .i64 0) := X3.cell 2 (by simp)
  have x3 : w2.cell? ⟨w1.heap.size, 3, none⟩ = some (.int .i64 0) := X3.cell 3 (by simp)
  have x4 : w2.cell? ⟨w1.heap.size, 4, none⟩ = some (.slice none 0 0) := X3.cell 4 (by simp)
  have xl := X3.lt.2
  go_wp2_with fail
  refine (check_any 1 n 0 0 none 0 0 [] w2 (hr.kept (K2.trans t2)) (AtC.none _) (by omega) (by omega)).mono ?_
  rintro e w3 ⟨rfl, t3⟩
  rw [HC.out]
  go_wp2_with fail
  go_ret
  exact ⟨rfl, (K2.trans t2).trans t3⟩

set_option maxHeartbeats 2000000 in
theorem numbers_hi1 (x n : Int) (hx0 : 0 ≤ x) (hx1 : x ≤ 255) (hx : x % 9 = 0) (h1 : 1 ≤ n) (h2 : 1000 < n) (w : World) (hr : Rdy w) :
    Calls Tryd.prog 5 #[.int .u8 x, .int .i64 n] w fun e w' => e = .returned (.bool true) ∧ Kept w w' := by
  have HC : Hid (checkD ⟨1, n, 0, 0, []⟩ = 1) := num_bad rfl (.inr h2)
  have hmo : ¬ n ≤ 1000 := by omega
  have e1 : decide (1 ≤ n) = true := decide_eq_true h1
  have e2 : decide (n ≤ 1000) = false := decide_eq_false hmo
  go_enter Tryd.func5, Tryd.ntmps5
  go_wp2_with fail
  refine (known_true w hr).mono ?_
  rintro e w1 ⟨rfl, T1⟩
  have K2 := T1.alloc (.cells #[.int .i64 1, .int .i64 n, .int .i64 0, .int .i64 0, .slice none 0 0] 29)
  have X2 := box_new w.heap.size w1 29 [.int .i64 1, .int .i64 n, .int .i64 0, .int .i64 0, .slice none 0 0] T1.size (by simp)
  go_wp2_with fail
  refine (check_any 1 n 0 0 none 0 0 [] _ (hr.kept K2) (AtC.none _) (by omega) (by omega)).mono ?_
  rintro e w2 ⟨rfl, t2⟩
  rw [HC.out]
  have X3 := X2.kept t2
  have x0 : w2.cell? ⟨w1.heap.size, 0, none⟩ = some (.int .i64 1) := X3.cell 0 (by simp)
  have x1 : w2.cell? ⟨w1.heap.size, 1, none⟩ = some (.int .i64 n) := X3.cell 1 (by simp)
  have x2 : w2.cell? ⟨w1.heap.size, 2, none⟩ = some (.int .i64 0) := X3.cell 2 (by simp)
  have x3 : w2.cell? ⟨w1.heap.size, 3, none⟩ = some (.int .i64 0) := X3.cell 3 (by simp)
  have x4 : w2.cell? ⟨w1.heap.size, 4, none⟩ = some (.slice none 0 0) := X3.cell 4 (by simp)
  have xl := X3.lt.2
  go_wp2_with fail
  refine (check_any 1 n 0 0 none 0 0 [] w2 (hr.kept (K2.trans t2)) (AtC.none _) (by omega) (by omega)).mono ?_
  rintro e w3 ⟨rfl, t3⟩
  rw [HC.out]
  go_wp2_with fail
  go_ret
  exact ⟨rfl, (K2.trans t2).trans t3⟩

set_option maxHeartbeats 2000000 in
theorem numbers_ok2 (x n : Int) (hx0 : 0 ≤ x) (hx1 : x ≤ 255) (hx : x % 9 = 1) (h1 : 0 ≤ n) (h2 : n ≤ 7) (w : World) (hr : Rdy w) :
    Calls Tryd.prog 5 #[.int .u8 x, .int .i64 n] w fun e w' => e = .returned (.bool true) ∧ Kept w w' := by
  have HC : Hid (checkD ⟨2, n, 0, 0, []⟩ = 0) := num_ok rfl (by decide) h1 h2
  have e1 : decide (0 ≤ n) = true := decide_eq_true h1
  have e2 : decide (n ≤ 7) = true := decide_eq_true h2
  go_enter Tryd.func5, Tryd.ntmps5
  go_wp2_with fail
  refine (known_true w hr).mono ?_
  rintro e w1 ⟨rfl, T1⟩
  have K2 := T1.alloc (.cells #[.int .i64 2, .int .i64 n, .int .i64 0, .int .i64 0, .slice none 0 0] 29)
  have X2 := box_new w.heap.size w1 29 [.int .i64 2, .int .i64 n, .int .i64 0, .int .i64 0, .slice none 0 0] T1.size (by simp)
  go_wp2_with fail
  refine (check_any 2 n 0 0 none 0 0 [] _ (hr.kept K2) (AtC.none _) (by omega) (by omega)).mono ?_
  rintro e w2 ⟨rfl, t2⟩
  rw [HC.out]
  have X3 := X2.kept t2
  go_wp2_with fail
  go_ret
  exact ⟨rfl, K2.trans t2⟩

set_option maxHeartbeats 2000000 in
theorem numbers_lo2 (x n : Int) (hx0 : 0 ≤ x) (hx1 : x ≤ 255) (hx : x % 9 = 1) (h1 : n < 0) (w : World) (hr : Rdy w) :
    Calls Tryd.prog 5 #[.int .u8 x, .int .i64 n] w fun e w' => e = .returned (.bool true) ∧ Kept w w' := by
  have HC : Hid (checkD ⟨2, n, 0, 0, []⟩ = 1) := num_bad rfl (.inl h1)
  have hle : ¬ 0 ≤ n := by omega
  have e1 : decide (0 ≤ n) = false := decide_eq_false hle
  go_enter Tryd.func5, Tryd.ntmps5
  go_wp2_with fail
  refine (known_true w hr).mono ?_
  rintro e w1 ⟨rfl, T1⟩
  have K2 := T1.alloc (.cells #[.int .i64 2, .int .i64 n, .int .i64 0, .int .i64 0, .slice none 0 0] 29)
  have X2 := box_new w.heap.size w1 29 [.int .i64 2, .int .i64 n, .int .i64 0, .int .i64 0, .slice none 0 0] T1.size (by simp)
  go_wp2_with fail
  refine (check_any 2 n 0 0 none 0 0 [] _ (hr.kept K2) (AtC.none _) (by omega) (by omega)).mono ?_
  rintro e w2 ⟨rfl, t2⟩
  rw [HC.out]
  have X3 := X2.kept t2
  have x0 : w2.cell? ⟨w1.heap.size, 0, none⟩ = some (.int .i64 2) := X3.cell 0 (by simp)
  have x1 : w2.cell? ⟨w1.heap.size, 1, none⟩ = some (.int .i64 n) := X3.cell 1 (by simp)
  have x2 : w2.cell? ⟨w1.heap.size, 2, none⟩ = some (.int .i64 0) := X3.cell 2 (by simp)
  have x3 : w2.cell? ⟨w1.heap.size, 3, none⟩ = some (.int .i64 0) := X3.cell 3 (by simp)
  have x4 : w2.cell? ⟨w1.heap.size, 4, none⟩ = some (.slice none 0 0) := X3.cell 4 (by simp)
  have xl := X3.lt.2
  go_wp2_with fail
  refine (check_any 2 n 0 0 none 0 0 [] w2 (hr.kept (K2.trans t2)) (AtC.none _) (by omega) (by omega)).mono ?_
  rintro e w3 ⟨rfl, t3⟩
  rw [HC.out]
  go_wp2_with fail
  go_ret
  exact ⟨rfl, (K2.trans t2).trans t3⟩

set_option maxHeartbeats 2000000 in
theorem numbers_hi2 (x n : Int) (hx0 : 0 ≤ x) (hx1 : x ≤ 255) (hx : x % 9 = 1) (h1 : 0 ≤ n) (h2 : 7 < n) (w : World) (hr : Rdy w) :
    Calls Tryd.prog 5 #[.int .u8 x, .int .i64 n] w fun e w' => e = .returned (.bool true) ∧ Kept w w' := by
  have HC : Hid (checkD ⟨2, n, 0, 0, []⟩ = 1) := num_bad rfl (.inr h2)
  have hmo : ¬ n ≤ 7 := by omega
  have e1 : decide (0 ≤ n) = true := decide_eq_true h1
  have e2 : decide (n ≤ 7) = false := decide_eq_false hmo
  go_enter Tryd.func5, Tryd.ntmps5
  go_wp2_with fail
  refine (known_true w hr).mono ?_
  rintro e w1 ⟨rfl, T1⟩
  have K2 := T1.alloc (.cells #[.int .i64 2, .int .i64 n, .int .i64 0, .int .i64 0, .slice none 0 0] 29)
  have X2 := box_new w.heap.size w1 29 [.int .i64 2, .int .i64 n, .int .i64 0, .int .i64 0, .slice none 0 0] T1.size (by simp)
  go_wp2_with fail
  refine (check_any 2 n 0 0 none 0 0 [] _ (hr.kept K2) (AtC.none _) (by omega) (by omega)).mono ?_
  rintro e w2 ⟨rfl, t2⟩
  rw [HC.out]
  have X3 := X2.kept t2
  have x0 : w2.cell? ⟨w1.heap.size, 0, none⟩ = some (.int .i64 2) := X3.cell 0 (by simp)
  have x1 : w2.cell? ⟨w1.heap.size, 1, none⟩ = some (.int .i64 n) := X3.cell 1 (by simp)
  have x2 : w2.cell? ⟨w1.heap.size, 2, none⟩ = some (.int .i64 0) := X3.cell 2 (by simp)
  have x3 : w2.cell? ⟨w1.heap.size, 3, none⟩ = some (.int .i64 0) := X3.cell 3 (by simp)
  have x4 : w2.cell? ⟨w1.heap.size, 4, none⟩ = some (.slice none 0 0) := X3.cell 4 (by simp)
  have xl := X3.lt.2
  go_wp2_with fail
  refine (check_any 2 n 0 0 none 0 0 [] w2 (hr.kept (K2.trans t2)) (AtC.none _) (by omega) (by omega)).mono ?_
  rintro e w3 ⟨rfl, t3⟩
  rw [HC.out]
  go_wp2_with fail
  go_ret
  exact ⟨rfl, (K2.trans t2).trans t3⟩

set_option maxHeartbeats 2000000 in
theorem numbers_ok3 (x n : Int) (hx0 : 0 ≤ x) (hx1 : x ≤ 255) (hx : x % 9 = 2) (h1 : 0 ≤ n) (h2 : n ≤ 7) (w : World) (hr : Rdy w) :
    Calls Tryd.prog 5 #[.int .u8 x, .int .i64 n] w fun e w' => e = .returned (.bool true) ∧ Kept w w' := by
  have HC : Hid (checkD ⟨3, n, 0, 0, []⟩ = 0) := num_ok rfl (by decide) h1 h2
  have e1 : decide (0 ≤ n) = true := decide_eq_true h1
  have e2 : decide (n ≤ 7) = true := decide_eq_true h2
  go_enter Tryd.func5, Tryd.ntmps5
  go_wp2_with fail
  refine (known_true w hr).mono ?_
  rintro e w1 ⟨rfl, T1⟩
  have K2 := T1.alloc (.cells #[.int .i64 3, .int .i64 n, .int .i64 0, .int .i64 0, .slice none 0 0] 29)
  have X2 := box_new w.heap.size w1 29 [.int .i64 3, .int .i64 n, .int .i64 0, .int .i64 0, .slice none 0 0] T1.size (by simp)
  go_wp2_with fail
  refine (check_any 3 n 0 0 none 0 0 [] _ (hr.kept K2) (AtC.none _) (by omega) (by omega)).mono ?_
  rintro e w2 ⟨rfl, t2⟩
  rw [HC.out]
  have X3 := X2.kept t2
  go_wp2_with fail
  go_ret
  exact ⟨rfl, K2.trans t2⟩

set_option maxHeartbeats 2000000 in
theorem numbers_lo3 (x n : Int) (hx0 : 0 ≤ x) (hx1 : x ≤ 255) (hx : x % 9 = 2) (h1 : n < 0) (w : World) (hr : Rdy w) :
    Calls Tryd.prog 5 #[.int .u8 x, .int .i64 n] w fun e w' => e = .returned (.bool true) ∧ Kept w w' := by
  have HC : Hid (checkD ⟨3, n, 0, 0, []⟩ = 1) := num_bad rfl (.inl h1)
  have hle : ¬ 0 ≤ n := by omega
  have e1 : decide (0 ≤ n) = false := decide_eq_false hle
  go_enter Tryd.func5, Tryd.ntmps5
  go_wp2_with fail
  refine (known_true w hr).mono ?_
  rintro e w1 ⟨rfl, T1⟩
  have K2 := T1.alloc (.cells #[.int .i64 3, .int .i64 n, .int .i64 0, .int .i64 0, .slice none 0 0] 29)
  have X2 := box_new w.heap.size w1 29 [.int .i64 3, .int .i64 n, .int .i64 0, .int .i64 0, .slice none 0 0] T1.size (by simp)
  go_wp2_with fail
  refine (check_any 3 n 0 0 none 0 0 [] _ (hr.kept K2) (AtC.none _) (by omega) (by omega)).mono ?_
  rintro e w2 ⟨rfl, t2⟩
  rw [HC.out]
  have X3 := X2.kept t2
  have x0 : w2.cell? ⟨w1.heap.size, 0, none⟩ = some (.int .i64 3) := X3.cell 0 (by simp)
  have x1 : w2.cell? ⟨w1.heap.size, 1, none⟩ = some (.int .i64 n) := X3.cell 1 (by simp)
  have x2 : w2.cell? ⟨w1.heap.size, 2, none⟩ = some (.int .i64 0) := X3.cell 2 (by simp)
  have x3 : w2.cell? ⟨w1.heap.size, 3, none⟩ = some (.int .i64 0) := X3.cell 3 (by simp)
  have x4 : w2.cell? ⟨w1.heap.size, 4, none⟩ = some (.slice none 0 0) := X3.cell 4 (by simp)
  have xl := X3.lt.2
  go_wp2_with fail
  refine (check_any 3 n 0 0 none 0 0 [] w2 (hr.kept (K2.trans t2)) (AtC.none _) (by omega) (by omega)).mono ?_
  rintro e w3 ⟨rfl, t3⟩
  rw [HC.out]
  go_wp2_with fail
  go_ret
  exact ⟨rfl, (K2.trans t2).trans t3⟩

set_option maxHeartbeats 2000000 in
theorem numbers_hi3 (x n : Int) (hx0 : 0 ≤ x) (hx1 : x ≤ 255) (hx : x % 9 = 2) (h1 : 0 ≤ n) (h2 : 7 < n) (w : World) (hr : Rdy w) :
    Calls Tryd.prog 5 #[.int .u8 x, .int .i64 n] w fun e w' => e = .returned (.bool true) ∧ Kept w w' := by
  have HC : Hid (checkD ⟨3, n, 0, 0, []⟩ = 1) := num_bad rfl (.inr h2)
  have hmo : ¬ n ≤ 7 := by omega
  have e1 : decide (0 ≤ n) = true := decide_eq_true h1
  have e2 : decide (n ≤ 7) = false := decide_eq_false hmo
  go_enter Tryd.func5, Tryd.ntmps5
  go_wp2_with fail
  refine (known_true w hr).mono ?_
  rintro e w1 ⟨rfl, T1⟩
  have K2 := T1.alloc (.cells #[.int .i64 3, .int .i64 n, .int .i64 0, .int .i64 0, .slice none 0 0] 29)
  have X2 := box_new w.heap.size w1 29 [.int .i64 3, .int .i64 n, .int .i64 0, .int .i64 0, .slice none 0 0] T1.size (by simp)
  go_wp2_with fail
  refine (check_any 3 n 0 0 none 0 0 [] _ (hr.kept K2) (AtC.none _) (by omega) (by omega)).mono ?_
  rintro e w2 ⟨rfl, t2⟩
  rw [HC.out]
  have X3 := X2.kept t2
  have x0 : w2.cell? ⟨w1.heap.size, 0, none⟩ = some (.int .i64 3) := X3.cell 0 (by simp)
  have x1 : w2.cell? ⟨w1.heap.size, 1, none⟩ = some (.int .i64 n) := X3.cell 1 (by simp)
  have x2 : w2.cell? ⟨w1.heap.size, 2, none⟩ = some (.int .i64 0) := X3.cell 2 (by simp)
  have x3 : w2.cell? ⟨w1.heap.size, 3, none⟩ = some (.int .i64 0) := X3.cell 3 (by simp)
  have x4 : w2.cell? ⟨w1.heap.size, 4, none⟩ = some (.slice none 0 0) := X3.cell 4 (by simp)
  have xl := X3.lt.2
  go_wp2_with fail
  refine (check_any 3 n 0 0 none 0 0 [] w2 (hr.kept (K2.trans t2)) (AtC.none _) (by omega) (by omega)).mono ?_
  rintro e w3 ⟨rfl, t3⟩
  rw [HC.out]
  go_wp2_with fail
  go_ret
  exact ⟨rfl, (K2.trans t2).trans t3⟩

set_option maxHeartbeats 2000000 in
theorem numbers_ok4 (x n : Int) (hx0 : 0 ≤ x) (hx1 : x ≤ 255) (hx : x % 9 = 3) (h1 : 0 ≤ n) (h2 : n ≤ 7) (w : World) (hr : Rdy w) :
    Calls Tryd.prog 5 #[.int .u8 x, .int .i64 n] w fun e w' => e = .returned (.bool true) ∧ Kept w w' := by
  have HC : Hid (checkD ⟨4, n, 0, 0, []⟩ = 0) := num_ok rfl (by decide) h1 h2
  have e1 : decide (0 ≤ n) = true := decide_eq_true h1
  have e2 : decide (n ≤ 7) = true := decide_eq_true h2
  go_enter Tryd.func5, Tryd.ntmps5
  go_wp2_with fail
  refine (known_true w hr).mono ?_
  rintro e w1 ⟨rfl, T1⟩
  have K2 := T1.alloc (.cells #[.int .i64 4, .int .i64 n, .int .i64 0, .int .i64 0, .slice none 0 0] 29)
  have X2 := box_new w.heap.size w1 29 [.int .i64 4, .int .i64 n, .int .i64 0, .int .i64 0, .slice none 0 0] T1.size (by simp)
  go_wp2_with fail
  refine (check_any 4 n 0 0 none 0 0 [] _ (hr.kept K2) (AtC.none _) (by omega) (by omega)).mono ?_
  rintro e w2 ⟨rfl, t2⟩
  rw [HC.out]
  have X3 := X2.kept t2
  go_wp2_with fail
  go_ret
  exact ⟨rfl, K2.trans t2⟩

set_option maxHeartbeats 2000000 in
theorem numbers_lo4 (x n : Int) (hx0 : 0 ≤ x) (hx1 : x ≤ 255) (hx : x % 9 = 3) (h1 : n < 0) (w : World) (hr : Rdy w) :
    Calls Tryd.prog 5 #[.int .u8 x, .int .i64 n] w fun e w' => e = .returned (.bool true) ∧ Kept w w' := by
  have HC : Hid (checkD ⟨4, n, 0, 0, []⟩ = 1) := num_bad rfl (.inl h1)
  have hle : ¬ 0 ≤ n := by omega
  have e1 : decide (0 ≤ n) = false := decide_eq_false hle
  go_enter Tryd.func5, Tryd.ntmps5
  go_wp2_with fail
  refine (known_true w hr).mono ?_
  rintro e w1 ⟨rfl, T1⟩
  have K2 := T1.alloc (.cells #[.int .i64 4, .int .i64 n, .int .i64 0, .int .i64 0, .slice none 0 0] 29)
  have X2 := box_new w.heap.size w1 29 [.int .i64 4, .int .i64 n, .int .i64 0, .int .i64 0, .slice none 0 0] T1.size (by simp)
  go_wp2_with fail
  refine (check_any 4 n 0 0 none 0 0 [] _ (hr.kept K2) (AtC.none _) (by omega) (by omega)).mono ?_
  rintro e w2 ⟨rfl, t2⟩
  rw [HC.out]
  have X3 := X2.kept t2
  have x0 : w2.cell? ⟨w1.heap.size, 0, none⟩ = some (.int .i64 4) := X3.cell 0 (by simp)
  have x1 : w2.cell? ⟨w1.heap.size, 1, none⟩ = some (.int .i64 n) := X3.cell 1 (by simp)
  have x2 : w2.cell? ⟨w1.heap.size, 2, none⟩ = some (.int .i64 0) := X3.cell 2 (by simp)
  have x3 : w2.cell? ⟨w1.heap.size, 3, none⟩ = some (.int .i64 0) := X3.cell 3 (by simp)
  have x4 : w2.cell? ⟨w1.heap.size, 4, none⟩ = some (.slice none 0 0) := X3.cell 4 (by simp)
  have xl := X3.lt.2
  go_wp2_with fail
  refine (check_any 4 n 0 0 none 0 0 [] w2 (hr.kept (K2.trans t2)) (AtC.none _) (by omega) (by omega)).mono ?_
  rintro e w3 ⟨rfl, t3⟩
  rw [HC.out]
  go_wp2_with fail
  go_ret
  exact ⟨rfl, (K2.trans t2).trans t3⟩

set_option maxHeartbeats 2000000 in
theorem numbers_hi4 (x n : Int) (hx0 : 0 ≤ x) (hx1 : x ≤ 255) (hx : x % 9 = 3) (h1 : 0 ≤ n) (h2 : 7 < n) (w : World) (hr : Rdy w) :
    Calls Tryd.prog 5 #[.int .u8 x, .int .i64 n] w fun e w' => e = .returned (.bool true) ∧ Kept w w' := by
  have HC : Hid (checkD ⟨4, n, 0, 0, []⟩ = 1) := num_bad rfl (.inr h2)
  have hmo : ¬ n ≤ 7 := by omega
  have e1 : decide (0 ≤ n) = true := decide_eq_true h1
  have e2 : decide (n ≤ 7) = false := decide_eq_false hmo
  go_enter Tryd.func5, Tryd.ntmps5
  go_wp2_with fail
  refine (known_true w hr).mono ?_
  rintro e w1 ⟨rfl, T1⟩
  have K2 := T1.alloc (.cells #[.int .i64 4, .int .i64 n, .int .i64 0, .int .i64 0, .slice none 0 0] 29)
  have X2 := box_new w.heap.size w1 29 [.int .i64 4, .int .i64 n, .int .i64 0, .int .i64 0, .slice none 0 0] T1.size (by simp)
  go_wp2_with fail
  refine (check_any 4 n 0 0 none 0 0 [] _ (hr.kept K2) (AtC.none _) (by omega) (by omega)).mono ?_
  rintro e w2 ⟨rfl, t2⟩
  rw [HC.out]
  have X3 := X2.kept t2
  have x0 : w2.cell? ⟨w1.heap.size, 0, none⟩ = some (.int .i64 4) := X3.cell 0 (by simp)
  have x1 : w2.cell? ⟨w1.heap.size, 1, none⟩ = some (.int .i64 n) := X3.cell 1 (by simp)
  have x2 : w2.cell? ⟨w1.heap.size, 2, none⟩ = some (.int .i64 0) := X3.cell 2 (by simp)
  have x3 : w2.cell? ⟨w1.heap.size, 3, none⟩ = some (.int .i64 0) := X3.cell 3 (by simp)
  have x4 : w2.cell? ⟨w1.heap.size, 4, none⟩ = some (.slice none 0 0) := X3.cell 4 (by simp)
  have xl := X3.lt.2
  go_wp2_with fail
  refine (check_any 4 n 0 0 none 0 0 [] w2 (hr.kept (K2.trans t2)) (AtC.none _) (by omega) (by omega)).mono ?_
  rintro e w3 ⟨rfl, t3⟩
  rw [HC.out]
  go_wp2_with fail
  go_ret
  exact ⟨rfl, (K2.trans t2).trans t3⟩

set_option maxHeartbeats 2000000 in
theorem numbers_ok5 (x n : Int) (hx0 : 0 ≤ x) (hx1 : x ≤ 255) (hx : x % 9 = 4) (h1 : 0 ≤ n) (h2 : n ≤ 7) (w : World) (hr : Rdy w) :
    Calls Tryd.prog 5 #[.int .u8 x, .int .i64 n] w fun e w' => e = .returned (.bool true) ∧ Kept w w' := by
  have HC : Hid (checkD ⟨5, n, 0, 0, []⟩ = 0) := num_ok rfl (by decide) h1 h2
  have e1 : decide (0 ≤ n) = true := decide_eq_true h1
  have e2 : decide (n ≤ 7) = true := decide_eq_true h2
  go_enter Tryd.func5, Tryd.ntmps5
  go_wp2_with fail
  refine (known_true w hr).mono ?_
  rintro e w1 ⟨rfl, T1⟩
  have K2 := T1.alloc (.cells #[.int .i64 5, .int .i64 n, .int .i64 0, .int .i64 0, .slice none 0 0] 29)
  have X2 := box_new w.heap.size w1 29 [.int .i64 5, .int .i64 n, .int .i64 0, .int .i64 0, .slice none 0 0] T1.size (by simp)
  go_wp2_with fail
  refine (check_any 5 n 0 0 none 0 0 [] _ (hr.kept K2) (AtC.none _) (by omega) (by omega)).mono ?_
  rintro e w2 ⟨rfl, t2⟩
  rw [HC.out]
  have X3 := X2.kept t2
  go_wp2_with fail
  go_ret
  exact ⟨rfl, K2.trans t2⟩

set_option maxHeartbeats 2000000 in
theorem numbers_lo5 (x n : Int) (hx0 : 0 ≤ x) (hx1 : x ≤ 255) (hx : x % 9 = 4) (h1 : n < 0) (w : World) (hr : Rdy w) :
    Calls Tryd.prog 5 #[.int .u8 x, .int .i64 n] w fun e w' => e = .returned (.bool true) ∧ Kept w w' := by
  have HC : Hid (checkD ⟨5, n, 0, 0, []⟩ = 1) := num_bad rfl (.inl h1)
  have hle : ¬ 0 ≤ n := by omega
  have e1 : decide (0 ≤ n) = false := decide_eq_false hle
  go_enter Tryd.func5, Tryd.ntmps5
  go_wp2_with fail
  refine (known_true w hr).mono ?_
  rintro e w1 ⟨rfl, T1⟩
  have K2 := T1.alloc (.cells #[.int .i64 5, .int .i64 n, .int .i64 0, .int .i64 0, .slice none 0 0] 29)
  have X2 := box_new w.heap.size w1 29 [.int .i64 5, .int .i64 n, .int .i64 0, .int .i64 0, .slice none 0 0] T1.size (by simp)
  go_wp2_with fail
  refine (check_any 5 n 0 0 none 0 0 [] _ (hr.kept K2) (AtC.none _) (by omega) (by omega)).mono ?_
  rintro e w2 ⟨rfl, t2⟩
  rw [HC.out]
  have X3 := X2.kept t2
  have x0 : w2.cell? ⟨w1.heap.size, 0, none⟩ = some (.int .i64 5) := X3.cell 0 (by simp)
  have x1 : w2.cell? ⟨w1.heap.size, 1, none⟩ = some (.int .i64 n) := X3.cell 1 (by simp)
  have x2 : w2.cell? ⟨w1.heap.size, 2, none⟩ = some (.int .i64 0) := X3.cell 2 (by simp)
  have x3 : w2.cell? ⟨w1.heap.size, 3, none⟩ = some (.int .i64 0) := X3.cell 3 (by simp)
  have x4 : w2.cell? ⟨w1.heap.size, 4, none⟩ = some (.slice none 0 0) := X3.cell 4 (by simp)
  have xl := X3.lt.2
  go_wp2_with fail
  refine (check_any 5 n 0 0 none 0 0 [] w2 (hr.kept (K2.trans t2)) (AtC.none _) (by omega) (by omega)).mono ?_
  rintro e w3 ⟨rfl, t3⟩
  rw [HC.out]
  go_wp2_with fail
  go_ret
  exact ⟨rfl, (K2.trans t2).trans t3⟩

set_option maxHeartbeats 2000000 in
theorem numbers_hi5 (x n : Int) (hx0 : 0 ≤ x) (hx1 : x ≤ 255) (hx : x % 9 = 4) (h1 : 0 ≤ n) (h2 : 7 < n) (w : World) (hr : Rdy w) :
    Calls Tryd.prog 5 #[.int .u8 x, .int .i64 n] w fun e w' => e = .returned (.bool true) ∧ Kept w w' := by
  have HC : Hid (checkD ⟨5, n, 0, 0, []⟩ = 1) := num_bad rfl (.inr h2)
  have hmo : ¬ n ≤ 7 := by omega
  have e1 : decide (0 ≤ n) = true := decide_eq_true h1
  have e2 : decide (n ≤ 7) = false := decide_eq_false hmo
  go_enter Tryd.func5, Tryd.ntmps5
  go_wp2_with fail
  refine (known_true w hr).mono ?_
  rintro e w1 ⟨rfl, T1⟩
  have K2 := T1.alloc (.cells #[.int .i64 5, .int .i64 n, .int .i64 0, .int .i64 0, .slice none 0 0] 29)
  have X2 := box_new w.heap.size w1 29 [.int .i64 5, .int .i64 n, .int .i64 0, .int .i64 0, .slice none 0 0] T1.size (by simp)
  go_wp2_with fail
  refine (check_any 5 n 0 0 none 0 0 [] _ (hr.kept K2) (AtC.none _) (by omega) (by omega)).mono ?_
  rintro e w2 ⟨rfl, t2⟩
  rw [HC.out]
  have X3 := X2.kept t2
  have x0 : w2.cell? ⟨w1.heap.size, 0, none⟩ = some (.int .i64 5) := X3.cell 0 (by simp)
  have x1 : w2.cell? ⟨w1.heap.size, 1, none⟩ = some (.int .i64 n) := X3.cell 1 (by simp)
  have x2 : w2.cell? ⟨w1.heap.size, 2, none⟩ = some (.int .i64 0) := X3.cell 2 (by simp)
  have x3 : w2.cell? ⟨w1.heap.size, 3, none⟩ = some (.int .i64 0) := X3.cell 3 (by simp)
  have x4 : w2.cell? ⟨w1.heap.size, 4, none⟩ = some (.slice none 0 0) := X3.cell 4 (by simp)
  have xl := X3.lt.2
  go_wp2_with fail
  refine (check_any 5 n 0 0 none 0 0 [] w2 (hr.kept (K2.trans t2)) (AtC.none _) (by omega) (by omega)).mono ?_
  rintro e w3 ⟨rfl, t3⟩
  rw [HC.out]
  go_wp2_with fail
  go_ret
  exact ⟨rfl, (K2.trans t2).trans t3⟩

set_option maxHeartbeats 2000000 in
theorem numbers_ok6 (x n : Int) (hx0 : 0 ≤ x) (hx1 : x ≤ 255) (hx : x % 9 = 5) (h1 : 0 ≤ n) (h2 : n ≤ 7) (w : World) (hr : Rdy w) :
    Calls Tryd.prog 5 #[.int .u8 x, .int .i64 n] w fun e w' => e = .returned (.bool true) ∧ Kept w w' := by
  have HC : Hid (checkD ⟨6, n, 0, 0, []⟩ = 0) := num_ok rfl (by decide) h1 h2
  have e1 : decide (0 ≤ n) = true := decide_eq_true h1
  have e2 : decide (n ≤ 7) = true := decide_eq_true h2
  go_enter Tryd.func5, Tryd.ntmps5
  go_wp2_with fail
  refine (known_true w hr).mono ?_
  rintro e w1 ⟨rfl, T1⟩
  have K2 := T1.alloc (.cells #[.int .i64 6, .int .i64 n, .int .i64 0, .int .i64 0, .slice none 0 0] 29)
  have X2 := box_new w.heap.size w1 29 [.int .i64 6, .int .i64 n, .int .i64 0, .int .i64 0, .slice none 0 0] T1.size (by simp)
  go_wp2_with fail
  refine (check_any 6 n 0 0 none 0 0 [] _ (hr.kept K2) (AtC.none _) (by omega) (by omega)).mono ?_
  rintro e w2 ⟨rfl, t2⟩
  rw [HC.out]
  have X3 := X2.kept t2
  go_wp2_with fail
  go_ret
  exact ⟨rfl, K2.trans t2⟩

set_option maxHeartbeats 2000000 in
theorem numbers_lo6 (x n : Int) (hx0 : 0 ≤ x) (hx1 : x ≤ 255) (hx : x % 9 = 5) (h1 : n < 0) (w : World) (hr : Rdy w) :
    Calls Tryd.prog 5 #[.int .u8 x, .int .i64 n] w fun e w' => e = .returned (.bool true) ∧ Kept w w' := by
  have HC : Hid (checkD ⟨6, n, 0, 0, []⟩ = 1) := num_bad rfl (.inl h1)
  have hle : ¬ 0 ≤ n := by omega
  have e1 : decide (0 ≤ n) = false := decide_eq_false hle
  go_enter Tryd.func5, Tryd.ntmps5
  go_wp2_with fail
  refine (known_true w hr).mono ?_
  rintro e w1 ⟨rfl, T1⟩
  have K2 := T1.alloc (.cells #[.int .i64 6, .int .i64 n, .int .i64 0, .int .i64 0, .slice none 0 0] 29)
  have X2 := box_new w.heap.size w1 29 [.int .i64 6, .int .i64 n, .int .i64 0, .int .i64 0, .slice none 0 0] T1.size (by simp)
  go_wp2_with fail
  refine (check_any 6 n 0 0 none 0 0 [] _ (hr.kept K2) (AtC.none _) (by omega) (by omega)).mono ?_
  rintro e w2 ⟨rfl, t2⟩
  rw [HC.out]
  have X3 := X2.kept t2
  have x0 : w2.cell? ⟨w1.heap.size, 0, none⟩ = some (.int .i64 6) := X3.cell 0 (by simp)
  have x1 : w2.cell? ⟨w1.heap.size, 1, none⟩ = some (.int .i64 n) := X3.cell 1 (by simp)
  have x2 : w2.cell? ⟨w1.heap.size, 2, none⟩ = some (.int .i64 0) := X3.cell 2 (by simp)
  have x3 : w2.cell? ⟨w1.heap.size, 3, none⟩ = some (.int .i64 0) := X3.cell 3 (by simp)
  have x4 : w2.cell? ⟨w1.heap.size, 4, none⟩ = some (.slice none 0 0) := X3.cell 4 (by simp)
  have xl := X3.lt.2
  go_wp2_with fail
  refine (check_any 6 n 0 0 none 0 0 [] w2 (hr.kept (K2.trans t2)) (AtC.none _) (by omega) (by omega)).mono ?_
  rintro e w3 ⟨rfl, t3⟩
  rw [HC.out]
  go_wp2_with fail
  go_ret
  exact ⟨rfl, (K2.trans t2).trans t3⟩

set_option maxHeartbeats 2000000 in
theorem numbers_hi6 (x n : Int) (hx0 : 0 ≤ x) (hx1 : x ≤ 255) (hx : x % 9 = 5) (h1 : 0 ≤ n) (h2 : 7 < n) (w : World) (hr : Rdy w) :
    Calls Tryd.prog 5 #[.int .u8 x, .int .i64 n] w fun e w' => e = .returned (.bool true) ∧ Kept w w' := by
  have HC : Hid (checkD ⟨6, n, 0, 0, []⟩ = 1) := num_bad rfl (.inr h2)
  have hmo : ¬ n ≤ 7 := by omega
  have e1 : decide (0 ≤ n) = true := decide_eq_true h1
  have e2 : decide (n ≤ 7) = false := decide_eq_false hmo
  go_enter Tryd.func5, Tryd.ntmps5
  go_wp2_with fail
  refine (known_true w hr).mono ?_
  rintro e w1 ⟨rfl, T1⟩
  have K2 := T1.alloc (.cells #[.int .i64 6, .int .i64 n, .int .i64 0, .int .i64 0, .slice none 0 0] 29)
  have X2 := box_new w.heap.size w1 29 [.int .i64 6, .int .i64 n, .int .i64 0, .int .i64 0, .slice none 0 0] T1.size (by simp)
  go_wp2_with fail
  refine (check_any 6 n 0 0 none 0 0 [] _ (hr.kept K2) (AtC.none _) (by omega) (by omega)).mono ?_
  rintro e w2 ⟨rfl, t2⟩
  rw [HC.out]
  have X3 := X2.kept t2
  have x0 : w2.cell? ⟨w1.heap.size, 0, none⟩ = some (.int .i64 6) := X3.cell 0 (by simp)
  have x1 : w2.cell? ⟨w1.heap.size, 1, none⟩ = some (.int .i64 n) := X3.cell 1 (by simp)
  have x2 : w2.cell? ⟨w1.heap.size, 2, none⟩ = some (.int .i64 0) := X3.cell 2 (by simp)
  have x3 : w2.cell? ⟨w1.heap.size, 3, none⟩ = some (.int .i64 0) := X3.cell 3 (by simp)
  have x4 : w2.cell? ⟨w1.heap.size, 4, none⟩ = some (.slice none 0 0) := X3.cell 4 (by simp)
  have xl := X3.lt.2
  go_wp2_with fail
  refine (check_any 6 n 0 0 none 0 0 [] w2 (hr.kept (K2.trans t2)) (AtC.none _) (by omega) (by omega)).mono ?_
  rintro e w3 ⟨rfl, t3⟩
  rw [HC.out]
  go_wp2_with fail
  go_ret
  exact ⟨rfl, (K2.trans t2).trans t3⟩

set_option maxHeartbeats 2000000 in
theorem numbers_ok7 (x n : Int) (hx0 : 0 ≤ x) (hx1 : x ≤ 255) (hx : x % 9 = 6) (h1 : 0 ≤ n) (h2 : n ≤ 0) (w : World) (hr : Rdy w) :
    Calls Tryd.prog 5 #[.int .u8 x, .int .i64 n] w fun e w' => e = .returned (.bool true) ∧ Kept w w' := by
  have HC : Hid (checkD ⟨7, n, 0, 0, [⟨false, 0, 0⟩]⟩ = 0) := by
    obtain rfl : n = 0 := by omega
    show _ = _
    kernel_rfl
  have e1 : decide (0 ≤ n) = true := decide_eq_true h1
  have e2 : decide (n ≤ 0) = true := decide_eq_true h2
  go_enter Tryd.func5, Tryd.ntmps5
  go_wp2_with fail
  refine (known_true w hr).mono ?_
  rintro e w1 ⟨rfl, T1⟩
  have K3 := (T1.alloc (.cells #[.int .i64 7, .int .i64 n, .int .i64 0, .int .i64 0, .slice (some ⟨w1.heap.size + 1, 0, none⟩) 1 1] 29)).alloc (.cells #[.bool false, .int .i64 0, .int .i64 0] 46)
  have X2 := (box_new w.heap.size w1 29 [.int .i64 7, .int .i64 n, .int .i64 0, .int .i64 0, .slice (some ⟨w1.heap.size + 1, 0, none⟩) 1 1] T1.size (by simp)).kept ((Kept.refl _).alloc (.cells #[.bool false, .int .i64 0, .int .i64 0] 46))
  have hat := atc_one (w1.alloc (.cells #[.int .i64 7, .int .i64 n, .int .i64 0, .int .i64 0, .slice (some ⟨w1.heap.size + 1, 0, none⟩) 1 1] 29))
  have hsz : (w1.alloc (.cells #[.int .i64 7, .int .i64 n, .int .i64 0, .int .i64 0, .slice (some ⟨w1.heap.size + 1, 0, none⟩) 1 1] 29)).heap.size = w1.heap.size + 1 := by simp
  rw [hsz] at hat
  have HA2 : Hid (AtC _ _ 1 [⟨false, 0, 0⟩]) := hat
  clear hat hsz
  go_wp2_with fail
  refine (check_any 7 n 0 0 (some ⟨w1.heap.size + 1, 0, none⟩) 1 1 [⟨false, 0, 0⟩] _ (hr.kept K3) HA2.out (by omega) (by omega)).mono ?_
  rintro e w2 ⟨rfl, t2⟩
  rw [HC.out]
  have X3 := X2.kept t2
  go_wp2_with fail
  go_ret
  exact ⟨rfl, K3.trans t2⟩

set_option maxHeartbeats 2000000 in
theorem numbers_lo7 (x n : Int) (hx0 : 0 ≤ x) (hx1 : x ≤ 255) (hx : x % 9 = 6) (h1 : n < 0) (w : World) (hr : Rdy w) :
    Calls Tryd.prog 5 #[.int .u8 x, .int .i64 n] w fun e w' => e = .returned (.bool true) ∧ Kept w w' := by
  have HC : Hid (checkD ⟨7, n, 0, 0, [⟨false, 0, 0⟩]⟩ = 1) := num_bad rfl (.inl h1)
  have hle : ¬ 0 ≤ n := by omega
  have e1 : decide (0 ≤ n) = false := decide_eq_false hle
  go_enter Tryd.func5, Tryd.ntmps5
  go_wp2_with fail
  refine (known_true w hr).mono ?_
  rintro e w1 ⟨rfl, T1⟩
  have K3 := (T1.alloc (.cells #[.int .i64 7, .int .i64 n, .int .i64 0, .int .i64 0, .slice (some ⟨w1.heap.size + 1, 0, none⟩) 1 1] 29)).alloc (.cells #[.bool false, .int .i64 0, .int .i64 0] 46)
  have X2 := (box_new w.heap.size w1 29 [.int .i64 7, .int .i64 n, .int .i64 0, .int .i64 0, .slice (some ⟨w1.heap.size + 1, 0, none⟩) 1 1] T1.size (by simp)).kept ((Kept.refl _).alloc (.cells #[.bool false, .int .i64 0, .int .i64 0] 46))
  have hat := atc_one (w1.alloc (.cells #[.int .i64 7, .int .i64 n, .int .i64 0, .int .i64 0, .slice (some ⟨w1.heap.size + 1, 0, none⟩) 1 1] 29))
  have hsz : (w1.alloc (.cells #[.int .i64 7, .int .i64 n, .int .i64 0, .int .i64 0, .slice (some ⟨w1.heap.size + 1, 0, none⟩) 1 1] 29)).heap.size = w1.heap.size + 1 := by simp
  rw [hsz] at hat
  have HA2 : Hid (AtC _ _ 1 [⟨false, 0, 0⟩]) := hat
  clear hat hsz
  go_wp2_with fail
  refine (check_any 7 n 0 0 (some ⟨w1.heap.size + 1, 0, none⟩) 1 1 [⟨false, 0, 0⟩] _ (hr.kept K3) HA2.out (by omega) (by omega)).mono ?_
  rintro e w2 ⟨rfl, t2⟩
  rw [HC.out]
  have X3 := X2.kept t2
  have x0 : w2.cell? ⟨w1.heap.size, 0, none⟩ = some (.int .i64 7) := X3.cell 0 (by simp)
  have x1 : w2.cell? ⟨w1.heap.size, 1, none⟩ = some (.int .i64 n) := X3.cell 1 (by simp)
  have x2 : w2.cell? ⟨w1.heap.size, 2, none⟩ = some (.int .i64 0) := X3.cell 2 (by simp)
  have x3 : w2.cell? ⟨w1.heap.size, 3, none⟩ = some (.int .i64 0) := X3.cell 3 (by simp)
  have x4 : w2.cell? ⟨w1.heap.size, 4, none⟩ = some (.slice (some ⟨w1.heap.size + 1, 0, none⟩) 1 1) := X3.cell 4 (by simp)
  have xl := X3.lt.2
  go_wp2_with fail
  refine (check_any 7 n 0 0 (some ⟨w1.heap.size + 1, 0, none⟩) 1 1 [⟨false, 0, 0⟩] w2 (hr.kept (K3.trans t2)) (HA2.out.kept t2) (by omega) (by omega)).mono ?_
  rintro e w3 ⟨rfl, t3⟩
  rw [HC.out]
  go_wp2_with fail
  go_ret
  exact ⟨rfl, (K3.trans t2).trans t3⟩

set_option maxHeartbeats 2000000 in
theorem numbers_hi7 (x n : Int) (hx0 : 0 ≤ x) (hx1 : x ≤ 255) (hx : x % 9 = 6) (h1 : 0 ≤ n) (h2 : 0 < n) (w : World) (hr : Rdy w) :
    Calls Tryd.prog 5 #[.int .u8 x, .int .i64 n] w fun e w' => e = .returned (.bool true) ∧ Kept w w' := by
  have HC : Hid (checkD ⟨7, n, 0, 0, [⟨false, 0, 0⟩]⟩ = 1) := num_bad rfl (.inr h2)
  have hmo : ¬ n ≤ 0 := by omega
  have e1 : decide (0 ≤ n) = true := decide_eq_true h1
  have e2 : decide (n ≤ 0) = false := decide_eq_false hmo
  go_enter Tryd.func5, Tryd.ntmps5
  go_wp2_with fail
  refine (known_true w hr).mono ?_
  rintro e w1 ⟨rfl, T1⟩
  have K3 := (T1.alloc (.cells #[.int .i64 7, .int .i64 n, .int .i64 0, .int .i64 0, .slice (some ⟨w1.heap.size + 1, 0, none⟩) 1 1] 29)).alloc (.cells #[.bool false, .int .i64 0, .int .i64 0] 46)
  have X2 := (box_new w.heap.size w1 29 [.int .i64 7, .int .i64 n, .int .i64 0, .int .i64 0, .slice (some ⟨w1.heap.size + 1, 0, none⟩) 1 1] T1.size (by simp)).kept ((Kept.refl _).alloc (.cells #[.bool false, .int .i64 0, .int .i64 0] 46))
  have hat := atc_one (w1.alloc (.cells #[.int .i64 7, .int .i64 n, .int .i64 0, .int .i64 0, .slice (some ⟨w1.heap.size + 1, 0, none⟩) 1 1] 29))
  have hsz : (w1.alloc (.cells #[.int .i64 7, .int .i64 n, .int .i64 0, .int .i64 0, .slice (some ⟨w1.heap.size + 1, 0, none⟩) 1 1] 29)).heap.size = w1.heap.size + 1 := by simp
  rw [hsz] at hat
  have HA2 : Hid (AtC _ _ 1 [⟨false, 0, 0⟩]) := hat
  clear hat hsz
  go_wp2_with fail
  refine (check_any 7 n 0 0 (some ⟨w1.heap.size + 1, 0, none⟩) 1 1 [⟨false, 0, 0⟩] _ (hr.kept K3) HA2.out (by omega) (by omega)).mono ?_
  rintro e w2 ⟨rfl, t2⟩
  rw [HC.out]
  have X3 := X2.kept t2
  have x0 : w2.cell? ⟨w1.heap.size, 0, none⟩ = some (.int .i64 7) := X3.cell 0 (by simp)
  have x1 : w2.cell? ⟨w1.heap.size, 1, none⟩ = some (.int .i64 n) := X3.cell 1 (by simp)
  have x2 : w2.cell? ⟨w1.heap.size, 2, none⟩ = some (.int .i64 0) := X3.cell 2 (by simp)
  have x3 : w2.cell? ⟨w1.heap.size, 3, none⟩ = some (.int .i64 0) := X3.cell 3 (by simp)
  have x4 : w2.cell? ⟨w1.heap.size, 4, none⟩ = some (.slice (some ⟨w1.heap.size + 1, 0, none⟩) 1 1) := X3.cell 4 (by simp)
  have xl := X3.lt.2
  go_wp2_with fail
  refine (check_any 7 n 0 0 (some ⟨w1.heap.size + 1, 0, none⟩) 1 1 [⟨false, 0, 0⟩] w2 (hr.kept (K3.trans t2)) (HA2.out.kept t2) (by omega) (by omega)).mono ?_
  rintro e w3 ⟨rfl, t3⟩
  rw [HC.out]
  go_wp2_with fail
  go_ret
  exact ⟨rfl, (K3.trans t2).trans t3⟩

set_option maxHeartbeats 2000000 in
theorem numbers_ok8 (x n : Int) (hx0 : 0 ≤ x) (hx1 : x ≤ 255) (hx : x % 9 = 7) (h1 : 1 ≤ n) (h2 : n ≤ 32) (w : World) (hr : Rdy w) :
    Calls Tryd.prog 5 #[.int .u8 x, .int .i64 n] w fun e w' => e = .returned (.bool true) ∧ Kept w w' := by
  have HC : Hid (checkD ⟨8, n, 0, 0, []⟩ = 0) := num_ok rfl (by decide) h1 h2
  have e1 : decide (1 ≤ n) = true := decide_eq_true h1
  have e2 : decide (n ≤ 32) = true := decide_eq_true h2
  go_enter Tryd.func5, Tryd.ntmps5
  go_wp2_with fail
  refine (known_true w hr).mono ?_
  rintro e w1 ⟨rfl, T1⟩
  have K2 := T1.alloc (.cells #[.int .i64 8, .int .i64 n, .int .i64 0, .int .i64 0, .slice none 0 0] 29)
  have X2 := box_new w.heap.size w1 29 [.int .i64 8, .int .i64 n, .int .i64 0, .int .i64 0, .slice none 0 0] T1.size (by simp)
  go_wp2_with fail
  refine (check_any 8 n 0 0 none 0 0 [] _ (hr.kept K2) (AtC.none _) (by omega) (by omega)).mono ?_
  rintro e w2 ⟨rfl, t2⟩
  rw [HC.out]
  have X3 := X2.kept t2
  go_wp2_with fail
  go_ret
  exact ⟨rfl, K2.trans t2⟩

set_option maxHeartbeats 2000000 in
theorem numbers_lo8 (x n : Int) (hx0 : 0 ≤ x) (hx1 : x ≤ 255) (hx : x % 9 = 7) (h1 : n < 1) (w : World) (hr : Rdy w) :
    Calls Tryd.prog 5 #[.int .u8 x, .int .i64 n] w fun e w' => e = .returned (.bool true) ∧ Kept w w' := by
  have HC : Hid (checkD ⟨8, n, 0, 0, []⟩ = 1) := num_bad rfl (.inl h1)
  have hle : ¬ 1 ≤ n := by omega
  have e1 : decide (1 ≤ n) = false := decide_eq_false hle
  go_enter Tryd.func5, Tryd.ntmps5
  go_wp2_with fail
  refine (known_true w hr).mono ?_
  rintro e w1 ⟨rfl, T1⟩
  have K2 := T1.alloc (.cells #[.int .i64 8, .int .i64 n, .int .i64 0, .int .i64 0, .slice none 0 0] 29)
  have X2 := box_new w.heap.size w1 29 [.int .i64 8, .int .i64 n, .int .i64 0, .int .i64 0, .slice none 0 0] T1.size (by simp)
  go_wp2_with fail
  refine (check_any 8 n 0 0 none 0 0 [] _ (hr.kept K2) (AtC.none _) (by omega) (by omega)).mono ?_
  rintro e w2 ⟨rfl, t2⟩
  rw [HC.out]
  have X3 := X2.kept t2
  have x0 : w2.cell? ⟨w1.heap.size, 0, none⟩ = some (.int .i64 8) := X3.cell 0 (by simp)
  have x1 : w2.cell? ⟨w1.heap.size, 1, none⟩ = some (.int .i64 n) := X3.cell 1 (by simp)
  have x2 : w2.cell? ⟨w1.heap.size, 2, none⟩ = some (.int .i64 0) := X3.cell 2 (by simp)
  have x3 : w2.cell? ⟨w1.heap.size, 3, none⟩ = some (.int .i64 0) := X3.cell 3 (by simp)
  have x4 : w2.cell? ⟨w1.heap.size, 4, none⟩ = some (.slice none 0 0) := X3.cell 4 (by simp)
  have xl := X3.lt.2
  go_wp2_with fail
  refine (check_any 8 n 0 0 none 0 0 [] w2 (hr.kept (K2.trans t2)) (AtC.none _) (by omega) (by omega)).mono ?_
  rintro e w3 ⟨rfl, t3⟩
  rw [HC.out]
  go_wp2_with fail
  go_ret
  exact ⟨rfl, (K2.trans t2).trans t3⟩

set_option maxHeartbeats 2000000 in
theorem numbers_hi8 (x n : Int) (hx0 : 0 ≤ x) (hx1 : x ≤ 255) (hx : x % 9 = 7) (h1 : 1 ≤ n) (h2 : 32 < n) (w : World) (hr : Rdy w) :
    Calls Tryd.prog 5 #[.int .u8 x, .int .i64 n] w fun e w' => e = .returned (.bool true) ∧ Kept w w' := by
  have HC : Hid (checkD ⟨8, n, 0, 0, []⟩ = 1) := num_bad rfl (.inr h2)
  have hmo : ¬ n ≤ 32 := by omega
  have e1 : decide (1 ≤ n) = true := decide_eq_true h1
  have e2 : decide (n ≤ 32) = false := decide_eq_false hmo
  go_enter Tryd.func5, Tryd.ntmps5
  go_wp2_with fail
  refine (known_true w hr).mono ?_
  rintro e w1 ⟨rfl, T1⟩
  have K2 := T1.alloc (.cells #[.int .i64 8, .int .i64 n, .int .i64 0, .int .i64 0, .slice none 0 0] 29)
  have X2 := box_new w.heap.size w1 29 [.int .i64 8, .int .i64 n, .int .i64 0, .int .i64 0, .slice none 0 0] T1.size (by simp)
  go_wp2_with fail
  refine (check_any 8 n 0 0 none 0 0 [] _ (hr.kept K2) (AtC.none _) (by omega) (by omega)).mono ?_
  rintro e w2 ⟨rfl, t2⟩
  rw [HC.out]
  have X3 := X2.kept t2
  have x0 : w2.cell? ⟨w1.heap.size, 0, none⟩ = some (.int .i64 8) := X3.cell 0 (by simp)
  have x1 : w2.cell? ⟨w1.heap.size, 1, none⟩ = some (.int .i64 n) := X3.cell 1 (by simp)
  have x2 : w2.cell? ⟨w1.heap.size, 2, none⟩ = some (.int .i64 0) := X3.cell 2 (by simp)
  have x3 : w2.cell? ⟨w1.heap.size, 3, none⟩ = some (.int .i64 0) := X3.cell 3 (by simp)
  have x4 : w2.cell? ⟨w1.heap.size, 4, none⟩ = some (.slice none 0 0) := X3.cell 4 (by simp)
  have xl := X3.lt.2
  go_wp2_with fail
  refine (check_any 8 n 0 0 none 0 0 [] w2 (hr.kept (K2.trans t2)) (AtC.none _) (by omega) (by omega)).mono ?_
  rintro e w3 ⟨rfl, t3⟩
  rw [HC.out]
  go_wp2_with fail
  go_ret
  exact ⟨rfl, (K2.trans t2).trans t3⟩

set_option maxHeartbeats 2000000 in
theorem numbers_ok9 (x n : Int) (hx0 : 0 ≤ x) (hx1 : x ≤ 255) (hx : x % 9 = 8) (h1 : 0 ≤ n) (h2 : n ≤ 0) (w : World) (hr : Rdy w) :
    Calls Tryd.prog 5 #[.int .u8 x, .int .i64 n] w fun e w' => e = .returned (.bool true) ∧ Kept w w' := by
  have HC : Hid (checkD ⟨9, n, 0, 0, []⟩ = 0) := num_ok rfl (by decide) h1 h2
  have e1 : decide (0 ≤ n) = true := decide_eq_true h1
  have e2 : decide (n ≤ 0) = true := decide_eq_true h2
  go_enter Tryd.func5, Tryd.ntmps5
  go_wp2_with fail
  refine (known_true w hr).mono ?_
  rintro e w1 ⟨rfl, T1⟩
  have K2 := T1.alloc (.cells #[.int .i64 9, .int .i64 n, .int .i64 0, .int .i64 0, .slice none 0 0] 29)
  have X2 := box_new w.heap.size w1 29 [.int .i64 9, .int .i64 n, .int .i64 0, .int .i64 0, .slice none 0 0] T1.size (by simp)
  go_wp2_with fail
  refine (check_any 9 n 0 0 none 0 0 [] _ (hr.kept K2) (AtC.none _) (by omega) (by omega)).mono ?_
  rintro e w2 ⟨rfl, t2⟩
  rw [HC.out]
  have X3 := X2.kept t2
  go_wp2_with fail
  go_ret
  exact ⟨rfl, K2.trans t2⟩

set_option maxHeartbeats 2000000 in
theorem numbers_lo9 (x n : Int) (hx0 : 0 ≤ x) (hx1 : x ≤ 255) (hx : x % 9 = 8) (h1 : n < 0) (w : World) (hr : Rdy w) :
    Calls Tryd.prog 5 #[.int .u8 x, .int .i64 n] w fun e w' => e = .returned (.bool true) ∧ Kept w w' := by
  have HC : Hid (checkD ⟨9, n, 0, 0, []⟩ = 1) := num_bad rfl (.inl h1)
  have hle : ¬ 0 ≤ n := by omega
  have e1 : decide (0 ≤ n) = false := decide_eq_false hle
  go_enter Tryd.func5, Tryd.ntmps5
  go_wp2_with fail
  refine (known_true w hr).mono ?_
  rintro e w1 ⟨rfl, T1⟩
  have K2 := T1.alloc (.cells #[.int .i64 9, .int .i64 n, .int .i64 0, .int .i64 0, .slice none 0 0] 29)
  have X2 := box_new w.heap.size w1 29 [.int .i64 9, .int .i64 n, .int .i64 0, .int .i64 0, .slice none 0 0] T1.size (by simp)
  go_wp2_with fail
  refine (check_any 9 n 0 0 none 0 0 [] _ (hr.kept K2) (AtC.none _) (by omega) (by omega)).mono ?_
  rintro e w2 ⟨rfl, t2⟩
  rw [HC.out]
  have X3 := X2.kept t2
  have x0 : w2.cell? ⟨w1.heap.size, 0, none⟩ = some (.int .i64 9) := X3.cell 0 (by simp)
  have x1 : w2.cell? ⟨w1.heap.size, 1, none⟩ = some (.int .i64 n) := X3.cell 1 (by simp)
  have x2 : w2.cell? ⟨w1.heap.size, 2, none⟩ = some (.int .i64 0) := X3.cell 2 (by simp)
  have x3 : w2.cell? ⟨w1.heap.size, 3, none⟩ = some (.int .i64 0) := X3.cell 3 (by simp)
  have x4 : w2.cell? ⟨w1.heap.size, 4, none⟩ = some (.slice none 0 0) := X3.cell 4 (by simp)
  have xl := X3.lt.2
  go_wp2_with fail
  refine (check_any 9 n 0 0 none 0 0 [] w2 (hr.kept (K2.trans t2)) (AtC.none _) (by omega) (by omega)).mono ?_
  rintro e w3 ⟨rfl, t3⟩
  rw [HC.out]
  go_wp2_with fail
  go_ret
  exact ⟨rfl, (K2.trans t2).trans t3⟩

set_option maxHeartbeats 2000000 in
theorem numbers_hi9 (x n : Int) (hx0 : 0 ≤ x) (hx1 : x ≤ 255) (hx : x % 9 = 8) (h1 : 0 ≤ n) (h2 : 0 < n) (w : World) (hr : Rdy w) :
    Calls Tryd.prog 5 #[.int .u8 x, .int .i64 n] w fun e w' => e = .returned (.bool true) ∧ Kept w w' := by
  have HC : Hid (checkD ⟨9, n, 0, 0, []⟩ = 1) := num_bad rfl (.inr h2)
  have hmo : ¬ n ≤ 0 := by omega
  have e1 : decide (0 ≤ n) = true := decide_eq_true h1
  have e2 : decide (n ≤ 0) = false := decide_eq_false hmo
  go_enter Tryd.func5, Tryd.ntmps5
  go_wp2_with fail
  refine (known_true w hr).mono ?_
  rintro e w1 ⟨rfl, T1⟩
  have K2 := T1.alloc (.cells #[.int .i64 9, .int .i64 n, .int .i64 0, .int .i64 0, .slice none 0 0] 29)
  have X2 := box_new w.heap.size w1 29 [.int .i64 9, .int .i64 n, .int .i64 0, .int .i64 0, .slice none 0 0] T1.size (by simp)
  go_wp2_with fail
  refine (check_any 9 n 0 0 none 0 0 [] _ (hr.kept K2) (AtC.none _) (by omega) (by omega)).mono ?_
  rintro e w2 ⟨rfl, t2⟩
  rw [HC.out]
  have X3 := X2.kept t2
  have x0 : w2.cell? ⟨w1.heap.size, 0, none⟩ = some (.int .i64 9) := X3.cell 0 (by simp)
  have x1 : w2.cell? ⟨w1.heap.size, 1, none⟩ = some (.int .i64 n) := X3.cell 1 (by simp)
  have x2 : w2.cell? ⟨w1.heap.size, 2, none⟩ = some (.int .i64 0) := X3.cell 2 (by simp)
  have x3 : w2.cell? ⟨w1.heap.size, 3, none⟩ = some (.int .i64 0) := X3.cell 3 (by simp)
  have x4 : w2.cell? ⟨w1.heap.size, 4, none⟩ = some (.slice none 0 0) := X3.cell 4 (by simp)
  have xl := X3.lt.2
  go_wp2_with fail
  refine (check_any 9 n 0 0 none 0 0 [] w2 (hr.kept (K2.trans t2)) (AtC.none _) (by omega) (by omega)).mono ?_
  rintro e w3 ⟨rfl, t3⟩
  rw [HC.out]
  go_wp2_with fail
  go_ret
  exact ⟨rfl, (K2.trans t2).trans t3⟩

theorem numbers_any (x n : Int) (hx0 : 0 ≤ x) (hx1 : x ≤ 255) (w : World) (hr : Rdy w) :
    Calls Tryd.prog 5 #[.int .u8 x, .int .i64 n] w fun e w' => e = .returned (.bool true) ∧ Kept w w' := by
  have hj : x % 9 = 0 ∨ x % 9 = 1 ∨ x % 9 = 2 ∨ x % 9 = 3 ∨ x % 9 = 4 ∨ x % 9 = 5 ∨ x % 9 = 6 ∨ x % 9 = 7 ∨ x % 9 = 8 := by omega
  rcases hj with h | h | h | h | h | h | h | h | h
  · by_cases h1 : 1 ≤ n
    · by_cases h2 : n ≤ 1000
      · exact numbers_ok1 x n hx0 hx1 h h1 h2 w hr
      · exact numbers_hi1 x n hx0 hx1 h h1 (by omega) w hr
    · exact numbers_lo1 x n hx0 hx1 h (by omega) w hr
  · by_cases h1 : 0 ≤ n
    · by_cases h2 : n ≤ 7
      · exact numbers_ok2 x n hx0 hx1 h h1 h2 w hr
      · exact numbers_hi2 x n hx0 hx1 h h1 (by omega) w hr
    · exact numbers_lo2 x n hx0 hx1 h (by omega) w hr
  · by_cases h1 : 0 ≤ n
    · by_cases h2 : n ≤ 7
      · exact numbers_ok3 x n hx0 hx1 h h1 h2 w hr
      · exact numbers_hi3 x n hx0 hx1 h h1 (by omega) w hr
    · exact numbers_lo3 x n hx0 hx1 h (by omega) w hr
  · by_cases h1 : 0 ≤ n
    · by_cases h2 : n ≤ 7
      · exact numbers_ok4 x n hx0 hx1 h h1 h2 w hr
      · exact numbers_hi4 x n hx0 hx1 h h1 (by omega) w hr
    · exact numbers_lo4 x n hx0 hx1 h (by omega) w hr
  · by_cases h1 : 0 ≤ n
    · by_cases h2 : n ≤ 7
      · exact numbers_ok5 x n hx0 hx1 h h1 h2 w hr
      · exact numbers_hi5 x n hx0 hx1 h h1 (by omega) w hr
    · exact numbers_lo5 x n hx0 hx1 h (by omega) w hr
  · by_cases h1 : 0 ≤ n
    · by_cases h2 : n ≤ 7
      · exact numbers_ok6 x n hx0 hx1 h h1 h2 w hr
      · exact numbers_hi6 x n hx0 hx1 h h1 (by omega) w hr
    · exact numbers_lo6 x n hx0 hx1 h (by omega) w hr
  · by_cases h1 : 0 ≤ n
    · by_cases h2 : n ≤ 0
      · exact numbers_ok7 x n hx0 hx1 h h1 h2 w hr
      · exact numbers_hi7 x n hx0 hx1 h h1 (by omega) w hr
    · exact numbers_lo7 x n hx0 hx1 h (by omega) w hr
  · by_cases h1 : 1 ≤ n
    · by_cases h2 : n ≤ 32
      · exact numbers_ok8 x n hx0 hx1 h h1 h2 w hr
      · exact numbers_hi8 x n hx0 hx1 h h1 (by omega) w hr
    · exact numbers_lo8 x n hx0 hx1 h (by omega) w hr
  · by_cases h1 : 0 ≤ n
    · by_cases h2 : n ≤ 0
      · exact numbers_ok9 x n hx0 hx1 h h1 h2 w hr
      · exact numbers_hi9 x n hx0 hx1 h h1 (by omega) w hr
    · exact numbers_lo9 x n hx0 hx1 h (by omega) w hr
end Go.Proofs.YtiiddfahpddffaaDoor
