/- Check and Waits. -/
import Derived.Test.YtolljdomnohmdabGreatDoorM3
namespace Go.Proofs.YtolljdomnohmdabGreatDoor
open Go.RowKit

theorem Rdy.k1 {w : World} (h : Rdy w) : w.cell? ⟨0, 7, none⟩ = some (.string (B [114, 117, 110])) ∧ w.cell? ⟨0, 8, none⟩ = some (.bool true) ∧ w.cell? ⟨0, 9, none⟩ = some (.bool false) ∧ w.cell? ⟨0, 10, none⟩ = some (.bool false) ∧ w.cell? ⟨0, 11, none⟩ = some (.bool false) ∧ w.cell? ⟨0, 12, none⟩ = some (.int .i64 1) ∧ w.cell? ⟨0, 13, none⟩ = some (.int .i64 1000) := by
  exact ⟨h.sh 1 (by decide) 0 _ rfl, h.sh 1 (by decide) 1 _ rfl, h.sh 1 (by decide) 2 _ rfl, h.sh 1 (by decide) 3 _ rfl, h.sh 1 (by decide) 4 _ rfl, h.sh 1 (by decide) 5 _ rfl, h.sh 1 (by decide) 6 _ rfl⟩
theorem Rdy.k2 {w : World} (h : Rdy w) : w.cell? ⟨0, 14, none⟩ = some (.string (B [108, 111, 99, 107])) ∧ w.cell? ⟨0, 15, none⟩ = some (.bool true) ∧ w.cell? ⟨0, 16, none⟩ = some (.bool false) ∧ w.cell? ⟨0, 17, none⟩ = some (.bool false) ∧ w.cell? ⟨0, 18, none⟩ = some (.bool false) ∧ w.cell? ⟨0, 19, none⟩ = some (.int .i64 0) ∧ w.cell? ⟨0, 20, none⟩ = some (.int .i64 7) := by
  exact ⟨h.sh 2 (by decide) 0 _ rfl, h.sh 2 (by decide) 1 _ rfl, h.sh 2 (by decide) 2 _ rfl, h.sh 2 (by decide) 3 _ rfl, h.sh 2 (by decide) 4 _ rfl, h.sh 2 (by decide) 5 _ rfl, h.sh 2 (by decide) 6 _ rfl⟩
theorem Rdy.k3 {w : World} (h : Rdy w) : w.cell? ⟨0, 21, none⟩ = some (.string (B [117, 110, 108, 111, 99, 107])) ∧ w.cell? ⟨0, 22, none⟩ = some (.bool true) ∧ w.cell? ⟨0, 23, none⟩ = some (.bool false) ∧ w.cell? ⟨0, 24, none⟩ = some (.bool false) ∧ w.cell? ⟨0, 25, none⟩ = some (.bool false) ∧ w.cell? ⟨0, 26, none⟩ = some (.int .i64 0) ∧ w.cell? ⟨0, 27, none⟩ = some (.int .i64 7) := by
  exact ⟨h.sh 3 (by decide) 0 _ rfl, h.sh 3 (by decide) 1 _ rfl, h.sh 3 (by decide) 2 _ rfl, h.sh 3 (by decide) 3 _ rfl, h.sh 3 (by decide) 4 _ rfl, h.sh 3 (by decide) 5 _ rfl, h.sh 3 (by decide) 6 _ rfl⟩
theorem Rdy.k4 {w : World} (h : Rdy w) : w.cell? ⟨0, 28, none⟩ = some (.string (B [115, 101, 110, 100])) ∧ w.cell? ⟨0, 29, none⟩ = some (.bool true) ∧ w.cell? ⟨0, 30, none⟩ = some (.bool true) ∧ w.cell? ⟨0, 31, none⟩ = some (.bool true) ∧ w.cell? ⟨0, 32, none⟩ = some (.bool false) ∧ w.cell? ⟨0, 33, none⟩ = some (.int .i64 0) ∧ w.cell? ⟨0, 34, none⟩ = some (.int .i64 7) := by
  exact ⟨h.sh 4 (by decide) 0 _ rfl, h.sh 4 (by decide) 1 _ rfl, h.sh 4 (by decide) 2 _ rfl, h.sh 4 (by decide) 3 _ rfl, h.sh 4 (by decide) 4 _ rfl, h.sh 4 (by decide) 5 _ rfl, h.sh 4 (by decide) 6 _ rfl⟩
theorem Rdy.k5 {w : World} (h : Rdy w) : w.cell? ⟨0, 35, none⟩ = some (.string (B [114, 101, 99, 118])) ∧ w.cell? ⟨0, 36, none⟩ = some (.bool true) ∧ w.cell? ⟨0, 37, none⟩ = some (.bool false) ∧ w.cell? ⟨0, 38, none⟩ = some (.bool true) ∧ w.cell? ⟨0, 39, none⟩ = some (.bool false) ∧ w.cell? ⟨0, 40, none⟩ = some (.int .i64 0) ∧ w.cell? ⟨0, 41, none⟩ = some (.int .i64 7) := by
  exact ⟨h.sh 5 (by decide) 0 _ rfl, h.sh 5 (by decide) 1 _ rfl, h.sh 5 (by decide) 2 _ rfl, h.sh 5 (by decide) 3 _ rfl, h.sh 5 (by decide) 4 _ rfl, h.sh 5 (by decide) 5 _ rfl, h.sh 5 (by decide) 6 _ rfl⟩
theorem Rdy.k6 {w : World} (h : Rdy w) : w.cell? ⟨0, 42, none⟩ = some (.string (B [99, 108, 111, 115, 101])) ∧ w.cell? ⟨0, 43, none⟩ = some (.bool true) ∧ w.cell? ⟨0, 44, none⟩ = some (.bool false) ∧ w.cell? ⟨0, 45, none⟩ = some (.bool false) ∧ w.cell? ⟨0, 46, none⟩ = some (.bool false) ∧ w.cell? ⟨0, 47, none⟩ = some (.int .i64 0) ∧ w.cell? ⟨0, 48, none⟩ = some (.int .i64 7) := by
  exact ⟨h.sh 6 (by decide) 0 _ rfl, h.sh 6 (by decide) 1 _ rfl, h.sh 6 (by decide) 2 _ rfl, h.sh 6 (by decide) 3 _ rfl, h.sh 6 (by decide) 4 _ rfl, h.sh 6 (by decide) 5 _ rfl, h.sh 6 (by decide) 6 _ rfl⟩
theorem Rdy.k7 {w : World} (h : Rdy w) : w.cell? ⟨0, 49, none⟩ = some (.string (B [115, 101, 108, 101, 99, 116])) ∧ w.cell? ⟨0, 50, none⟩ = some (.bool false) ∧ w.cell? ⟨0, 51, none⟩ = some (.bool false) ∧ w.cell? ⟨0, 52, none⟩ = some (.bool true) ∧ w.cell? ⟨0, 53, none⟩ = some (.bool true) ∧ w.cell? ⟨0, 54, none⟩ = some (.int .i64 0) ∧ w.cell? ⟨0, 55, none⟩ = some (.int .i64 0) := by
  exact ⟨h.sh 7 (by decide) 0 _ rfl, h.sh 7 (by decide) 1 _ rfl, h.sh 7 (by decide) 2 _ rfl, h.sh 7 (by decide) 3 _ rfl, h.sh 7 (by decide) 4 _ rfl, h.sh 7 (by decide) 5 _ rfl, h.sh 7 (by decide) 6 _ rfl⟩
theorem Rdy.k8 {w : World} (h : Rdy w) : w.cell? ⟨0, 56, none⟩ = some (.string (B [108, 111, 111, 112])) ∧ w.cell? ⟨0, 57, none⟩ = some (.bool true) ∧ w.cell? ⟨0, 58, none⟩ = some (.bool false) ∧ w.cell? ⟨0, 59, none⟩ = some (.bool false) ∧ w.cell? ⟨0, 60, none⟩ = some (.bool false) ∧ w.cell? ⟨0, 61, none⟩ = some (.int .i64 1) ∧ w.cell? ⟨0, 62, none⟩ = some (.int .i64 32) := by
  exact ⟨h.sh 8 (by decide) 0 _ rfl, h.sh 8 (by decide) 1 _ rfl, h.sh 8 (by decide) 2 _ rfl, h.sh 8 (by decide) 3 _ rfl, h.sh 8 (by decide) 4 _ rfl, h.sh 8 (by decide) 5 _ rfl, h.sh 8 (by decide) 6 _ rfl⟩
theorem Rdy.k9 {w : World} (h : Rdy w) : w.cell? ⟨0, 63, none⟩ = some (.string (B [101, 110, 100])) ∧ w.cell? ⟨0, 64, none⟩ = some (.bool false) ∧ w.cell? ⟨0, 65, none⟩ = some (.bool false) ∧ w.cell? ⟨0, 66, none⟩ = some (.bool false) ∧ w.cell? ⟨0, 67, none⟩ = some (.bool false) ∧ w.cell? ⟨0, 68, none⟩ = some (.int .i64 0) ∧ w.cell? ⟨0, 69, none⟩ = some (.int .i64 0) := by
  exact ⟨h.sh 9 (by decide) 0 _ rfl, h.sh 9 (by decide) 1 _ rfl, h.sh 9 (by decide) 2 _ rfl, h.sh 9 (by decide) 3 _ rfl, h.sh 9 (by decide) 4 _ rfl, h.sh 9 (by decide) 5 _ rfl, h.sh 9 (by decide) 6 _ rfl⟩
theorem Rdy.lt {w : World} (h : Rdy w) : 0 < w.heap.size := cell_lt h.k1.1

theorem check_no {k n v wt : Int} {l : List CaseD} (h : isKindB k = false) : checkD ⟨k, n, v, wt, l⟩ = 3 := by
  unfold checkD; rw [if_neg (by rw [h]; decide)]
theorem check_arg {k n v wt : Int} {l : List CaseD} (h : isKindB k = true) (ht : takesB (shapeOf k.toNat) n v wt l.length = false) : checkD ⟨k, n, v, wt, l⟩ = 1 := by
  unfold checkD; rw [if_pos h, if_neg (by rw [ht]; decide)]
theorem check_plain {k n v wt : Int} {l : List CaseD} (h : isKindB k = true) (ht : takesB (shapeOf k.toNat) n v wt l.length = true) (hp : (shapeOf k.toNat).picks = false) : checkD ⟨k, n, v, wt, l⟩ = casesE [] l := by
  unfold checkD; rw [if_pos h, if_pos ht, if_neg (by rw [hp]; simp)]
theorem check_many {k n v wt : Int} {l : List CaseD} (h : isKindB k = true) (ht : takesB (shapeOf k.toNat) n v wt l.length = true) (hp : (shapeOf k.toNat).picks = true) (hl : l.length = 0 ∨ 4 < l.length) : checkD ⟨k, n, v, wt, l⟩ = 18 := by
  unfold checkD; rw [if_pos h, if_pos ht, if_pos (by rw [hp]; simpa using hl)]
theorem check_pick {k n v wt : Int} {l : List CaseD} (h : isKindB k = true) (ht : takesB (shapeOf k.toNat) n v wt l.length = true) (hl : ¬ (l.length = 0 ∨ 4 < l.length)) : checkD ⟨k, n, v, wt, l⟩ = casesE [] l := by
  unfold checkD; rw [if_pos h, if_pos ht, if_neg (by intro hh; simp only [Bool.and_eq_true, Bool.or_eq_true, beq_iff_eq, decide_eq_true_eq] at hh; exact hl hh.2)]

theorem check_none (k n v wt : Int) (a : Option Addr) (m c : Nat) (l : List CaseD) (w : World) (hk : isKindB k = false) :
    Calls Tryz.prog 86 #[.agg #[.int .i64 k, .int .i64 n, .int .i64 v, .int .i64 wt, .slice a m c]] w fun e w' => e = .returned (.int .i64 (checkD ⟨k, n, v, wt, l⟩)) ∧ Kept w w' := by
  have HC : Hid (checkD ⟨k, n, v, wt, l⟩ = 3) := check_no hk
  have hi := isKind_any k
  rw [hk] at hi
  go_enter Tryz.func86, Tryz.ntmps86
  go_wp2_with fail
  refine (hi _).mono ?_
  rintro e w1 ⟨rfl, hw⟩
  subst w1
  go_wp2_with fail
  go_ret
  rw [HC.out]
  exact ⟨rfl, (Kept.refl w).alloc _⟩

set_option maxHeartbeats 1000000 in
theorem check_k1 (n v wt : Int) (a : Option Addr) (m c : Nat) (l : List CaseD) (w : World) (hr : Rdy w) (hA : AtC w a m l) (hm : m ≤ 1000000) (hcap : m ≤ c) :
    Calls Tryz.prog 86 #[.agg #[.int .i64 1, .int .i64 n, .int .i64 v, .int .i64 wt, .slice a m c]] w fun e w' => e = .returned (.int .i64 (checkD ⟨1, n, v, wt, l⟩)) ∧ Kept w w' := by
  have hi := isKind_any 1
  rw [show isKindB 1 = true from rfl] at hi
  obtain ⟨g0, g1, g2, g3, g4, g5, g6⟩ := hr.k1
  have hlt := hr.lt
  have HA : Hid (AtC w a m l) := hA
  have HL : Hid (l.length = m) := hA.1
  clear hA hr
  have htk := takes_any [114, 117, 110] true false false false 1 1000 1 n v wt a m c
  rcases ht : takesB ⟨[114, 117, 110], true, false, false, false, 1, 1000⟩ n v wt m with _ | _
  · have HC : Hid (checkD ⟨1, n, v, wt, l⟩ = 1) := check_arg rfl (by rw [HL.out]; exact ht)
    rw [ht] at htk
    clear ht
    go_enter Tryz.func86, Tryz.ntmps86
    go_wp2_with fail
    refine (hi _).mono ?_
    rintro e w1 ⟨rfl, hw⟩
    subst w1
    go_wp2_with fail
    refine (htk _).mono ?_
    rintro e w1 ⟨rfl, T⟩
    go_wp2_with fail
    go_ret
    rw [HC.out]
    exact ⟨rfl, (((Kept.refl w).alloc _).alloc _).trans T⟩
  · have HC : Hid (checkD ⟨1, n, v, wt, l⟩ = casesE [] l) := check_plain rfl (by rw [HL.out]; exact ht) rfl
    rw [ht] at htk
    clear ht
    go_enter Tryz.func86, Tryz.ntmps86
    go_wp2_with fail
    refine (hi _).mono ?_
    rintro e w1 ⟨rfl, hw⟩
    subst w1
    go_wp2_with fail
    refine (htk _).mono ?_
    rintro e w1 ⟨rfl, T⟩
    have q0 := T.cell (p := ⟨w.heap.size, 4, none⟩) (v := .slice a m c) (by rw [World.cell?_alloc2_first]; rfl)
    have q1 := T.cell (p := ⟨w.heap.size + 1, 4, none⟩) (v := .bool false) (by rw [World.cell?_alloc2_new]; rfl)
    have z0 := cell_lt q0
    have z1 := cell_lt q1
    have T1 := (((Kept.refl w).alloc (.cells #[.int .i64 1, .int .i64 n, .int .i64 v, .int .i64 wt, .slice a m c] 37)).alloc (.cells #[.string (B [114, 117, 110]), .bool true, .bool false, .bool false, .bool false, .int .i64 1, .int .i64 1000] 95)).trans T
    go_wp2_with fail
    refine (checkCases_any a m c l w1 (HA.out.kept T1) hm hcap).mono ?_
    rintro e w2 ⟨rfl, T2⟩
    go_wp2_with fail
    go_ret
    rw [HC.out]
    exact ⟨rfl, T1.trans T2⟩
set_option maxHeartbeats 1000000 in
theorem check_k2 (n v wt : Int) (a : Option Addr) (m c : Nat) (l : List CaseD) (w : World) (hr : Rdy w) (hA : AtC w a m l) (hm : m ≤ 1000000) (hcap : m ≤ c) :
    Calls Tryz.prog 86 #[.agg #[.int .i64 2, .int .i64 n, .int .i64 v, .int .i64 wt, .slice a m c]] w fun e w' => e = .returned (.int .i64 (checkD ⟨2, n, v, wt, l⟩)) ∧ Kept w w' := by
  have hi := isKind_any 2
  rw [show isKindB 2 = true from rfl] at hi
  obtain ⟨g0, g1, g2, g3, g4, g5, g6⟩ := hr.k2
  have hlt := hr.lt
  have HA : Hid (AtC w a m l) := hA
  have HL : Hid (l.length = m) := hA.1
  clear hA hr
  have htk := takes_any [108, 111, 99, 107] true false false false 0 7 2 n v wt a m c
  rcases ht : takesB ⟨[108, 111, 99, 107], true, false, false, false, 0, 7⟩ n v wt m with _ | _
  · have HC : Hid (checkD ⟨2, n, v, wt, l⟩ = 1) := check_arg rfl (by rw [HL.out]; exact ht)
    rw [ht] at htk
    clear ht
    go_enter Tryz.func86, Tryz.ntmps86
    go_wp2_with fail
    refine (hi _).mono ?_
    rintro e w1 ⟨rfl, hw⟩
    subst w1
    go_wp2_with fail
    refine (htk _).mono ?_
    rintro e w1 ⟨rfl, T⟩
    go_wp2_with fail
    go_ret
    rw [HC.out]
    exact ⟨rfl, (((Kept.refl w).alloc _).alloc _).trans T⟩
  · have HC : Hid (checkD ⟨2, n, v, wt, l⟩ = casesE [] l) := check_plain rfl (by rw [HL.out]; exact ht) rfl
    rw [ht] at htk
    clear ht
    go_enter Tryz.func86, Tryz.ntmps86
    go_wp2_with fail
    refine (hi _).mono ?_
    rintro e w1 ⟨rfl, hw⟩
    subst w1
    go_wp2_with fail
    refine (htk _).mono ?_
    rintro e w1 ⟨rfl, T⟩
    have q0 := T.cell (p := ⟨w.heap.size, 4, none⟩) (v := .slice a m c) (by rw [World.cell?_alloc2_first]; rfl)
    have q1 := T.cell (p := ⟨w.heap.size + 1, 4, none⟩) (v := .bool false) (by rw [World.cell?_alloc2_new]; rfl)
    have z0 := cell_lt q0
    have z1 := cell_lt q1
    have T1 := (((Kept.refl w).alloc (.cells #[.int .i64 2, .int .i64 n, .int .i64 v, .int .i64 wt, .slice a m c] 37)).alloc (.cells #[.string (B [108, 111, 99, 107]), .bool true, .bool false, .bool false, .bool false, .int .i64 0, .int .i64 7] 95)).trans T
    go_wp2_with fail
    refine (checkCases_any a m c l w1 (HA.out.kept T1) hm hcap).mono ?_
    rintro e w2 ⟨rfl, T2⟩
    go_wp2_with fail
    go_ret
    rw [HC.out]
    exact ⟨rfl, T1.trans T2⟩
set_option maxHeartbeats 1000000 in
theorem check_k3 (n v wt : Int) (a : Option Addr) (m c : Nat) (l : List CaseD) (w : World) (hr : Rdy w) (hA : AtC w a m l) (hm : m ≤ 1000000) (hcap : m ≤ c) :
    Calls Tryz.prog 86 #[.agg #[.int .i64 3, .int .i64 n, .int .i64 v, .int .i64 wt, .slice a m c]] w fun e w' => e = .returned (.int .i64 (checkD ⟨3, n, v, wt, l⟩)) ∧ Kept w w' := by
  have hi := isKind_any 3
  rw [show isKindB 3 = true from rfl] at hi
  obtain ⟨g0, g1, g2, g3, g4, g5, g6⟩ := hr.k3
  have hlt := hr.lt
  have HA : Hid (AtC w a m l) := hA
  have HL : Hid (l.length = m) := hA.1
  clear hA hr
  have htk := takes_any [117, 110, 108, 111, 99, 107] true false false false 0 7 3 n v wt a m c
  rcases ht : takesB ⟨[117, 110, 108, 111, 99, 107], true, false, false, false, 0, 7⟩ n v wt m with _ | _
  · have HC : Hid (checkD ⟨3, n, v, wt, l⟩ = 1) := check_arg rfl (by rw [HL.out]; exact ht)
    rw [ht] at htk
    clear ht
    go_enter Tryz.func86, Tryz.ntmps86
    go_wp2_with fail
    refine (hi _).mono ?_
    rintro e w1 ⟨rfl, hw⟩
    subst w1
    go_wp2_with fail
    refine (htk _).mono ?_
    rintro e w1 ⟨rfl, T⟩
    go_wp2_with fail
    go_ret
    rw [HC.out]
    exact ⟨rfl, (((Kept.refl w).alloc _).alloc _).trans T⟩
  · have HC : Hid (checkD ⟨3, n, v, wt, l⟩ = casesE [] l) := check_plain rfl (by rw [HL.out]; exact ht) rfl
    rw [ht] at htk
    clear ht
    go_enter Tryz.func86, Tryz.ntmps86
    go_wp2_with fail
    refine (hi _).mono ?_
    rintro e w1 ⟨rfl, hw⟩
    subst w1
    go_wp2_with fail
    refine (htk _).mono ?_
    rintro e w1 ⟨rfl, T⟩
    have q0 := T.cell (p := ⟨w.heap.size, 4, none⟩) (v := .slice a m c) (by rw [World.cell?_alloc2_first]; rfl)
    have q1 := T.cell (p := ⟨w.heap.size + 1, 4, none⟩) (v := .bool false) (by rw [World.cell?_alloc2_new]; rfl)
    have z0 := cell_lt q0
    have z1 := cell_lt q1
    have T1 := (((Kept.refl w).alloc (.cells #[.int .i64 3, .int .i64 n, .int .i64 v, .int .i64 wt, .slice a m c] 37)).alloc (.cells #[.string (B [117, 110, 108, 111, 99, 107]), .bool true, .bool false, .bool false, .bool false, .int .i64 0, .int .i64 7] 95)).trans T
    go_wp2_with fail
    refine (checkCases_any a m c l w1 (HA.out.kept T1) hm hcap).mono ?_
    rintro e w2 ⟨rfl, T2⟩
    go_wp2_with fail
    go_ret
    rw [HC.out]
    exact ⟨rfl, T1.trans T2⟩
set_option maxHeartbeats 1000000 in
theorem check_k4 (n v wt : Int) (a : Option Addr) (m c : Nat) (l : List CaseD) (w : World) (hr : Rdy w) (hA : AtC w a m l) (hm : m ≤ 1000000) (hcap : m ≤ c) :
    Calls Tryz.prog 86 #[.agg #[.int .i64 4, .int .i64 n, .int .i64 v, .int .i64 wt, .slice a m c]] w fun e w' => e = .returned (.int .i64 (checkD ⟨4, n, v, wt, l⟩)) ∧ Kept w w' := by
  have hi := isKind_any 4
  rw [show isKindB 4 = true from rfl] at hi
  obtain ⟨g0, g1, g2, g3, g4, g5, g6⟩ := hr.k4
  have hlt := hr.lt
  have HA : Hid (AtC w a m l) := hA
  have HL : Hid (l.length = m) := hA.1
  clear hA hr
  have htk := takes_any [115, 101, 110, 100] true true true false 0 7 4 n v wt a m c
  rcases ht : takesB ⟨[115, 101, 110, 100], true, true, true, false, 0, 7⟩ n v wt m with _ | _
  · have HC : Hid (checkD ⟨4, n, v, wt, l⟩ = 1) := check_arg rfl (by rw [HL.out]; exact ht)
    rw [ht] at htk
    clear ht
    go_enter Tryz.func86, Tryz.ntmps86
    go_wp2_with fail
    refine (hi _).mono ?_
    rintro e w1 ⟨rfl, hw⟩
    subst w1
    go_wp2_with fail
    refine (htk _).mono ?_
    rintro e w1 ⟨rfl, T⟩
    go_wp2_with fail
    go_ret
    rw [HC.out]
    exact ⟨rfl, (((Kept.refl w).alloc _).alloc _).trans T⟩
  · have HC : Hid (checkD ⟨4, n, v, wt, l⟩ = casesE [] l) := check_plain rfl (by rw [HL.out]; exact ht) rfl
    rw [ht] at htk
    clear ht
    go_enter Tryz.func86, Tryz.ntmps86
    go_wp2_with fail
    refine (hi _).mono ?_
    rintro e w1 ⟨rfl, hw⟩
    subst w1
    go_wp2_with fail
    refine (htk _).mono ?_
    rintro e w1 ⟨rfl, T⟩
    have q0 := T.cell (p := ⟨w.heap.size, 4, none⟩) (v := .slice a m c) (by rw [World.cell?_alloc2_first]; rfl)
    have q1 := T.cell (p := ⟨w.heap.size + 1, 4, none⟩) (v := .bool false) (by rw [World.cell?_alloc2_new]; rfl)
    have z0 := cell_lt q0
    have z1 := cell_lt q1
    have T1 := (((Kept.refl w).alloc (.cells #[.int .i64 4, .int .i64 n, .int .i64 v, .int .i64 wt, .slice a m c] 37)).alloc (.cells #[.string (B [115, 101, 110, 100]), .bool true, .bool true, .bool true, .bool false, .int .i64 0, .int .i64 7] 95)).trans T
    go_wp2_with fail
    refine (checkCases_any a m c l w1 (HA.out.kept T1) hm hcap).mono ?_
    rintro e w2 ⟨rfl, T2⟩
    go_wp2_with fail
    go_ret
    rw [HC.out]
    exact ⟨rfl, T1.trans T2⟩
set_option maxHeartbeats 1000000 in
theorem check_k5 (n v wt : Int) (a : Option Addr) (m c : Nat) (l : List CaseD) (w : World) (hr : Rdy w) (hA : AtC w a m l) (hm : m ≤ 1000000) (hcap : m ≤ c) :
    Calls Tryz.prog 86 #[.agg #[.int .i64 5, .int .i64 n, .int .i64 v, .int .i64 wt, .slice a m c]] w fun e w' => e = .returned (.int .i64 (checkD ⟨5, n, v, wt, l⟩)) ∧ Kept w w' := by
  have hi := isKind_any 5
  rw [show isKindB 5 = true from rfl] at hi
  obtain ⟨g0, g1, g2, g3, g4, g5, g6⟩ := hr.k5
  have hlt := hr.lt
  have HA : Hid (AtC w a m l) := hA
  have HL : Hid (l.length = m) := hA.1
  clear hA hr
  have htk := takes_any [114, 101, 99, 118] true false true false 0 7 5 n v wt a m c
  rcases ht : takesB ⟨[114, 101, 99, 118], true, false, true, false, 0, 7⟩ n v wt m with _ | _
  · have HC : Hid (checkD ⟨5, n, v, wt, l⟩ = 1) := check_arg rfl (by rw [HL.out]; exact ht)
    rw [ht] at htk
    clear ht
    go_enter Tryz.func86, Tryz.ntmps86
    go_wp2_with fail
    refine (hi _).mono ?_
    rintro e w1 ⟨rfl, hw⟩
    subst w1
    go_wp2_with fail
    refine (htk _).mono ?_
    rintro e w1 ⟨rfl, T⟩
    go_wp2_with fail
    go_ret
    rw [HC.out]
    exact ⟨rfl, (((Kept.refl w).alloc _).alloc _).trans T⟩
  · have HC : Hid (checkD ⟨5, n, v, wt, l⟩ = casesE [] l) := check_plain rfl (by rw [HL.out]; exact ht) rfl
    rw [ht] at htk
    clear ht
    go_enter Tryz.func86, Tryz.ntmps86
    go_wp2_with fail
    refine (hi _).mono ?_
    rintro e w1 ⟨rfl, hw⟩
    subst w1
    go_wp2_with fail
    refine (htk _).mono ?_
    rintro e w1 ⟨rfl, T⟩
    have q0 := T.cell (p := ⟨w.heap.size, 4, none⟩) (v := .slice a m c) (by rw [World.cell?_alloc2_first]; rfl)
    have q1 := T.cell (p := ⟨w.heap.size + 1, 4, none⟩) (v := .bool false) (by rw [World.cell?_alloc2_new]; rfl)
    have z0 := cell_lt q0
    have z1 := cell_lt q1
    have T1 := (((Kept.refl w).alloc (.cells #[.int .i64 5, .int .i64 n, .int .i64 v, .int .i64 wt, .slice a m c] 37)).alloc (.cells #[.string (B [114, 101, 99, 118]), .bool true, .bool false, .bool true, .bool false, .int .i64 0, .int .i64 7] 95)).trans T
    go_wp2_with fail
    refine (checkCases_any a m c l w1 (HA.out.kept T1) hm hcap).mono ?_
    rintro e w2 ⟨rfl, T2⟩
    go_wp2_with fail
    go_ret
    rw [HC.out]
    exact ⟨rfl, T1.trans T2⟩
set_option maxHeartbeats 1000000 in
theorem check_k6 (n v wt : Int) (a : Option Addr) (m c : Nat) (l : List CaseD) (w : World) (hr : Rdy w) (hA : AtC w a m l) (hm : m ≤ 1000000) (hcap : m ≤ c) :
    Calls Tryz.prog 86 #[.agg #[.int .i64 6, .int .i64 n, .int .i64 v, .int .i64 wt, .slice a m c]] w fun e w' => e = .returned (.int .i64 (checkD ⟨6, n, v, wt, l⟩)) ∧ Kept w w' := by
  have hi := isKind_any 6
  rw [show isKindB 6 = true from rfl] at hi
  obtain ⟨g0, g1, g2, g3, g4, g5, g6⟩ := hr.k6
  have hlt := hr.lt
  have HA : Hid (AtC w a m l) := hA
  have HL : Hid (l.length = m) := hA.1
  clear hA hr
  have htk := takes_any [99, 108, 111, 115, 101] true false false false 0 7 6 n v wt a m c
  rcases ht : takesB ⟨[99, 108, 111, 115, 101], true, false, false, false, 0, 7⟩ n v wt m with _ | _
  · have HC : Hid (checkD ⟨6, n, v, wt, l⟩ = 1) := check_arg rfl (by rw [HL.out]; exact ht)
    rw [ht] at htk
    clear ht
    go_enter Tryz.func86, Tryz.ntmps86
    go_wp2_with fail
    refine (hi _).mono ?_
    rintro e w1 ⟨rfl, hw⟩
    subst w1
    go_wp2_with fail
    refine (htk _).mono ?_
    rintro e w1 ⟨rfl, T⟩
    go_wp2_with fail
    go_ret
    rw [HC.out]
    exact ⟨rfl, (((Kept.refl w).alloc _).alloc _).trans T⟩
  · have HC : Hid (checkD ⟨6, n, v, wt, l⟩ = casesE [] l) := check_plain rfl (by rw [HL.out]; exact ht) rfl
    rw [ht] at htk
    clear ht
    go_enter Tryz.func86, Tryz.ntmps86
    go_wp2_with fail
    refine (hi _).mono ?_
    rintro e w1 ⟨rfl, hw⟩
    subst w1
    go_wp2_with fail
    refine (htk _).mono ?_
    rintro e w1 ⟨rfl, T⟩
    have q0 := T.cell (p := ⟨w.heap.size, 4, none⟩) (v := .slice a m c) (by rw [World.cell?_alloc2_first]; rfl)
    have q1 := T.cell (p := ⟨w.heap.size + 1, 4, none⟩) (v := .bool false) (by rw [World.cell?_alloc2_new]; rfl)
    have z0 := cell_lt q0
    have z1 := cell_lt q1
    have T1 := (((Kept.refl w).alloc (.cells #[.int .i64 6, .int .i64 n, .int .i64 v, .int .i64 wt, .slice a m c] 37)).alloc (.cells #[.string (B [99, 108, 111, 115, 101]), .bool true, .bool false, .bool false, .bool false, .int .i64 0, .int .i64 7] 95)).trans T
    go_wp2_with fail
    refine (checkCases_any a m c l w1 (HA.out.kept T1) hm hcap).mono ?_
    rintro e w2 ⟨rfl, T2⟩
    go_wp2_with fail
    go_ret
    rw [HC.out]
    exact ⟨rfl, T1.trans T2⟩
set_option maxHeartbeats 1000000 in
theorem check_k7 (n v wt : Int) (a : Option Addr) (m c : Nat) (l : List CaseD) (w : World) (hr : Rdy w) (hA : AtC w a m l) (hm : m ≤ 1000000) (hcap : m ≤ c) :
    Calls Tryz.prog 86 #[.agg #[.int .i64 7, .int .i64 n, .int .i64 v, .int .i64 wt, .slice a m c]] w fun e w' => e = .returned (.int .i64 (checkD ⟨7, n, v, wt, l⟩)) ∧ Kept w w' := by
  have hi := isKind_any 7
  rw [show isKindB 7 = true from rfl] at hi
  obtain ⟨g0, g1, g2, g3, g4, g5, g6⟩ := hr.k7
  have hlt := hr.lt
  have HA : Hid (AtC w a m l) := hA
  have HL : Hid (l.length = m) := hA.1
  clear hA hr
  have htk := takes_any [115, 101, 108, 101, 99, 116] false false true true 0 0 7 n v wt a m c
  rcases ht : takesB ⟨[115, 101, 108, 101, 99, 116], false, false, true, true, 0, 0⟩ n v wt m with _ | _
  · have HC : Hid (checkD ⟨7, n, v, wt, l⟩ = 1) := check_arg rfl (by rw [HL.out]; exact ht)
    rw [ht] at htk
    clear ht
    go_enter Tryz.func86, Tryz.ntmps86
    go_wp2_with fail
    refine (hi _).mono ?_
    rintro e w1 ⟨rfl, hw⟩
    subst w1
    go_wp2_with fail
    refine (htk _).mono ?_
    rintro e w1 ⟨rfl, T⟩
    go_wp2_with fail
    go_ret
    rw [HC.out]
    exact ⟨rfl, (((Kept.refl w).alloc _).alloc _).trans T⟩
  · by_cases hl : m = 0 ∨ 4 < m
    · have HC : Hid (checkD ⟨7, n, v, wt, l⟩ = 18) := check_many rfl (by rw [HL.out]; exact ht) rfl (by rw [HL.out]; exact hl)
      rw [ht] at htk
      clear ht
      go_enter Tryz.func86, Tryz.ntmps86
      go_wp2_with fail
      refine (hi _).mono ?_
      rintro e w1 ⟨rfl, hw⟩
      subst w1
      go_wp2_with fail
      refine (htk _).mono ?_
      rintro e w1 ⟨rfl, T⟩
      have q0 := T.cell (p := ⟨w.heap.size, 4, none⟩) (v := .slice a m c) (by rw [World.cell?_alloc2_first]; rfl)
      have q1 := T.cell (p := ⟨w.heap.size + 1, 4, none⟩) (v := .bool true) (by rw [World.cell?_alloc2_new]; rfl)
      have z0 := cell_lt q0
      have z1 := cell_lt q1
      have T1 := (((Kept.refl w).alloc (.cells #[.int .i64 7, .int .i64 n, .int .i64 v, .int .i64 wt, .slice a m c] 37)).alloc (.cells #[.string (B [115, 101, 108, 101, 99, 116]), .bool false, .bool false, .bool true, .bool true, .int .i64 0, .int .i64 0] 95)).trans T
      rcases hl with hl | hl
      · subst hl
        go_wp2_with fail
        go_ret
        rw [HC.out]
        exact ⟨rfl, T1⟩
      · have h0 : ((m : Int) == 0) = false := by rw [beq_eq_false_iff_ne]; omega
        have h4 : 4 < (m : Int) := by omega
        go_wp2_with fail
        go_ret
        rw [HC.out]
        exact ⟨rfl, T1⟩
    · have HC : Hid (checkD ⟨7, n, v, wt, l⟩ = casesE [] l) := check_pick rfl (by rw [HL.out]; exact ht) (by rw [HL.out]; exact hl)
      rw [ht] at htk
      clear ht
      go_enter Tryz.func86, Tryz.ntmps86
      go_wp2_with fail
      refine (hi _).mono ?_
      rintro e w1 ⟨rfl, hw⟩
      subst w1
      go_wp2_with fail
      refine (htk _).mono ?_
      rintro e w1 ⟨rfl, T⟩
      have q0 := T.cell (p := ⟨w.heap.size, 4, none⟩) (v := .slice a m c) (by rw [World.cell?_alloc2_first]; rfl)
      have q1 := T.cell (p := ⟨w.heap.size + 1, 4, none⟩) (v := .bool true) (by rw [World.cell?_alloc2_new]; rfl)
      have z0 := cell_lt q0
      have z1 := cell_lt q1
      have T1 := (((Kept.refl w).alloc (.cells #[.int .i64 7, .int .i64 n, .int .i64 v, .int .i64 wt, .slice a m c] 37)).alloc (.cells #[.string (B [115, 101, 108, 101, 99, 116]), .bool false, .bool false, .bool true, .bool true, .int .i64 0, .int .i64 0] 95)).trans T
      have h0 : ((m : Int) == 0) = false := by rw [beq_eq_false_iff_ne]; omega
      have h4 : ¬ 4 < (m : Int) := by omega
      go_wp2_with fail
      refine (checkCases_any a m c l w1 (HA.out.kept T1) hm hcap).mono ?_
      rintro e w2 ⟨rfl, T2⟩
      go_wp2_with fail
      go_ret
      rw [HC.out]
      exact ⟨rfl, T1.trans T2⟩
set_option maxHeartbeats 1000000 in
theorem check_k8 (n v wt : Int) (a : Option Addr) (m c : Nat) (l : List CaseD) (w : World) (hr : Rdy w) (hA : AtC w a m l) (hm : m ≤ 1000000) (hcap : m ≤ c) :
    Calls Tryz.prog 86 #[.agg #[.int .i64 8, .int .i64 n, .int .i64 v, .int .i64 wt, .slice a m c]] w fun e w' => e = .returned (.int .i64 (checkD ⟨8, n, v, wt, l⟩)) ∧ Kept w w' := by
  have hi := isKind_any 8
  rw [show isKindB 8 = true from rfl] at hi
  obtain ⟨g0, g1, g2, g3, g4, g5, g6⟩ := hr.k8
  have hlt := hr.lt
  have HA : Hid (AtC w a m l) := hA
  have HL : Hid (l.length = m) := hA.1
  clear hA hr
  have htk := takes_any [108, 111, 111, 112] true false false false 1 32 8 n v wt a m c
  rcases ht : takesB ⟨[108, 111, 111, 112], true, false, false, false, 1, 32⟩ n v wt m with _ | _
  · have HC : Hid (checkD ⟨8, n, v, wt, l⟩ = 1) := check_arg rfl (by rw [HL.out]; exact ht)
    rw [ht] at htk
    clear ht
    go_enter Tryz.func86, Tryz.ntmps86
    go_wp2_with fail
    refine (hi _).mono ?_
    rintro e w1 ⟨rfl, hw⟩
    subst w1
    go_wp2_with fail
    refine (htk _).mono ?_
    rintro e w1 ⟨rfl, T⟩
    go_wp2_with fail
    go_ret
    rw [HC.out]
    exact ⟨rfl, (((Kept.refl w).alloc _).alloc _).trans T⟩
  · have HC : Hid (checkD ⟨8, n, v, wt, l⟩ = casesE [] l) := check_plain rfl (by rw [HL.out]; exact ht) rfl
    rw [ht] at htk
    clear ht
    go_enter Tryz.func86, Tryz.ntmps86
    go_wp2_with fail
    refine (hi _).mono ?_
    rintro e w1 ⟨rfl, hw⟩
    subst w1
    go_wp2_with fail
    refine (htk _).mono ?_
    rintro e w1 ⟨rfl, T⟩
    have q0 := T.cell (p := ⟨w.heap.size, 4, none⟩) (v := .slice a m c) (by rw [World.cell?_alloc2_first]; rfl)
    have q1 := T.cell (p := ⟨w.heap.size + 1, 4, none⟩) (v := .bool false) (by rw [World.cell?_alloc2_new]; rfl)
    have z0 := cell_lt q0
    have z1 := cell_lt q1
    have T1 := (((Kept.refl w).alloc (.cells #[.int .i64 8, .int .i64 n, .int .i64 v, .int .i64 wt, .slice a m c] 37)).alloc (.cells #[.string (B [108, 111, 111, 112]), .bool true, .bool false, .bool false, .bool false, .int .i64 1, .int .i64 32] 95)).trans T
    go_wp2_with fail
    refine (checkCases_any a m c l w1 (HA.out.kept T1) hm hcap).mono ?_
    rintro e w2 ⟨rfl, T2⟩
    go_wp2_with fail
    go_ret
    rw [HC.out]
    exact ⟨rfl, T1.trans T2⟩
set_option maxHeartbeats 1000000 in
theorem check_k9 (n v wt : Int) (a : Option Addr) (m c : Nat) (l : List CaseD) (w : World) (hr : Rdy w) (hA : AtC w a m l) (hm : m ≤ 1000000) (hcap : m ≤ c) :
    Calls Tryz.prog 86 #[.agg #[.int .i64 9, .int .i64 n, .int .i64 v, .int .i64 wt, .slice a m c]] w fun e w' => e = .returned (.int .i64 (checkD ⟨9, n, v, wt, l⟩)) ∧ Kept w w' := by
  have hi := isKind_any 9
  rw [show isKindB 9 = true from rfl] at hi
  obtain ⟨g0, g1, g2, g3, g4, g5, g6⟩ := hr.k9
  have hlt := hr.lt
  have HA : Hid (AtC w a m l) := hA
  have HL : Hid (l.length = m) := hA.1
  clear hA hr
  have htk := takes_any [101, 110, 100] false false false false 0 0 9 n v wt a m c
  rcases ht : takesB ⟨[101, 110, 100], false, false, false, false, 0, 0⟩ n v wt m with _ | _
  · have HC : Hid (checkD ⟨9, n, v, wt, l⟩ = 1) := check_arg rfl (by rw [HL.out]; exact ht)
    rw [ht] at htk
    clear ht
    go_enter Tryz.func86, Tryz.ntmps86
    go_wp2_with fail
    refine (hi _).mono ?_
    rintro e w1 ⟨rfl, hw⟩
    subst w1
    go_wp2_with fail
    refine (htk _).mono ?_
    rintro e w1 ⟨rfl, T⟩
    go_wp2_with fail
    go_ret
    rw [HC.out]
    exact ⟨rfl, (((Kept.refl w).alloc _).alloc _).trans T⟩
  · have HC : Hid (checkD ⟨9, n, v, wt, l⟩ = casesE [] l) := check_plain rfl (by rw [HL.out]; exact ht) rfl
    rw [ht] at htk
    clear ht
    go_enter Tryz.func86, Tryz.ntmps86
    go_wp2_with fail
    refine (hi _).mono ?_
    rintro e w1 ⟨rfl, hw⟩
    subst w1
    go_wp2_with fail
    refine (htk _).mono ?_
    rintro e w1 ⟨rfl, T⟩
    have q0 := T.cell (p := ⟨w.heap.size, 4, none⟩) (v := .slice a m c) (by rw [World.cell?_alloc2_first]; rfl)
    have q1 := T.cell (p := ⟨w.heap.size + 1, 4, none⟩) (v := .bool false) (by rw [World.cell?_alloc2_new]; rfl)
    have z0 := cell_lt q0
    have z1 := cell_lt q1
    have T1 := (((Kept.refl w).alloc (.cells #[.int .i64 9, .int .i64 n, .int .i64 v, .int .i64 wt, .slice a m c] 37)).alloc (.cells #[.string (B [101, 110, 100]), .bool false, .bool false, .bool false, .bool false, .int .i64 0, .int .i64 0] 95)).trans T
    go_wp2_with fail
    refine (checkCases_any a m c l w1 (HA.out.kept T1) hm hcap).mono ?_
    rintro e w2 ⟨rfl, T2⟩
    go_wp2_with fail
    go_ret
    rw [HC.out]
    exact ⟨rfl, T1.trans T2⟩

theorem check_any (k n v wt : Int) (a : Option Addr) (m c : Nat) (l : List CaseD) (w : World) (hr : Rdy w) (hA : AtC w a m l) (hm : m ≤ 1000000) (hcap : m ≤ c) :
    Calls Tryz.prog 86 #[.agg #[.int .i64 k, .int .i64 n, .int .i64 v, .int .i64 wt, .slice a m c]] w fun e w' => e = .returned (.int .i64 (checkD ⟨k, n, v, wt, l⟩)) ∧ Kept w w' := by
  cases hk : isKindB k with
  | false => exact check_none k n v wt a m c l w hk
  | true =>
    rcases kind_cases hk with rfl | rfl | rfl | rfl | rfl | rfl | rfl | rfl | rfl
    · exact check_k1 n v wt a m c l w hr hA hm hcap
    · exact check_k2 n v wt a m c l w hr hA hm hcap
    · exact check_k3 n v wt a m c l w hr hA hm hcap
    · exact check_k4 n v wt a m c l w hr hA hm hcap
    · exact check_k5 n v wt a m c l w hr hA hm hcap
    · exact check_k6 n v wt a m c l w hr hA hm hcap
    · exact check_k7 n v wt a m c l w hr hA hm hcap
    · exact check_k8 n v wt a m c l w hr hA hm hcap
    · exact check_k9 n v wt a m c l w hr hA hm hcap
end Go.Proofs.YtolljdomnohmdabGreatDoor
