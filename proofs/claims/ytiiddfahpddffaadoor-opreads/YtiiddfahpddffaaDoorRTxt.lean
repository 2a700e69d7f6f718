/- The reference's words, wait, OpText. -/
import Derived.Test.YtiiddfahpddffaaDoorTxt2
namespace Go.Proofs.YtiiddfahpddffaaDoor
open Go.RowKit

theorem add_run (a b : List UInt8) (ha : a.length ≤ 1000000) (hb : b.length ≤ 1000000) : ∀ wx, (Op.stringOp .add (B a) (B b)).run Tryd.prog wx = .ok (.string (B (a ++ b))) wx := by
  intro wx
  rw [run_string_add_sum _ _ _ (by rw [B_size, B_size]; omega), B_add]
theorem some_eq (x : List UInt8) : ∃ s : List UInt8, Hid (s = x) := ⟨x, by show _ = _; rfl⟩
theorem add_to (a b c : List UInt8) (h : c = a ++ b) (ha : a.length ≤ 1000000) (hb : b.length ≤ 1000000) : ∀ wx, (Op.stringOp .add (B a) (B b)).run Tryd.prog wx = .ok (.string (B c)) wx := by
  rw [h]; exact add_run a b ha hb
theorem words_any (w : World) : Calls Tryd.prog 34 #[] w fun e w' => e = .returned (.slice (some ⟨w.heap.size, 0, none⟩) 10 10) ∧ w' = w.alloc (.cells #[.string ⟨#[]⟩, .string ⟨#[114, 117, 110]⟩, .string ⟨#[108, 111, 99, 107]⟩, .string ⟨#[117, 110, 108, 111, 99, 107]⟩, .string ⟨#[115, 101, 110, 100]⟩, .string ⟨#[114, 101, 99, 118]⟩, .string ⟨#[99, 108, 111, 115, 101]⟩, .string ⟨#[115, 101, 108, 101, 99, 116]⟩, .string ⟨#[108, 111, 111, 112]⟩, .string ⟨#[101, 110, 100]⟩] 9) := by
  go_enter Tryd.func34, Tryd.ntmps34
  go_wp2_with fail
  go_ret
  exact ⟨rfl, rfl⟩
theorem rwait_any (n : Int) (h : in64 n) (h1 : -1 ≤ n) (w : World) :
    Calls Tryd.prog 36 #[.int .i64 n] w fun e w' => e = .returned (.string (B (waitT n))) ∧ Kept w w' := by
  by_cases hn : n = -1
  · subst hn
    go_enter Tryd.func36, Tryd.ntmps36
    go_wp2_with fail
    go_ret
    exact ⟨rfl, Kept.refl _⟩
  · have h2 : ¬ n < 0 := by omega
    have HT : Hid (waitT n = Lib.itoa n) := by show _ = _; unfold waitT; rw [if_neg hn]
    go_enter Tryd.func36, Tryd.ntmps36
    go_wp2_with fail
    refine (rword_any n h.1 h.2 w).mono ?_
    rintro e w1 ⟨rfl, t1⟩
    go_wp2_with fail
    go_ret
    rw [HT.out]
    exact ⟨rfl, t1⟩

set_option maxHeartbeats 2000000 in
theorem roptext_k1 (n v wt : Int) (a : Option Addr) (m c : Nat) (l : List CaseD) (w : World) (hi : In64 ⟨1, n, v, wt, l⟩) :
    Calls Tryd.prog 19 #[.agg #[.int .i64 1, .int .i64 n, .int .i64 v, .int .i64 wt, .slice a m c]] w fun e w' => e = .returned (.string (B (textD ⟨1, n, v, wt, l⟩))) ∧ Kept w w' := by
  have hn : (Lib.itoa n).length ≤ 20 := itoa_len hi.n
  obtain ⟨s1, H1⟩ := some_eq ([114, 117, 110] ++ [32])
  have hl1 : s1.length ≤ 100 := by rw [H1.out, List.length_append]; simp only [List.length_cons, List.length_nil]; omega
  have ad1 := add_to ([114, 117, 110]) ([32]) s1 H1.out (by simp only [List.length_cons, List.length_nil]; omega) (by simp only [List.length_cons, List.length_nil]; omega)
  obtain ⟨s2, H2⟩ := some_eq (s1 ++ Lib.itoa n)
  have hl2 : s2.length ≤ 200 := by rw [H2.out, List.length_append]; omega
  have ad2 := add_to s1 (Lib.itoa n) s2 H2.out (by omega) (by omega)
  rw [show B [114, 117, 110] = ⟨#[114, 117, 110]⟩ from rfl] at ad1
  rw [show B [32] = ⟨#[32]⟩ from rfl] at ad1
  go_enter Tryd.func19, Tryd.ntmps19
  go_wp2_with fail
  go_region_with (go_at_call 34; refine (words_any _).mono ?_; rintro e w1 ⟨rfl, hw1⟩; subst w1)
  all_goals
    go_wp2_with fail
    refine (rword_any n hi.n.1 hi.n.2 _).mono ?_
    rintro e w2 ⟨rfl, t2⟩
    go_wp2_with fail
    go_ret
    rw [H2.out, H1.out]
    exact ⟨rfl, (((Kept.refl w).alloc _).drew.alloc _).trans t2⟩

set_option maxHeartbeats 2000000 in
theorem roptext_k2 (n v wt : Int) (a : Option Addr) (m c : Nat) (l : List CaseD) (w : World) (hi : In64 ⟨2, n, v, wt, l⟩) :
    Calls Tryd.prog 19 #[.agg #[.int .i64 2, .int .i64 n, .int .i64 v, .int .i64 wt, .slice a m c]] w fun e w' => e = .returned (.string (B (textD ⟨2, n, v, wt, l⟩))) ∧ Kept w w' := by
  have hn : (Lib.itoa n).length ≤ 20 := itoa_len hi.n
  obtain ⟨s1, H1⟩ := some_eq ([108, 111, 99, 107] ++ [32])
  have hl1 : s1.length ≤ 100 := by rw [H1.out, List.length_append]; simp only [List.length_cons, List.length_nil]; omega
  have ad1 := add_to ([108, 111, 99, 107]) ([32]) s1 H1.out (by simp only [List.length_cons, List.length_nil]; omega) (by simp only [List.length_cons, List.length_nil]; omega)
  obtain ⟨s2, H2⟩ := some_eq (s1 ++ Lib.itoa n)
  have hl2 : s2.length ≤ 200 := by rw [H2.out, List.length_append]; omega
  have ad2 := add_to s1 (Lib.itoa n) s2 H2.out (by omega) (by omega)
  rw [show B [108, 111, 99, 107] = ⟨#[108, 111, 99, 107]⟩ from rfl] at ad1
  rw [show B [32] = ⟨#[32]⟩ from rfl] at ad1
  go_enter Tryd.func19, Tryd.ntmps19
  go_wp2_with fail
  go_region_with (go_at_call 34; refine (words_any _).mono ?_; rintro e w1 ⟨rfl, hw1⟩; subst w1)
  all_goals
    go_wp2_with fail
    refine (rword_any n hi.n.1 hi.n.2 _).mono ?_
    rintro e w2 ⟨rfl, t2⟩
    go_wp2_with fail
    go_ret
    rw [H2.out, H1.out]
    exact ⟨rfl, (((Kept.refl w).alloc _).drew.alloc _).trans t2⟩

set_option maxHeartbeats 2000000 in
theorem roptext_k3 (n v wt : Int) (a : Option Addr) (m c : Nat) (l : List CaseD) (w : World) (hi : In64 ⟨3, n, v, wt, l⟩) :
    Calls Tryd.prog 19 #[.agg #[.int .i64 3, .int .i64 n, .int .i64 v, .int .i64 wt, .slice a m c]] w fun e w' => e = .returned (.string (B (textD ⟨3, n, v, wt, l⟩))) ∧ Kept w w' := by
  have hn : (Lib.itoa n).length ≤ 20 := itoa_len hi.n
  obtain ⟨s1, H1⟩ := some_eq ([117, 110, 108, 111, 99, 107] ++ [32])
  have hl1 : s1.length ≤ 100 := by rw [H1.out, List.length_append]; simp only [List.length_cons, List.length_nil]; omega
  have ad1 := add_to ([117, 110, 108, 111, 99, 107]) ([32]) s1 H1.out (by simp only [List.length_cons, List.length_nil]; omega) (by simp only [List.length_cons, List.length_nil]; omega)
  obtain ⟨s2, H2⟩ := some_eq (s1 ++ Lib.itoa n)
  have hl2 : s2.length ≤ 200 := by rw [H2.out, List.length_append]; omega
  have ad2 := add_to s1 (Lib.itoa n) s2 H2.out (by omega) (by omega)
  rw [show B [117, 110, 108, 111, 99, 107] = ⟨#[117, 110, 108, 111, 99, 107]⟩ from rfl] at ad1
  rw [show B [32] = ⟨#[32]⟩ from rfl] at ad1
  go_enter Tryd.func19, Tryd.ntmps19
  go_wp2_with fail
  go_region_with (go_at_call 34; refine (words_any _).mono ?_; rintro e w1 ⟨rfl, hw1⟩; subst w1)
  all_goals
    go_wp2_with fail
    refine (rword_any n hi.n.1 hi.n.2 _).mono ?_
    rintro e w2 ⟨rfl, t2⟩
    go_wp2_with fail
    go_ret
    rw [H2.out, H1.out]
    exact ⟨rfl, (((Kept.refl w).alloc _).drew.alloc _).trans t2⟩

set_option maxHeartbeats 2000000 in
theorem roptext_k6 (n v wt : Int) (a : Option Addr) (m c : Nat) (l : List CaseD) (w : World) (hi : In64 ⟨6, n, v, wt, l⟩) :
    Calls Tryd.prog 19 #[.agg #[.int .i64 6, .int .i64 n, .int .i64 v, .int .i64 wt, .slice a m c]] w fun e w' => e = .returned (.string (B (textD ⟨6, n, v, wt, l⟩))) ∧ Kept w w' := by
  have hn : (Lib.itoa n).length ≤ 20 := itoa_len hi.n
  obtain ⟨s1, H1⟩ := some_eq ([99, 108, 111, 115, 101] ++ [32])
  have hl1 : s1.length ≤ 100 := by rw [H1.out, List.length_append]; simp only [List.length_cons, List.length_nil]; omega
  have ad1 := add_to ([99, 108, 111, 115, 101]) ([32]) s1 H1.out (by simp only [List.length_cons, List.length_nil]; omega) (by simp only [List.length_cons, List.length_nil]; omega)
  obtain ⟨s2, H2⟩ := some_eq (s1 ++ Lib.itoa n)
  have hl2 : s2.length ≤ 200 := by rw [H2.out, List.length_append]; omega
  have ad2 := add_to s1 (Lib.itoa n) s2 H2.out (by omega) (by omega)
  rw [show B [99, 108, 111, 115, 101] = ⟨#[99, 108, 111, 115, 101]⟩ from rfl] at ad1
  rw [show B [32] = ⟨#[32]⟩ from rfl] at ad1
  go_enter Tryd.func19, Tryd.ntmps19
  go_wp2_with fail
  go_region_with (go_at_call 34; refine (words_any _).mono ?_; rintro e w1 ⟨rfl, hw1⟩; subst w1)
  all_goals
    go_wp2_with fail
    refine (rword_any n hi.n.1 hi.n.2 _).mono ?_
    rintro e w2 ⟨rfl, t2⟩
    go_wp2_with fail
    go_ret
    rw [H2.out, H1.out]
    exact ⟨rfl, (((Kept.refl w).alloc _).drew.alloc _).trans t2⟩

set_option maxHeartbeats 2000000 in
theorem roptext_k8 (n v wt : Int) (a : Option Addr) (m c : Nat) (l : List CaseD) (w : World) (hi : In64 ⟨8, n, v, wt, l⟩) :
    Calls Tryd.prog 19 #[.agg #[.int .i64 8, .int .i64 n, .int .i64 v, .int .i64 wt, .slice a m c]] w fun e w' => e = .returned (.string (B (textD ⟨8, n, v, wt, l⟩))) ∧ Kept w w' := by
  have hn : (Lib.itoa n).length ≤ 20 := itoa_len hi.n
  obtain ⟨s1, H1⟩ := some_eq ([108, 111, 111, 112] ++ [32])
  have hl1 : s1.length ≤ 100 := by rw [H1.out, List.length_append]; simp only [List.length_cons, List.length_nil]; omega
  have ad1 := add_to ([108, 111, 111, 112]) ([32]) s1 H1.out (by simp only [List.length_cons, List.length_nil]; omega) (by simp only [List.length_cons, List.length_nil]; omega)
  obtain ⟨s2, H2⟩ := some_eq (s1 ++ Lib.itoa n)
  have hl2 : s2.length ≤ 200 := by rw [H2.out, List.length_append]; omega
  have ad2 := add_to s1 (Lib.itoa n) s2 H2.out (by omega) (by omega)
  rw [show B [108, 111, 111, 112] = ⟨#[108, 111, 111, 112]⟩ from rfl] at ad1
  rw [show B [32] = ⟨#[32]⟩ from rfl] at ad1
  go_enter Tryd.func19, Tryd.ntmps19
  go_wp2_with fail
  go_region_with (go_at_call 34; refine (words_any _).mono ?_; rintro e w1 ⟨rfl, hw1⟩; subst w1)
  all_goals
    go_wp2_with fail
    refine (rword_any n hi.n.1 hi.n.2 _).mono ?_
    rintro e w2 ⟨rfl, t2⟩
    go_wp2_with fail
    go_ret
    rw [H2.out, H1.out]
    exact ⟨rfl, (((Kept.refl w).alloc _).drew.alloc _).trans t2⟩

set_option maxHeartbeats 2000000 in
theorem roptext_k9 (n v wt : Int) (a : Option Addr) (m c : Nat) (l : List CaseD) (w : World) (_ : In64 ⟨9, n, v, wt, l⟩) :
    Calls Tryd.prog 19 #[.agg #[.int .i64 9, .int .i64 n, .int .i64 v, .int .i64 wt, .slice a m c]] w fun e w' => e = .returned (.string (B (textD ⟨9, n, v, wt, l⟩))) ∧ Kept w w' := by
  go_enter Tryd.func19, Tryd.ntmps19
  go_wp2_with fail
  go_region_with (go_at_call 34; refine (words_any _).mono ?_; rintro e w1 ⟨rfl, hw1⟩; subst w1)
  all_goals
    go_wp2_with fail
    go_ret
    exact ⟨rfl, ((Kept.refl w).alloc _).drew.alloc _⟩

set_option maxHeartbeats 2000000 in
theorem roptext_k4 (n v wt : Int) (a : Option Addr) (m c : Nat) (l : List CaseD) (w : World) (hi : In64 ⟨4, n, v, wt, l⟩) (h1 : -1 ≤ wt) :
    Calls Tryd.prog 19 #[.agg #[.int .i64 4, .int .i64 n, .int .i64 v, .int .i64 wt, .slice a m c]] w fun e w' => e = .returned (.string (B (textD ⟨4, n, v, wt, l⟩))) ∧ Kept w w' := by
  have hn : (Lib.itoa n).length ≤ 20 := itoa_len hi.n
  have hv : (Lib.itoa v).length ≤ 20 := itoa_len hi.v
  have hw : (waitT wt).length ≤ 20 := waitT_len hi.wait
  obtain ⟨s1, H1⟩ := some_eq ([115, 101, 110, 100] ++ [32])
  have hl1 : s1.length ≤ 100 := by rw [H1.out, List.length_append]; simp only [List.length_cons, List.length_nil]; omega
  have ad1 := add_to ([115, 101, 110, 100]) ([32]) s1 H1.out (by simp only [List.length_cons, List.length_nil]; omega) (by simp only [List.length_cons, List.length_nil]; omega)
  obtain ⟨s2, H2⟩ := some_eq (s1 ++ Lib.itoa n)
  have hl2 : s2.length ≤ 200 := by rw [H2.out, List.length_append]; omega
  have ad2 := add_to s1 (Lib.itoa n) s2 H2.out (by omega) (by omega)
  obtain ⟨s3, H3⟩ := some_eq (s2 ++ [32])
  have hl3 : s3.length ≤ 300 := by rw [H3.out, List.length_append]; simp only [List.length_cons, List.length_nil]; omega
  have ad3 := add_to s2 ([32]) s3 H3.out (by omega) (by simp only [List.length_cons, List.length_nil]; omega)
  obtain ⟨s4, H4⟩ := some_eq (s3 ++ Lib.itoa v)
  have hl4 : s4.length ≤ 400 := by rw [H4.out, List.length_append]; omega
  have ad4 := add_to s3 (Lib.itoa v) s4 H4.out (by omega) (by omega)
  obtain ⟨s5, H5⟩ := some_eq (s4 ++ [32])
  have hl5 : s5.length ≤ 500 := by rw [H5.out, List.length_append]; simp only [List.length_cons, List.length_nil]; omega
  have ad5 := add_to s4 ([32]) s5 H5.out (by omega) (by simp only [List.length_cons, List.length_nil]; omega)
  obtain ⟨s6, H6⟩ := some_eq (s5 ++ waitT wt)
  have hl6 : s6.length ≤ 600 := by rw [H6.out, List.length_append]; omega
  have ad6 := add_to s5 (waitT wt) s6 H6.out (by omega) (by omega)
  rw [show B [115, 101, 110, 100] = ⟨#[115, 101, 110, 100]⟩ from rfl] at ad1
  rw [show B [32] = ⟨#[32]⟩ from rfl] at ad1
  rw [show B [32] = ⟨#[32]⟩ from rfl] at ad3
  rw [show B [32] = ⟨#[32]⟩ from rfl] at ad5
  go_enter Tryd.func19, Tryd.ntmps19
  go_wp2_with fail
  go_region_with (go_at_call 34; refine (words_any _).mono ?_; rintro e w1 ⟨rfl, hw1⟩; subst w1)
  all_goals
    go_wp2_with fail
    go_region_held3 (fun w' => w'.cell? ⟨w.heap.size, 1, none⟩ = some (.int .i64 n) ∧ w'.cell? ⟨w.heap.size, 2, none⟩ = some (.int .i64 v) ∧ w'.cell? ⟨w.heap.size, 3, none⟩ = some (.int .i64 wt)) (go_keep) (first | (go_at_call 36; refine (rwait_any wt hi.wait h1 w3).mono ?_; rintro e w4 ⟨rfl, t4⟩; have z1 := t4.cell y1; have z2 := t4.cell y2; have z3 := t4.cell y3) | (go_at_call 35; refine (rword_any v hi.v.1 hi.v.2 w2).mono ?_; rintro e w3 ⟨rfl, t3⟩; have y1 := t3.cell x1; have y2 := t3.cell x2; have y3 := t3.cell x3) | (go_at_call 35; refine (rword_any n hi.n.1 hi.n.2 _).mono ?_; rintro e w2 ⟨rfl, t2⟩; have x1 := t2.cell (p := ⟨w.heap.size, 1, none⟩) (v := .int .i64 n) (by go_simp); have x2 := t2.cell (p := ⟨w.heap.size, 2, none⟩) (v := .int .i64 v) (by go_simp); have x3 := t2.cell (p := ⟨w.heap.size, 3, none⟩) (v := .int .i64 wt) (by go_simp)) | fail)
    go_wp2_with fail
    go_ret
    rw [H6.out, H5.out, H4.out, H3.out, H2.out, H1.out]
    refine ⟨?_, (((((Kept.refl w).alloc _).drew.alloc _).drew.trans t2).trans t3).trans t4⟩
    simp [textD, wordsD, shapeOf, joinW]

set_option maxHeartbeats 2000000 in
theorem roptext_k5 (n v wt : Int) (a : Option Addr) (m c : Nat) (l : List CaseD) (w : World) (hi : In64 ⟨5, n, v, wt, l⟩) (h1 : -1 ≤ wt) :
    Calls Tryd.prog 19 #[.agg #[.int .i64 5, .int .i64 n, .int .i64 v, .int .i64 wt, .slice a m c]] w fun e w' => e = .returned (.string (B (textD ⟨5, n, v, wt, l⟩))) ∧ Kept w w' := by
  have hn : (Lib.itoa n).length ≤ 20 := itoa_len hi.n
  have hw : (waitT wt).length ≤ 20 := waitT_len hi.wait
  obtain ⟨s1, H1⟩ := some_eq ([114, 101, 99, 118] ++ [32])
  have hl1 : s1.length ≤ 100 := by rw [H1.out, List.length_append]; simp only [List.length_cons, List.length_nil]; omega
  have ad1 := add_to ([114, 101, 99, 118]) ([32]) s1 H1.out (by simp only [List.length_cons, List.length_nil]; omega) (by simp only [List.length_cons, List.length_nil]; omega)
  obtain ⟨s2, H2⟩ := some_eq (s1 ++ Lib.itoa n)
  have hl2 : s2.length ≤ 200 := by rw [H2.out, List.length_append]; omega
  have ad2 := add_to s1 (Lib.itoa n) s2 H2.out (by omega) (by omega)
  obtain ⟨s3, H3⟩ := some_eq (s2 ++ [32])
  have hl3 : s3.length ≤ 300 := by rw [H3.out, List.length_append]; simp only [List.length_cons, List.length_nil]; omega
  have ad3 := add_to s2 ([32]) s3 H3.out (by omega) (by simp only [List.length_cons, List.length_nil]; omega)
  obtain ⟨s4, H4⟩ := some_eq (s3 ++ waitT wt)
  have hl4 : s4.length ≤ 400 := by rw [H4.out, List.length_append]; omega
  have ad4 := add_to s3 (waitT wt) s4 H4.out (by omega) (by omega)
  rw [show B [114, 101, 99, 118] = ⟨#[114, 101, 99, 118]⟩ from rfl] at ad1
  rw [show B [32] = ⟨#[32]⟩ from rfl] at ad1
  rw [show B [32] = ⟨#[32]⟩ from rfl] at ad3
  go_enter Tryd.func19, Tryd.ntmps19
  go_wp2_with fail
  go_region_with (go_at_call 34; refine (words_any _).mono ?_; rintro e w1 ⟨rfl, hw1⟩; subst w1)
  all_goals
    go_wp2_with fail
    go_region_held3 (fun w' => w'.cell? ⟨w.heap.size, 1, none⟩ = some (.int .i64 n) ∧ w'.cell? ⟨w.heap.size, 3, none⟩ = some (.int .i64 wt)) (go_keep) (first | (go_at_call 36; refine (rwait_any wt hi.wait h1 w2).mono ?_; rintro e w4 ⟨rfl, t4⟩; have z1 := t4.cell x1; have z3 := t4.cell x3) | (go_at_call 35; refine (rword_any n hi.n.1 hi.n.2 _).mono ?_; rintro e w2 ⟨rfl, t2⟩; have x1 := t2.cell (p := ⟨w.heap.size, 1, none⟩) (v := .int .i64 n) (by go_simp); have x3 := t2.cell (p := ⟨w.heap.size, 3, none⟩) (v := .int .i64 wt) (by go_simp)) | fail)
    go_wp2_with fail
    go_ret
    rw [H4.out, H3.out, H2.out, H1.out]
    refine ⟨?_, ((((Kept.refl w).alloc _).drew.alloc _).drew.trans t2).trans t4⟩
    simp [textD, wordsD, shapeOf, joinW]

end Go.Proofs.YtiiddfahpddffaaDoor
