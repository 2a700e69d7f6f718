/- known of the law's package answers true. -/
import Derived.Test.YtfmoijmfndmgaaaDoorRWrd
namespace Go.Proofs.YtfmoijmfndmgaaaDoor
open Go.RowKit

theorem k_lines : linesE [97, 32, 98, 10, 10, 99, 10] = 0 ∧ linesR [97, 32, 98, 10, 10, 99, 10] = [[97, 32, 98], [], [99]] := by decide
theorem k_bad : linesE [97] = 2 := by decide
theorem k_split : splitE (splitOf [114, 117, 110, 32, 51]) = 0 ∧ splitR (splitOf [114, 117, 110, 32, 51]) = [[114, 117, 110], [51]] := by decide
theorem k_split2 : splitE (splitOf [114, 117, 110, 32, 32, 51]) = 2 := by decide
theorem k_split3 : splitE (splitOf [114, 117, 110, 9, 51]) = 2 := by decide
theorem k_least : numOf [45, 57, 50, 50, 51, 51, 55, 50, 48, 51, 54, 56, 53, 52, 55, 55, 53, 56, 48, 56] = (-9223372036854775808, 0) := by decide +kernel
theorem k_most : numOf [57, 50, 50, 51, 51, 55, 50, 48, 51, 54, 56, 53, 52, 55, 55, 53, 56, 48, 56] = (0, 14) := by decide +kernel
theorem k_mzero : numOf [45, 48] = (0, 2) := by decide +kernel
theorem k_zero : Lib.itoa 0 = [48] := itoa_num (by decide +kernel)
theorem k_name : nameB [97, 98, 99] = true ∧ nameB [65, 98, 99] = false ∧ nameB [97, 98, 99, 100, 101, 102, 103, 104, 105] = false ∧ nameB [] = false := by decide

theorem text_least (w : World) (hr : Rdy w) : Calls Tryd.prog 19 #[.int .i64 (-9223372036854775808)] w fun e w' => e = .returned (.string ⟨#[45, 57, 50, 50, 51, 51, 55, 50, 48, 51, 54, 56, 53, 52, 55, 55, 53, 56, 48, 56]⟩) ∧ Kept w w' := by
  have h := text_any (-9223372036854775808) (by omega) (by omega) w hr
  rw [itoa_num k_least] at h
  exact h
theorem text_zero (w : World) (hr : Rdy w) : Calls Tryd.prog 19 #[.int .i64 0] w fun e w' => e = .returned (.string ⟨#[48]⟩) ∧ Kept w w' := by
  have h := text_any 0 (by omega) (by omega) w hr
  rw [k_zero] at h
  exact h
theorem name_abc (w : World) : Calls Tryd.prog 17 #[.string ⟨#[97, 98, 99]⟩] w fun e w' => e = .returned (.bool true) ∧ w' = w := by
  have h := name_any (B [97, 98, 99]) w
  rw [B_list, k_name.1] at h
  exact h
theorem name_Abc (w : World) : Calls Tryd.prog 17 #[.string ⟨#[65, 98, 99]⟩] w fun e w' => e = .returned (.bool false) ∧ w' = w := by
  have h := name_any (B [65, 98, 99]) w
  rw [B_list, k_name.2.1] at h
  exact h
theorem name_nine (w : World) : Calls Tryd.prog 17 #[.string ⟨#[97, 98, 99, 100, 101, 102, 103, 104, 105]⟩] w fun e w' => e = .returned (.bool false) ∧ w' = w := by
  have h := name_any (B [97, 98, 99, 100, 101, 102, 103, 104, 105]) w
  rw [B_list, k_name.2.2.1] at h
  exact h
theorem name_none (w : World) : Calls Tryd.prog 17 #[.string ⟨#[]⟩] w fun e w' => e = .returned (.bool false) ∧ w' = w := by
  have h := name_any (B []) w
  rw [B_list, k_name.2.2.2] at h
  exact h

set_option maxHeartbeats 2000000 in
theorem known_true (w : World) (hr : Rdy w) : Calls Tryd.prog 9 #[] w fun e w' => e = .returned (.bool true) ∧ Kept w w' := by
  go_enter Tryd.func9, Tryd.ntmps9
  go_wp2_with fail
  refine (lines_any [97, 32, 98, 10, 10, 99, 10] (by decide) w hr).mono ?_
  rintro e w1 ⟨v1, rfl, r1, T1⟩
  rw [k_lines.1]
  rw [k_lines.2] at r1
  obtain ⟨a1, c1, rfl, p1⟩ := r1.at
  clear r1
  go_wp2_with fail
  refine (lines_any [97] (by decide) w1 (hr.kept T1)).mono ?_
  rintro e w2 ⟨v2, rfl, r2, t2⟩
  have T2 := T1.trans t2
  rw [k_bad]
  clear r2
  go_wp2_with fail
  refine (split_any [114, 117, 110, 32, 51] (by decide) w2 (hr.kept T2)).mono ?_
  rintro e w3 ⟨v3, rfl, r3, t3⟩
  have T3 := T2.trans t3
  rw [k_split.1]
  rw [k_split.2] at r3
  obtain ⟨a3, c3, rfl, p3⟩ := r3.at
  clear r3
  go_wp2_with fail
  refine (split_any [114, 117, 110, 32, 32, 51] (by decide) w3 (hr.kept T3)).mono ?_
  rintro e w4 ⟨v4, rfl, r4, t4⟩
  have T4 := T3.trans t4
  rw [k_split2]
  clear r4
  go_wp2_with fail
  refine (split_any [114, 117, 110, 9, 51] (by decide) w4 (hr.kept T4)).mono ?_
  rintro e w5 ⟨v5, rfl, r5, t5⟩
  have T5 := T4.trans t5
  rw [k_split3]
  clear r5
  go_wp2_with fail
  refine (number_any [45, 57, 50, 50, 51, 51, 55, 50, 48, 51, 54, 56, 53, 52, 55, 55, 53, 56, 48, 56] (by decide) w5 (hr.kept T5)).mono ?_
  rintro e w6 ⟨rfl, t6⟩
  have T6 := T5.trans t6
  rw [k_least]
  go_wp2_with fail
  refine (number_any [57, 50, 50, 51, 51, 55, 50, 48, 51, 54, 56, 53, 52, 55, 55, 53, 56, 48, 56] (by decide) w6 (hr.kept T6)).mono ?_
  rintro e w7 ⟨rfl, t7⟩
  have T7 := T6.trans t7
  rw [k_most]
  go_wp2_with fail
  refine (number_any [45, 48] (by decide) w7 (hr.kept T7)).mono ?_
  rintro e w8 ⟨rfl, t8⟩
  have T8 := T7.trans t8
  rw [k_mzero]
  go_wp2_with fail
  have q1 := lit_strs w8 [[97, 32, 98], [], [99]] #[.string ⟨#[97, 32, 98]⟩, .string ⟨#[]⟩, .string ⟨#[99]⟩] rfl
  have T9 := T8.alloc (.cells #[.string ⟨#[97, 32, 98]⟩, .string ⟨#[]⟩, .string ⟨#[99]⟩] 9)
  have S9 : Kept w1 (w8.alloc (.cells #[.string ⟨#[97, 32, 98]⟩, .string ⟨#[]⟩, .string ⟨#[99]⟩] 9)) := (((((((t2.trans t3).trans t4).trans t5).trans t6).trans t7).trans t8)).alloc _
  have S3 : Kept w3 (w8.alloc (.cells #[.string ⟨#[97, 32, 98]⟩, .string ⟨#[]⟩, .string ⟨#[99]⟩] 9)) := (((((t4.trans t5).trans t6).trans t7).trans t8)).alloc _
  refine (words_yes (p1.kept S9) q1 (by decide)).mono ?_
  rintro e w10 ⟨rfl, t10⟩
  have T10 := T9.trans t10
  have S10 := S3.trans t10
  clear q1 S9 S3 t2 t3 t4 t5 t6 t7 t8 p1 T1 T2 T3 T4 T5 T6 T7 T8 T9 t10
  go_wp2_with fail
  have q2 := lit_strs w10 [[114, 117, 110], [51]] #[.string ⟨#[114, 117, 110]⟩, .string ⟨#[51]⟩] rfl
  have T11 := T10.alloc (.cells #[.string ⟨#[114, 117, 110]⟩, .string ⟨#[51]⟩] 9)
  have S11 := S10.alloc (.cells #[.string ⟨#[114, 117, 110]⟩, .string ⟨#[51]⟩] 9)
  refine (words_yes (p3.kept S11) q2 (by decide)).mono ?_
  rintro e w12 ⟨rfl, t12⟩
  have T12 := T11.trans t12
  clear q2 S10 S11 T11 T10 t12 p3
  go_wp2_with fail
  refine (text_least w12 (hr.kept T12)).mono ?_
  rintro e w13 ⟨rfl, t13⟩
  have T13 := T12.trans t13
  clear T12 t13
  go_wp2_with fail
  refine (text_zero w13 (hr.kept T13)).mono ?_
  rintro e w14 ⟨rfl, t14⟩
  have T14 := T13.trans t14
  clear T13 t14
  go_wp2_with fail
  refine (name_abc w14).mono ?_
  rintro e w15 ⟨rfl, hw⟩
  subst w15
  go_wp2_with fail
  refine (name_Abc w14).mono ?_
  rintro e w15 ⟨rfl, hw⟩
  subst w15
  go_wp2_with fail
  refine (name_nine w14).mono ?_
  rintro e w15 ⟨rfl, hw⟩
  subst w15
  go_wp2_with fail
  refine (name_none w14).mono ?_
  rintro e w15 ⟨rfl, hw⟩
  subst w15
  go_wp2_with fail
  go_ret
  exact ⟨rfl, T14⟩
end Go.Proofs.YtfmoijmfndmgaaaDoor
