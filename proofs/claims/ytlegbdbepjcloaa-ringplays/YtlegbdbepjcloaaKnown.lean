/- known of the law's package answers true. -/
import Derived.Test.YtlegbdbepjcloaaRow
namespace Go.Proofs.Ytlegbdbepjcloaa
open Go.RowKit Go.Conc

/-- Rings that share nothing. -/
def Apt (rb c rb' c' : Nat) : Prop := ∀ k, RFoot rb c k → ¬ RFoot rb' c' k
theorem Apt.symm {rb c rb' c' : Nat} (h : Apt rb c rb' c') : Apt rb' c' rb c := fun k h1 h2 => h k h2 h1
/-- What was made later shares nothing with what was there. -/
theorem RP.apt {B : Nat} {w : World} {rb c room : Nat} {row : List Int} (h : RP B w rb c room row) {rb' c' : Nat} (h1 : w.heap.size ≤ rb') (h2 : w.heap.size ≤ c') : Apt rb c rb' c' := by
  intro k hk hf
  have := (h.foot k hk).2
  rcases hf with hf | hf <;> omega
/-- A communication of one ring leaves another one as it was. -/
theorem RP.other {B : Nat} {w w' : World} {rb c room : Nat} {row : List Int} {rb' c' : Nat} (h : RP B w rb c room row) (a : Apt rb c rb' c') (t : Turns (fun k => k = c') w w') : RP B w' rb c room row :=
  h.turns t (fun k e hf => a k hf (.inr e))

set_option maxHeartbeats 2000000 in
theorem known_true (w : World) : Calls Try.prog 7 #[] w fun e w' => e = .returned (.bool true) ∧ Turns (fun _ => False) w w' := by
  go_enter Try.func7, Try.ntmps7
  go_wp2_with fail
  refine (new_ok w.heap.size 2 w (Nat.le_refl _) (by omega)).mono ?_
  rintro e w1 ⟨rb, c, rfl, h1, T1, _, _⟩
  go_wp2_with fail
  refine (new_bad 17 w1 (by omega)).mono ?_
  rintro e w2 ⟨rfl, hw⟩
  subst w2
  go_wp2_with fail
  refine (new_ok w.heap.size 0 w1 T1.size (by omega)).mono ?_
  rintro e w2 ⟨zb, zc, rfl, z2, t2, l1, l2⟩
  have T2 := T1.trans t2
  have A1 := h1.apt l1 l2
  have h2 := h1.keep t2
  go_wp2_with fail
  refine (push_room 5 h2 (by simp)).mono ?_
  rintro e w3 ⟨rfl, h3, t3⟩
  have T3 := h2.frame (Nat.le_refl _) T2 t3
  have z3 := z2.other A1.symm t3
  go_wp2_with fail
  refine (push_room (-7) h3 (by simp)).mono ?_
  rintro e w4 ⟨rfl, h4, t4⟩
  have T4 := h3.frame (Nat.le_refl _) T3 t4
  have z4 := z3.other A1.symm t4
  go_wp2_with fail
  refine (push_full 9 h4 (by simp)).mono ?_
  rintro e w5 ⟨rfl, hw⟩
  subst w5
  go_wp2_with fail
  refine (twin_any h4 T4.size).mono ?_
  rintro e w5 ⟨tb, rfl, tc, o5⟩
  have T5 := h4.frame (Nat.le_refl _) T4 o5.tu
  have z5 := z4.other A1.symm o5.tu
  have A2 := h4.apt o5.lo o5.lo2
  have A3 := z4.apt o5.lo o5.lo2
  go_wp2_with fail
  refine (pop_some 5 o5.old).mono ?_
  rintro e w6 ⟨rfl, h6, t6⟩
  have T6 := o5.old.frame (Nat.le_refl _) T5 t6
  have z6 := z5.other A1.symm t6
  have u6 := o5.tw.other A2.symm t6
  go_wp2_with fail
  refine (pop_none z6).mono ?_
  rintro e w7 ⟨rfl, hw⟩
  subst w7
  go_wp2_with fail
  refine (len_any h6).mono ?_
  rintro e w7 ⟨rfl, hw⟩
  subst w7
  go_wp2_with fail
  refine (room_any h6).mono ?_
  rintro e w7 ⟨rfl, t7⟩
  have T7 := T6.trans t7
  have h7 := h6.keep t7
  have z7 := z6.keep t7
  have u7 := u6.keep t7
  go_wp2_with fail
  refine (all_any h7 T7.size).mono ?_
  rintro e w8 ⟨v8, rfl, i8, HV8, h8, t8⟩
  have T8 := h7.frame (Nat.le_refl _) T7 t8
  have z8 := z7.other A1.symm t8
  have u8 := u7.other A2.symm t8
  obtain ⟨a8, c8, rfl, p8⟩ := i8.at
  have q8 := (lit_ints w.heap.size w8 [-7] T8.size (by decide)).at
  obtain ⟨_, _, e8, q8⟩ := q8
  cases e8
  go_wp2_with fail
  refine (row_yes (p8.turns ((Turns.refl _ _).alloc _)) q8 (by decide)).mono ?_
  rintro e w9 ⟨rfl, t9⟩
  have s9 := ((Turns.refl (fun _ => False) w8).alloc (.cells #[.int .i64 (-7)] 2)).trans t9
  have T9 := T8.trans s9
  have z9 := z8.keep s9
  have u9 := u8.keep s9
  go_wp2_with fail
  refine (all_any u9 T9.size).mono ?_
  rintro e wA ⟨vA, rfl, iA, HVA, uA, tA⟩
  have TA := u9.frame (Nat.le_refl _) T9 tA
  have zA := z9.other A3 tA
  obtain ⟨aA, cA, rfl, pA⟩ := iA.at
  have qA := (lit_ints w.heap.size wA [5, -7] TA.size (by decide)).at
  obtain ⟨_, _, eA, qA⟩ := qA
  cases eA
  go_wp2_with fail
  refine (row_yes (pA.turns ((Turns.refl _ _).alloc _)) qA (by decide)).mono ?_
  rintro e wB ⟨rfl, tB⟩
  have sB := ((Turns.refl (fun _ => False) wA).alloc (.cells #[.int .i64 5, .int .i64 (-7)] 2)).trans tB
  have TB := TA.trans sB
  have zB := zA.keep sB
  go_wp2_with fail
  refine (push_full 1 zB (by simp)).mono ?_
  rintro e wC ⟨rfl, hw⟩
  subst wC
  go_wp2_with fail
  refine (room_any zB).mono ?_
  rintro e wC ⟨rfl, tC⟩
  go_wp2_with fail
  go_ret
  exact ⟨rfl, TB.trans tC⟩
end Go.Proofs.Ytlegbdbepjcloaa
