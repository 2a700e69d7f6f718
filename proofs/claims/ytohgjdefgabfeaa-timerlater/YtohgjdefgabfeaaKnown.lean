/- known of the law's package answers true. -/
import Derived.Test.YtohgjdefgabfeaaInts
namespace Go.Proofs.Ytohgjdefgabfeaa
open Go.RowKit Tm

def K1 : List Du := [⟨5, 2⟩]
def K2 : List Du := [⟨5, 2⟩, ⟨1, 2⟩]
def K3 : List Du := [⟨5, 2⟩, ⟨1, 2⟩, ⟨7, 1⟩]
def K4 : List Du := [⟨5, 1⟩, ⟨1, 1⟩]
theorem k4 : restR K3 = K4 := rfl
theorem k5 : dueR K3 = [7] := rfl
theorem k6 : dueR K4 = [5, 1] := rfl
theorem k7 : restR K4 = [] := rfl

set_option maxHeartbeats 2000000 in
theorem known_true (w : World) : Calls Try.prog 7 #[] w fun e w' => e = .returned (.bool true) ∧ Turns (fun _ => False) w w' := by
  go_enter Try.func7, Try.ntmps7
  go_wp2_with fail
  refine (new_any w.heap.size w (Nat.le_refl _)).mono ?_
  rintro e w1 ⟨tb, rfl, h1, t1, _⟩
  go_wp2_with fail
  refine (put_ok 5 2 h1 ⟨by decide, by decide, by decide, by decide⟩ rfl (by decide) t1.size).mono ?_
  rintro e w2 ⟨rfl, rv2, o2⟩
  have h2 : TP 57 53 w.heap.size w2 tb rv2 K1 := o2.tp
  have T2 := h1.frame (Nat.le_refl _) t1 o2.tu
  go_wp2_with fail
  refine (put_ok 1 2 h2 ⟨by decide, by decide, by decide, by decide⟩ rfl (by decide) T2.size).mono ?_
  rintro e w3 ⟨rfl, rv3, o3⟩
  have h3 : TP 57 53 w.heap.size w3 tb rv3 K2 := o3.tp
  have T3 := h2.frame (Nat.le_refl _) T2 o3.tu
  go_wp2_with fail
  refine (put_ok 7 1 h3 ⟨by decide, by decide, by decide, by decide⟩ rfl (by decide) T3.size).mono ?_
  rintro e w4 ⟨rfl, rv4, o4⟩
  have h4 : TP 57 53 w.heap.size w4 tb rv4 K3 := o4.tp
  have T4 := h3.frame (Nat.le_refl _) T3 o4.tu
  go_wp2_with fail
  refine (put_twice 5 9 h4 ⟨by decide, by decide, by decide, by decide⟩ rfl).mono ?_
  rintro e w5 ⟨rfl, t5⟩
  have h5 := h4.keep t5
  have T5 := T4.trans t5
  go_wp2_with fail
  refine (put_arg 256 1 h5 (by unfold fitP; decide)).mono ?_
  rintro e w6 ⟨rfl, hw⟩
  subst w6
  go_wp2_with fail
  refine (put_arg 2 0 h5 (by unfold fitP; decide)).mono ?_
  rintro e w6 ⟨rfl, hw⟩
  subst w6
  go_wp2_with fail
  refine (tick_any h5 T5.size).mono ?_
  rintro e w6 ⟨dv, rfl, i6, rv6, o6, l6⟩
  rw [k5] at i6
  have h6 : TP 57 53 w.heap.size w6 tb rv6 K4 := o6.tp
  have T6 := h5.frame (Nat.le_refl _) T5 o6.tu
  have F6 := h5.foot
  go_wp2_with fail
  refine (left_any 5 h6).mono ?_
  rintro e w7 ⟨rfl, t7⟩
  rw [show lftB K4 5 = 1 from rfl, show hasB K4 5 = true from rfl]
  have h7 := h6.keep t7
  have T7 := T6.trans t7
  have i7 := i6.keep t7
  go_wp2_with fail
  refine (left_any 7 h7).mono ?_
  rintro e w8 ⟨rfl, t8⟩
  rw [show lftB K4 7 = 0 from rfl, show hasB K4 7 = false from rfl]
  have h8 := h7.keep t8
  have T8 := T7.trans t8
  have i8 := i7.keep t8
  have hs5 := o6.tu.size
  go_wp2_with fail
  refine (tick_any h8 T8.size).mono ?_
  rintro e w9 ⟨dv9, rfl, j9, rv9, o9, l9⟩
  rw [k6] at j9
  have h9 : TP 57 53 w.heap.size w9 tb rv9 [] := o9.tp
  have T9 := h8.frame (Nat.le_refl _) T8 o9.tu
  have i9 := i8.turns o9.tu (fun k e hf => (l6 k e).2 hf)
  go_wp2_with fail
  refine (ints_any (i9.keep ((Turns.refl (fun _ => False) _).alloc _)) (lit_ints w.heap.size w9 [7] T9.size (by decide)) (by decide)).mono ?_
  rintro e w10 ⟨rfl, t10⟩
  have T10 := (T9.alloc (.cells #[.int .i64 7] 3)).trans t10
  have j10 := j9.keep (((Turns.refl (fun _ => False) w9).alloc (.cells #[.int .i64 7] 3)).trans t10)
  have h10 := h9.keep (((Turns.refl (fun _ => False) w9).alloc (.cells #[.int .i64 7] 3)).trans t10)
  go_wp2_with fail
  refine (ints_any (j10.keep ((Turns.refl (fun _ => False) _).alloc _)) (lit_ints w.heap.size w10 [5, 1] T10.size (by decide)) (by decide)).mono ?_
  rintro e w11 ⟨rfl, t11⟩
  have T11 := (T10.alloc (.cells #[.int .i64 5, .int .i64 1] 3)).trans t11
  have h11 := h10.keep (((Turns.refl (fun _ => False) w10).alloc (.cells #[.int .i64 5, .int .i64 1] 3)).trans t11)
  go_wp2_with fail
  refine (len_any h11).mono ?_
  rintro e w12 ⟨rfl, hw⟩
  subst w12
  go_wp2_with fail
  refine (can_none 5 h11 rfl).mono ?_
  rintro e w12 ⟨rfl, t12⟩
  go_wp2_with fail
  go_ret
  exact ⟨rfl, T11.trans t12⟩
end Go.Proofs.Ytohgjdefgabfeaa
