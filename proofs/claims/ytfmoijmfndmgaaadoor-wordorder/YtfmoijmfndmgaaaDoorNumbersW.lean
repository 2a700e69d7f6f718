/- WordNumbers, walked. -/
import Derived.Test.YtfmoijmfndmgaaaDoorKnown
namespace Go.Proofs.YtfmoijmfndmgaaaDoor
open Go.RowKit

theorem itoa_len (n : Int) (h0 : -9223372036854775808 ≤ n) (h1 : n ≤ 9223372036854775807) : 1 ≤ (Lib.itoa n).length ∧ (Lib.itoa n).length ≤ 20 := by
  unfold Lib.itoa
  split
  · have := dec_len19 n.natAbs (by omega)
    simp; omega
  · have := dec_len19 n.toNat (by omega)
    have := List.length_pos_iff.2 (dec_digits n.toNat).1
    omega

set_option maxHeartbeats 1000000 in
theorem numbers_any (n : Int) (h0 : -9223372036854775808 ≤ n) (h1 : n ≤ 9223372036854775807) (w : World) (hr : Rdy w) :
    Calls Tryd.prog 4 #[.int .i64 n] w fun e w' => e = .returned (.bool true) ∧ Kept w w' := by
  obtain ⟨hl1, hl2⟩ := itoa_len n h0 h1
  have hte := text_any n h0 h1
  have hnu := number_any (Lib.itoa n) (by omega)
  rw [num_itoa n h0 h1] at hnu
  have hwo := rword_any n h0 h1
  generalize Lib.itoa n = l at *
  have hsz := B_size l
  have t1 : ((B l).toList == (B l).toList) = true := by simp
  have t2 : (n == n) = true := by simp
  have t3 : decide ((1 : Int) ≤ (l.length : Int)) = true := decide_eq_true (by omega)
  have t4 : decide ((l.length : Int) ≤ 20) = true := decide_eq_true (by omega)
  clear h0 h1
  go_enter Tryd.func4, Tryd.ntmps4
  go_wp2_with fail
  refine (known_true w hr).mono ?_
  rintro e w1 ⟨rfl, T1⟩
  go_wp2_with fail
  refine (hte w1 (hr.kept T1)).mono ?_
  rintro e w2 ⟨rfl, k2⟩
  have T2 := T1.trans k2
  go_wp2_with fail
  refine (hnu w2 (hr.kept T2)).mono ?_
  rintro e w3 ⟨rfl, k3⟩
  have T3 := T2.trans k3
  go_wp2_with fail
  refine (hwo w3).mono ?_
  rintro e w4 ⟨rfl, k4⟩
  have T4 := T3.trans k4
  go_wp2_with fail
  go_ret
  exact ⟨rfl, T4⟩
end Go.Proofs.YtfmoijmfndmgaaaDoor
