/- The reference's laid: are there as many words as there must be? -/
import Derived.Test.YtiiddfahpddffaaDoorRFit
import Derived.Test.YtiiddfahpddffaaDoorFit
namespace Go.Proofs.YtiiddfahpddffaaDoor
open Go.RowKit

theorem drop_cons {ws : List (List UInt8)} {j : Nat} (h : j < ws.length) : ws.drop j = ws.getD j [] :: ws.drop (j + 1) := by
  rw [List.drop_eq_getElem_cons h]
  simp [List.getD_eq_getElem?_getD, h]
/-- Behind a word that sends. -/
theorem are_send {ws : List (List UInt8)} {j : Nat} {R : Bool} (h : j < ws.length) (hx : ws.getD j [] = sendW) (hR : areB (ws.drop j) = R) : (j + 3 ≤ ws.length ∧ areB (ws.drop (j + 3)) = R) ∨ (ws.length < j + 3 ∧ R = false) := by
  rw [drop_cons h, hx] at hR
  by_cases h1 : j + 1 < ws.length
  · rw [drop_cons h1] at hR
    by_cases h2 : j + 1 + 1 < ws.length
    · rw [drop_cons h2, areB_send3] at hR
      exact .inl ⟨by omega, hR⟩
    · rw [List.drop_eq_nil_of_le (by omega), areB_send2] at hR
      exact .inr ⟨by omega, hR.symm⟩
  · rw [List.drop_eq_nil_of_le (by omega)] at hR
    exact .inr ⟨by omega, hR.symm⟩
theorem are_recv {ws : List (List UInt8)} {j : Nat} {R : Bool} (h : j < ws.length) (hx : ws.getD j [] = recvW) (hR : areB (ws.drop j) = R) : (j + 2 ≤ ws.length ∧ areB (ws.drop (j + 2)) = R) ∨ (ws.length < j + 2 ∧ R = false) := by
  rw [drop_cons h, hx] at hR
  by_cases h1 : j + 1 < ws.length
  · rw [drop_cons h1, areB_recv2] at hR
    exact .inl ⟨by omega, hR⟩
  · rw [List.drop_eq_nil_of_le (by omega)] at hR
    exact .inr ⟨by omega, hR.symm⟩
theorem are_not {ws : List (List UInt8)} {j : Nat} {R : Bool} (h : j < ws.length) (h1 : ws.getD j [] ≠ sendW) (h2 : ws.getD j [] ≠ recvW) (hR : areB (ws.drop j) = R) : R = false := by
  rw [drop_cons h, areB_other h1 h2] at hR
  exact hR.symm
theorem rfits_plain {k n : Nat} {ws : List (List UInt8)} (hp : (shapeOf k).picks = false) (hn : aheadN (shapeOf k) = n) : fitsB (shapeOf k) ws = ((ws.length : Int) == (n : Int)) := by
  unfold fitsB
  rw [if_pos (.inr hp), hn, Bool.eq_iff_iff]
  simp
  omega

def LaidAt (ws : List (List UInt8)) (R : Bool) (j : Nat) : Prop := (j ≤ ws.length ∧ areB (ws.drop j) = R) ∨ (ws.length < j ∧ R = false)

set_option maxHeartbeats 2000000 in
theorem rlaid_k7 (a : Option Addr) (c : Nat) (ws : List (List UInt8)) (w : World) (hA : At w a ws.length ws) (hl : ws.length ≤ 1000000) :
    Calls Tryd.prog 39 #[.int .i64 7, .slice a ws.length c] w fun e w' => e = .returned (.bool (fitsB (shapeOf 7) ws)) ∧ w' = w := by
  have HA : Hid (At w a ws.length ws) := hA
  clear hA
  by_cases h2 : (ws.length : Int) < 2
  · have HF : Hid (fitsB (shapeOf 7) ws = false) := by
      show _ = _
      unfold fitsB
      rw [if_pos (.inl (by show ws.length < 2; omega))]
      show (ws.length == 2) = false
      simp
      omega
    go_enter Tryd.func39, Tryd.ntmps39
    go_wp2_with fail
    go_ret
    rw [HF.out]
    exact ⟨rfl, rfl⟩
  · have HF : Hid (fitsB (shapeOf 7) ws = areB (ws.drop 2)) := by
      show _ = _
      unfold fitsB
      rw [if_neg (by show ¬ (ws.length < 2 ∨ true = false); simp; omega)]
      rfl
    obtain ⟨R, hR⟩ : ∃ R, areB (ws.drop 2) = R := ⟨_, rfl⟩
    rw [hR] at HF
    have H0 : Hid (LaidAt ws R 2) := .inl ⟨by omega, hR⟩
    clear hR
    go_enter Tryd.func39, Tryd.ntmps39
    go_wp2_with fail
    go_loopg [5] ws.length (fun gk i wr => ∃ j : Nat, i = .int .i64 j ∧ ws.length ≤ j + gk ∧ j ≤ ws.length + 3 ∧ Hid (LaidAt ws R j) ∧ wr = w)
    case atStart => exact ⟨2, rfl, by omega, by omega, H0, rfl⟩
    case round =>
      obtain ⟨j, rfl, hg, hj3, HI, hw⟩ := hrel
      subst wr
      by_cases hj : j < ws.length
      · have b1 : (j : Int) < (ws.length : Int) := by omega
        have b2 : (0 : Int) ≤ (j : Int) := by omega
        obtain ⟨b, f, rfl, hc⟩ := HA.out.2 j hj
        have HI2 : Hid (areB (ws.drop j) = R) := by
          rcases HI.out with h | h
          · exact h.2
          · omega
        obtain ⟨x, hx⟩ : ∃ x, ws.getD j [] = x := ⟨_, rfl⟩
        rw [hx] at hc
        have HX : Hid (ws.getD j [] = x) := hx
        clear hx
        obtain ⟨g3, rfl⟩ : ∃ g, gk = g + 1 := ⟨gk - 1, by omega⟩
        by_cases h1 : x = sendW
        · have e1 : ((B x).toList == [115, 101, 110, 100]) = true := by rw [B_is, h1]; rfl
          have HN : Hid (LaidAt ws R (j + 3)) := are_send hj (HX.out.trans h1) HI2.out
          clear h1
          go_wp2_with fail
          go_roundg g3
          case rel => exact ⟨j + 3, by go_num, by omega, by omega, HN, rfl⟩
          case measure => omega
        · have e1 : ((B x).toList == [115, 101, 110, 100]) = false := by rw [B_is]; simpa [sendW] using h1
          by_cases h3 : x = recvW
          · have e2 : ((B x).toList == [114, 101, 99, 118]) = true := by rw [B_is, h3]; rfl
            have HN : Hid (LaidAt ws R (j + 2)) := are_recv hj (HX.out.trans h3) HI2.out
            clear h1 h3
            go_wp2_with fail
            go_roundg g3
            case rel => exact ⟨j + 2, by go_num, by omega, by omega, HN, rfl⟩
            case measure => omega
          · have e2 : ((B x).toList == [114, 101, 99, 118]) = false := by rw [B_is]; simpa [recvW] using h3
            have HN : Hid (R = false) := are_not hj (by rw [HX.out]; exact h1) (by rw [HX.out]; exact h3) HI2.out
            clear h1 h3
            go_wp2_with fail
            go_ret
            rw [HF.out, HN.out]
            exact ⟨rfl, rfl⟩
      · have b1 : ¬ (j : Int) < (ws.length : Int) := by omega
        have HE : Hid (((j : Int) == (ws.length : Int)) = R) := by
          show _ = _
          rcases HI.out with h | h
          · obtain rfl : j = ws.length := by omega
            rw [List.drop_length] at h
            rw [← h.2]
            simp [areB]
          · rw [h.2]
            simp
            omega
        go_wp2_with fail
        go_ret
        rw [HF.out, ← HE.out]
        exact ⟨rfl, rfl⟩

theorem rlaid_any (k : Nat) (h1 : 1 ≤ k) (h9 : k ≤ 9) (a : Option Addr) (c : Nat) (ws : List (List UInt8)) (w : World) (hA : At w a ws.length ws) (hl : ws.length ≤ 1000000) :
    Calls Tryd.prog 39 #[.int .i64 k, .slice a ws.length c] w fun e w' => e = .returned (.bool (fitsB (shapeOf k) ws)) ∧ w' = w := by
  have : k = 1 ∨ k = 2 ∨ k = 3 ∨ k = 4 ∨ k = 5 ∨ k = 6 ∨ k = 7 ∨ k = 8 ∨ k = 9 := by omega
  rcases this with rfl | rfl | rfl | rfl | rfl | rfl | rfl | rfl | rfl
  · have HF : Hid (fitsB (shapeOf 1) ws = ((ws.length : Int) == 2)) := by show _ = _; exact rfits_plain rfl rfl
    go_enter Tryd.func39, Tryd.ntmps39
    go_wp2_with fail
    go_ret
    rw [HF.out]
    exact ⟨rfl, rfl⟩
  · have HF : Hid (fitsB (shapeOf 2) ws = ((ws.length : Int) == 2)) := by show _ = _; exact rfits_plain rfl rfl
    go_enter Tryd.func39, Tryd.ntmps39
    go_wp2_with fail
    go_ret
    rw [HF.out]
    exact ⟨rfl, rfl⟩
  · have HF : Hid (fitsB (shapeOf 3) ws = ((ws.length : Int) == 2)) := by show _ = _; exact rfits_plain rfl rfl
    go_enter Tryd.func39, Tryd.ntmps39
    go_wp2_with fail
    go_ret
    rw [HF.out]
    exact ⟨rfl, rfl⟩
  · have HF : Hid (fitsB (shapeOf 4) ws = ((ws.length : Int) == 4)) := by show _ = _; exact rfits_plain rfl rfl
    go_enter Tryd.func39, Tryd.ntmps39
    go_wp2_with fail
    go_ret
    rw [HF.out]
    exact ⟨rfl, rfl⟩
  · have HF : Hid (fitsB (shapeOf 5) ws = ((ws.length : Int) == 3)) := by show _ = _; exact rfits_plain rfl rfl
    go_enter Tryd.func39, Tryd.ntmps39
    go_wp2_with fail
    go_ret
    rw [HF.out]
    exact ⟨rfl, rfl⟩
  · have HF : Hid (fitsB (shapeOf 6) ws = ((ws.length : Int) == 2)) := by show _ = _; exact rfits_plain rfl rfl
    go_enter Tryd.func39, Tryd.ntmps39
    go_wp2_with fail
    go_ret
    rw [HF.out]
    exact ⟨rfl, rfl⟩
  · exact rlaid_k7 a c ws w hA hl
  · have HF : Hid (fitsB (shapeOf 8) ws = ((ws.length : Int) == 2)) := by show _ = _; exact rfits_plain rfl rfl
    go_enter Tryd.func39, Tryd.ntmps39
    go_wp2_with fail
    go_ret
    rw [HF.out]
    exact ⟨rfl, rfl⟩
  · have HF : Hid (fitsB (shapeOf 9) ws = ((ws.length : Int) == 1)) := by show _ = _; exact rfits_plain rfl rfl
    go_enter Tryd.func39, Tryd.ntmps39
    go_wp2_with fail
    go_ret
    rw [HF.out]
    exact ⟨rfl, rfl⟩
end Go.Proofs.YtiiddfahpddffaaDoor
