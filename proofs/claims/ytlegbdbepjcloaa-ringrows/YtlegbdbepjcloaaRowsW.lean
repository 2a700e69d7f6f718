/- RingRows, walked. -/
import Derived.Test.YtlegbdbepjcloaaKnown
namespace Go.Proofs.Ytlegbdbepjcloaa
open Go.RowKit Go.Conc

set_option maxHeartbeats 4000000 in
theorem rows_any (x : Int) (a : Option Addr) (n cp : Nat) (Z : List Int) (w : World) (hn : n ≤ 40) (hcp : n ≤ cp) (hna : a = none → cp = 0) (hU : At w a n Z) (hx0 : 0 ≤ x) (hx1 : x ≤ 255) :
    Calls Try.prog 4 #[.int .u8 x, .slice a n cp] w fun e w' => e = .returned (.bool true) ∧ Below w.heap.size w w' := by
  have HU : Hid (At w a n Z) := hU
  have HZ : Hid (Z.length = n) := hU.1
  clear hU
  have g1 : decide (40 < (n : Int)) = false := decide_eq_false (by omega)
  obtain ⟨m, hm⟩ : ∃ m : Nat, x % 17 = (m : Int) := ⟨(x % 17).toNat, by omega⟩
  have hm1 : m ≤ 16 := by omega
  obtain ⟨k, hk⟩ : ∃ k : Nat, (if (n : Int) < (m : Int) then (n : Int) else (m : Int)) = (k : Int) := ⟨min m n, by split <;> omega⟩
  have hk1 : (if n < m then (n : Int) else (m : Int)) = (k : Int) := by split at hk <;> split <;> omega
  have HK : Hid (k = min m n) := by show _ = _; split at hk <;> omega
  go_enter Try.func4, Try.ntmps4
  go_wp2_with fail
  refine (known_true w).mono ?_
  rintro e w1 ⟨rfl, T1⟩
  go_wp2_with fail
  refine (new_ok w.heap.size m w1 T1.size hm1).mono ?_
  rintro e w2 ⟨rb, c, rfl, h2, t2, _, _⟩
  have T2 := T1.trans t2
  go_wp2_with fail
  clear hk hk1 hm
  go_loopw [9] (fun i wr => ∃ j : Nat, i = .int .i64 j ∧ j ≤ n ∧ RP w.heap.size wr rb c m (Z.take (min j m)) ∧ Turns (fun _ => False) w wr) (fun i _ => n - (intOf i).toNat)
  case atStart => exact ⟨0, rfl, by omega, by simpa using h2, T2⟩
  case round =>
    obtain ⟨j, rfl, hj, hh, T⟩ := hrel
    clear h2 T1 t2 T2
    by_cases hjn : j < n
    · obtain ⟨y, b, f, rfl, hcell, _, e3, _⟩ := HU.out.get j hjn
      have gx := T.cell hcell (cell_lt hcell) (fun x => x)
      have HE3 : Hid (Z.take (j + 1) = Z.take j ++ [y]) := e3
      clear hcell e3
      have b1 : (j : Int) < (n : Int) := by omega
      have b3 : (0 : Int) ≤ (j : Int) := by omega
      by_cases hjm : j < m
      · have b4 : decide ((j : Int) < (m : Int)) = true := decide_eq_true (by omega)
        rw [Nat.min_eq_left (by omega)] at hh
        go_wp2_with fail
        refine (push_room y hh (by rw [List.length_take]; omega)).mono ?_
        rintro e w3 ⟨rfl, h3, t3⟩
        have T3 := hh.frame (Nat.le_refl _) T t3
        go_wp2_with fail
        go_roundw
        case rel => exact ⟨j + 1, by go_num, by omega, by rw [Nat.min_eq_left (by omega), HE3.out]; exact h3, T3⟩
        case measure => simp [intOf]; omega
      · have b4 : decide ((j : Int) < (m : Int)) = false := decide_eq_false (by omega)
        rw [Nat.min_eq_right (by omega)] at hh
        go_wp2_with fail
        refine (push_full y hh (by rw [List.length_take, HZ.out]; omega)).mono ?_
        rintro e w3 ⟨rfl, hw⟩
        subst w3
        go_wp2_with fail
        go_roundw
        case rel => exact ⟨j + 1, by go_num, by omega, by rw [Nat.min_eq_right (by omega)]; exact hh, T⟩
        case measure => simp [intOf]; omega
    · have hjj : j = n := by omega
      subst hjj
      have b1 : ¬ (j : Int) < (j : Int) := by omega
      have hk := HK.out
      rw [Nat.min_comm, ← hk] at hh
      have hkn : k ≤ j := by omega
      have hkm : k ≤ m := by omega
      have hlk : (Z.take k).length = k := by rw [List.length_take, HZ.out]; omega
      clear hk
      have HP : Hid (At w a k (Z.take k)) := HU.out.take k hkn
      generalize Z.take k = R at *
      subst hlk
      have b2 : (0 : Int) ≤ (R.length : Int) := by omega
      have b3 : ((R.length : Nat) : Int) ≤ (cp : Int) := by omega
      have b5 : IntKind.i64.wrap ((m : Int) - (R.length : Int)) = ((m - R.length : Nat) : Int) := by rw [IntKind.wrap_i64]; omega
      have f1 : ((R.length : Int) != (R.length : Int)) = false := by simp
      have f2 : (((m - R.length : Nat) : Int) != ((m - R.length : Nat) : Int)) = false := by simp
      have hhd := hh.drew
      have Td := T.drew
      have hlR : R.length ≤ 1000000 := by omega
      rcases a with _ | ad
      · have hc0 := hna rfl
        subst hc0
        have hR0 : R.length = 0 := by omega
        have hR : R = [] := List.eq_nil_of_length_eq_zero hR0
        subst hR
        have f3 : ((m : Int) != (m : Int)) = false := by simp
        have f4 : IntKind.i64.wrap (m : Int) = (m : Int) := by rw [IntKind.wrap_i64]; omega
        have f5 : IntKind.i64.wrap ((m : Int) - 0) = (m : Int) := by rw [IntKind.wrap_i64]; omega
        go_wp2_with fail
        go_region_held3 (fun _ => True) (go_keep) (first | (go_at_call 18; refine (all_any hhd Td.size).mono ?_; rintro e w3 ⟨v3, rfl, i3, HV3, h3, t3⟩; have T3 := hhd.frame (Nat.le_refl _) Td t3; obtain ⟨a3, c3, rfl, p3⟩ := i3.at) | (go_at_call 17; refine (row_yes p3 (HP.out.turns T3) hlR).mono ?_; rintro e w4 ⟨rfl, t4⟩; have T4 := T3.trans t4; have h4 := h3.keep t4) | (go_at_call 15; refine (len_any h4).mono ?_; rintro e w5 ⟨rfl, hw⟩; subst w5) | (go_at_call 16; refine (room_any h4).mono ?_; rintro e w6 ⟨rfl, t6⟩; rw [List.length_nil, Nat.sub_zero]; have T6 := T4.trans t6; have h6 := h4.keep t6))
        go_wp2_with fail
        clear b5 f1 f2 hhd Td T hh h3 t3 T3 i3 HV3 p3 T4 h4 t4
        go_loopw [10] (fun i wr => ∃ q : Nat, i = .int .i64 q ∧ q ≤ ([] : List Int).length ∧ RP w.heap.size wr rb c m ((([] : List Int)).drop q) ∧ Turns (fun _ => False) w wr) (fun i _ => ([] : List Int).length - (intOf i).toNat)
        case atStart => exact ⟨0, rfl, by omega, by rw [List.drop_zero]; exact h6, T6⟩
        case round =>
          clear h6 T6
          obtain ⟨q, rfl, hq, hh, T⟩ := hrel
          by_cases hqk : q < ([] : List Int).length
          · exact absurd hqk (by simp)
          · have hqq : q = ([] : List Int).length := by omega
            subst hqq
            have c1 : ¬ ((([] : List Int).length : Nat) : Int) < ((([] : List Int).length : Nat) : Int) := by omega
            rw [List.drop_length] at hh
            go_wp2_with fail
            refine (pop_none hh).mono ?_
            rintro e w7 ⟨rfl, hw⟩
            subst w7
            go_wp2_with fail
            refine (room_any hh).mono ?_
            rintro e w8 ⟨rfl, t8⟩
            rw [List.length_nil, Nat.sub_zero]
            have c5 : ((m : Int) == (m : Int)) = true := by simp
            go_wp2_with fail
            go_ret
            exact ⟨rfl, (T.trans t8).below (fun _ x => x.elim) (Nat.le_refl _)⟩
      · go_wp2_with fail
        go_region_held3 (fun _ => True) (go_keep) (first | (go_at_call 18; refine (all_any hhd Td.size).mono ?_; rintro e w3 ⟨v3, rfl, i3, HV3, h3, t3⟩; have T3 := hhd.frame (Nat.le_refl _) Td t3; obtain ⟨a3, c3, rfl, p3⟩ := i3.at) | (go_at_call 17; refine (row_yes p3 (HP.out.turns T3) hlR).mono ?_; rintro e w4 ⟨rfl, t4⟩; have T4 := T3.trans t4; have h4 := h3.keep t4) | (go_at_call 15; refine (len_any h4).mono ?_; rintro e w5 ⟨rfl, hw⟩; subst w5) | (go_at_call 16; refine (room_any h4).mono ?_; rintro e w6 ⟨rfl, t6⟩; have T6 := T4.trans t6; have h6 := h4.keep t6))
        go_wp2_with fail
        clear b5 f1 f2 hhd Td T hh h3 t3 T3 i3 HV3 p3 T4 h4 t4
        go_loopw [10] (fun i wr => ∃ q : Nat, i = .int .i64 q ∧ q ≤ R.length ∧ RP w.heap.size wr rb c m ((R).drop q) ∧ Turns (fun _ => False) w wr) (fun i _ => R.length - (intOf i).toNat)
        case atStart => exact ⟨0, rfl, by omega, by rw [List.drop_zero]; exact h6, T6⟩
        case round =>
          clear h6 T6
          obtain ⟨q, rfl, hq, hh, T⟩ := hrel
          by_cases hqk : q < R.length
          · obtain ⟨y, b, f, e0, hcell, _, _, e3⟩ := HP.out.get q hqk
            cases e0
            rw [e3] at hh
            clear e3
            have c1 : (q : Int) < ((R.length : Nat) : Int) := by omega
            have c2 : (q : Int) < (j : Int) := by omega
            have c3 : (0 : Int) ≤ (q : Int) := by omega
            have c4 : (y != y) = false := by simp
            go_wp2_with fail
            refine (pop_some y hh).mono ?_
            rintro e w7 ⟨rfl, h7, t7⟩
            have T7 := hh.frame (Nat.le_refl _) T t7
            have gy := T7.cell hcell (cell_lt hcell) (fun x => x)
            go_wp2_with fail
            go_roundw
            case rel => exact ⟨q + 1, by go_num, by omega, h7, T7⟩
            case measure => simp [intOf]; omega
          · have hqq : q = R.length := by omega
            subst hqq
            have c1 : ¬ ((R.length : Nat) : Int) < ((R.length : Nat) : Int) := by omega
            rw [List.drop_length] at hh
            go_wp2_with fail
            refine (pop_none hh).mono ?_
            rintro e w7 ⟨rfl, hw⟩
            subst w7
            go_wp2_with fail
            refine (room_any hh).mono ?_
            rintro e w8 ⟨rfl, t8⟩
            rw [List.length_nil, Nat.sub_zero]
            have c5 : ((m : Int) == (m : Int)) = true := by simp
            go_wp2_with fail
            go_ret
            exact ⟨rfl, (T.trans t8).below (fun _ x => x.elim) (Nat.le_refl _)⟩

set_option maxHeartbeats 400000 in
theorem rows_skip (x : Int) (a : Option Addr) (n cp : Nat) (w : World) (hn : 40 < (n : Int)) :
    Calls Try.prog 4 #[.int .u8 x, .slice a n cp] w fun e w' => e = .returned (.bool true) ∧ Below w.heap.size w w' := by
  go_enter Try.func4, Try.ntmps4
  go_wp2_with fail
  refine (known_true w).mono ?_
  rintro e w1 ⟨rfl, T1⟩
  go_wp2_with fail
  go_ret
  exact ⟨rfl, T1.below (fun _ x => x.elim) (Nat.le_refl _)⟩
end Go.Proofs.Ytlegbdbepjcloaa
