/- isDecimal, Number and Text of the program, by their contracts. -/
import Derived.Test.YtiiddfahpddffaaDoorRSpl
namespace Go.Proofs.YtiiddfahpddffaaDoor
open Go.RowKit

theorem prefix_one (c : UInt8) (l : List UInt8) : Lib.hasPrefix l [c] = (l.head? == some c) := by
  unfold Lib.hasPrefix
  cases l with
  | nil => rfl
  | cons a b =>
    by_cases h : c = a
    · subst h; simp [List.isPrefixOf]
    · have h' : ¬ a = c := fun e => h e.symm
      have : (a == c) = false := by simp [h']
      simp [List.isPrefixOf, h, this]
theorem cutPrefix_any (l : List UInt8) (w : World) :
    Calls Tryd.prog 81 #[.string (B l), .string ⟨#[45]⟩] w fun e w' => e = .returned (.tuple #[.string (B (digs l)), .bool (isNeg l)]) ∧ w' = w := by
  have := Tryd.strings_CutPrefix (B l) ⟨#[45]⟩ w
  have h1 : Lib.hasPrefix l [45] = isNeg l := prefix_one 45 l
  have h2 : Lib.trimPrefix l [45] = digs l := by
    unfold Lib.trimPrefix digs
    rw [h1]
    split
    · simp
    · rfl
  rw [B_list, show (⟨#[45]⟩ : ByteArray).data.toList = [45] from rfl, h1, h2] at this
  exact this
theorem hasPrefix_any (l : List UInt8) (w : World) :
    Calls Tryd.prog 82 #[.string (B l), .string ⟨#[48]⟩] w fun e w' => e = .returned (.bool (l.head? == some 48)) ∧ w' = w := by
  have := Tryd.strings_HasPrefix (B l) ⟨#[48]⟩ w
  rw [B_list, show (⟨#[48]⟩ : ByteArray).data.toList = [48] from rfl, prefix_one] at this
  exact this
theorem digs_le (l : List UInt8) : (digs l).length ≤ l.length := by
  unfold digs
  split
  · simp
  · exact Nat.le_refl _

set_option maxHeartbeats 400000 in
theorem isDecimal_any (l : List UInt8) (hl : l.length ≤ 100000) (w : World) :
    Calls Tryd.prog 70 #[.string (B l)] w fun e w' => e = .returned (.bool (decForm l)) ∧ w' = w := by
  have hdl := digs_le l
  have hcp := cutPrefix_any l w
  have hhp := hasPrefix_any (digs l) w
  have hwi := within_any (B (digs l)) 48 57 (by rw [B_size]; omega) w
  rw [B_list] at hwi
  cases h0 : ((digs l).head? == some 48) with
  | true =>
    rw [h0] at hhp
    have HD : Hid (decForm l = (decide (digs l = [48]) && !isNeg l)) := by show _ = _; rw [decForm, if_pos h0]
    by_cases hd : digs l = [48]
    · have t1 : ((B (digs l)).toList == [48]) = true := by rw [toList_of, B_list, hd]; rfl
      have HD2 : Hid (decForm l = !isNeg l) := by show _ = _; rw [HD.out]; simp [hd]
      clear hd h0 HD
      generalize isNeg l = ng at *
      generalize digs l = d at *
      go_enter Tryd.func70, Tryd.ntmps70
      go_wp2_with fail
      refine hcp.mono ?_
      rintro e w1 ⟨rfl, hw⟩
      subst w1
      go_wp2_with fail
      refine hhp.mono ?_
      rintro e w1 ⟨rfl, hw⟩
      subst w1
      go_wp2_with fail
      go_ret
      rw [HD2.out]
      exact ⟨rfl, rfl⟩
    · have t1 : ((B (digs l)).toList == [48]) = false := by rw [toList_of, B_list, beq_eq_false_iff_ne]; exact hd
      have HD2 : Hid (decForm l = false) := by show _ = _; rw [HD.out]; simp [hd]
      clear hd h0 HD
      generalize isNeg l = ng at *
      generalize digs l = d at *
      go_enter Tryd.func70, Tryd.ntmps70
      go_wp2_with fail
      refine hcp.mono ?_
      rintro e w1 ⟨rfl, hw⟩
      subst w1
      go_wp2_with fail
      refine hhp.mono ?_
      rintro e w1 ⟨rfl, hw⟩
      subst w1
      go_wp2_with fail
      go_ret
      rw [HD2.out]
      exact ⟨rfl, rfl⟩
  | false =>
    rw [h0] at hhp
    have HD : Hid (decForm l = within 48 57 (digs l)) := by show _ = _; rw [decForm, if_neg (by rw [h0]; decide)]
    clear h0
    generalize isNeg l = ng at *
    generalize digs l = d at *
    go_enter Tryd.func70, Tryd.ntmps70
    go_wp2_with fail
    refine hcp.mono ?_
    rintro e w1 ⟨rfl, hw⟩
    subst w1
    go_wp2_with fail
    refine hhp.mono ?_
    rintro e w1 ⟨rfl, hw⟩
    subst w1
    go_wp2_with fail
    refine hwi.mono ?_
    rintro e w1 ⟨rfl, hw⟩
    subst w1
    go_wp2_with fail
    go_ret
    rw [HD.out]
    exact ⟨rfl, rfl⟩

theorem kept_grow (w : World) (k : Nat) (os : Array Obj) : Kept w (Sort.grow (w.drewN k) os) :=
  ⟨rfl, rfl, rfl, by simp [Sort.grow, World.drewN], fun i hi => by simp [Sort.grow, World.drewN, Array.getElem?_append_left hi]⟩

set_option maxHeartbeats 400000 in
theorem number_any (l : List UInt8) (hl : l.length ≤ 100000) (w : World) (hr : Rdy w) :
    Calls Tryd.prog 60 #[.string (B l)] w fun e w' => e = .returned (.tuple #[.int .i64 (numOf l).1, .int .i64 (numOf l).2]) ∧ Kept w w' := by
  have hde := isDecimal_any l hl w
  rcases numOf_cases l with ⟨hf, hn⟩ | ⟨hf, hn | ⟨n, hn, _, _⟩⟩
  · have HN : Hid (numOf l = (0, 2)) := hn
    rw [hf] at hde
    clear hf hn
    go_enter Tryd.func60, Tryd.ntmps60
    go_wp2_with fail
    refine hde.mono ?_
    rintro e w1 ⟨rfl, hw⟩
    subst w1
    go_wp2_with fail
    go_ret2
    rw [HN.out]
    exact ⟨rfl, Kept.refl _⟩
  · have HN : Hid (numOf l = (0, 14)) := hn
    obtain ⟨tp, p, hv⟩ := hr.er
    have hpa := Tryd.strconv_ParseInt_10_at64_range_var (B l) (by rw [B_size]; omega) (by rw [B_list]; exact (parseInt_range hf 0 hn).2) tp p w hv
    rw [hf] at hde
    clear hf hn hv
    go_enter Tryd.func60, Tryd.ntmps60
    go_wp2_with fail
    refine hde.mono ?_
    rintro e w1 ⟨rfl, hw⟩
    subst w1
    go_wp2_with fail
    refine hpa.mono ?_
    rintro e w1 ⟨N, rfl, _, _, k1⟩
    go_wp2_with fail
    go_ret2
    rw [HN.out]
    exact ⟨rfl, k1⟩
  · have HN : Hid (numOf l = (n, 0)) := hn
    have hpa := Tryd.strconv_ParseInt_10_at64_ok (B l) (by rw [B_size]; omega) n (by rw [B_list]; exact parseInt_ok hf n hn) w
    rw [hf] at hde
    clear hf hn
    go_enter Tryd.func60, Tryd.ntmps60
    go_wp2_with fail
    refine hde.mono ?_
    rintro e w1 ⟨rfl, hw⟩
    subst w1
    go_wp2_with fail
    refine hpa.mono ?_
    rintro e w1 ⟨rfl, hw⟩
    have k1 : Kept w w1 := by
      rcases hw with rfl | ⟨t, rfl⟩
      · exact Kept.refl _
      · exact Lib.bytesWorld_below _ _ _
    clear hw
    go_wp2_with fail
    go_ret2
    rw [HN.out]
    exact ⟨rfl, k1⟩

theorem text_any (n : Int) (h0 : -9223372036854775808 ≤ n) (h1 : n ≤ 9223372036854775807) (w : World) (hr : Rdy w) :
    Calls Tryd.prog 26 #[.int .i64 n] w fun e w' => e = .returned (.string (B (Lib.itoa n))) ∧ Kept w w' := by
  have hfm := Tryd.strconv_FormatInt_10 n h0 h1 w hr.tab
  clear h0 h1
  go_enter Tryd.func26, Tryd.ntmps26
  go_wp2_with fail
  refine hfm.mono ?_
  rintro e w1 ⟨rfl, k, os, hw⟩
  have k1 : Kept w w1 := by rw [hw]; exact kept_grow w k os
  clear hw
  go_wp2_with fail
  go_ret
  exact ⟨rfl, k1⟩
end Go.Proofs.YtiiddfahpddffaaDoor
