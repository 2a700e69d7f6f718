/- WordOrder, walked. -/
import Derived.Test.YtfmoijmfndmgaaaDoorNumbersW
namespace Go.Proofs.YtfmoijmfndmgaaaDoor
open Go.RowKit

/-! Numbers of as many digits stand in the order of their words. -/
theorem less_app : ∀ (a b : List UInt8) (c d : UInt8), a.length = b.length → Op.bytesLess (a ++ [c]) (b ++ [d]) = (Op.bytesLess a b || (a == b && decide (c < d)))
  | [], [], c, d, _ => by simp [Op.bytesLess]
  | x :: a, y :: b, c, d, h => by
    have ih := less_app a b c d (by simpa using h)
    simp only [List.cons_append, Op.bytesLess, ih]
    by_cases h1 : x < y
    · simp [h1]
    · by_cases h2 : x = y
      · subst h2
        simp [h1]
      · have h3 : (x == y) = false := by rw [beq_eq_false_iff_ne]; exact h2
        simp [h1, h3]
  | [], y :: b, _, _, h => by simp at h
  | x :: a, [], _, _, h => by simp at h
theorem dig_lt (a b : Nat) : (dig a < dig b) ↔ a % 10 < b % 10 := by
  rw [UInt8.lt_iff_toNat_lt, dig_nat, dig_nat]
  omega
theorem dec_inj {a b : Nat} (h : Lib.decDigits a = Lib.decDigits b) : a = b := by
  rw [← val_dec a, h, val_dec]
theorem dec_lt_len : ∀ (a b : Nat), a < b → (Lib.decDigits a).length ≤ (Lib.decDigits b).length := by
  intro a
  induction a using Nat.strongRecOn with
  | _ a ih =>
    intro b hab
    by_cases h : a < 10
    · rw [Lib.decDigits_one h]
      have := List.length_pos_iff.2 (dec_digits b).1
      simp; omega
    · rw [dec_rec h, dec_rec (u := b) (by omega)]
      by_cases he : a / 10 = b / 10
      · rw [he]; simp
      · have := ih (a / 10) (by omega) (b / 10) (by omega)
        simpa using this
theorem dec_less : ∀ (a b : Nat), (Lib.decDigits a).length = (Lib.decDigits b).length → Op.bytesLess (Lib.decDigits a) (Lib.decDigits b) = decide (a < b) := by
  intro a
  induction a using Nat.strongRecOn with
  | _ a ih =>
    intro b hl
    by_cases h : a < 10
    · by_cases h' : b < 10
      · have ea : Lib.decDigits a = [dig a] := by rw [dec_pre, pre, if_pos h]; rfl
        have eb : Lib.decDigits b = [dig b] := by rw [dec_pre, pre, if_pos h']; rfl
        rw [ea, eb]
        have := less_app [] [] (dig a) (dig b) rfl
        simp only [List.nil_append] at this
        rw [this]
        have e := dig_lt a b
        rw [Nat.mod_eq_of_lt h, Nat.mod_eq_of_lt h'] at e
        simp [Op.bytesLess, e]
      · rw [Lib.decDigits_one h, dec_rec h'] at hl
        have := List.length_pos_iff.2 (dec_digits (b / 10)).1
        simp at hl
        exact absurd hl (dec_digits _).1
    · by_cases h' : b < 10
      · rw [Lib.decDigits_one h', dec_rec h] at hl
        simp at hl
        exact absurd hl (dec_digits _).1
      · have ea : Lib.decDigits a = Lib.decDigits (a / 10) ++ [dig a] := dec_rec h
        have eb : Lib.decDigits b = Lib.decDigits (b / 10) ++ [dig b] := dec_rec h'
        rw [ea, eb] at hl ⊢
        have hl2 : (Lib.decDigits (a / 10)).length = (Lib.decDigits (b / 10)).length := by simpa using hl
        rw [less_app _ _ _ _ hl2, ih (a / 10) (by omega) (b / 10) hl2]
        by_cases he : a / 10 = b / 10
        · rw [he]
          simp [dig_lt]
          omega
        · have hne : (Lib.decDigits (a / 10) == Lib.decDigits (b / 10)) = false := by
            rw [beq_eq_false_iff_ne]
            exact fun e => he (dec_inj e)
          rw [hne]
          simp
          omega

set_option maxHeartbeats 1000000 in
theorem order_neg (a b : Int) (h0 : -9223372036854775808 ≤ a) (h1 : a ≤ 9223372036854775807) (hab : a < 0 ∨ b < 0) (w : World) (hr : Rdy w) :
    Calls Tryd.prog 7 #[.int .i64 a, .int .i64 b] w fun e w' => e = .returned (.bool true) ∧ Kept w w' := by
  obtain ⟨hl1, hl2⟩ := itoa_len a h0 h1
  have hte := text_any a h0 h1
  have HM : Hid ((Lib.itoa a).take 1 = [45] ↔ a < 0) := by
    show _ ↔ _
    unfold Lib.itoa
    split
    · simp [*]
    · rename_i hn
      have hne := dec_digits a.toNat
      rcases hd : Lib.decDigits a.toNat with _ | ⟨c, r⟩
      · exact absurd hd hne.1
      · have := hne.2 c (by rw [hd]; simp)
        have hc : c ≠ 45 := fun e => by rw [e] at this; revert this; decide
        simp [hc, hn]
  generalize Lib.itoa a = l at *
  have hsz := B_size l
  have t3 : decide ((0 : Int) < (l.length : Int)) = true := decide_eq_true (by omega)
  have b1 : (1 : Int) ≤ (l.length : Int) := by omega
  have hex : (B l).extract 0 1 = B (l.take 1) := by rw [B_extract]; simp
  by_cases ha : a < 0
  · have t1 : decide (a < 0) = true := decide_eq_true ha
    have t5 : ((B (l.take 1)).toList == [45]) = true := by rw [toList_of, B_list, HM.out.2 ha]; rfl
    clear h0 h1 hab
    go_enter Tryd.func7, Tryd.ntmps7
    go_wp2_with fail
    refine (known_true w hr).mono ?_
    rintro e w1 ⟨rfl, T1⟩
    go_wp2_with fail
    refine (hte w1 (hr.kept T1)).mono ?_
    rintro e w2 ⟨rfl, k2⟩
    have T2 := T1.trans k2
    go_wp2_with fail
    go_ret
    exact ⟨rfl, T2⟩
  · have t1 : decide (a < 0) = false := decide_eq_false ha
    have hb : b < 0 := by omega
    have t2 : decide (b < 0) = true := decide_eq_true hb
    have t5 : ((B (l.take 1)).toList == [45]) = false := by
      rw [toList_of, B_list, beq_eq_false_iff_ne]
      exact fun e => ha (HM.out.1 e)
    clear h0 h1 hab
    go_enter Tryd.func7, Tryd.ntmps7
    go_wp2_with fail
    refine (known_true w hr).mono ?_
    rintro e w1 ⟨rfl, T1⟩
    go_wp2_with fail
    refine (hte w1 (hr.kept T1)).mono ?_
    rintro e w2 ⟨rfl, k2⟩
    have T2 := T1.trans k2
    go_wp2_with fail
    go_ret
    exact ⟨rfl, T2⟩

set_option maxHeartbeats 1000000 in
theorem order_pos (a b : Int) (h1 : a ≤ 9223372036854775807) (h2 : b ≤ 9223372036854775807) (ha : ¬ a < 0) (hb : ¬ b < 0) (w : World) (hr : Rdy w) :
    Calls Tryd.prog 7 #[.int .i64 a, .int .i64 b] w fun e w' => e = .returned (.bool true) ∧ Kept w w' := by
  have hta := text_any a (by omega) h1
  have htb := text_any b (by omega) h2
  have t1 : decide (a < 0) = false := decide_eq_false ha
  have t2 : decide (b < 0) = false := decide_eq_false hb
  have ea : Lib.itoa a = Lib.decDigits a.toNat := by unfold Lib.itoa; rw [if_neg ha]
  have eb : Lib.itoa b = Lib.decDigits b.toNat := by unfold Lib.itoa; rw [if_neg hb]
  have HLT : Hid ((Lib.itoa a).length ≠ (Lib.itoa b).length → ((Lib.itoa a).length < (Lib.itoa b).length ↔ a < b)) := by
    show _ → _
    rw [ea, eb]
    intro hne
    constructor
    · intro hlt
      by_cases hc : a < b
      · exact hc
      · by_cases he : a.toNat = b.toNat
        · rw [he] at hlt; omega
        · have := dec_lt_len b.toNat a.toNat (by omega)
          omega
    · intro hlt
      have := dec_lt_len a.toNat b.toNat (by omega)
      omega
  have HLE : Hid ((Lib.itoa a).length = (Lib.itoa b).length → Op.bytesLess (Lib.itoa a) (Lib.itoa b) = decide (a < b)) := by
    show _ → _
    rw [ea, eb]
    intro he
    rw [dec_less _ _ he]
    congr 1
    apply propext
    omega
  have HEQ : Hid ((Lib.itoa a == Lib.itoa b) = (a == b)) := by
    show _ = _
    rw [ea, eb]
    by_cases he : a = b
    · subst he; simp
    · have hx : Lib.decDigits a.toNat ≠ Lib.decDigits b.toNat := fun e => he (by have := dec_inj e; omega)
      rw [beq_eq_false_iff_ne.2 hx, beq_eq_false_iff_ne.2 he]
  clear ea eb h1 h2 ha hb
  generalize Lib.itoa a = la at *
  generalize Lib.itoa b = lb at *
  have hsa := B_size la
  have hsb := B_size lb
  by_cases hne : la.length = lb.length
  · have t3 : ((la.length : Int) != (lb.length : Int)) = false := by rw [hne]; simp
    have t3' : ((lb.length : Int) != (lb.length : Int)) = false := by simp
    have t4 : Op.bytesLess (B la).toList (B lb).toList = decide (a < b) := by rw [toList_of, toList_of, B_list, B_list]; exact HLE.out hne
    have t5 : ((B la).toList == (B lb).toList) = (a == b) := by rw [B_eq]; exact HEQ.out
    clear hne
    obtain ⟨x, hx⟩ : ∃ x, decide (a < b) = x := ⟨_, rfl⟩
    obtain ⟨y, hy⟩ : ∃ y, (a == b) = y := ⟨_, rfl⟩
    rw [hx] at t4
    rw [hy] at t5
    have t6 : (x == x) = true := by simp
    have t7 : (y == y) = true := by simp
    go_enter Tryd.func7, Tryd.ntmps7
    go_wp2_with fail
    refine (known_true w hr).mono ?_
    rintro e w1 ⟨rfl, T1⟩
    go_wp2_with fail
    refine (hta w1 (hr.kept T1)).mono ?_
    rintro e w2 ⟨rfl, k2⟩
    have T2 := T1.trans k2
    go_wp2_with fail
    refine (htb w2 (hr.kept T2)).mono ?_
    rintro e w3 ⟨rfl, k3⟩
    have T3 := T2.trans k3
    go_wp2_with fail
    go_ret
    exact ⟨rfl, T3⟩
  · have t3 : ((la.length : Int) != (lb.length : Int)) = true := by rw [bne_iff_ne]; omega
    have t4 : decide (la.length < lb.length) = decide (a < b) := by
      have := HLT.out hne
      congr 1
      apply propext
      omega
    obtain ⟨x, hx⟩ : ∃ x, decide (a < b) = x := ⟨_, rfl⟩
    rw [hx] at t4
    have t6 : (x == x) = true := by simp
    clear hne
    go_enter Tryd.func7, Tryd.ntmps7
    go_wp2_with fail
    refine (known_true w hr).mono ?_
    rintro e w1 ⟨rfl, T1⟩
    go_wp2_with fail
    refine (hta w1 (hr.kept T1)).mono ?_
    rintro e w2 ⟨rfl, k2⟩
    have T2 := T1.trans k2
    go_wp2_with fail
    refine (htb w2 (hr.kept T2)).mono ?_
    rintro e w3 ⟨rfl, k3⟩
    have T3 := T2.trans k3
    go_wp2_with fail
    go_ret
    exact ⟨rfl, T3⟩

theorem order_any (a b : Int) (h0 : -9223372036854775808 ≤ a) (h1 : a ≤ 9223372036854775807) (_ : -9223372036854775808 ≤ b) (h3 : b ≤ 9223372036854775807) (w : World) (hr : Rdy w) :
    Calls Tryd.prog 7 #[.int .i64 a, .int .i64 b] w fun e w' => e = .returned (.bool true) ∧ Kept w w' := by
  by_cases ha : a < 0
  · exact order_neg a b h0 h1 (.inl ha) w hr
  · by_cases hb : b < 0
    · exact order_neg a b h0 h1 (.inr hb) w hr
    · exact order_pos a b h1 h3 ha hb w hr
end Go.Proofs.YtfmoijmfndmgaaaDoor
