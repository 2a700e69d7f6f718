/- The reference's Match, of any place. -/
import Derived.Test.YtlkbphogpbcjfaaGreatDoorRMt
namespace Go.Proofs.YtlkbphogpbcjfaaGreatDoor
open Go.RowKit

/-- As the reference goes back from an End. -/
def rbwd (d : Int) (i : Int) : List OpD → Int
  | [] => -1
  | o :: r => if o.kind = 9 then rbwd (d + 1) (i - 1) r else if o.kind = 8 then (if d - 1 = 0 then i else rbwd (d - 1) (i - 1) r) else rbwd d (i - 1) r
theorem rbwd_eq : ∀ (p : List OpD) (d i : Int), 1 ≤ d → rbwd d i p = bwdGo (-d) i p
  | [], _, _, _ => rfl
  | o :: r, d, i, hd => by
    rw [rbwd, bwdGo]
    by_cases k9 : o.kind = 9
    · have e : dK o = -1 := by unfold dK; rw [if_neg (by omega), if_pos k9]
      rw [if_pos k9, e, if_neg (by omega), rbwd_eq r (d + 1) (i - 1) (by omega)]
      congr 1
      omega
    · by_cases k8 : o.kind = 8
      · have e : dK o = 1 := by unfold dK; rw [if_pos k8]
        rw [if_neg k9, if_pos k8, e]
        by_cases h0 : d - 1 = 0
        · rw [if_pos h0, if_pos (by omega)]
        · rw [if_neg h0, if_neg (by omega), rbwd_eq r (d - 1) (i - 1) (by omega)]
          congr 1
          omega
      · have e : dK o = 0 := by unfold dK; rw [if_neg k8, if_neg k9]
        rw [if_neg k9, if_neg k8, e, if_neg (by omega), rbwd_eq r d (i - 1) hd, Int.add_zero]

set_option maxHeartbeats 8000000 in
set_option maxRecDepth 20000 in
/-- Of an End. -/
theorem rmatch_end (a : Option Addr) (c : Nat) (p : List OpD) (q : Nat) (o : OpD) (w : World) (hA : AtP w a p) (hp : p.length ≤ 100000) (hq : p[q]? = some o) (h9 : o.kind = 9) :
    Calls Tryz.prog 56 #[.slice a p.length c, .int .i64 q] w fun e w' => e = .returned (.int .i64 (matchD p q)) ∧ w' = w := by
  have hql : q < p.length := (List.getElem?_eq_some_iff.1 hq).1
  have HA : Hid (AtP w a p) := hA
  have HD : Hid (matchD p q = rbwd 0 (((q + 1 : Nat) : Int) - 1) (p.take (q + 1)).reverse) := by
    show _ = _
    unfold matchD
    rw [if_neg (by omega)]
    simp only [Int.toNat_natCast, hq]
    rw [if_neg (by omega), if_pos h9, take_rev hq, rbwd, bwdGo, if_pos h9]
    have e : dK o = -1 := by unfold dK; rw [if_neg (by omega), if_pos h9]
    rw [e, if_neg (by omega), rbwd_eq _ _ _ (by omega)]
    congr 1
    omega
  obtain ⟨b0, f0, k0, n0, v0, wt0, l0, ca0, cc0, ha0, hpq, y0, _, _, _, _, _, _, _, _⟩ := hA.get q hql
  have hk0 : k0 = 9 := by rw [hq] at hpq; have := Option.some.inj hpq; rw [this] at h9; exact h9
  subst hk0
  have b1 : ¬ (q : Int) < 0 := by omega
  have b2 : ¬ (q : Int) ≥ (p.length : Int) := by omega
  have b3 : (q : Int) < (p.length : Int) := by omega
  have b4 : (0 : Int) ≤ (q : Int) := by omega
  subst ha0
  clear hA hq h9 hpq
  go_enter Tryz.func56, Tryz.ntmps56
  go_wp2_with fail
  go_loopg [5, 7] (q + 1) (fun gk x5 i wr => ∃ (j : Nat) (d : Int), x5 = .int .i64 d ∧ i = .int .i64 ((j : Int) - 1) ∧ j ≤ gk ∧ (0 ≤ d ∧ d ≤ 100000 - (j : Int)) ∧ Hid (j ≤ q + 1 ∧ matchD p q = rbwd d ((j : Int) - 1) (p.take j).reverse) ∧ Hid (j = q + 1 ∨ 1 ≤ d) ∧ wr = w)
  case atStart => exact ⟨q + 1, 0, rfl, by go_num, by omega, by omega, ⟨by omega, HD.out⟩, .inl rfl, rfl⟩
  case round =>
    obtain ⟨j, d, rfl, rfl, hg, hd, HE0, HQ, hw⟩ := hrel
    subst wr
    have hjq := HE0.out.1
    cases j with
    | zero =>
      have HZ : Hid (matchD p q = -1) := by show _ = _; rw [HE0.out.2]; rfl
      go_wp2_with fail
      go_ret
      rw [HZ.out]
      exact ⟨rfl, rfl⟩
    | succ j =>
      have hjp : j < p.length := by omega
      obtain ⟨b, f, k, n, v, wt, l, ca, cc, ha, hpj, g0, g1, g2, g3, g4, hcc, hat, hbl, hdr⟩ := HA.out.get j hjp
      have eb : b0 = b ∧ f0 = f := by cases ha; exact ⟨rfl, rfl⟩
      obtain ⟨rfl, rfl⟩ := eb
      have c1 : (j : Int) < (p.length : Int) := by omega
      have c2 : (0 : Int) ≤ (j : Int) := by omega
      have c3 : (j : Int) ≥ 0 := c2
      have HE2 : Hid (matchD p q = if k = 9 then rbwd (d + 1) ((j : Int) - 1) (p.take j).reverse else if k = 8 then (if d - 1 = 0 then (j : Int) else rbwd (d - 1) ((j : Int) - 1) (p.take j).reverse) else rbwd d ((j : Int) - 1) (p.take j).reverse) := by
        show _ = _
        rw [HE0.out.2, take_rev hpj, rbwd, show (((j + 1 : Nat) : Int) - 1) = (j : Int) by omega]
      have hne : j + 1 = q + 1 → k = 9 := fun e => by
        obtain rfl : j = q := by omega
        have := y0.symm.trans g0
        simp at this
        exact this.symm
      rw [show (((j + 1 : Nat) : Int) - 1) = (j : Int) by omega]
      obtain ⟨g3', rfl⟩ : ∃ g, gk = g + 1 := ⟨gk - 1, by omega⟩
      have HNE : Hid (j + 1 = q + 1 → k = 9) := hne
      clear hpj hat hdr HE0 hne ha
      by_cases k9 : k = 9
      · subst k9
        have HZ : Hid (matchD p q = rbwd (d + 1) ((j : Int) - 1) (p.take j).reverse) := by show _ = _; rw [HE2.out, if_pos rfl]
        clear HE2
        go_wp2_with fail
        go_roundg g3'
        case rel => exact ⟨j, d + 1, by go_num, by go_num, by omega, by omega, ⟨by omega, HZ.out⟩, .inr (by omega), rfl⟩
        case measure => omega
      · have hd1 : 1 ≤ d := by
          rcases HQ.out with h | h
          · exact absurd (HNE.out h) k9
          · exact h
        by_cases k8 : k = 8
        · subst k8
          by_cases h0 : d - 1 = 0
          · have HZ : Hid (matchD p q = (j : Int)) := by show _ = _; rw [HE2.out, if_neg (by omega), if_pos rfl, if_pos h0]
            clear HE2
            obtain rfl : d = 1 := by omega
            go_wp2_with fail
            go_ret
            rw [HZ.out]
            exact ⟨rfl, rfl⟩
          · have HZ : Hid (matchD p q = rbwd (d - 1) ((j : Int) - 1) (p.take j).reverse) := by show _ = _; rw [HE2.out, if_neg (by omega), if_pos rfl, if_neg h0]
            have h0' : ((d - 1) == 0) = false := by simpa using h0
            clear HE2
            go_wp2_with fail
            go_roundg g3'
            case rel => exact ⟨j, d - 1, by go_num, by go_num, by omega, by omega, ⟨by omega, HZ.out⟩, .inr (by omega), rfl⟩
            case measure => omega
        · have HZ : Hid (matchD p q = rbwd d ((j : Int) - 1) (p.take j).reverse) := by show _ = _; rw [HE2.out, if_neg k9, if_neg k8]
          clear HE2
          go_wp2_with fail
          go_roundg g3'
          case rel => exact ⟨j, d, by go_num, by go_num, by omega, by omega, ⟨by omega, HZ.out⟩, .inr hd1, rfl⟩
          case measure => omega
set_option maxHeartbeats 8000000 in
theorem rmatch_any (a : Option Addr) (c : Nat) (p : List OpD) (i : Int) (w : World) (hA : AtP w a p) (hp : p.length ≤ 100000) (hi : -9223372036854775808 ≤ i ∧ i ≤ 9223372036854775807) :
    Calls Tryz.prog 56 #[.slice a p.length c, .int .i64 i] w fun e w' => e = .returned (.int .i64 (matchD p i)) ∧ w' = w := by
  by_cases h0 : i < 0
  · have HD : Hid (matchD p i = -1) := by show _ = _; unfold matchD; rw [if_pos (.inl h0)]
    have b1 : decide (i < 0) = true := decide_eq_true h0
    clear hA
    go_enter Tryz.func56, Tryz.ntmps56
    go_wp2_with fail
    go_ret
    rw [HD.out]
    exact ⟨rfl, rfl⟩
  · by_cases hn : (p.length : Int) ≤ i
    · have HD : Hid (matchD p i = -1) := by show _ = _; unfold matchD; rw [if_pos (.inr hn)]
      have b2 : i ≥ (p.length : Int) := hn
      clear hA
      go_enter Tryz.func56, Tryz.ntmps56
      go_wp2_with fail
      go_ret
      rw [HD.out]
      exact ⟨rfl, rfl⟩
    · obtain ⟨q, rfl⟩ : ∃ q : Nat, i = (q : Int) := ⟨i.toNat, by omega⟩
      have hq : q < p.length := by omega
      obtain ⟨b, f, k, n, v, wt, l, ca, cc, rfl, hpj, g0, g1, g2, g3, g4, hcc, hat, hbl, hdr⟩ := hA.get q hq
      by_cases h8 : k = 8
      · exact rmatch_loop _ c p q _ w hA hp hpj h8
      · by_cases h9 : k = 9
        · exact rmatch_end _ c p q _ w hA hp hpj h9
        · have HD : Hid (matchD p q = -1) := by
            show _ = _
            unfold matchD
            rw [if_neg (by omega), show (q : Int).toNat = q from rfl, hpj]
            simp only
            rw [if_neg h8, if_neg h9]
          have b1 : (q : Int) < (p.length : Int) := by omega
          have b2 : ¬ (q : Int) ≥ (p.length : Int) := by omega
          have b3 : (0 : Int) ≤ (q : Int) := by omega
          have k8 : (k == 8) = false := beq_eq_false_iff_ne.2 h8
          have k9 : (k == 9) = false := beq_eq_false_iff_ne.2 h9
          clear hA hdr hpj hn hi hat
          go_enter Tryz.func56, Tryz.ntmps56
          go_wp2_with fail
          go_ret
          rw [HD.out]
          exact ⟨rfl, rfl⟩
end Go.Proofs.YtlkbphogpbcjfaaGreatDoor
