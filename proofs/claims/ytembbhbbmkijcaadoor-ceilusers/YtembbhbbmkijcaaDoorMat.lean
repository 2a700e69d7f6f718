/- Match. -/
import Derived.Test.YtembbhbbmkijcaaDoorRow
namespace Go.Proofs.YtembbhbbmkijcaaDoor
open Go.RowKit

def dK (o : OpD) : Int := if o.kind = 8 then 1 else if o.kind = 9 then -1 else 0
theorem dK_bd (o : OpD) : -1 ≤ dK o ∧ dK o ≤ 1 := by unfold dK; split <;> (try split) <;> omega
def fwdGo (d : Int) (i : Nat) : List OpD → Int
  | [] => -1
  | o :: r => if d + dK o = 0 then (i : Int) else fwdGo (d + dK o) (i + 1) r
/-- Backwards: the op at place i first. -/
def bwdGo (d : Int) (i : Int) : List OpD → Int
  | [] => -1
  | o :: r => if d + dK o = 0 then i else bwdGo (d + dK o) (i - 1) r
def matchD (p : List OpD) (i : Int) : Int :=
  if i < 0 ∨ (p.length : Int) ≤ i then -1 else
  match p[i.toNat]? with
  | none => -1
  | some o => if o.kind = 8 then fwdGo 0 i.toNat (p.drop i.toNat) else if o.kind = 9 then bwdGo 0 i (p.take (i.toNat + 1)).reverse else -1

theorem dK8 {n v wt : Int} {l : List CaseD} : dK ⟨8, n, v, wt, l⟩ = 1 := rfl
theorem dK9 {n v wt : Int} {l : List CaseD} : dK ⟨9, n, v, wt, l⟩ = -1 := rfl
theorem dKo {k n v wt : Int} {l : List CaseD} (h8 : k ≠ 8) (h9 : k ≠ 9) : dK ⟨k, n, v, wt, l⟩ = 0 := by unfold dK; rw [if_neg h8, if_neg h9]
theorem take_rev {p : List OpD} {j : Nat} {o : OpD} (h : p[j]? = some o) : (p.take (j + 1)).reverse = o :: (p.take j).reverse := by
  rw [List.take_add_one, h]
  simp
set_option maxHeartbeats 4000000 in
theorem match_any (a : Option Addr) (c : Nat) (p : List OpD) (i : Int) (w : World) (hA : AtP w a p) (hp : p.length ≤ 100000) (hi : -9223372036854775808 ≤ i ∧ i ≤ 9223372036854775807) :
    Calls Tryd.prog 52 #[.slice a p.length c, .int .i64 i] w fun e w' => e = .returned (.int .i64 (matchD p i)) ∧ w' = w := by
  have HA : Hid (AtP w a p) := hA
  clear hA
  by_cases h0 : i < 0
  · have HD : Hid (matchD p i = -1) := by show _ = _; unfold matchD; rw [if_pos (.inl h0)]
    have b1 : decide (i < 0) = true := decide_eq_true h0
    go_enter Tryd.func52, Tryd.ntmps52
    go_wp2_with fail
    go_step3
    go_wp2_with fail
    try rw [Exit.noGoto_ret]
    go_ret
    rw [HD.out]
    exact ⟨rfl, rfl⟩
  · by_cases hn : (p.length : Int) ≤ i
    · have HD : Hid (matchD p i = -1) := by show _ = _; unfold matchD; rw [if_pos (.inr hn)]
      have b2 : i ≥ (p.length : Int) := hn
      go_enter Tryd.func52, Tryd.ntmps52
      go_wp2_with fail
      go_step3
      go_wp2_with fail
      try rw [Exit.noGoto_ret]
      go_ret
      rw [HD.out]
      exact ⟨rfl, rfl⟩
    · obtain ⟨q, rfl⟩ : ∃ q : Nat, i = (q : Int) := ⟨i.toNat, by omega⟩
      have hq : q < p.length := by omega
      have b1 : (q : Int) < (p.length : Int) := by omega
      have b2 : ¬ (q : Int) ≥ (p.length : Int) := by omega
      have b3 : (0 : Int) ≤ (q : Int) := by omega
      obtain ⟨b, f, k, n, v, wt, l, ca, cc, rfl, hpj, g0, g1, g2, g3, g4, hcc, hat, hbl, hdr⟩ := HA.out.get q hq
      have HD : Hid (matchD p q = if k = 8 then fwdGo 0 q (p.drop q) else if k = 9 then bwdGo 0 q (p.take (q + 1)).reverse else -1) := by
        show _ = _
        unfold matchD
        rw [if_neg (by omega), show (q : Int).toNat = q from rfl, hpj]
      clear hdr hpj h0 hn hi
      by_cases h8 : k = 8
      · subst h8
        have HD2 : Hid (matchD p q = fwdGo 0 q (p.drop q)) := by show _ = _; rw [HD.out, if_pos rfl]
        clear HD
        go_enter Tryd.func52, Tryd.ntmps52
        go_wp2_with fail
        go_step3
        go_wp2_with fail
        go_step3
        go_wp2_with fail
        go_loopg [6, 7, 8] p.length (fun gk d mt i wr => ∃ (j : Nat) (dv : Int), i = .int .i64 j ∧ d = .int .i64 dv ∧ mt = .int .i64 (-1) ∧ j + gk = q + p.length ∧ -(j : Int) ≤ dv ∧ dv ≤ (j : Int) ∧ Hid (matchD p q = fwdGo dv j (p.drop j)) ∧ wr = w)
        case atStart => exact ⟨q, 0, rfl, rfl, rfl, by omega, by omega, by omega, HD2, rfl⟩
        case round =>
          obtain ⟨j, dv, rfl, rfl, rfl, hg, hd1, hd2, HE, hw⟩ := hrel
          subst wr
          by_cases hjp : j < p.length
          · obtain ⟨g3', rfl⟩ : ∃ g, gk = g + 1 := ⟨gk - 1, by omega⟩
            have c1 : (j : Int) < (p.length : Int) := by omega
            have c2 : (0 : Int) ≤ (j : Int) := by omega
            have c3 : (j : Int) ≥ 0 := c2
            obtain ⟨b', f', k, n, v, wt, l, ca', cc', hab, hpj, g0', g1', g2', g3k, g4', hcc', hat', hbl', hdr⟩ := HA.out.get j hjp
            obtain ⟨rfl, rfl⟩ : b = b' ∧ f = f' := by cases hab; exact ⟨rfl, rfl⟩
            have HG : Hid (matchD p q = fwdGo dv j (⟨k, n, v, wt, l⟩ :: p.drop (j + 1))) := by show _ = _; rw [HE.out, hdr]
            clear hdr hpj hat' hab HE
            by_cases h8 : k = 8
            · subst h8
              by_cases hz : dv + 1 = 0
              · have HR : Hid (matchD p q = (j : Int)) := by show _ = _; rw [HG.out, fwdGo, dK8, if_pos (by omega)]
                have hz1 : (dv + 1 == 0) = true := beq_iff_eq.2 hz
                clear HG
                go_wp2_with fail
                try rw [Exit.noGoto_ret]
                go_ret
                rw [HR.out]
                exact ⟨rfl, rfl⟩
              · have HR : Hid (matchD p q = fwdGo (dv + 1) (j + 1) (p.drop (j + 1))) := by show _ = _; rw [HG.out, fwdGo, dK8, if_neg (by omega)]
                have hz1 : (dv + 1 == 0) = false := beq_eq_false_iff_ne.2 hz
                clear HG
                go_wp2_with fail
                go_roundg g3'
                case rel => exact ⟨j + 1, dv + 1, by go_num, by go_num, rfl, by omega, by omega, by omega, HR, rfl⟩
                case measure => omega
            · have k8 : (k == 8) = false := beq_eq_false_iff_ne.2 h8
              by_cases h9 : k = 9
              · subst h9
                by_cases hz : dv - 1 = 0
                · have HR : Hid (matchD p q = (j : Int)) := by show _ = _; rw [HG.out, fwdGo, dK9, if_pos (by omega)]
                  have hz1 : (dv - 1 == 0) = true := beq_iff_eq.2 hz
                  clear HG
                  go_wp2_with fail
                  try rw [Exit.noGoto_ret]
                  go_ret
                  rw [HR.out]
                  exact ⟨rfl, rfl⟩
                · have HR : Hid (matchD p q = fwdGo (dv - 1) (j + 1) (p.drop (j + 1))) := by show _ = _; rw [HG.out, fwdGo, dK9, if_neg (by omega)]; rfl
                  have hz1 : (dv - 1 == 0) = false := beq_eq_false_iff_ne.2 hz
                  clear HG
                  go_wp2_with fail
                  go_roundg g3'
                  case rel => exact ⟨j + 1, dv - 1, by go_num, by go_num, rfl, by omega, by omega, by omega, HR, rfl⟩
                  case measure => omega
              · have k9 : (k == 9) = false := beq_eq_false_iff_ne.2 h9
                have HK0 : Hid (dK ⟨k, n, v, wt, l⟩ = 0) := dKo h8 h9
                by_cases hz : dv = 0
                · have HR : Hid (matchD p q = (j : Int)) := by show _ = _; rw [HG.out, fwdGo, HK0.out, if_pos (by omega)]
                  have hz1 : (dv == 0) = true := beq_iff_eq.2 hz
                  clear HG
                  go_wp2_with fail
                  try rw [Exit.noGoto_ret]
                  go_ret
                  rw [HR.out]
                  exact ⟨rfl, rfl⟩
                · have HR : Hid (matchD p q = fwdGo (dv) (j + 1) (p.drop (j + 1))) := by show _ = _; rw [HG.out, fwdGo, HK0.out, if_neg (by omega)]; simp
                  have hz1 : (dv == 0) = false := beq_eq_false_iff_ne.2 hz
                  clear HG
                  go_wp2_with fail
                  go_roundg g3'
                  case rel => exact ⟨j + 1, dv, by go_num, by go_num, rfl, by omega, by omega, by omega, HR, rfl⟩
                  case measure => omega
          · have c1 : ¬ (j : Int) < (p.length : Int) := by omega
            have c3 : (j : Int) ≥ 0 := by omega
            have HR : Hid (matchD p q = -1) := by show _ = _; rw [HE.out, List.drop_eq_nil_of_le (by omega)]; rfl
            go_wp2_with fail
            try rw [Exit.noGoto_ret]
            go_ret
            rw [HR.out]
            exact ⟨rfl, rfl⟩
      · have k8 : (k == 8) = false := beq_eq_false_iff_ne.2 h8
        by_cases h9 : k = 9
        · subst h9
          have HD2 : Hid (matchD p q = bwdGo 0 (((q + 1 : Nat) : Int) - 1) (p.take (q + 1)).reverse) := by show _ = _; rw [HD.out, if_neg h8, if_pos rfl, show (((q + 1 : Nat) : Int) - 1) = (q : Int) by omega]
          clear HD
          go_enter Tryd.func52, Tryd.ntmps52
          go_wp2_with fail
          go_step3
          go_wp2_with fail
          go_step3
          go_wp2_with fail
          go_loopg [6, 7, 8] (q + 1) (fun gk d mt i wr => ∃ (j : Nat) (dv : Int), i = .int .i64 ((j : Int) - 1) ∧ d = .int .i64 dv ∧ mt = .int .i64 (-1) ∧ j ≤ gk ∧ -(100000 - (j : Int)) ≤ dv ∧ dv ≤ 100000 - (j : Int) ∧ Hid (j ≤ q + 1 ∧ matchD p q = bwdGo dv ((j : Int) - 1) (p.take j).reverse) ∧ wr = w)
          case atStart => exact ⟨q + 1, 0, by go_num, rfl, rfl, by omega, by omega, by omega, ⟨by omega, HD2.out⟩, rfl⟩
          case round =>
            obtain ⟨j, dv, rfl, rfl, rfl, hg, hd1, hd2, HE0, hw⟩ := hrel
            subst wr
            have hjq := HE0.out.1
            cases j with
            | zero =>
              have HR : Hid (matchD p q = -1) := by show _ = _; rw [HE0.out.2]; rfl
              go_wp2_with fail
              try rw [Exit.noGoto_ret]
              go_ret
              rw [HR.out]
              exact ⟨rfl, rfl⟩
            | succ j =>
              have hjp : j < p.length := by omega
              have HE : Hid (matchD p q = bwdGo dv (((j + 1 : Nat) : Int) - 1) (p.take (j + 1)).reverse) := HE0.out.2
              clear HE0
              obtain ⟨g3', rfl⟩ : ∃ g, gk = g + 1 := ⟨gk - 1, by omega⟩
              rw [show (((j + 1 : Nat) : Int) - 1) = (j : Int) by omega]
              have c1 : (j : Int) < (p.length : Int) := by omega
              have c2 : (0 : Int) ≤ (j : Int) := by omega
              have c3 : (j : Int) ≥ 0 := c2
              obtain ⟨b', f', k, n, v, wt, l, ca', cc', hab, hpj, g0', g1', g2', g3k, g4', hcc', hat', hbl', hdr⟩ := HA.out.get j hjp
              obtain ⟨rfl, rfl⟩ : b = b' ∧ f = f' := by cases hab; exact ⟨rfl, rfl⟩
              have HG : Hid (matchD p q = bwdGo dv (j : Int) (⟨k, n, v, wt, l⟩ :: (p.take j).reverse)) := by show _ = _; rw [HE.out, take_rev hpj, show (((j + 1 : Nat) : Int) - 1) = (j : Int) by omega]
              clear hdr hpj hat' hab HE
              by_cases h8 : k = 8
              · subst h8
                by_cases hz : dv + 1 = 0
                · have HR : Hid (matchD p q = (j : Int)) := by show _ = _; rw [HG.out, bwdGo, dK8, if_pos (by omega)]
                  have hz1 : (dv + 1 == 0) = true := beq_iff_eq.2 hz
                  clear HG
                  go_wp2_with fail
                  try rw [Exit.noGoto_ret]
                  go_ret
                  rw [HR.out]
                  exact ⟨rfl, rfl⟩
                · have HR : Hid (matchD p q = bwdGo (dv + 1) ((j : Int) - 1) (p.take j).reverse) := by show _ = _; rw [HG.out, bwdGo, dK8, if_neg (by omega)]
                  have hz1 : (dv + 1 == 0) = false := beq_eq_false_iff_ne.2 hz
                  clear HG
                  go_wp2_with fail
                  go_roundg g3'
                  case rel => exact ⟨j, dv + 1, by go_num, by go_num, rfl, by omega, by omega, by omega, ⟨by omega, HR.out⟩, rfl⟩
                  case measure => omega
              · have k8 : (k == 8) = false := beq_eq_false_iff_ne.2 h8
                by_cases h9 : k = 9
                · subst h9
                  by_cases hz : dv - 1 = 0
                  · have HR : Hid (matchD p q = (j : Int)) := by show _ = _; rw [HG.out, bwdGo, dK9, if_pos (by omega)]
                    have hz1 : (dv - 1 == 0) = true := beq_iff_eq.2 hz
                    clear HG
                    go_wp2_with fail
                    try rw [Exit.noGoto_ret]
                    go_ret
                    rw [HR.out]
                    exact ⟨rfl, rfl⟩
                  · have HR : Hid (matchD p q = bwdGo (dv - 1) ((j : Int) - 1) (p.take j).reverse) := by show _ = _; rw [HG.out, bwdGo, dK9, if_neg (by omega)]; rfl
                    have hz1 : (dv - 1 == 0) = false := beq_eq_false_iff_ne.2 hz
                    clear HG
                    go_wp2_with fail
                    go_roundg g3'
                    case rel => exact ⟨j, dv - 1, by go_num, by go_num, rfl, by omega, by omega, by omega, ⟨by omega, HR.out⟩, rfl⟩
                    case measure => omega
                · have k9 : (k == 9) = false := beq_eq_false_iff_ne.2 h9
                  have HK0 : Hid (dK ⟨k, n, v, wt, l⟩ = 0) := dKo h8 h9
                  by_cases hz : dv = 0
                  · have HR : Hid (matchD p q = (j : Int)) := by show _ = _; rw [HG.out, bwdGo, HK0.out, if_pos (by omega)]
                    have hz1 : (dv == 0) = true := beq_iff_eq.2 hz
                    clear HG
                    go_wp2_with fail
                    try rw [Exit.noGoto_ret]
                    go_ret
                    rw [HR.out]
                    exact ⟨rfl, rfl⟩
                  · have HR : Hid (matchD p q = bwdGo (dv) ((j : Int) - 1) (p.take j).reverse) := by show _ = _; rw [HG.out, bwdGo, HK0.out, if_neg (by omega)]; simp
                    have hz1 : (dv == 0) = false := beq_eq_false_iff_ne.2 hz
                    clear HG
                    go_wp2_with fail
                    go_roundg g3'
                    case rel => exact ⟨j, dv, by go_num, by go_num, rfl, by omega, by omega, by omega, ⟨by omega, HR.out⟩, rfl⟩
                    case measure => omega
        · have HD2 : Hid (matchD p q = -1) := by show _ = _; rw [HD.out, if_neg h8, if_neg h9]
          have k9 : (k == 9) = false := beq_eq_false_iff_ne.2 h9
          go_enter Tryd.func52, Tryd.ntmps52
          go_wp2_with fail
          go_step3
          go_wp2_with fail
          try rw [Exit.noGoto_ret]
          go_ret
          rw [HD2.out]
          exact ⟨rfl, rfl⟩
end Go.Proofs.YtembbhbbmkijcaaDoor
