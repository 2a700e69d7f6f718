/- The reference's Match. -/
import Derived.Test.YtlkbphogpbcjfaaGreatDoorPgA
namespace Go.Proofs.YtlkbphogpbcjfaaGreatDoor
open Go.RowKit

/-- As the reference goes: it looks at the count behind an End alone. -/
def rfwd (d : Int) (i : Nat) : List OpD → Int
  | [] => -1
  | o :: r => if o.kind = 8 then rfwd (d + 1) (i + 1) r else if o.kind = 9 then (if d - 1 = 0 then (i : Int) else rfwd (d - 1) (i + 1) r) else rfwd d (i + 1) r
theorem rfwd_eq : ∀ (p : List OpD) (d : Int) (i : Nat), 1 ≤ d → rfwd d i p = fwdGo d i p
  | [], _, _, _ => rfl
  | o :: r, d, i, hd => by
    rw [rfwd, fwdGo]
    by_cases k8 : o.kind = 8
    · have e : dK o = 1 := by unfold dK; rw [if_pos k8]
      rw [if_pos k8, e, if_neg (by omega), rfwd_eq r (d + 1) (i + 1) (by omega)]
    · by_cases k9 : o.kind = 9
      · have e : dK o = -1 := by unfold dK; rw [if_neg k8, if_pos k9]
        rw [if_neg k8, if_pos k9, e]
        by_cases h0 : d - 1 = 0
        · rw [if_pos h0, if_pos (by omega)]
        · rw [if_neg h0, if_neg (by omega), rfwd_eq r (d - 1) (i + 1) (by omega)]
          rfl
      · have e : dK o = 0 := by unfold dK; rw [if_neg k8, if_neg k9]
        rw [if_neg k8, if_neg k9, e, if_neg (by omega), rfwd_eq r d (i + 1) hd, Int.add_zero]

set_option maxHeartbeats 8000000 in
set_option maxRecDepth 20000 in
/-- Of a Loop. -/
theorem rmatch_loop (a : Option Addr) (c : Nat) (p : List OpD) (q : Nat) (o : OpD) (w : World) (hA : AtP w a p) (hp : p.length ≤ 100000) (hq : p[q]? = some o) (h8 : o.kind = 8) :
    Calls Tryz.prog 56 #[.slice a p.length c, .int .i64 q] w fun e w' => e = .returned (.int .i64 (matchD p q)) ∧ w' = w := by
  have hql : q < p.length := (List.getElem?_eq_some_iff.1 hq).1
  have HA : Hid (AtP w a p) := hA
  have HD : Hid (matchD p q = rfwd 0 q (p.drop q)) := by
    show _ = _
    have hdr : p.drop q = o :: p.drop (q + 1) := by
      rw [List.drop_eq_getElem_cons hql]
      rw [List.getElem?_eq_getElem hql] at hq
      rw [Option.some.inj hq]
    unfold matchD
    rw [if_neg (by omega)]
    simp only [Int.toNat_natCast, hq]
    rw [if_pos h8, hdr, rfwd, fwdGo, if_pos h8]
    have e : dK o = 1 := by unfold dK; rw [if_pos h8]
    rw [e, if_neg (by omega), rfwd_eq _ _ _ (by omega)]
  obtain ⟨b0, f0, k0, n0, v0, wt0, l0, ca0, cc0, ha0, hpq, y0, _, _, _, _, _, _, _, _⟩ := hA.get q hql
  have hk0 : k0 = 8 := by rw [hq] at hpq; have := Option.some.inj hpq; rw [this] at h8; exact h8
  subst hk0
  have b1 : ¬ (q : Int) < 0 := by omega
  have b2 : ¬ (q : Int) ≥ (p.length : Int) := by omega
  have b3 : (q : Int) < (p.length : Int) := by omega
  have b4 : (0 : Int) ≤ (q : Int) := by omega
  subst ha0
  clear hA hq h8 hpq
  go_enter Tryz.func56, Tryz.ntmps56
  go_wp2_with fail
  go_loopg [5, 6] (p.length - q) (fun gk x5 i wr => ∃ (j : Nat) (d : Int), x5 = .int .i64 d ∧ i = .int .i64 j ∧ q ≤ j ∧ j + gk = p.length ∧ (0 ≤ d ∧ d ≤ (j : Int) - q) ∧ Hid (matchD p q = rfwd d j (p.drop j)) ∧ Hid (j = q ∨ 1 ≤ d) ∧ wr = w)
  case atStart => exact ⟨q, 0, rfl, rfl, Nat.le_refl _, by omega, by omega, HD, .inl rfl, rfl⟩
  case round =>
    obtain ⟨j, d, rfl, rfl, hqj, hj, hd, HE, HQ, hw⟩ := hrel
    subst wr
    by_cases hjp : j < p.length
    · obtain ⟨b, f, k, n, v, wt, l, ca, cc, ha, hpj, g0, g1, g2, g3, g4, hcc, hat, hbl, hdr⟩ := HA.out.get j hjp
      have eb : b0 = b ∧ f0 = f := by cases ha; exact ⟨rfl, rfl⟩
      obtain ⟨rfl, rfl⟩ := eb
      have c1 : (j : Int) < (p.length : Int) := by omega
      have c2 : (0 : Int) ≤ (j : Int) := by omega
      have HE2 : Hid (matchD p q = if k = 8 then rfwd (d + 1) (j + 1) (p.drop (j + 1)) else if k = 9 then (if d - 1 = 0 then (j : Int) else rfwd (d - 1) (j + 1) (p.drop (j + 1))) else rfwd d (j + 1) (p.drop (j + 1))) := by show _ = _; rw [HE.out, hdr, rfwd]
      have hne : j = q → k = 8 := fun e => by
        subst e
        have := y0.symm.trans g0
        simp at this
        exact this.symm
      obtain ⟨g3', rfl⟩ : ∃ g, gk = g + 1 := ⟨gk - 1, by omega⟩
      have HNE : Hid (j = q → k = 8) := hne
      clear hpj hat hdr HE hne ha
      by_cases k8 : k = 8
      · subst k8
        have HZ : Hid (matchD p q = rfwd (d + 1) (j + 1) (p.drop (j + 1))) := by show _ = _; rw [HE2.out, if_pos rfl]
        clear HE2
        go_wp2_with fail
        go_roundg g3'
        case rel => exact ⟨j + 1, d + 1, by go_num, by go_num, by omega, by omega, by omega, HZ, .inr (by omega), rfl⟩
        case measure => omega
      · have hd1 : 1 ≤ d := by
          rcases HQ.out with h | h
          · exact absurd (HNE.out h) k8
          · exact h
        by_cases k9 : k = 9
        · subst k9
          by_cases h0 : d - 1 = 0
          · have HZ : Hid (matchD p q = (j : Int)) := by show _ = _; rw [HE2.out, if_neg (by omega), if_pos rfl, if_pos h0]
            clear HE2
            obtain rfl : d = 1 := by omega
            go_wp2_with fail
            go_ret
            rw [HZ.out]
            exact ⟨rfl, rfl⟩
          · have HZ : Hid (matchD p q = rfwd (d - 1) (j + 1) (p.drop (j + 1))) := by show _ = _; rw [HE2.out, if_neg (by omega), if_pos rfl, if_neg h0]
            have h0' : ((d - 1) == 0) = false := by simpa using h0
            clear HE2
            go_wp2_with fail
            go_roundg g3'
            case rel => exact ⟨j + 1, d - 1, by go_num, by go_num, by omega, by omega, by omega, HZ, .inr (by omega), rfl⟩
            case measure => omega
        · have HZ : Hid (matchD p q = rfwd d (j + 1) (p.drop (j + 1))) := by show _ = _; rw [HE2.out, if_neg k8, if_neg k9]
          clear HE2
          go_wp2_with fail
          go_roundg g3'
          case rel => exact ⟨j + 1, d, by go_num, by go_num, by omega, by omega, by omega, HZ, .inr hd1, rfl⟩
          case measure => omega
    · have c1 : ¬ (j : Int) < (p.length : Int) := by omega
      have HZ : Hid (matchD p q = -1) := by show _ = _; rw [HE.out, List.drop_eq_nil_of_le (by omega)]; rfl
      go_wp2_with fail
      go_ret
      rw [HZ.out]
      exact ⟨rfl, rfl⟩
end Go.Proofs.YtlkbphogpbcjfaaGreatDoor
