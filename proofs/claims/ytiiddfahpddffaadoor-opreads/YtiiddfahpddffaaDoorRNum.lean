/- The reference's Number, by its contract. -/
import Derived.Test.YtiiddfahpddffaaDoorNum
namespace Go.Proofs.YtiiddfahpddffaaDoor
open Go.RowKit

/-- Beyond what a number may be. -/
def big : Nat := 9223372036854775808
/-- The number that digits spell. -/
def numD (neg : Bool) (t : List UInt8) : Int × Int :=
  if within 48 57 t then (if neg then (if val 0 t ≤ big then (-(val 0 t : Int), 0) else (0, 14)) else (if val 0 t < big then ((val 0 t : Int), 0) else (0, 14))) else (0, 2)
theorem numD_over {neg : Bool} (t : List UInt8) (h : within 48 57 t = true) (hb : big < val 0 t) : numD neg t = (0, 14) := by
  unfold numD
  rw [if_pos h]
  cases neg
  · rw [if_neg (by decide), if_neg (by omega)]
  · rw [if_pos rfl, if_neg (by omega)]
theorem numD_neg {t : List UInt8} (h : within 48 57 t = true) (hb : val 0 t ≤ big) : numD true t = (-(val 0 t : Int), 0) := by
  unfold numD
  rw [if_pos h, if_pos rfl, if_pos hb]
theorem numD_most {t : List UInt8} (h : within 48 57 t = true) (hb : val 0 t = big) : numD false t = (0, 14) := by
  unfold numD
  rw [if_pos h, if_neg (by decide), if_neg (by omega)]
theorem numD_pos {t : List UInt8} (h : within 48 57 t = true) (hb : val 0 t < big) : numD false t = ((val 0 t : Int), 0) := by
  unfold numD
  rw [if_pos h, if_neg (by decide), if_pos hb]
theorem cond_yes (v d : Nat) (hd : d ≤ 9) (h : big < 10 * v + d) : decide (-(v : Int) < (-9223372036854775808 + (d : Int)).tdiv 10) = true := by
  unfold big at h
  apply decide_eq_true
  have : (-9223372036854775808 + (d : Int)) = -((9223372036854775808 - d : Nat) : Int) := by omega
  rw [this, Int.neg_tdiv, Int.tdiv_eq_ediv_of_nonneg (by omega)]
  omega
theorem cond_no (v d : Nat) (hd : d ≤ 9) (h : ¬ big < 10 * v + d) : decide (-(v : Int) < (-9223372036854775808 + (d : Int)).tdiv 10) = false := by
  unfold big at h
  apply decide_eq_false
  have : (-9223372036854775808 + (d : Int)) = -((9223372036854775808 - d : Nat) : Int) := by omega
  rw [this, Int.neg_tdiv, Int.tdiv_eq_ediv_of_nonneg (by omega)]
  omega
theorem step_wrap (v d : Nat) (h : ¬ big < 10 * v + d) : wrap64 (wrap64 (10 * -(v : Int)) - (d : Int)) = -((10 * v + d : Nat) : Int) := by
  unfold big at h
  rw [show wrap64 (10 * -(v : Int)) = 10 * -(v : Int) from by rw [wrap64]; omega, wrap64]
  omega
theorem not_most {v : Nat} (h : ¬ v = big) : (-(v : Int) == -9223372036854775808) = false := by
  unfold big at h
  rw [beq_eq_false_iff_ne]
  omega
theorem wrap_small (v : Nat) (h : v < big) : wrap64 (v : Int) = (v : Int) := by
  unfold big at h
  rw [wrap64]
  omega
theorem num_pos {l : List UInt8} {c : UInt8} {r : List UInt8} (e : l = c :: r) (h45 : c ≠ 45) (h48 : c ≠ 48 ∨ r = []) : numOf l = numD false l := by
  subst e
  have hi : isNeg (c :: r) = false := by simp [isNeg, h45]
  have hdg : digs (c :: r) = c :: r := by simp [digs, hi]
  have hf : decForm (c :: r) = within 48 57 (c :: r) := by
    unfold decForm
    rw [hdg, hi]
    by_cases h : c = 48
    · have hr : r = [] := by rcases h48 with h4 | h4; exact absurd h h4; exact h4
      subst h; subst hr; decide
    · rw [if_neg (by simp [h])]
  unfold numOf numD
  rw [hf, hi, hdg]
  rfl
theorem num_neg {l : List UInt8} {c : UInt8} {r : List UInt8} (e : l = 45 :: c :: r) (h48 : c ≠ 48) : numOf l = numD true (c :: r) := by
  subst e
  have hi : isNeg (45 :: c :: r) = true := rfl
  have hdg : digs (45 :: c :: r) = c :: r := by simp [digs, hi]
  have hf : decForm (45 :: c :: r) = within 48 57 (c :: r) := by
    unfold decForm
    rw [hdg, hi, if_neg (by simp [h48])]
  unfold numOf numD
  rw [hf, hi, hdg]
  rfl
theorem toNat_ne {c : UInt8} {d : UInt8} (h : c ≠ d) : ((c.toNat : Int) == (d.toNat : Int)) = false := by
  rw [beq_eq_false_iff_ne]
  intro e
  exact h (UInt8.toNat_inj.1 (by omega))

set_option maxHeartbeats 2000000 in
theorem rnumber_pos (l : List UInt8) (hl : l.length ≤ 100000) (w : World) (c0 : UInt8) (hc0 : ∀ h, (B l)[0]'h = c0) (h45 : ((c0.toNat : Int) == 45) = false) (h48 : ((c0.toNat : Int) == 48) = false) (hpos : 0 < l.length) (h1 : (B l).toList.isEmpty = false) (hn : numOf l = numD false l) :
    Calls Tryd.prog 40 #[.string (B l)] w fun e w' => e = .returned (.tuple #[.int .i64 (numOf l).1, .int .i64 (numOf l).2]) ∧ w' = w := by
  have HN : Hid (numOf l = numD false l) := hn
  clear hn
  have hsz := B_size l
  have g1 : decide (0 < (l.length : Int)) = true := decide_eq_true (by omega)
  have g2 : (0 : Int) < (l.length : Int) := by omega
  go_enter Tryd.func40, Tryd.ntmps40
  go_wp2_with fail
  clear h45 h48 hc0 h1 g1 g2
  go_loopw [6] (fun i wr => ∃ k : Nat, i = .int .i64 k ∧ k ≤ l.length ∧ Hid (∀ j c, j < k → l[j]? = some c → 48 ≤ c.toNat ∧ c.toNat ≤ 57) ∧ wr = w) (fun i _ => l.length - (intOf i).toNat)
  case atStart => exact ⟨0, rfl, by omega, fun j c hj => by omega, rfl⟩
  case round =>
    obtain ⟨k, rfl, hk, HA, hw⟩ := hrel
    subst wr
    by_cases hkl : k < l.length
    · have b1 : (k : Int) < (l.length : Int) := by omega
      have b2 : (0 : Int) ≤ (k : Int) := by omega
      obtain ⟨c, e1, e2, _, _⟩ := byte_get (B l) k (by rw [B_size]; exact hkl)
      rw [B_list] at e2
      have HG : Hid (l[k]? = some c) := e2
      clear e2
      by_cases h1 : c.toNat < 48
      · have t1 : decide ((c.toNat : Int) < 48) = true := decide_eq_true (by omega)
        have HW : Hid (numOf l = (0, 2)) := by show _ = _; rw [HN.out, numD, if_neg (by rw [within_false HG.out (.inl h1)]; decide)]
        clear h1
        go_wp2_with fail
        go_ret2
        rw [HW.out]
        exact ⟨rfl, rfl⟩
      · have t1 : decide ((c.toNat : Int) < 48) = false := decide_eq_false (by omega)
        by_cases h2 : 57 < c.toNat
        · have t2 : decide (57 < (c.toNat : Int)) = true := decide_eq_true (by omega)
          have HW : Hid (numOf l = (0, 2)) := by show _ = _; rw [HN.out, numD, if_neg (by rw [within_false HG.out (.inr h2)]; decide)]
          clear h1 h2
          go_wp2_with fail
          go_ret2
          rw [HW.out]
          exact ⟨rfl, rfl⟩
        · have t2 : decide (57 < (c.toNat : Int)) = false := decide_eq_false (by omega)
          go_wp2_with fail
          go_roundw
          case rel =>
            refine ⟨k + 1, by go_num, by omega, ?_, (by first | rfl | trivial)⟩
            intro j d hj hd
            by_cases hjk : j = k
            · rw [hjk, HG.out] at hd
              cases hd
              omega
            · exact HA.out j d (by omega) hd
          case measure => simp [intOf]; omega
    · have b1 : ¬ (k : Int) < (l.length : Int) := by omega
      have hkk : k = l.length := by omega
      have HW : Hid (within 48 57 l = true) := by
        show _ = _
        rw [within_all (fun j c hj hc => HA.out j c (by rw [hkk]; exact hj) hc)]
        rw [isEmpty_no (fun e => by rw [e] at hpos; simp at hpos)]
        rfl
      have HD : Hid (∀ j c, j < l.length → l[j]? = some c → 48 ≤ c.toNat ∧ c.toNat ≤ 57) := fun j c hj hc => HA.out j c (by omega) hc
      clear hkk HA
      go_wp2_with fail
      clear b1 hkl hk
      go_loopw [7, 8] (fun n i wr => ∃ k v : Nat, i = .int .i64 k ∧ n = .int .i64 (-(v : Int)) ∧ k ≤ l.length ∧ Hid (v = val 0 (l.take k) ∧ v ≤ big) ∧ wr = w) (fun _ i _ => l.length - (intOf i).toNat)
      case atStart => exact ⟨0, 0, rfl, rfl, by omega, ⟨rfl, Nat.zero_le _⟩, rfl⟩
      case round =>
        obtain ⟨k, v, rfl, rfl, hk, HV, hw⟩ := hrel
        subst wr
        by_cases hkl : k < l.length
        · have b2 : (k : Int) < (l.length : Int) := by omega
          have b3 : (0 : Int) ≤ (k : Int) := by omega
          obtain ⟨c, e1, e2, _, e4⟩ := byte_get (B l) k (by rw [B_size]; exact hkl)
          rw [B_list] at e2 e4
          have hdg := HD.out k c hkl e2
          obtain ⟨d, hd⟩ : ∃ d : Nat, ((c.toNat : Int) - 48) % 256 = (d : Int) := ⟨c.toNat - 48, by omega⟩
          have hd9 : d ≤ 9 := by omega
          have HV2 : Hid (10 * v + d = val 0 (l.take (k + 1))) := by
            show _ = _
            rw [e4, val_append, val_one, ← HV.out.1]
            omega
          have HV3 : Hid (val 0 (l.take (k + 1)) ≤ val 0 l) := by
            show _ ≤ _
            conv => rhs; rw [← List.take_append_drop (k + 1) l, val_append]
            exact val_le _ _
          clear e2 e4 hdg
          by_cases hb : big < 10 * v + d
          · have t1 : decide (-(v : Int) < (-9223372036854775808 + (d : Int)).tdiv 10) = true := cond_yes v d hd9 hb
            have HW2 : Hid (numOf l = (0, 14)) := by
              show _ = _
              rw [HN.out]
              exact numD_over _ HW.out (by have := HV2.out; have := HV3.out; omega)
            clear hb
            go_wp2_with fail
            go_ret2
            rw [HW2.out]
            exact ⟨rfl, rfl⟩
          · have t1 : decide (-(v : Int) < (-9223372036854775808 + (d : Int)).tdiv 10) = false := cond_no v d hd9 hb
            obtain ⟨m, hm⟩ : ∃ m : Int, wrap64 (10 * -(v : Int)) = m := ⟨_, rfl⟩
            have hm2 : wrap64 (m - (d : Int)) = -((10 * v + d : Nat) : Int) := by rw [← hm]; exact step_wrap v d hb
            have HB : Hid (10 * v + d ≤ big) := by show _ ≤ _; omega
            clear hb
            go_wp2_with fail
            go_roundw
            case rel =>
              refine ⟨k + 1, 10 * v + d, by go_num, (by first | rfl | rw [hm2]), by omega, ⟨HV2.out, HB.out⟩, (by first | rfl | trivial)⟩
            case measure => simp [intOf]; omega
        · have b2 : ¬ (k : Int) < (l.length : Int) := by omega
          have HV4 : Hid (v = val 0 l) := by
            show _ = _
            have h3 : k = l.length := by omega
            have := HV.out.1
            rw [h3, List.take_length] at this
            exact this
          by_cases hv : v = big
          · have t1 : (-(v : Int) == -9223372036854775808) = true := by rw [hv]; rfl
            have HW2 : Hid (numOf l = (0, 14)) := by
              show _ = _
              rw [HN.out]
              exact numD_most HW.out (by rw [← HV4.out]; exact hv)
            clear hv
            go_wp2_with fail
            go_ret2
            rw [HW2.out]
            exact ⟨rfl, rfl⟩
          · have hv2 : v < big := by have := HV.out.2; omega
            have t1 : (-(v : Int) == -9223372036854775808) = false := not_most hv
            have hm2 : wrap64 (v : Int) = (v : Int) := wrap_small v hv2
            have HW2 : Hid (numOf l = ((v : Int), 0)) := by
              show _ = _
              rw [HN.out, HV4.out]
              exact numD_pos HW.out (by rw [← HV4.out]; exact hv2)
            clear hv hv2
            go_wp2_with fail
            go_ret2
            rw [HW2.out]
            exact ⟨rfl, rfl⟩

set_option maxHeartbeats 2000000 in
theorem rnumber_zero (l : List UInt8) (w : World) (e0 : l = [48]) :
    Calls Tryd.prog 40 #[.string (B l)] w fun e w' => e = .returned (.tuple #[.int .i64 (numOf l).1, .int .i64 (numOf l).2]) ∧ w' = w := by
  have HN : Hid (numOf l = numD false l) := num_pos e0 (by decide) (.inr rfl)
  have hsz := B_size l
  have hln : l.length = 1 := by rw [e0]; rfl
  have hl : l.length ≤ 100000 := by omega
  have hpos : 0 < l.length := by omega
  have hc0 : ∀ h, (B l)[0]'h = 48 := by subst e0; intro h; rfl
  have h1 : (B l).toList.isEmpty = false := by subst e0; rw [B_empty]; rfl
  have g1 : decide (0 < (l.length : Int)) = true := decide_eq_true (by omega)
  have g2 : (0 : Int) < (l.length : Int) := by omega
  have g3 : decide (1 < (l.length : Int)) = false := decide_eq_false (by omega)
  clear e0 hln
  go_enter Tryd.func40, Tryd.ntmps40
  go_wp2_with fail
  clear hc0 h1 g1 g2 g3
  go_loopw [6] (fun i wr => ∃ k : Nat, i = .int .i64 k ∧ k ≤ l.length ∧ Hid (∀ j c, j < k → l[j]? = some c → 48 ≤ c.toNat ∧ c.toNat ≤ 57) ∧ wr = w) (fun i _ => l.length - (intOf i).toNat)
  case atStart => exact ⟨0, rfl, by omega, fun j c hj => by omega, rfl⟩
  case round =>
    obtain ⟨k, rfl, hk, HA, hw⟩ := hrel
    subst wr
    by_cases hkl : k < l.length
    · have b1 : (k : Int) < (l.length : Int) := by omega
      have b2 : (0 : Int) ≤ (k : Int) := by omega
      obtain ⟨c, e1, e2, _, _⟩ := byte_get (B l) k (by rw [B_size]; exact hkl)
      rw [B_list] at e2
      have HG : Hid (l[k]? = some c) := e2
      clear e2
      by_cases h1 : c.toNat < 48
      · have t1 : decide ((c.toNat : Int) < 48) = true := decide_eq_true (by omega)
        have HW : Hid (numOf l = (0, 2)) := by show _ = _; rw [HN.out, numD, if_neg (by rw [within_false HG.out (.inl h1)]; decide)]
        clear h1
        go_wp2_with fail
        go_ret2
        rw [HW.out]
        exact ⟨rfl, rfl⟩
      · have t1 : decide ((c.toNat : Int) < 48) = false := decide_eq_false (by omega)
        by_cases h2 : 57 < c.toNat
        · have t2 : decide (57 < (c.toNat : Int)) = true := decide_eq_true (by omega)
          have HW : Hid (numOf l = (0, 2)) := by show _ = _; rw [HN.out, numD, if_neg (by rw [within_false HG.out (.inr h2)]; decide)]
          clear h1 h2
          go_wp2_with fail
          go_ret2
          rw [HW.out]
          exact ⟨rfl, rfl⟩
        · have t2 : decide (57 < (c.toNat : Int)) = false := decide_eq_false (by omega)
          go_wp2_with fail
          go_roundw
          case rel =>
            refine ⟨k + 1, by go_num, by omega, ?_, (by first | rfl | trivial)⟩
            intro j d hj hd
            by_cases hjk : j = k
            · rw [hjk, HG.out] at hd
              cases hd
              omega
            · exact HA.out j d (by omega) hd
          case measure => simp [intOf]; omega
    · have b1 : ¬ (k : Int) < (l.length : Int) := by omega
      have hkk : k = l.length := by omega
      have HW : Hid (within 48 57 l = true) := by
        show _ = _
        rw [within_all (fun j c hj hc => HA.out j c (by rw [hkk]; exact hj) hc)]
        rw [isEmpty_no (fun e => by rw [e] at hpos; simp at hpos)]
        rfl
      have HD : Hid (∀ j c, j < l.length → l[j]? = some c → 48 ≤ c.toNat ∧ c.toNat ≤ 57) := fun j c hj hc => HA.out j c (by omega) hc
      clear hkk HA
      go_wp2_with fail
      clear b1 hkl hk
      go_loopw [7, 8] (fun n i wr => ∃ k v : Nat, i = .int .i64 k ∧ n = .int .i64 (-(v : Int)) ∧ k ≤ l.length ∧ Hid (v = val 0 (l.take k) ∧ v ≤ big) ∧ wr = w) (fun _ i _ => l.length - (intOf i).toNat)
      case atStart => exact ⟨0, 0, rfl, rfl, by omega, ⟨rfl, Nat.zero_le _⟩, rfl⟩
      case round =>
        obtain ⟨k, v, rfl, rfl, hk, HV, hw⟩ := hrel
        subst wr
        by_cases hkl : k < l.length
        · have b2 : (k : Int) < (l.length : Int) := by omega
          have b3 : (0 : Int) ≤ (k : Int) := by omega
          obtain ⟨c, e1, e2, _, e4⟩ := byte_get (B l) k (by rw [B_size]; exact hkl)
          rw [B_list] at e2 e4
          have hdg := HD.out k c hkl e2
          obtain ⟨d, hd⟩ : ∃ d : Nat, ((c.toNat : Int) - 48) % 256 = (d : Int) := ⟨c.toNat - 48, by omega⟩
          have hd9 : d ≤ 9 := by omega
          have HV2 : Hid (10 * v + d = val 0 (l.take (k + 1))) := by
            show _ = _
            rw [e4, val_append, val_one, ← HV.out.1]
            omega
          have HV3 : Hid (val 0 (l.take (k + 1)) ≤ val 0 l) := by
            show _ ≤ _
            conv => rhs; rw [← List.take_append_drop (k + 1) l, val_append]
            exact val_le _ _
          clear e2 e4 hdg
          by_cases hb : big < 10 * v + d
          · have t1 : decide (-(v : Int) < (-9223372036854775808 + (d : Int)).tdiv 10) = true := cond_yes v d hd9 hb
            have HW2 : Hid (numOf l = (0, 14)) := by
              show _ = _
              rw [HN.out]
              exact numD_over _ HW.out (by have := HV2.out; have := HV3.out; omega)
            clear hb
            go_wp2_with fail
            go_ret2
            rw [HW2.out]
            exact ⟨rfl, rfl⟩
          · have t1 : decide (-(v : Int) < (-9223372036854775808 + (d : Int)).tdiv 10) = false := cond_no v d hd9 hb
            obtain ⟨m, hm⟩ : ∃ m : Int, wrap64 (10 * -(v : Int)) = m := ⟨_, rfl⟩
            have hm2 : wrap64 (m - (d : Int)) = -((10 * v + d : Nat) : Int) := by rw [← hm]; exact step_wrap v d hb
            have HB : Hid (10 * v + d ≤ big) := by show _ ≤ _; omega
            clear hb
            go_wp2_with fail
            go_roundw
            case rel =>
              refine ⟨k + 1, 10 * v + d, by go_num, (by first | rfl | rw [hm2]), by omega, ⟨HV2.out, HB.out⟩, (by first | rfl | trivial)⟩
            case measure => simp [intOf]; omega
        · have b2 : ¬ (k : Int) < (l.length : Int) := by omega
          have HV4 : Hid (v = val 0 l) := by
            show _ = _
            have h3 : k = l.length := by omega
            have := HV.out.1
            rw [h3, List.take_length] at this
            exact this
          by_cases hv : v = big
          · have t1 : (-(v : Int) == -9223372036854775808) = true := by rw [hv]; rfl
            have HW2 : Hid (numOf l = (0, 14)) := by
              show _ = _
              rw [HN.out]
              exact numD_most HW.out (by rw [← HV4.out]; exact hv)
            clear hv
            go_wp2_with fail
            go_ret2
            rw [HW2.out]
            exact ⟨rfl, rfl⟩
          · have hv2 : v < big := by have := HV.out.2; omega
            have t1 : (-(v : Int) == -9223372036854775808) = false := not_most hv
            have hm2 : wrap64 (v : Int) = (v : Int) := wrap_small v hv2
            have HW2 : Hid (numOf l = ((v : Int), 0)) := by
              show _ = _
              rw [HN.out, HV4.out]
              exact numD_pos HW.out (by rw [← HV4.out]; exact hv2)
            clear hv hv2
            go_wp2_with fail
            go_ret2
            rw [HW2.out]
            exact ⟨rfl, rfl⟩

set_option maxHeartbeats 2000000 in
theorem rnumber_neg (l t : List UInt8) (hl : l.length ≤ 100000) (w : World) (e0 : l = 45 :: t) (c0 : UInt8) (hc0 : ∀ h, (B t)[0]'h = c0) (h48 : ((c0.toNat : Int) == 48) = false) (hpos : 0 < t.length) (h1 : (B t).toList.isEmpty = false) (hn : numOf l = numD true t) :
    Calls Tryd.prog 40 #[.string (B l)] w fun e w' => e = .returned (.tuple #[.int .i64 (numOf l).1, .int .i64 (numOf l).2]) ∧ w' = w := by
  have HN : Hid (numOf l = numD true t) := hn
  clear hn
  have hsz := B_size l
  have htz := B_size t
  have hln : t.length + 1 = l.length := by rw [e0]; rfl
  have g1 : decide (0 < (l.length : Int)) = true := decide_eq_true (by omega)
  have g2 : (0 : Int) < (l.length : Int) := by omega
  have g3 : (0 : Int) < (t.length : Int) := by omega
  have g4 : (1 : Int) ≤ (l.length : Int) := by omega
  have hcl : ∀ h, (B l)[0]'h = 45 := by subst e0; intro h; rfl
  have hex : (B l).extract 1 l.length = B t := by
    rw [B_extract, e0]
    simp
  clear e0
  go_enter Tryd.func40, Tryd.ntmps40
  go_wp2_with fail
  clear h48 hc0 h1 g1 g2 g3 g4 hcl hex
  go_loopw [6] (fun i wr => ∃ k : Nat, i = .int .i64 k ∧ k ≤ t.length ∧ Hid (∀ j c, j < k → t[j]? = some c → 48 ≤ c.toNat ∧ c.toNat ≤ 57) ∧ wr = w) (fun i _ => t.length - (intOf i).toNat)
  case atStart => exact ⟨0, rfl, by omega, fun j c hj => by omega, rfl⟩
  case round =>
    obtain ⟨k, rfl, hk, HA, hw⟩ := hrel
    subst wr
    by_cases hkl : k < t.length
    · have b1 : (k : Int) < (t.length : Int) := by omega
      have b2 : (0 : Int) ≤ (k : Int) := by omega
      obtain ⟨c, e1, e2, _, _⟩ := byte_get (B t) k (by rw [B_size]; exact hkl)
      rw [B_list] at e2
      have HG : Hid (t[k]? = some c) := e2
      clear e2
      by_cases h1 : c.toNat < 48
      · have t1 : decide ((c.toNat : Int) < 48) = true := decide_eq_true (by omega)
        have HW : Hid (numOf l = (0, 2)) := by show _ = _; rw [HN.out, numD, if_neg (by rw [within_false HG.out (.inl h1)]; decide)]
        clear h1
        go_wp2_with fail
        go_ret2
        rw [HW.out]
        exact ⟨rfl, rfl⟩
      · have t1 : decide ((c.toNat : Int) < 48) = false := decide_eq_false (by omega)
        by_cases h2 : 57 < c.toNat
        · have t2 : decide (57 < (c.toNat : Int)) = true := decide_eq_true (by omega)
          have HW : Hid (numOf l = (0, 2)) := by show _ = _; rw [HN.out, numD, if_neg (by rw [within_false HG.out (.inr h2)]; decide)]
          clear h1 h2
          go_wp2_with fail
          go_ret2
          rw [HW.out]
          exact ⟨rfl, rfl⟩
        · have t2 : decide (57 < (c.toNat : Int)) = false := decide_eq_false (by omega)
          go_wp2_with fail
          go_roundw
          case rel =>
            refine ⟨k + 1, by go_num, by omega, ?_, (by first | rfl | trivial)⟩
            intro j d hj hd
            by_cases hjk : j = k
            · rw [hjk, HG.out] at hd
              cases hd
              omega
            · exact HA.out j d (by omega) hd
          case measure => simp [intOf]; omega
    · have b1 : ¬ (k : Int) < (t.length : Int) := by omega
      have hkk : k = t.length := by omega
      have HW : Hid (within 48 57 t = true) := by
        show _ = _
        rw [within_all (fun j c hj hc => HA.out j c (by rw [hkk]; exact hj) hc)]
        rw [isEmpty_no (fun e => by rw [e] at hpos; simp at hpos)]
        rfl
      have HD : Hid (∀ j c, j < t.length → t[j]? = some c → 48 ≤ c.toNat ∧ c.toNat ≤ 57) := fun j c hj hc => HA.out j c (by omega) hc
      clear hkk HA
      go_wp2_with fail
      clear b1 hkl hk
      go_loopw [7, 8] (fun n i wr => ∃ k v : Nat, i = .int .i64 k ∧ n = .int .i64 (-(v : Int)) ∧ k ≤ t.length ∧ Hid (v = val 0 (t.take k) ∧ v ≤ big) ∧ wr = w) (fun _ i _ => t.length - (intOf i).toNat)
      case atStart => exact ⟨0, 0, rfl, rfl, by omega, ⟨rfl, Nat.zero_le _⟩, rfl⟩
      case round =>
        obtain ⟨k, v, rfl, rfl, hk, HV, hw⟩ := hrel
        subst wr
        by_cases hkl : k < t.length
        · have b2 : (k : Int) < (t.length : Int) := by omega
          have b3 : (0 : Int) ≤ (k : Int) := by omega
          obtain ⟨c, e1, e2, _, e4⟩ := byte_get (B t) k (by rw [B_size]; exact hkl)
          rw [B_list] at e2 e4
          have hdg := HD.out k c hkl e2
          obtain ⟨d, hd⟩ : ∃ d : Nat, ((c.toNat : Int) - 48) % 256 = (d : Int) := ⟨c.toNat - 48, by omega⟩
          have hd9 : d ≤ 9 := by omega
          have HV2 : Hid (10 * v + d = val 0 (t.take (k + 1))) := by
            show _ = _
            rw [e4, val_append, val_one, ← HV.out.1]
            omega
          have HV3 : Hid (val 0 (t.take (k + 1)) ≤ val 0 t) := by
            show _ ≤ _
            conv => rhs; rw [← List.take_append_drop (k + 1) t, val_append]
            exact val_le _ _
          clear e2 e4 hdg
          by_cases hb : big < 10 * v + d
          · have t1 : decide (-(v : Int) < (-9223372036854775808 + (d : Int)).tdiv 10) = true := cond_yes v d hd9 hb
            have HW2 : Hid (numOf l = (0, 14)) := by
              show _ = _
              rw [HN.out]
              exact numD_over _ HW.out (by have := HV2.out; have := HV3.out; omega)
            clear hb
            go_wp2_with fail
            go_ret2
            rw [HW2.out]
            exact ⟨rfl, rfl⟩
          · have t1 : decide (-(v : Int) < (-9223372036854775808 + (d : Int)).tdiv 10) = false := cond_no v d hd9 hb
            obtain ⟨m, hm⟩ : ∃ m : Int, wrap64 (10 * -(v : Int)) = m := ⟨_, rfl⟩
            have hm2 : wrap64 (m - (d : Int)) = -((10 * v + d : Nat) : Int) := by rw [← hm]; exact step_wrap v d hb
            have HB : Hid (10 * v + d ≤ big) := by show _ ≤ _; omega
            clear hb
            go_wp2_with fail
            go_roundw
            case rel =>
              refine ⟨k + 1, 10 * v + d, by go_num, (by first | rfl | rw [hm2]), by omega, ⟨HV2.out, HB.out⟩, (by first | rfl | trivial)⟩
            case measure => simp [intOf]; omega
        · have b2 : ¬ (k : Int) < (t.length : Int) := by omega
          have HV4 : Hid (v = val 0 t) := by
            show _ = _
            have h3 : k = t.length := by omega
            have := HV.out.1
            rw [h3, List.take_length] at this
            exact this
          have HW2 : Hid (numOf l = (-(v : Int), 0)) := by
            show _ = _
            rw [HN.out, HV4.out]
            exact numD_neg HW.out (by rw [← HV4.out]; exact HV.out.2)
          go_wp2_with fail
          go_ret2
          rw [HW2.out]
          exact ⟨rfl, rfl⟩

theorem rnumber_none (l : List UInt8) (w : World) (e0 : l = []) :
    Calls Tryd.prog 40 #[.string (B l)] w fun e w' => e = .returned (.tuple #[.int .i64 (numOf l).1, .int .i64 (numOf l).2]) ∧ w' = w := by
  have HN : Hid (numOf l = (0, 2)) := by subst e0; rfl
  have hsz : (B l).size = 0 := by rw [B_size, e0]; rfl
  have h1 : (B l).toList.isEmpty = true := by subst e0; rw [B_empty]; rfl
  clear e0
  go_enter Tryd.func40, Tryd.ntmps40
  go_wp2_with fail
  go_ret2
  rw [HN.out]
  exact ⟨rfl, rfl⟩
theorem rnumber_minus (l t : List UInt8) (hl : l.length ≤ 100000) (w : World) (e0 : l = 45 :: t) (ht : t = []) :
    Calls Tryd.prog 40 #[.string (B l)] w fun e w' => e = .returned (.tuple #[.int .i64 (numOf l).1, .int .i64 (numOf l).2]) ∧ w' = w := by
  have HN : Hid (numOf l = (0, 2)) := by subst ht; subst e0; rfl
  have hsz := B_size l
  have hln : t.length + 1 = l.length := by rw [e0]; rfl
  have g1 : decide (0 < (l.length : Int)) = true := decide_eq_true (by omega)
  have g2 : (0 : Int) < (l.length : Int) := by omega
  have g4 : (1 : Int) ≤ (l.length : Int) := by omega
  have h1 : (B t).toList.isEmpty = true := by rw [B_empty, ht]; rfl
  have hcl : ∀ h, (B l)[0]'h = 45 := by subst e0; intro h; rfl
  have hex : (B l).extract 1 l.length = B t := by
    rw [B_extract, e0]
    simp
  clear e0 ht
  go_enter Tryd.func40, Tryd.ntmps40
  go_wp2_with fail
  go_ret2
  rw [HN.out]
  exact ⟨rfl, rfl⟩
theorem rnumber_mzero (l t r : List UInt8) (hl : l.length ≤ 100000) (w : World) (e0 : l = 45 :: t) (ht : t = 48 :: r) :
    Calls Tryd.prog 40 #[.string (B l)] w fun e w' => e = .returned (.tuple #[.int .i64 (numOf l).1, .int .i64 (numOf l).2]) ∧ w' = w := by
  have HN : Hid (numOf l = (0, 2)) := by
    subst ht; subst e0
    show numOf _ = _
    have hi : isNeg (45 :: 48 :: r) = true := rfl
    have hdg : digs (45 :: 48 :: r) = 48 :: r := by simp [digs, hi]
    have hf : decForm (45 :: 48 :: r) = false := by
      unfold decForm
      rw [hdg, hi, if_pos (by rfl)]; simp
    unfold numOf
    rw [hf, if_neg (by decide)]
  have hsz := B_size l
  have htz := B_size t
  have hln : t.length + 1 = l.length := by rw [e0]; rfl
  have hpos : 0 < t.length := by rw [ht]; simp
  have g1 : decide (0 < (l.length : Int)) = true := decide_eq_true (by omega)
  have g2 : (0 : Int) < (l.length : Int) := by omega
  have g3 : (0 : Int) < (t.length : Int) := by omega
  have g4 : (1 : Int) ≤ (l.length : Int) := by omega
  have h1 : (B t).toList.isEmpty = false := by rw [B_empty, ht]; rfl
  have hcl : ∀ h, (B l)[0]'h = 45 := by subst e0; intro h; rfl
  have hct : ∀ h, (B t)[0]'h = 48 := by subst ht; intro h; rfl
  have hex : (B l).extract 1 l.length = B t := by
    rw [B_extract, e0]
    simp
  clear e0 ht
  by_cases g5 : 1 < t.length
  · have g6 : decide (1 < (t.length : Int)) = true := decide_eq_true (by omega)
    go_enter Tryd.func40, Tryd.ntmps40
    go_wp2_with fail
    go_ret2
    rw [HN.out]
    exact ⟨rfl, rfl⟩
  · have g6 : decide (1 < (t.length : Int)) = false := decide_eq_false (by omega)
    go_enter Tryd.func40, Tryd.ntmps40
    go_wp2_with fail
    go_ret2
    rw [HN.out]
    exact ⟨rfl, rfl⟩
theorem rnumber_noughts (l r : List UInt8) (w : World) (e0 : l = 48 :: r) (hr : r ≠ []) :
    Calls Tryd.prog 40 #[.string (B l)] w fun e w' => e = .returned (.tuple #[.int .i64 (numOf l).1, .int .i64 (numOf l).2]) ∧ w' = w := by
  have HN : Hid (numOf l = (0, 2)) := by
    subst e0
    show numOf _ = _
    have hi : isNeg (48 :: r) = false := rfl
    have hdg : digs (48 :: r) = 48 :: r := by simp [digs, hi]
    have hf : decForm (48 :: r) = false := by
      unfold decForm
      rw [hdg, hi, if_pos (by rfl)]; simp [hr]
    unfold numOf
    rw [hf, if_neg (by decide)]
  have hsz := B_size l
  have hln : r.length + 1 = l.length := by rw [e0]; rfl
  have hpos : 0 < r.length := List.length_pos_iff.2 hr
  have g1 : decide (0 < (l.length : Int)) = true := decide_eq_true (by omega)
  have g2 : (0 : Int) < (l.length : Int) := by omega
  have g6 : decide (1 < (l.length : Int)) = true := decide_eq_true (by omega)
  have h1 : (B l).toList.isEmpty = false := by rw [B_empty, e0]; rfl
  have hcl : ∀ h, (B l)[0]'h = 48 := by subst e0; intro h; rfl
  clear e0 hr
  go_enter Tryd.func40, Tryd.ntmps40
  go_wp2_with fail
  go_ret2
  rw [HN.out]
  exact ⟨rfl, rfl⟩

theorem rnumber_any (l : List UInt8) (hl : l.length ≤ 100000) (w : World) :
    Calls Tryd.prog 40 #[.string (B l)] w fun e w' => e = .returned (.tuple #[.int .i64 (numOf l).1, .int .i64 (numOf l).2]) ∧ w' = w := by
  rcases l with _ | ⟨c, r⟩
  · exact rnumber_none _ w rfl
  · by_cases h45 : c = 45
    · subst h45
      rcases r with _ | ⟨d, q⟩
      · exact rnumber_minus _ [] hl w rfl rfl
      · by_cases h48 : d = 48
        · subst h48
          exact rnumber_mzero _ _ q hl w rfl rfl
        · exact rnumber_neg _ (d :: q) hl w rfl d (fun h => rfl) (toNat_ne h48) (by simp) (by rw [B_empty]; rfl) (num_neg rfl h48)
    · by_cases h48 : c = 48
      · subst h48
        by_cases hr : r = []
        · subst hr
          exact rnumber_zero _ w rfl
        · exact rnumber_noughts _ r w rfl hr
      · exact rnumber_pos _ hl w c (fun h => rfl) (toNat_ne h45) (toNat_ne h48) (by simp) (by rw [B_empty]; rfl) (num_pos rfl h45 (.inl h48))
end Go.Proofs.YtiiddfahpddffaaDoor
