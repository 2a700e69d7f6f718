/- One round, the reference's. -/
import Derived.Test.YtlkbphogpbcjfaaGreatDoorRtN
namespace Go.Proofs.YtlkbphogpbcjfaaGreatDoor
open Go.RowKit Go.Sort

theorem quo_lt {r p : Int} (h0 : 0 ≤ r) (hp : 1 ≤ p) (h : r % p > 0) : r / p < r := by
  by_cases hpp : p = 1
  · rw [hpp, Int.emod_one] at h; omega
  · have b1 := Int.ediv_nonneg h0 (by omega : 0 ≤ p)
    have h3 := Int.ediv_mul_add_emod r p
    have h4 : r / p * 2 ≤ r / p * p := Int.mul_le_mul_of_nonneg_left (by omega) b1
    omega
set_option maxHeartbeats 8000000 in
theorem rnext_any (a : Option Addr) (c : Nat) (l : List LoadD) (r own : Int) (w : World) (hA : AtL w a l) (hl : l.length ≤ 1000) (hr : r ≤ 9223372036854775807) (ho : own ≤ 9223372036854775807) :
    Calls Tryz.prog 38 #[.int .i64 r, .int .i64 own, .slice a l.length c] w fun e w' => e = .returned (.tuple #[.int .i64 (nextR r own l).1, .int .i64 (nextR r own l).2]) ∧ Kept w w' := by
  have HA : Hid (AtL w a l) := hA
  clear hA
  by_cases h0 : r < 0
  · have HZ : Hid (nextR r own l = (0, 1)) := by show _ = _; unfold nextR; rw [decide_eq_false (by omega)]; rfl
    go_enter Tryz.func38, Tryz.ntmps38
    go_wp2_with fail
    go_ret2
    rw [HZ.out]
    exact ⟨rfl, Kept.refl _⟩
  by_cases h1 : own < 0
  · have HZ : Hid (nextR r own l = (0, 1)) := by show _ = _; unfold nextR; rw [decide_eq_false (show ¬ 0 ≤ own by omega), Bool.and_false]; rfl
    go_enter Tryz.func38, Tryz.ntmps38
    go_wp2_with fail
    go_ret2
    rw [HZ.out]
    exact ⟨rfl, Kept.refl _⟩
  have HN : Hid (nextR r own l = if l.all lokB = true then goR r own l else (0, 1)) := by show _ = _; unfold nextR; rw [decide_eq_true (by omega), decide_eq_true (by omega)]; rfl
  go_enter Tryz.func38, Tryz.ntmps38
  go_wp2_with fail
  go_loopg [8] l.length (fun gk i wr => ∃ (j : Nat) (W : World), W = wr ∧ i = .int .i64 j ∧ j + gk = l.length ∧ Hid (l.all lokB = (l.drop j).all lokB) ∧ Kept w W)
  case atStart => exact ⟨0, _, rfl, rfl, by omega, (by show _ = _; rw [List.drop_zero]), Kept.refl _⟩
  case round =>
    obtain ⟨j, W, hW, rfl, hj, HE, K⟩ := hrel
    subst hW
    by_cases hjn : j < l.length
    · have b1 : (j : Int) < (l.length : Int) := by omega
      have b2 : (0 : Int) ≤ (j : Int) := by omega
      obtain ⟨g, rfl⟩ : ∃ g, gk = g + 1 := ⟨gk - 1, by omega⟩
      obtain ⟨⟨pp, cc⟩, hx⟩ : ∃ x, l[j]? = some x := ⟨_, List.getElem?_eq_getElem hjn⟩
      obtain ⟨b, f, rfl, c0, c1⟩ := (HA.out.kept K) j _ hx
      simp only at c0 c1
      have hd : l.drop j = ⟨pp, cc⟩ :: l.drop (j + 1) := by
        rw [List.drop_eq_getElem_cons hjn, (List.getElem?_eq_some_iff.1 hx).2]
      by_cases h1 : pp < 1
      · have HZ : Hid (nextR r own l = (0, 1)) := by
          show _ = _
          rw [HN.out, HE.out, hd, List.all_cons, show lokB ⟨pp, cc⟩ = false by simp [lokB]; omega, Bool.false_and]
          rfl
        clear hx hd
        go_wp2_with fail
        go_ret2
        rw [HZ.out]
        exact ⟨rfl, K⟩
      · by_cases h2 : cc < 0
        · have HZ : Hid (nextR r own l = (0, 1)) := by
            show _ = _
            rw [HN.out, HE.out, hd, List.all_cons, show lokB ⟨pp, cc⟩ = false by simp [lokB]; omega, Bool.false_and]
            rfl
          clear hx hd
          go_wp2_with fail
          go_ret2
          rw [HZ.out]
          exact ⟨rfl, K⟩
        · have HZ : Hid (l.all lokB = (l.drop (j + 1)).all lokB) := by
            show _ = _
            rw [HE.out, hd, List.all_cons, show lokB ⟨pp, cc⟩ = true by simp [lokB]; omega, Bool.true_and]
          clear hx hd
          go_wp2_with fail
          go_roundg g
          case rel => exact ⟨j + 1, _, rfl, by go_num, by omega, HZ, K⟩
          case measure => omega
    · have b1 : ¬ (j : Int) < (l.length : Int) := by omega
      have hall : l.all lokB = true := by rw [HE.out, List.drop_eq_nil_of_le (by omega)]; rfl
      have HZ : Hid (nextR r own l = goR r own l) := by show _ = _; rw [HN.out, hall]; rfl
      have HL : Hid (∀ x ∈ l, 1 ≤ x.per ∧ 0 ≤ x.cost) := lok_all.1 hall
      have K1 := K
      clear hall HE K hj b1 HN
      go_wp2_with fail
      go_loopg [9, 10, 11] l.length (fun gk s i u wr => ∃ (j : Nat) (W : World) (sv : Int), W = wr ∧ s = .int .i64 sv ∧ i = .int .i64 j ∧ j + gk = l.length ∧ Hid (goR r own l = goR r sv (l.drop j)) ∧ Hid (0 ≤ sv ∧ sv ≤ 9223372036854775807) ∧ Kept w W)
      case atStart => exact ⟨0, _, own, rfl, rfl, rfl, by omega, (by show _ = _; rw [List.drop_zero]), ⟨by omega, by omega⟩, K1⟩
      case round =>
      obtain ⟨j, W, sv, hW, rfl, rfl, hj, HE, HS, K⟩ := hrel
      subst hW
      by_cases hjn : j < l.length
      · have b1 : (j : Int) < (l.length : Int) := by omega
        have b2 : (0 : Int) ≤ (j : Int) := by omega
        obtain ⟨g, rfl⟩ : ∃ g, gk = g + 1 := ⟨gk - 1, by omega⟩
        obtain ⟨⟨pp, cc⟩, hx⟩ : ∃ x, l[j]? = some x := ⟨_, List.getElem?_eq_getElem hjn⟩
        obtain ⟨hp1, hc0⟩ := HL.out _ (List.mem_of_getElem? hx)
        simp only at hp1 hc0
        obtain ⟨b, f, rfl, c0, c1⟩ := (HA.out.kept K) j _ hx
        simp only at c0 c1
        have hd : l.drop j = ⟨pp, cc⟩ :: l.drop (j + 1) := by
          rw [List.drop_eq_getElem_cons hjn, (List.getElem?_eq_some_iff.1 hx).2]
        have HE2 : Hid (goR r own l = if sv + timesR r pp * cc > 9223372036854775807 then (0, 14) else goR r (sv + timesR r pp * cc) (l.drop (j + 1))) := by
          show _ = _
          rw [HE.out, hd, goR]
        have t0 := times_nn (r := r) (p := pp) (by omega) hp1
        have hmn := Int.mul_nonneg t0 hc0
        have e1 : r.tdiv pp = r / pp := Int.tdiv_eq_ediv_of_nonneg (by omega)
        have e2 : r.tmod pp = r % pp := Int.tmod_eq_emod_of_nonneg (by omega)
        have n1 := Int.ediv_nonneg (show 0 ≤ r by omega) (by omega : 0 ≤ pp)
        have n2 : r / pp ≤ r := Int.ediv_le_self pp (by omega)
        have n3 := quo_lt (r := r) (p := pp) (by omega) hp1
        have hp0 : ¬ pp = 0 := by omega
        obtain ⟨s0, s1⟩ := HS.out
        have HT : Hid (timesR r pp = if r % pp > 0 then r / pp + 1 else r / pp) := rfl
        clear hx hd HE t0
        rw [HT.out] at HE2 hmn
        obtain ⟨q, hq'⟩ : ∃ q, r / pp = q := ⟨_, rfl⟩
        obtain ⟨mm, hmm⟩ : ∃ m, r % pp = m := ⟨_, rfl⟩
        rw [hq'] at e1 n1 n2 n3 HE2 hmn
        rw [hmm] at e2 n3 HE2 hmn
        clear hq' hmm HT
        by_cases hz : mm > 0
        · have n4 := n3 hz
          rw [if_pos hz] at HE2 hmn
          clear n3
          have hquo := quo_gt (t := q + 1) (c := cc) (m := 9223372036854775807)
          obtain ⟨m, hm⟩ : ∃ m, (q + 1) * cc = m := ⟨_, rfl⟩
          rw [hm] at HE2 hquo hmn
          by_cases hcc : cc > 0
          · have hq := hquo hcc
            have hq0 : (0 : Int) ≤ 9223372036854775807 / cc := Int.ediv_nonneg (by omega) (by omega)
            have hq1 : (9223372036854775807 : Int) / cc ≤ 9223372036854775807 := Int.ediv_le_self cc (by omega)
            have hqt : (9223372036854775807 : Int).tdiv cc = 9223372036854775807 / cc := Int.tdiv_eq_ediv_of_nonneg (by omega)
            obtain ⟨z, hzz⟩ : ∃ z, (9223372036854775807 : Int) / cc = z := ⟨_, rfl⟩
            rw [hzz] at hq hq0 hq1 hqt
            have hcn : ¬ cc = 0 := by omega
            clear hzz hquo
            by_cases htq : q + 1 > z
            · have hbig := hq.1 htq
              have HF : Hid (nextR r own l = (0, 14)) := by show _ = _; rw [HZ.out, HE2.out, if_pos (by omega)]
              clear hm hq hbig HE2
              go_wp2_with fail
              go_ret2
              rw [HF.out]
              exact ⟨rfl, K⟩
            · have hsm : m ≤ 9223372036854775807 := by
                have h : ¬ m > 9223372036854775807 := fun h => htq (hq.2 h)
                omega
              clear hq
              by_cases hbg : m > 9223372036854775807 - sv
              · have HF : Hid (nextR r own l = (0, 14)) := by show _ = _; rw [HZ.out, HE2.out, if_pos (by omega)]
                clear HE2
                go_wp2_with fail
                go_ret2
                rw [HF.out]
                exact ⟨rfl, K⟩
              · have HF : Hid (goR r own l = goR r (sv + m) (l.drop (j + 1))) := by show _ = _; rw [HE2.out, if_neg (by omega)]
                clear HE2
                go_wp2_with fail
                go_roundg g
                case rel => exact ⟨j + 1, _, sv + m, rfl, rfl, by go_num, by omega, HF, ⟨by omega, by omega⟩, K⟩
                case measure => omega
          · obtain rfl : cc = 0 := by omega
            obtain rfl : m = 0 := by rw [← hm, Int.mul_zero]
            have HF : Hid (goR r own l = goR r sv (l.drop (j + 1))) := by show _ = _; rw [HE2.out, if_neg (by omega), Int.add_zero]
            have hz0 : ¬ (0 : Int) > 9223372036854775807 - sv := by omega
            clear hquo hm HE2
            go_wp2_with fail
            go_roundg g
            case rel => exact ⟨j + 1, _, sv, rfl, rfl, by go_num, by omega, HF, ⟨by omega, by omega⟩, K⟩
            case measure => omega
        · rw [if_neg hz] at HE2 hmn
          clear n3
          have hquo := quo_gt (t := q) (c := cc) (m := 9223372036854775807)
          obtain ⟨m, hm⟩ : ∃ m, (q) * cc = m := ⟨_, rfl⟩
          rw [hm] at HE2 hquo hmn
          by_cases hcc : cc > 0
          · have hq := hquo hcc
            have hq0 : (0 : Int) ≤ 9223372036854775807 / cc := Int.ediv_nonneg (by omega) (by omega)
            have hq1 : (9223372036854775807 : Int) / cc ≤ 9223372036854775807 := Int.ediv_le_self cc (by omega)
            have hqt : (9223372036854775807 : Int).tdiv cc = 9223372036854775807 / cc := Int.tdiv_eq_ediv_of_nonneg (by omega)
            obtain ⟨z, hzz⟩ : ∃ z, (9223372036854775807 : Int) / cc = z := ⟨_, rfl⟩
            rw [hzz] at hq hq0 hq1 hqt
            have hcn : ¬ cc = 0 := by omega
            clear hzz hquo
            by_cases htq : q > z
            · have hbig := hq.1 htq
              have HF : Hid (nextR r own l = (0, 14)) := by show _ = _; rw [HZ.out, HE2.out, if_pos (by omega)]
              clear hm hq hbig HE2
              go_wp2_with fail
              go_ret2
              rw [HF.out]
              exact ⟨rfl, K⟩
            · have hsm : m ≤ 9223372036854775807 := by
                have h : ¬ m > 9223372036854775807 := fun h => htq (hq.2 h)
                omega
              clear hq
              by_cases hbg : m > 9223372036854775807 - sv
              · have HF : Hid (nextR r own l = (0, 14)) := by show _ = _; rw [HZ.out, HE2.out, if_pos (by omega)]
                clear HE2
                go_wp2_with fail
                go_ret2
                rw [HF.out]
                exact ⟨rfl, K⟩
              · have HF : Hid (goR r own l = goR r (sv + m) (l.drop (j + 1))) := by show _ = _; rw [HE2.out, if_neg (by omega)]
                clear HE2
                go_wp2_with fail
                go_roundg g
                case rel => exact ⟨j + 1, _, sv + m, rfl, rfl, by go_num, by omega, HF, ⟨by omega, by omega⟩, K⟩
                case measure => omega
          · obtain rfl : cc = 0 := by omega
            obtain rfl : m = 0 := by rw [← hm, Int.mul_zero]
            have HF : Hid (goR r own l = goR r sv (l.drop (j + 1))) := by show _ = _; rw [HE2.out, if_neg (by omega), Int.add_zero]
            have hz0 : ¬ (0 : Int) > 9223372036854775807 - sv := by omega
            clear hquo hm HE2
            go_wp2_with fail
            go_roundg g
            case rel => exact ⟨j + 1, _, sv, rfl, rfl, by go_num, by omega, HF, ⟨by omega, by omega⟩, K⟩
            case measure => omega
      · have b1 : ¬ (j : Int) < (l.length : Int) := by omega
        have HF : Hid (nextR r own l = (sv, 0)) := by show _ = _; rw [HZ.out, HE.out, List.drop_eq_nil_of_le (by omega)]; rfl
        go_wp2_with fail
        go_ret2
        rw [HF.out]
        exact ⟨rfl, K⟩
end Go.Proofs.YtlkbphogpbcjfaaGreatDoor
