/- One round: rta.Next of any loads. -/
import Derived.Test.YtlkbphogpbcjfaaGreatDoorRtM
namespace Go.Proofs.YtlkbphogpbcjfaaGreatDoor
open Go.RowKit Go.Sort

set_option maxHeartbeats 1000000 in
theorem up_any (r p : Int) (w : World) (h0 : 0 ≤ r) (h1 : r ≤ 9223372036854775807) (hp : 1 ≤ p) :
    Calls Tryz.prog 25 #[.int .i64 r, .int .i64 p] w fun e w' => e = .returned (.int .i64 (timesR r p)) ∧ w' = w := by
  have e1 : r.tdiv p = r / p := Int.tdiv_eq_ediv_of_nonneg h0
  have e2 : r.tmod p = r % p := Int.tmod_eq_emod_of_nonneg h0
  have b1 := Int.ediv_nonneg h0 (by omega : 0 ≤ p)
  have b2 : r / p ≤ r := Int.ediv_le_self p h0
  have HT : Hid (timesR r p = if r % p > 0 then r / p + 1 else r / p) := rfl
  have b3 : r % p > 0 → r / p < r := by
    intro h
    by_cases hpp : p = 1
    · rw [hpp, Int.emod_one] at h; omega
    · have h3 := Int.ediv_mul_add_emod r p
      have h4 : r / p * 2 ≤ r / p * p := Int.mul_le_mul_of_nonneg_left (by omega) b1
      omega
  obtain ⟨q, hq⟩ : ∃ q, r / p = q := ⟨_, rfl⟩
  obtain ⟨m, hm⟩ : ∃ m, r % p = m := ⟨_, rfl⟩
  rw [hq] at e1 b1 b2 b3 HT
  rw [hm] at e2 b3 HT
  have hp0 : ¬ p = 0 := by omega
  clear hq hm
  by_cases hz : m > 0
  · have b4 := b3 hz
    rw [if_pos hz] at HT
    clear b3
    go_enter Tryz.func25, Tryz.ntmps25
    go_wp2_with fail
    go_ret
    rw [HT.out]
    exact ⟨rfl, rfl⟩
  · rw [if_neg hz] at HT
    clear b3
    go_enter Tryz.func25, Tryz.ntmps25
    go_wp2_with fail
    go_ret
    rw [HT.out]
    exact ⟨rfl, rfl⟩
set_option maxHeartbeats 2000000 in
theorem arel_any (a : Option Addr) (c : Nat) (l : List LoadD) (w : World) (hA : AtL w a l) (hl : l.length ≤ 1000) :
    Calls Tryz.prog 24 #[.slice a l.length c] w fun e w' => e = .returned (.bool (l.all lokB)) ∧ Kept w w' := by
  have HA : Hid (AtL w a l) := hA
  clear hA
  go_enter Tryz.func24, Tryz.ntmps24
  go_wp2_with fail
  go_step3
  go_wp2_with fail
  go_step3
  go_wp2_with fail
  go_loopg [3, 8] l.length (fun gk x3 i wr => ∃ (j : Nat) (W : World), W = wr ∧ x3 = .bool true ∧ i = .int .i64 j ∧ j + gk = l.length ∧ Hid (l.all lokB = (l.drop j).all lokB) ∧ Kept w W)
  case atStart => exact ⟨0, _, rfl, rfl, rfl, by omega, (by show _ = _; rw [List.drop_zero]), Kept.refl _⟩
  case round =>
    obtain ⟨j, W, hW, rfl, rfl, hj, HE, K⟩ := hrel
    subst hW
    by_cases hjn : j < l.length
    · have b1 : (j : Int) < (l.length : Int) := by omega
      have b2 : (0 : Int) ≤ (j : Int) := by omega
      obtain ⟨g, rfl⟩ : ∃ g, gk = g + 1 := ⟨gk - 1, by omega⟩
      obtain ⟨⟨pp, cc⟩, hx⟩ : ∃ x, l[j]? = some x := ⟨_, List.getElem?_eq_getElem hjn⟩
      obtain ⟨b, f, rfl, c0, c1⟩ := (HA.out.kept K) j _ hx
      simp only at c0 c1
      have hd : l.drop j = ⟨pp, cc⟩ :: l.drop (j + 1) := by
        rw [List.drop_eq_getElem_cons hjn, (List.getElem?_eq_some_iff.1 hx).2]
      have KA := K.alloc (.cells #[.int .i64 pp, .int .i64 cc] 46)
      by_cases h1 : pp < 1
      · have HZ : Hid (l.all lokB = false) := by
          show _ = _
          rw [HE.out, hd, List.all_cons, show lokB ⟨pp, cc⟩ = false by simp [lokB]; omega, Bool.false_and]
        clear hx hd
        go_wp2_with fail
        try rw [Exit.noGoto_ret]
        go_ret
        rw [HZ.out]
        exact ⟨rfl, KA⟩
      · by_cases h2 : cc < 0
        · have HZ : Hid (l.all lokB = false) := by
            show _ = _
            rw [HE.out, hd, List.all_cons, show lokB ⟨pp, cc⟩ = false by simp [lokB]; omega, Bool.false_and]
          clear hx hd
          go_wp2_with fail
          try rw [Exit.noGoto_ret]
          go_ret
          rw [HZ.out]
          exact ⟨rfl, KA⟩
        · have HZ : Hid (l.all lokB = (l.drop (j + 1)).all lokB) := by
            show _ = _
            rw [HE.out, hd, List.all_cons, show lokB ⟨pp, cc⟩ = true by simp [lokB]; omega, Bool.true_and]
          clear hx hd
          go_wp2_with fail
          go_roundg g
          case rel => exact ⟨j + 1, _, rfl, rfl, by go_num, by omega, HZ, KA⟩
          case measure => omega
    · have b1 : ¬ (j : Int) < (l.length : Int) := by omega
      have HZ : Hid (l.all lokB = true) := by show _ = _; rw [HE.out, List.drop_eq_nil_of_le (by omega)]; rfl
      go_wp2_with fail
      try rw [Exit.noGoto_ret]
      go_ret
      rw [HZ.out]
      exact ⟨rfl, K⟩
/-- What is left, against the quotient. -/
theorem quo_gt {t c m : Int} (hc : 0 < c) : t > m / c ↔ t * c > m := by
  rw [gt_iff_lt, Int.ediv_lt_iff_lt_mul hc]
set_option maxHeartbeats 4000000 in
theorem next_any (a : Option Addr) (c : Nat) (l : List LoadD) (r own : Int) (w : World) (hA : AtL w a l) (hl : l.length ≤ 1000) (hr : r ≤ 9223372036854775807) (ho : own ≤ 9223372036854775807) :
    Calls Tryz.prog 12 #[.int .i64 r, .int .i64 own, .slice a l.length c] w fun e w' => e = .returned (.tuple #[.int .i64 (nextR r own l).1, .int .i64 (nextR r own l).2]) ∧ Kept w w' := by
  have HA : Hid (AtL w a l) := hA
  have har := arel_any a c l w hA hl
  clear hA
  by_cases h0 : r < 0
  · have HZ : Hid (nextR r own l = (0, 1)) := by show _ = _; unfold nextR; rw [decide_eq_false (by omega)]; rfl
    clear har
    go_enter Tryz.func12, Tryz.ntmps12
    go_wp2_with fail
    go_ret2
    rw [HZ.out]
    exact ⟨rfl, Kept.refl _⟩
  by_cases h1 : own < 0
  · have HZ : Hid (nextR r own l = (0, 1)) := by show _ = _; unfold nextR; rw [decide_eq_false (show ¬ 0 ≤ own by omega), Bool.and_false]; rfl
    clear har
    go_enter Tryz.func12, Tryz.ntmps12
    go_wp2_with fail
    go_ret2
    rw [HZ.out]
    exact ⟨rfl, Kept.refl _⟩
  cases hall : l.all lokB with
  | false =>
    have HZ : Hid (nextR r own l = (0, 1)) := by show _ = _; unfold nextR; rw [hall, Bool.and_false]; rfl
    rw [hall] at har
    clear hall
    go_enter Tryz.func12, Tryz.ntmps12
    go_wp2_with fail
    refine har.mono ?_
    rintro e w1 ⟨rfl, K1⟩
    clear har
    go_wp2_with fail
    go_ret2
    rw [HZ.out]
    exact ⟨rfl, K1⟩
  | true =>
    have HZ : Hid (nextR r own l = goR r own l) := by show _ = _; unfold nextR; rw [hall, decide_eq_true (by omega), decide_eq_true (by omega)]; rfl
    have HL : Hid (∀ x ∈ l, 1 ≤ x.per ∧ 0 ≤ x.cost) := lok_all.1 hall
    rw [hall] at har
    clear hall
    go_enter Tryz.func12, Tryz.ntmps12
    go_wp2_with fail
    refine har.mono ?_
    rintro e w1 ⟨rfl, K1⟩
    clear har
    go_wp2_with fail
    go_loopg [8, 26] l.length (fun gk s i wr => ∃ (j : Nat) (W : World) (sv : Int), W = wr ∧ s = .int .i64 sv ∧ i = .int .i64 j ∧ j + gk = l.length ∧ Hid (goR r own l = goR r sv (l.drop j)) ∧ Hid (0 ≤ sv ∧ sv ≤ 9223372036854775807) ∧ Kept w W)
    case atStart => exact ⟨0, _, own, rfl, rfl, rfl, by omega, (by show _ = _; rw [List.drop_zero]), ⟨by omega, by omega⟩, K1⟩
    case round =>
      obtain ⟨j, W, sv, hW, rfl, rfl, hj, HE, HS, K⟩ := hrel
      subst hW
      by_cases hjn : j < l.length
      · have b1 : (j : Int) < (l.length : Int) := by omega
        have b2 : (0 : Int) ≤ (j : Int) := by omega
        obtain ⟨g, rfl⟩ : ∃ g, gk = g + 1 := ⟨gk - 1, by omega⟩
        obtain ⟨⟨pp, cc⟩, hx⟩ : ∃ x, l[j]? = some x := ⟨_, List.getElem?_eq_getElem hjn⟩
        obtain ⟨hp1, hc0⟩ := HL.out _ (List.mem_of_getElem? hx)
        simp only at hp1 hc0
        obtain ⟨b, f, rfl, c0, c1⟩ := (HA.out.kept K) j _ hx
        simp only at c0 c1
        have hd : l.drop j = ⟨pp, cc⟩ :: l.drop (j + 1) := by
          rw [List.drop_eq_getElem_cons hjn, (List.getElem?_eq_some_iff.1 hx).2]
        have HE2 : Hid (goR r own l = if sv + timesR r pp * cc > 9223372036854775807 then (0, 14) else goR r (sv + timesR r pp * cc) (l.drop (j + 1))) := by
          show _ = _
          rw [HE.out, hd, goR]
        have KA := K.alloc (.cells #[.int .i64 pp, .int .i64 cc] 46)
        have hup := up_any r pp (W.alloc (.cells #[.int .i64 pp, .int .i64 cc] 46)) (by omega) hr hp1
        have t0 := times_nn (r := r) (p := pp) (by omega) hp1
        have t1 := times_top (r := r) (p := pp) (by omega) hp1
        have hquo := quo_gt (t := timesR r pp) (c := cc) (m := 9223372036854775807 - sv)
        have hmn := Int.mul_nonneg t0 hc0
        obtain ⟨s0, s1⟩ := HS.out
        clear hx hd HE
        obtain ⟨t, ht⟩ : ∃ t, timesR r pp = t := ⟨_, rfl⟩
        rw [ht] at HE2 hup t0 t1 hquo hmn
        clear ht
        obtain ⟨m, hm⟩ : ∃ m, t * cc = m := ⟨_, rfl⟩
        rw [hm] at HE2 hquo hmn
        by_cases hcc : cc > 0
        · have hq := hquo hcc
          have hq0 : 0 ≤ (9223372036854775807 - sv) / cc := Int.ediv_nonneg (by omega) (by omega)
          have hq1 : (9223372036854775807 - sv) / cc ≤ 9223372036854775807 - sv := Int.ediv_le_self cc (by omega)
          have hqt : (9223372036854775807 - sv).tdiv cc = (9223372036854775807 - sv) / cc := Int.tdiv_eq_ediv_of_nonneg (by omega)
          obtain ⟨q, hqq⟩ : ∃ q, (9223372036854775807 - sv) / cc = q := ⟨_, rfl⟩
          rw [hqq] at hq hq0 hq1 hqt
          have hcn : ¬ cc = 0 := by omega
          clear hqq hquo
          by_cases htq : t > q
          · have hbig := hq.1 htq
            have HF : Hid (nextR r own l = (0, 14)) := by show _ = _; rw [HZ.out, HE2.out, if_pos (by omega)]
            clear hm hq hbig HE2
            go_wp2_with fail
            refine hup.mono ?_
            rintro e w2 ⟨rfl, hw2⟩
            subst hw2
            go_wp2_with fail
            go_ret2
            rw [HF.out]
            exact ⟨rfl, KA⟩
          · have hsm : ¬ m > 9223372036854775807 - sv := fun h => htq (hq.2 h)
            have HF : Hid (goR r own l = goR r (sv + m) (l.drop (j + 1))) := by show _ = _; rw [HE2.out, if_neg (by omega)]
            clear hq HE2
            go_wp2_with fail
            refine hup.mono ?_
            rintro e w2 ⟨rfl, hw2⟩
            subst hw2
            go_wp2_with fail
            go_roundg g
            case rel => exact ⟨j + 1, _, sv + m, rfl, rfl, by go_num, by omega, HF, ⟨by omega, by omega⟩, KA⟩
            case measure => omega
        · obtain rfl : cc = 0 := by omega
          obtain rfl : m = 0 := by rw [← hm, Int.mul_zero]
          have HF : Hid (goR r own l = goR r sv (l.drop (j + 1))) := by show _ = _; rw [HE2.out, if_neg (by omega), Int.add_zero]
          clear hquo hm HE2
          go_wp2_with fail
          refine hup.mono ?_
          rintro e w2 ⟨rfl, hw2⟩
          subst hw2
          go_wp2_with fail
          go_roundg g
          case rel => exact ⟨j + 1, _, sv, rfl, rfl, by go_num, by omega, HF, ⟨by omega, by omega⟩, KA⟩
          case measure => omega
      · have b1 : ¬ (j : Int) < (l.length : Int) := by omega
        have HF : Hid (nextR r own l = (sv, 0)) := by show _ = _; rw [HZ.out, HE.out, List.drop_eq_nil_of_le (by omega)]; rfl
        go_wp2_with fail
        go_ret2
        rw [HF.out]
        exact ⟨rfl, K⟩
end Go.Proofs.YtlkbphogpbcjfaaGreatDoor
