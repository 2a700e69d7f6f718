/- The least number that is its own round: rta.Fix, and the reference's. -/
import Derived.Test.YtlkbphogpbcjfaaGreatDoorRtR
namespace Go.Proofs.YtlkbphogpbcjfaaGreatDoor
open Go.RowKit Go.Sort

/-- Three numbers, as they are answered. -/
def trio (z : Int × Int × Int) : Value := .tuple #[.int .i64 z.1, .int .i64 z.2.1, .int .i64 z.2.2]
theorem next_range {r own : Int} {l : List LoadD} (ho : own ≤ 9223372036854775807) (he : (nextR r own l).2 = 0) : 0 ≤ (nextR r own l).1 ∧ (nextR r own l).1 ≤ 9223372036854775807 := by
  unfold nextR at he ⊢
  split at he
  · rename_i hc
    rw [if_pos hc]
    simp only [Bool.and_eq_true, decide_eq_true_eq] at hc
    have hl := lok_all.1 hc.2
    rw [go_ok hc.1.1 l own hl ho] at he ⊢
    have := sum_ge hc.1.1 l own hl
    split at he
    · simp at he
    · rename_i hb
      rw [if_neg hb]
      exact ⟨by show 0 ≤ sumR r own l; omega, by show sumR r own l ≤ _; omega⟩
  · simp at he
theorem fixR_succ (own : Int) (l : List LoadD) (most : Int) (f : Nat) (r k : Int) : fixR own l most (f + 1) r k = if r > most then (0, 0, 13) else
      if (nextR r own l).2 ≠ 0 then (0, 0, (nextR r own l).2) else
      if (nextR r own l).1 = r then (r, k + 1, 0) else fixR own l most f (nextR r own l).1 (k + 1) := rfl
set_option maxHeartbeats 4000000 in
theorem fix_any (a : Option Addr) (c : Nat) (l : List LoadD) (own most : Int) (w : World) (hA : AtL w a l) (hl : l.length ≤ 1000) (ho : own ≤ 9223372036854775807) :
    Calls Tryz.prog 11 #[.int .i64 own, .slice a l.length c, .int .i64 most] w fun e w' => e = .returned (trio (fixT own l most)) ∧ Kept w w' := by
  have HA : Hid (AtL w a l) := hA
  have hn := next_any a c l 0 own w hA hl (by omega) ho
  clear hA
  have HX : Hid (∀ (r : Int) (wx : World), Kept w wx → r ≤ 9223372036854775807 → Calls Tryz.prog 12 #[.int .i64 r, .int .i64 own, .slice a l.length c] wx fun e w' => e = .returned (.tuple #[.int .i64 (nextR r own l).1, .int .i64 (nextR r own l).2]) ∧ Kept wx w') := fun r wx k h => next_any a c l r own wx (HA.out.kept k) hl h ho
  have HF : Hid (fixT own l most = if (nextR 0 own l).2 ≠ 0 then (0, 0, (nextR 0 own l).2) else if most < 0 then (0, 0, 1) else fixR own l most 1000 own 0) := rfl
  have HO : Hid ((nextR 0 own l).2 = 0 → 0 ≤ own) := by
    intro h
    unfold nextR at h
    split at h
    · rename_i hc
      simp only [Bool.and_eq_true, decide_eq_true_eq] at hc
      exact hc.1.2
    · simp at h
  obtain ⟨⟨n1, n2⟩, hn0⟩ : ∃ z, nextR 0 own l = z := ⟨_, rfl⟩
  rw [hn0] at hn HF HO
  simp only at hn HF HO
  clear hn0
  go_enter Tryz.func11, Tryz.ntmps11
  go_wp2_with fail
  go_step3
  go_wp2_with fail
  refine hn.mono ?_
  rintro e w1 ⟨rfl, K1⟩
  clear hn
  by_cases hz : n2 = 0
  · subst hz
    have ho0 := HO.out rfl
    by_cases hm : most < 0
    · have HZ : Hid (fixT own l most = (0, 0, 1)) := by show _ = _; rw [HF.out, if_neg (by simp), if_pos hm]
      clear HF HO
      go_wp2_with fail
      try rw [Exit.noGoto_ret]
      go_ret3
      rw [HZ.out]
      exact ⟨rfl, K1⟩
    · have HZ : Hid (fixT own l most = fixR own l most 1000 own 0) := by show _ = _; rw [HF.out, if_neg (by simp), if_neg hm]
      clear HF HO
      go_wp2_with fail
      go_step3
      go_wp2_with fail
      go_loopg [11, 12, 13, 14] 1000 (fun gk rr kk ee ll wr => ∃ (k : Nat) (rv : Int) (W : World), W = wr ∧ rr = .int .i64 rv ∧ kk = .int .i64 k ∧ ee = .int .i64 0 ∧ k + gk = 1000 ∧ Hid (0 ≤ rv ∧ rv ≤ 9223372036854775807) ∧ Hid (fixT own l most = fixR own l most gk rv k) ∧ Kept w W)
      case atStart => exact ⟨0, own, _, rfl, rfl, rfl, rfl, by omega, ⟨ho0, ho⟩, HZ, K1⟩
      case round =>
        obtain ⟨k, rv, W, hW, rfl, rfl, rfl, hk, HB, HE, K⟩ := hrel
        subst hW
        by_cases hlate : rv > most
        · have HZ2 : Hid (fixT own l most = (0, 0, 13)) := by
            show _ = _
            rw [HE.out]
            cases gk with
            | zero => rw [fixR, if_pos hlate]
            | succ g => rw [fixR_succ, if_pos hlate]
          clear HZ HE
          go_wp2_with fail
          try rw [Exit.noGoto_ret]
          go_ret3
          rw [HZ2.out]
          exact ⟨rfl, K⟩
        · by_cases hcap : k = 1000
          · subst hcap
            obtain rfl : gk = 0 := by omega
            have HZ2 : Hid (fixT own l most = (0, 0, 15)) := by
              show _ = _
              rw [HE.out, fixR, if_neg hlate]
            clear HZ HE
            go_wp2_with fail
            try rw [Exit.noGoto_ret]
            go_ret3
            rw [HZ2.out]
            exact ⟨rfl, K⟩
          · obtain ⟨g, rfl⟩ : ∃ g, gk = g + 1 := ⟨gk - 1, by omega⟩
            have hkc : ¬ (k : Int) = 1000 := by omega
            have hnx := HX.out rv W K HB.out.2
            have HE2 : Hid (fixT own l most = if (nextR rv own l).2 ≠ 0 then (0, 0, (nextR rv own l).2) else if (nextR rv own l).1 = rv then (rv, (k : Int) + 1, 0) else fixR own l most g (nextR rv own l).1 (k + 1)) := by
              show _ = _
              rw [HE.out, fixR_succ, if_neg hlate]
            have HNR : Hid ((nextR rv own l).2 = 0 → 0 ≤ (nextR rv own l).1 ∧ (nextR rv own l).1 ≤ 9223372036854775807) := fun h => next_range ho h
            obtain ⟨⟨m1, m2⟩, hm0⟩ : ∃ z, nextR rv own l = z := ⟨_, rfl⟩
            rw [hm0] at hnx HE2 HNR
            simp only at hnx HE2 HNR
            clear hm0 HZ HE
            by_cases hm2 : m2 = 0
            · subst hm2
              obtain ⟨q1, q2⟩ := HNR.out rfl
              by_cases hsame : m1 = rv
              · subst hsame
                have HZ2 : Hid (fixT own l most = (m1, (k : Int) + 1, 0)) := by show _ = _; rw [HE2.out, if_neg (by simp), if_pos rfl]
                clear HE2 HNR
                go_wp2_with fail
                refine hnx.mono ?_
                rintro e w2 ⟨rfl, K2⟩
                clear hnx
                go_wp2_with fail
                try rw [Exit.noGoto_ret]
                go_ret3
                rw [HZ2.out]
                exact ⟨rfl, K.trans K2⟩
              · have HZ2 : Hid (fixT own l most = fixR own l most g m1 (k + 1 : Nat)) := by show _ = _; rw [HE2.out, if_neg (by simp), if_neg hsame]; rfl
                clear HE2 HNR
                go_wp2_with fail
                refine hnx.mono ?_
                rintro e w2 ⟨rfl, K2⟩
                clear hnx
                go_wp2_with fail
                go_roundg g
                case rel => exact ⟨k + 1, m1, _, rfl, rfl, by go_num, rfl, by omega, ⟨q1, q2⟩, HZ2, K.trans K2⟩
                case measure => omega
            · have HZ2 : Hid (fixT own l most = (0, 0, m2)) := by show _ = _; rw [HE2.out, if_pos hm2]
              clear HE2 HNR
              go_wp2_with fail
              refine hnx.mono ?_
              rintro e w2 ⟨rfl, K2⟩
              clear hnx
              go_wp2_with fail
              try rw [Exit.noGoto_ret]
              go_ret3
              rw [HZ2.out]
              exact ⟨rfl, K.trans K2⟩
  · have HZ : Hid (fixT own l most = (0, 0, n2)) := by show _ = _; rw [HF.out, if_pos hz]
    clear HF HO
    go_wp2_with fail
    try rw [Exit.noGoto_ret]
    go_ret3
    rw [HZ.out]
    exact ⟨rfl, K1⟩
set_option maxHeartbeats 4000000 in
set_option maxRecDepth 20000 in
theorem rfix_any (a : Option Addr) (c : Nat) (l : List LoadD) (own most : Int) (w : World) (hA : AtL w a l) (hl : l.length ≤ 1000) (ho : own ≤ 9223372036854775807) :
    Calls Tryz.prog 21 #[.int .i64 own, .slice a l.length c, .int .i64 most] w fun e w' => e = .returned (trio (fixT own l most)) ∧ Kept w w' := by
  have HA : Hid (AtL w a l) := hA
  have hn := rnext_any a c l 0 own w hA hl (by omega) ho
  clear hA
  have HX : Hid (∀ (r : Int) (wx : World), Kept w wx → r ≤ 9223372036854775807 → Calls Tryz.prog 38 #[.int .i64 r, .int .i64 own, .slice a l.length c] wx fun e w' => e = .returned (.tuple #[.int .i64 (nextR r own l).1, .int .i64 (nextR r own l).2]) ∧ Kept wx w') := fun r wx k h => rnext_any a c l r own wx (HA.out.kept k) hl h ho
  have HF : Hid (fixT own l most = if (nextR 0 own l).2 ≠ 0 then (0, 0, (nextR 0 own l).2) else if most < 0 then (0, 0, 1) else fixR own l most 1000 own 0) := rfl
  have HO : Hid ((nextR 0 own l).2 = 0 → 0 ≤ own) := by
    intro h
    unfold nextR at h
    split at h
    · rename_i hc
      simp only [Bool.and_eq_true, decide_eq_true_eq] at hc
      exact hc.1.2
    · simp at h
  obtain ⟨⟨n1, n2⟩, hn0⟩ : ∃ z, nextR 0 own l = z := ⟨_, rfl⟩
  rw [hn0] at hn HF HO
  simp only at hn HF HO
  clear hn0
  go_enter Tryz.func21, Tryz.ntmps21
  go_wp2_with fail
  refine hn.mono ?_
  rintro e w1 ⟨rfl, K1⟩
  clear hn
  by_cases hz : n2 = 0
  · subst hz
    have ho0 := HO.out rfl
    by_cases hm : most < 0
    · have HZ : Hid (fixT own l most = (0, 0, 1)) := by show _ = _; rw [HF.out, if_neg (by simp), if_pos hm]
      clear HF HO
      go_wp2_with fail
      try rw [Exit.noGoto_ret]
      go_ret3
      rw [HZ.out]
      exact ⟨rfl, K1⟩
    · have HZ : Hid (fixT own l most = fixR own l most 1000 own 0) := by show _ = _; rw [HF.out, if_neg (by simp), if_neg hm]
      clear HF HO
      go_wp2_with fail
      go_loopg [11, 12] 1000 (fun gk rr kk wr => ∃ (k : Nat) (rv : Int) (W : World), W = wr ∧ rr = .int .i64 rv ∧ kk = .int .i64 ((k : Int) + 1) ∧ k + gk = 1000 ∧ Hid (0 ≤ rv ∧ rv ≤ 9223372036854775807) ∧ Hid (fixT own l most = fixR own l most gk rv k) ∧ Kept w W)
      case atStart => exact ⟨0, own, _, rfl, rfl, by go_num, by omega, ⟨ho0, ho⟩, HZ, K1⟩
      case round =>
        obtain ⟨k, rv, W, hW, rfl, rfl, hk, HB, HE, K⟩ := hrel
        subst hW
        by_cases hkk : k = 1000
        · subst hkk
          obtain rfl : gk = 0 := by omega
          by_cases hlate : rv > most
          · have HZ2 : Hid (fixT own l most = (0, 0, 13)) := by show _ = _; rw [HE.out, fixR, if_pos hlate]
            clear HZ HE
            go_wp2_with fail
            go_ret3
            rw [HZ2.out]
            exact ⟨rfl, K⟩
          · have HZ2 : Hid (fixT own l most = (0, 0, 15)) := by show _ = _; rw [HE.out, fixR, if_neg hlate]
            clear HZ HE
            go_wp2_with fail
            go_ret3
            rw [HZ2.out]
            exact ⟨rfl, K⟩
        have hk1 : (k : Int) + 1 ≤ 1000 := by omega
        by_cases hlate : rv > most
        · have HZ2 : Hid (fixT own l most = (0, 0, 13)) := by
            show _ = _
            rw [HE.out]
            cases gk with
            | zero => rw [fixR, if_pos hlate]
            | succ g => rw [fixR_succ, if_pos hlate]
          clear HZ HE
          go_wp2_with fail
          try rw [Exit.noGoto_ret]
          go_ret3
          rw [HZ2.out]
          exact ⟨rfl, K⟩
        · · obtain ⟨g, rfl⟩ : ∃ g, gk = g + 1 := ⟨gk - 1, by omega⟩
            have hnx := HX.out rv W K HB.out.2
            have HE2 : Hid (fixT own l most = if (nextR rv own l).2 ≠ 0 then (0, 0, (nextR rv own l).2) else if (nextR rv own l).1 = rv then (rv, (k : Int) + 1, 0) else fixR own l most g (nextR rv own l).1 (k + 1)) := by
              show _ = _
              rw [HE.out, fixR_succ, if_neg hlate]
            have HNR : Hid ((nextR rv own l).2 = 0 → 0 ≤ (nextR rv own l).1 ∧ (nextR rv own l).1 ≤ 9223372036854775807) := fun h => next_range ho h
            obtain ⟨⟨m1, m2⟩, hm0⟩ : ∃ z, nextR rv own l = z := ⟨_, rfl⟩
            rw [hm0] at hnx HE2 HNR
            simp only at hnx HE2 HNR
            clear hm0 HZ HE
            by_cases hm2 : m2 = 0
            · subst hm2
              obtain ⟨q1, q2⟩ := HNR.out rfl
              by_cases hsame : m1 = rv
              · subst hsame
                have HZ2 : Hid (fixT own l most = (m1, (k : Int) + 1, 0)) := by show _ = _; rw [HE2.out, if_neg (by simp), if_pos rfl]
                clear HE2 HNR
                go_wp2_with fail
                refine hnx.mono ?_
                rintro e w2 ⟨rfl, K2⟩
                clear hnx
                go_wp2_with fail
                try rw [Exit.noGoto_ret]
                go_ret3
                rw [HZ2.out]
                exact ⟨rfl, K.trans K2⟩
              · have HZ2 : Hid (fixT own l most = fixR own l most g m1 (k + 1 : Nat)) := by show _ = _; rw [HE2.out, if_neg (by simp), if_neg hsame]; rfl
                clear HE2 HNR
                go_wp2_with fail
                refine hnx.mono ?_
                rintro e w2 ⟨rfl, K2⟩
                clear hnx
                go_wp2_with fail
                go_roundg g
                case rel => exact ⟨k + 1, m1, _, rfl, rfl, by go_num, by omega, ⟨q1, q2⟩, HZ2, K.trans K2⟩
                case measure => omega
            · have HZ2 : Hid (fixT own l most = (0, 0, m2)) := by show _ = _; rw [HE2.out, if_pos hm2]
              clear HE2 HNR
              go_wp2_with fail
              refine hnx.mono ?_
              rintro e w2 ⟨rfl, K2⟩
              clear hnx
              go_wp2_with fail
              try rw [Exit.noGoto_ret]
              go_ret3
              rw [HZ2.out]
              exact ⟨rfl, K.trans K2⟩
  · have HZ : Hid (fixT own l most = (0, 0, n2)) := by show _ = _; rw [HF.out, if_pos hz]
    clear HF HO
    go_wp2_with fail
    try rw [Exit.noGoto_ret]
    go_ret3
    rw [HZ.out]
    exact ⟨rfl, K1⟩
end Go.Proofs.YtlkbphogpbcjfaaGreatDoor
