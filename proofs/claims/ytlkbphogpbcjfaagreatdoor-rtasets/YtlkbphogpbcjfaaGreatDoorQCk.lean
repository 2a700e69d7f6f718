/- Cases and ops in memory: what a slice of cases shows, rows of cases of the call's own, append. takes, checkCases, Check. checkCases. Check and Waits. -/
import Derived.Test.YtlkbphogpbcjfaaGreatDoorQbase
import Derived.Deep.LoopGhost
namespace Go.Proofs.YtlkbphogpbcjfaaGreatDoor
open Go.RowKit

theorem isKind_any (k : Int) (w : World) : Calls Tryz.prog 117 #[.int .i64 k] w fun e w' => e = .returned (.bool (isKindB k)) ∧ w' = w := by
  rcases h1 : decide (1 ≤ k) with _ | _
  · have HK : Hid (isKindB k = false) := by show _ = _; unfold isKindB; rw [h1]; rfl
    go_enter Tryz.func117, Tryz.ntmps117
    go_wp2_with fail
    go_ret
    rw [HK.out]
    exact ⟨rfl, rfl⟩
  · have HK : Hid (isKindB k = decide (k ≤ 9)) := by show _ = _; unfold isKindB; rw [h1]; rfl
    go_enter Tryz.func117, Tryz.ntmps117
    go_wp2_with fail
    go_ret
    rw [HK.out]
    exact ⟨rfl, rfl⟩

end Go.Proofs.YtlkbphogpbcjfaaGreatDoor
namespace Go.Proofs.YtlkbphogpbcjfaaGreatDoor
open Go.RowKit

set_option maxHeartbeats 1000000 in
theorem takes_any (wd : List UInt8) (hn hv hw hp : Bool) (le mo : Int) (k n v wt : Int) (a : Option Addr) (m c : Nat) (w : World) :
    Calls Tryz.prog 118 #[.agg #[.string (B wd), .bool hn, .bool hv, .bool hw, .bool hp, .int .i64 le, .int .i64 mo], .agg #[.int .i64 k, .int .i64 n, .int .i64 v, .int .i64 wt, .slice a m c]] w fun e w' => e = .returned (.bool (takesB ⟨wd, hn, hv, hw, hp, le, mo⟩ n v wt m)) ∧ Kept w w' := by
  go_enter Tryz.func118, Tryz.ntmps118
  go_wp2_with fail
  all_goals (go_ret; refine ⟨?_, ((Kept.refl w).alloc _).alloc _⟩; refine ret_bool ?_; rw [Bool.eq_iff_iff]; cases hv <;> cases hw <;> cases hp <;> simp [takesB] at * <;> omega)
end Go.Proofs.YtlkbphogpbcjfaaGreatDoor
namespace Go.Proofs.YtlkbphogpbcjfaaGreatDoor
open Go.RowKit

set_option maxHeartbeats 2000000 in
theorem checkCases_any (a : Option Addr) (m c : Nat) (l : List CaseD) (w : World) (hA : AtC w a m l) (hm : m ≤ 1000000) (hcap : m ≤ c) :
    Calls Tryz.prog 119 #[.slice a m c] w fun e w' => e = .returned (.int .i64 (casesE [] l)) ∧ Kept w w' := by
  have HA : Hid (AtC w a m l) := hA
  have HL : Hid (l.length = m) := hA.1
  clear hA
  go_enter Tryz.func119, Tryz.ntmps119
  go_wp2_with fail
  go_step3
  go_wp2_with fail
  go_step3
  go_wp2_with fail
  go_loopg [3, 10] m (fun gk e i wr => ∃ k : Nat, e = .int .i64 0 ∧ i = .int .i64 k ∧ k + gk = m ∧ Hid (casesE (l.take k) (l.drop k) = casesE [] l) ∧ Kept w wr)
  case atStart => exact ⟨0, rfl, rfl, by omega, rfl, Kept.refl _⟩
  case round =>
    obtain ⟨k, rfl, rfl, hk, HI, T⟩ := hrel
    by_cases hkm : k < m
    · obtain ⟨b, f, sd, ch, v, rfl, g0, g1, g2, hb, e1, e2, e3⟩ := (HA.out.kept T).get k hkm
      have b1 : (k : Int) < (m : Int) := by omega
      have b2 : (0 : Int) ≤ (k : Int) := by omega
      have b3 : (k : Int) ≤ (c : Int) := by omega
      have HE : Hid (casesE (l.take k) (⟨sd, ch, v⟩ :: l.drop (k + 1)) = casesE [] l) := by show _ = _; rw [← e3]; exact HI.out
      have HT : Hid (l.take (k + 1) = l.take k ++ [⟨sd, ch, v⟩]) := e2
      clear e1 e2 e3 HI
      obtain ⟨g1', rfl⟩ : ∃ g, gk = g + 1 := ⟨gk - 1, by omega⟩
      by_cases hbad : badC ⟨sd, ch, v⟩ = true
      · have HR : Hid (casesE [] l = 1) := by show _ = _; rw [← HE.out]; exact casesE_bad hbad
        simp only [badC, Bool.or_eq_true, decide_eq_true_eq, Bool.and_eq_true, Bool.not_eq_true'] at hbad
        have hway : ch < 0 ∨ (0 ≤ ch ∧ 8 ≤ ch) ∨ (0 ≤ ch ∧ ch < 8 ∧ sd = false ∧ (v == 0) = false) := by
          rcases hbad with (h | h) | ⟨h1, h2⟩
          · exact .inl h
          · exact .inr (.inl ⟨by omega, h⟩)
          · by_cases h3 : ch < 0
            · exact .inl h3
            · by_cases h4 : 8 ≤ ch
              · exact .inr (.inl ⟨by omega, h4⟩)
              · exact .inr (.inr ⟨by omega, by omega, h2, h1⟩)
        clear hbad
        rcases hway with h | ⟨h, h'⟩ | ⟨h, h', rfl, h3⟩
        · go_wp2_with fail
          try rw [Exit.noGoto_ret]
          go_ret
          rw [HR.out]
          exact ⟨rfl, T.alloc _⟩
        · go_wp2_with fail
          try rw [Exit.noGoto_ret]
          go_ret
          rw [HR.out]
          exact ⟨rfl, T.alloc _⟩
        · have h4 : (v != 0) = true := by simp [bne, h3]
          go_wp2_with fail
          try rw [Exit.noGoto_ret]
          go_ret
          rw [HR.out]
          exact ⟨rfl, T.alloc _⟩
      · have HB : Hid (badC ⟨sd, ch, v⟩ = false) := by show _ = _; simpa using hbad
        clear hbad
        have hway : v = 0 ∨ ((v != 0) = true ∧ sd = true) := by
          by_cases hv : v = 0
          · exact .inl hv
          · right
            refine ⟨by simp [hv], ?_⟩
            have := HB.out
            simp [badC, hv] at this
            exact this.2
        have hch : 0 ≤ ch ∧ ch < 8 := by have := badC_no HB.out; exact ⟨this.1, this.2.1⟩
        obtain ⟨hc1, hc2⟩ := hch
        rcases hway with rfl | ⟨hv, rfl⟩
        · have T1 := T.alloc (.cells #[.bool sd, .int .i64 ch, .int .i64 0] 108)
          have GC : Hid ((wr.alloc (.cells #[.bool sd, .int .i64 ch, .int .i64 0] 108)).cell? ⟨wr.heap.size, 1, none⟩ = some (.int .i64 ch)) := by show _ = _; rw [World.cell?_alloc_at _ _ _ _ rfl]; rfl
          go_wp2_with fail
          go_loopg [3, 37] k (fun g2 e i wi => ∃ j : Nat, e = .int .i64 0 ∧ i = .int .i64 j ∧ j + g2 = k ∧ Hid (hasC (l.take j) ch = false) ∧ Kept (wr.alloc (.cells #[.bool sd, .int .i64 ch, .int .i64 0] 108)) wi)
          case atStart => exact ⟨0, rfl, rfl, by omega, rfl, Kept.refl _⟩
          case round =>
            obtain ⟨j, rfl, rfl, hj, HN, Ti⟩ := hrel
            have T2 := T1.trans Ti
            have gc := Ti.cell GC.out
            have gl := cell_lt gc
            by_cases hjk : j < k
            · obtain ⟨b', f', sd', ch', v', hab, q0, q1, q2, hb', e1, e2, e3⟩ := (HA.out.kept T2).get j (by omega)
              cases hab
              have d1 : (j : Int) < (k : Int) := by omega
              have d2 : (0 : Int) ≤ (j : Int) := by omega
              by_cases hcc : ch' = ch
              · have HR : Hid (casesE [] l = 6) := by
                  show _ = _
                  rw [← HE.out]
                  exact casesE_twice HB.out (hasC_mem e1 hjk hcc)
                have t : (ch' == ch) = true := by simp [hcc]
                clear e1 e2 e3 hcc
                go_wp2_with fail
                try rw [Exit.noGoto_ret]
                go_ret
                rw [HR.out]
                exact ⟨rfl, T2.alloc _⟩
              · have HN2 : Hid (hasC (l.take (j + 1)) ch = false) := by
                  show _ = _
                  rw [e2, hasC_snoc, HN.out]
                  simpa using hcc
                have t : (ch' == ch) = false := by simp [hcc]
                clear e1 e2 e3 hcc
                obtain ⟨g3, rfl⟩ : ∃ g, gk = g + 1 := ⟨gk - 1, by omega⟩
                go_wp2_with fail
                go_roundg g3
                case rel => exact ⟨j + 1, rfl, by go_num, by omega, HN2, Ti.alloc _⟩
                case measure => omega
            · have d1 : ¬ (j : Int) < (k : Int) := by omega
              obtain rfl : j = k := by omega
              have HX : Hid (casesE (l.take (j + 1)) (l.drop (j + 1)) = casesE [] l) := by
                show _ = _
                rw [← HE.out, HT.out]
                exact (casesE_next HB.out HN.out).symm
              go_wp2_with fail
              go_roundg g1'
              case rel => exact ⟨j + 1, rfl, by go_num, by omega, HX, T2⟩
              case measure => omega
        · have T1 := T.alloc (.cells #[.bool true, .int .i64 ch, .int .i64 v] 108)
          have GC : Hid ((wr.alloc (.cells #[.bool true, .int .i64 ch, .int .i64 v] 108)).cell? ⟨wr.heap.size, 1, none⟩ = some (.int .i64 ch)) := by show _ = _; rw [World.cell?_alloc_at _ _ _ _ rfl]; rfl
          go_wp2_with fail
          go_loopg [3, 37] k (fun g2 e i wi => ∃ j : Nat, e = .int .i64 0 ∧ i = .int .i64 j ∧ j + g2 = k ∧ Hid (hasC (l.take j) ch = false) ∧ Kept (wr.alloc (.cells #[.bool true, .int .i64 ch, .int .i64 v] 108)) wi)
          case atStart => exact ⟨0, rfl, rfl, by omega, rfl, Kept.refl _⟩
          case round =>
            obtain ⟨j, rfl, rfl, hj, HN, Ti⟩ := hrel
            have T2 := T1.trans Ti
            have gc := Ti.cell GC.out
            have gl := cell_lt gc
            by_cases hjk : j < k
            · obtain ⟨b', f', sd', ch', v', hab, q0, q1, q2, hb', e1, e2, e3⟩ := (HA.out.kept T2).get j (by omega)
              cases hab
              have d1 : (j : Int) < (k : Int) := by omega
              have d2 : (0 : Int) ≤ (j : Int) := by omega
              by_cases hcc : ch' = ch
              · have HR : Hid (casesE [] l = 6) := by
                  show _ = _
                  rw [← HE.out]
                  exact casesE_twice HB.out (hasC_mem e1 hjk hcc)
                have t : (ch' == ch) = true := by simp [hcc]
                clear e1 e2 e3 hcc
                go_wp2_with fail
                try rw [Exit.noGoto_ret]
                go_ret
                rw [HR.out]
                exact ⟨rfl, T2.alloc _⟩
              · have HN2 : Hid (hasC (l.take (j + 1)) ch = false) := by
                  show _ = _
                  rw [e2, hasC_snoc, HN.out]
                  simpa using hcc
                have t : (ch' == ch) = false := by simp [hcc]
                clear e1 e2 e3 hcc
                obtain ⟨g3, rfl⟩ : ∃ g, gk = g + 1 := ⟨gk - 1, by omega⟩
                go_wp2_with fail
                go_roundg g3
                case rel => exact ⟨j + 1, rfl, by go_num, by omega, HN2, Ti.alloc _⟩
                case measure => omega
            · have d1 : ¬ (j : Int) < (k : Int) := by omega
              obtain rfl : j = k := by omega
              have HX : Hid (casesE (l.take (j + 1)) (l.drop (j + 1)) = casesE [] l) := by
                show _ = _
                rw [← HE.out, HT.out]
                exact (casesE_next HB.out HN.out).symm
              go_wp2_with fail
              go_roundg g1'
              case rel => exact ⟨j + 1, rfl, by go_num, by omega, HX, T2⟩
              case measure => omega
    · have b1 : ¬ (k : Int) < (m : Int) := by omega
      have HR : Hid (casesE [] l = 0) := by
        show _ = _
        rw [← HI.out, List.drop_of_length_le (by rw [HL.out]; omega)]; rfl
      go_wp2_with fail
      go_ret
      rw [HR.out]
      exact ⟨rfl, T⟩
end Go.Proofs.YtlkbphogpbcjfaaGreatDoor
namespace Go.Proofs.YtlkbphogpbcjfaaGreatDoor
open Go.RowKit

theorem check_none (k n v wt : Int) (a : Option Addr) (m c : Nat) (l : List CaseD) (w : World) (hk : isKindB k = false) :
    Calls Tryz.prog 109 #[.agg #[.int .i64 k, .int .i64 n, .int .i64 v, .int .i64 wt, .slice a m c]] w fun e w' => e = .returned (.int .i64 (checkD ⟨k, n, v, wt, l⟩)) ∧ Kept w w' := by
  have HC : Hid (checkD ⟨k, n, v, wt, l⟩ = 3) := check_no hk
  have hi := isKind_any k
  rw [hk] at hi
  go_enter Tryz.func109, Tryz.ntmps109
  go_wp2_with fail
  refine (hi _).mono ?_
  rintro e w1 ⟨rfl, hw⟩
  subst w1
  go_wp2_with fail
  go_ret
  rw [HC.out]
  exact ⟨rfl, (Kept.refl w).alloc _⟩

set_option maxHeartbeats 1000000 in
theorem check_k1 (n v wt : Int) (a : Option Addr) (m c : Nat) (l : List CaseD) (w : World) (hr : Rdy w) (hA : AtC w a m l) (hm : m ≤ 1000000) (hcap : m ≤ c) :
    Calls Tryz.prog 109 #[.agg #[.int .i64 1, .int .i64 n, .int .i64 v, .int .i64 wt, .slice a m c]] w fun e w' => e = .returned (.int .i64 (checkD ⟨1, n, v, wt, l⟩)) ∧ Kept w w' := by
  have hi := isKind_any 1
  rw [show isKindB 1 = true from rfl] at hi
  obtain ⟨g0, g1, g2, g3, g4, g5, g6⟩ := hr.k1
  have hlt := hr.lt
  have HA : Hid (AtC w a m l) := hA
  have HL : Hid (l.length = m) := hA.1
  clear hA hr
  have htk := takes_any [114, 117, 110] true false false false 1 1000 1 n v wt a m c
  rcases ht : takesB ⟨[114, 117, 110], true, false, false, false, 1, 1000⟩ n v wt m with _ | _
  · have HC : Hid (checkD ⟨1, n, v, wt, l⟩ = 1) := check_arg rfl (by rw [HL.out]; exact ht)
    rw [ht] at htk
    clear ht
    go_enter Tryz.func109, Tryz.ntmps109
    go_wp2_with fail
    refine (hi _).mono ?_
    rintro e w1 ⟨rfl, hw⟩
    subst w1
    go_wp2_with fail
    refine (htk _).mono ?_
    rintro e w1 ⟨rfl, T⟩
    go_wp2_with fail
    go_ret
    rw [HC.out]
    exact ⟨rfl, (((Kept.refl w).alloc _).alloc _).trans T⟩
  · have HC : Hid (checkD ⟨1, n, v, wt, l⟩ = casesE [] l) := check_plain rfl (by rw [HL.out]; exact ht) rfl
    rw [ht] at htk
    clear ht
    go_enter Tryz.func109, Tryz.ntmps109
    go_wp2_with fail
    refine (hi _).mono ?_
    rintro e w1 ⟨rfl, hw⟩
    subst w1
    go_wp2_with fail
    refine (htk _).mono ?_
    rintro e w1 ⟨rfl, T⟩
    have q0 := T.cell (p := ⟨w.heap.size, 4, none⟩) (v := .slice a m c) (by rw [World.cell?_alloc2_first]; rfl)
    have q1 := T.cell (p := ⟨w.heap.size + 1, 4, none⟩) (v := .bool false) (by rw [World.cell?_alloc2_new]; rfl)
    have z0 := cell_lt q0
    have z1 := cell_lt q1
    have T1 := (((Kept.refl w).alloc (.cells #[.int .i64 1, .int .i64 n, .int .i64 v, .int .i64 wt, .slice a m c] 77)).alloc (.cells #[.string (B [114, 117, 110]), .bool true, .bool false, .bool false, .bool false, .int .i64 1, .int .i64 1000] 167)).trans T
    go_wp2_with fail
    refine (checkCases_any a m c l w1 (HA.out.kept T1) hm hcap).mono ?_
    rintro e w2 ⟨rfl, T2⟩
    go_wp2_with fail
    go_ret
    rw [HC.out]
    exact ⟨rfl, T1.trans T2⟩
set_option maxHeartbeats 1000000 in
theorem check_k2 (n v wt : Int) (a : Option Addr) (m c : Nat) (l : List CaseD) (w : World) (hr : Rdy w) (hA : AtC w a m l) (hm : m ≤ 1000000) (hcap : m ≤ c) :
    Calls Tryz.prog 109 #[.agg #[.int .i64 2, .int .i64 n, .int .i64 v, .int .i64 wt, .slice a m c]] w fun e w' => e = .returned (.int .i64 (checkD ⟨2, n, v, wt, l⟩)) ∧ Kept w w' := by
  have hi := isKind_any 2
  rw [show isKindB 2 = true from rfl] at hi
  obtain ⟨g0, g1, g2, g3, g4, g5, g6⟩ := hr.k2
  have hlt := hr.lt
  have HA : Hid (AtC w a m l) := hA
  have HL : Hid (l.length = m) := hA.1
  clear hA hr
  have htk := takes_any [108, 111, 99, 107] true false false false 0 7 2 n v wt a m c
  rcases ht : takesB ⟨[108, 111, 99, 107], true, false, false, false, 0, 7⟩ n v wt m with _ | _
  · have HC : Hid (checkD ⟨2, n, v, wt, l⟩ = 1) := check_arg rfl (by rw [HL.out]; exact ht)
    rw [ht] at htk
    clear ht
    go_enter Tryz.func109, Tryz.ntmps109
    go_wp2_with fail
    refine (hi _).mono ?_
    rintro e w1 ⟨rfl, hw⟩
    subst w1
    go_wp2_with fail
    refine (htk _).mono ?_
    rintro e w1 ⟨rfl, T⟩
    go_wp2_with fail
    go_ret
    rw [HC.out]
    exact ⟨rfl, (((Kept.refl w).alloc _).alloc _).trans T⟩
  · have HC : Hid (checkD ⟨2, n, v, wt, l⟩ = casesE [] l) := check_plain rfl (by rw [HL.out]; exact ht) rfl
    rw [ht] at htk
    clear ht
    go_enter Tryz.func109, Tryz.ntmps109
    go_wp2_with fail
    refine (hi _).mono ?_
    rintro e w1 ⟨rfl, hw⟩
    subst w1
    go_wp2_with fail
    refine (htk _).mono ?_
    rintro e w1 ⟨rfl, T⟩
    have q0 := T.cell (p := ⟨w.heap.size, 4, none⟩) (v := .slice a m c) (by rw [World.cell?_alloc2_first]; rfl)
    have q1 := T.cell (p := ⟨w.heap.size + 1, 4, none⟩) (v := .bool false) (by rw [World.cell?_alloc2_new]; rfl)
    have z0 := cell_lt q0
    have z1 := cell_lt q1
    have T1 := (((Kept.refl w).alloc (.cells #[.int .i64 2, .int .i64 n, .int .i64 v, .int .i64 wt, .slice a m c] 77)).alloc (.cells #[.string (B [108, 111, 99, 107]), .bool true, .bool false, .bool false, .bool false, .int .i64 0, .int .i64 7] 167)).trans T
    go_wp2_with fail
    refine (checkCases_any a m c l w1 (HA.out.kept T1) hm hcap).mono ?_
    rintro e w2 ⟨rfl, T2⟩
    go_wp2_with fail
    go_ret
    rw [HC.out]
    exact ⟨rfl, T1.trans T2⟩
set_option maxHeartbeats 1000000 in
theorem check_k3 (n v wt : Int) (a : Option Addr) (m c : Nat) (l : List CaseD) (w : World) (hr : Rdy w) (hA : AtC w a m l) (hm : m ≤ 1000000) (hcap : m ≤ c) :
    Calls Tryz.prog 109 #[.agg #[.int .i64 3, .int .i64 n, .int .i64 v, .int .i64 wt, .slice a m c]] w fun e w' => e = .returned (.int .i64 (checkD ⟨3, n, v, wt, l⟩)) ∧ Kept w w' := by
  have hi := isKind_any 3
  rw [show isKindB 3 = true from rfl] at hi
  obtain ⟨g0, g1, g2, g3, g4, g5, g6⟩ := hr.k3
  have hlt := hr.lt
  have HA : Hid (AtC w a m l) := hA
  have HL : Hid (l.length = m) := hA.1
  clear hA hr
  have htk := takes_any [117, 110, 108, 111, 99, 107] true false false false 0 7 3 n v wt a m c
  rcases ht : takesB ⟨[117, 110, 108, 111, 99, 107], true, false, false, false, 0, 7⟩ n v wt m with _ | _
  · have HC : Hid (checkD ⟨3, n, v, wt, l⟩ = 1) := check_arg rfl (by rw [HL.out]; exact ht)
    rw [ht] at htk
    clear ht
    go_enter Tryz.func109, Tryz.ntmps109
    go_wp2_with fail
    refine (hi _).mono ?_
    rintro e w1 ⟨rfl, hw⟩
    subst w1
    go_wp2_with fail
    refine (htk _).mono ?_
    rintro e w1 ⟨rfl, T⟩
    go_wp2_with fail
    go_ret
    rw [HC.out]
    exact ⟨rfl, (((Kept.refl w).alloc _).alloc _).trans T⟩
  · have HC : Hid (checkD ⟨3, n, v, wt, l⟩ = casesE [] l) := check_plain rfl (by rw [HL.out]; exact ht) rfl
    rw [ht] at htk
    clear ht
    go_enter Tryz.func109, Tryz.ntmps109
    go_wp2_with fail
    refine (hi _).mono ?_
    rintro e w1 ⟨rfl, hw⟩
    subst w1
    go_wp2_with fail
    refine (htk _).mono ?_
    rintro e w1 ⟨rfl, T⟩
    have q0 := T.cell (p := ⟨w.heap.size, 4, none⟩) (v := .slice a m c) (by rw [World.cell?_alloc2_first]; rfl)
    have q1 := T.cell (p := ⟨w.heap.size + 1, 4, none⟩) (v := .bool false) (by rw [World.cell?_alloc2_new]; rfl)
    have z0 := cell_lt q0
    have z1 := cell_lt q1
    have T1 := (((Kept.refl w).alloc (.cells #[.int .i64 3, .int .i64 n, .int .i64 v, .int .i64 wt, .slice a m c] 77)).alloc (.cells #[.string (B [117, 110, 108, 111, 99, 107]), .bool true, .bool false, .bool false, .bool false, .int .i64 0, .int .i64 7] 167)).trans T
    go_wp2_with fail
    refine (checkCases_any a m c l w1 (HA.out.kept T1) hm hcap).mono ?_
    rintro e w2 ⟨rfl, T2⟩
    go_wp2_with fail
    go_ret
    rw [HC.out]
    exact ⟨rfl, T1.trans T2⟩
set_option maxHeartbeats 1000000 in
theorem check_k4 (n v wt : Int) (a : Option Addr) (m c : Nat) (l : List CaseD) (w : World) (hr : Rdy w) (hA : AtC w a m l) (hm : m ≤ 1000000) (hcap : m ≤ c) :
    Calls Tryz.prog 109 #[.agg #[.int .i64 4, .int .i64 n, .int .i64 v, .int .i64 wt, .slice a m c]] w fun e w' => e = .returned (.int .i64 (checkD ⟨4, n, v, wt, l⟩)) ∧ Kept w w' := by
  have hi := isKind_any 4
  rw [show isKindB 4 = true from rfl] at hi
  obtain ⟨g0, g1, g2, g3, g4, g5, g6⟩ := hr.k4
  have hlt := hr.lt
  have HA : Hid (AtC w a m l) := hA
  have HL : Hid (l.length = m) := hA.1
  clear hA hr
  have htk := takes_any [115, 101, 110, 100] true true true false 0 7 4 n v wt a m c
  rcases ht : takesB ⟨[115, 101, 110, 100], true, true, true, false, 0, 7⟩ n v wt m with _ | _
  · have HC : Hid (checkD ⟨4, n, v, wt, l⟩ = 1) := check_arg rfl (by rw [HL.out]; exact ht)
    rw [ht] at htk
    clear ht
    go_enter Tryz.func109, Tryz.ntmps109
    go_wp2_with fail
    refine (hi _).mono ?_
    rintro e w1 ⟨rfl, hw⟩
    subst w1
    go_wp2_with fail
    refine (htk _).mono ?_
    rintro e w1 ⟨rfl, T⟩
    go_wp2_with fail
    go_ret
    rw [HC.out]
    exact ⟨rfl, (((Kept.refl w).alloc _).alloc _).trans T⟩
  · have HC : Hid (checkD ⟨4, n, v, wt, l⟩ = casesE [] l) := check_plain rfl (by rw [HL.out]; exact ht) rfl
    rw [ht] at htk
    clear ht
    go_enter Tryz.func109, Tryz.ntmps109
    go_wp2_with fail
    refine (hi _).mono ?_
    rintro e w1 ⟨rfl, hw⟩
    subst w1
    go_wp2_with fail
    refine (htk _).mono ?_
    rintro e w1 ⟨rfl, T⟩
    have q0 := T.cell (p := ⟨w.heap.size, 4, none⟩) (v := .slice a m c) (by rw [World.cell?_alloc2_first]; rfl)
    have q1 := T.cell (p := ⟨w.heap.size + 1, 4, none⟩) (v := .bool false) (by rw [World.cell?_alloc2_new]; rfl)
    have z0 := cell_lt q0
    have z1 := cell_lt q1
    have T1 := (((Kept.refl w).alloc (.cells #[.int .i64 4, .int .i64 n, .int .i64 v, .int .i64 wt, .slice a m c] 77)).alloc (.cells #[.string (B [115, 101, 110, 100]), .bool true, .bool true, .bool true, .bool false, .int .i64 0, .int .i64 7] 167)).trans T
    go_wp2_with fail
    refine (checkCases_any a m c l w1 (HA.out.kept T1) hm hcap).mono ?_
    rintro e w2 ⟨rfl, T2⟩
    go_wp2_with fail
    go_ret
    rw [HC.out]
    exact ⟨rfl, T1.trans T2⟩
set_option maxHeartbeats 1000000 in
theorem check_k5 (n v wt : Int) (a : Option Addr) (m c : Nat) (l : List CaseD) (w : World) (hr : Rdy w) (hA : AtC w a m l) (hm : m ≤ 1000000) (hcap : m ≤ c) :
    Calls Tryz.prog 109 #[.agg #[.int .i64 5, .int .i64 n, .int .i64 v, .int .i64 wt, .slice a m c]] w fun e w' => e = .returned (.int .i64 (checkD ⟨5, n, v, wt, l⟩)) ∧ Kept w w' := by
  have hi := isKind_any 5
  rw [show isKindB 5 = true from rfl] at hi
  obtain ⟨g0, g1, g2, g3, g4, g5, g6⟩ := hr.k5
  have hlt := hr.lt
  have HA : Hid (AtC w a m l) := hA
  have HL : Hid (l.length = m) := hA.1
  clear hA hr
  have htk := takes_any [114, 101, 99, 118] true false true false 0 7 5 n v wt a m c
  rcases ht : takesB ⟨[114, 101, 99, 118], true, false, true, false, 0, 7⟩ n v wt m with _ | _
  · have HC : Hid (checkD ⟨5, n, v, wt, l⟩ = 1) := check_arg rfl (by rw [HL.out]; exact ht)
    rw [ht] at htk
    clear ht
    go_enter Tryz.func109, Tryz.ntmps109
    go_wp2_with fail
    refine (hi _).mono ?_
    rintro e w1 ⟨rfl, hw⟩
    subst w1
    go_wp2_with fail
    refine (htk _).mono ?_
    rintro e w1 ⟨rfl, T⟩
    go_wp2_with fail
    go_ret
    rw [HC.out]
    exact ⟨rfl, (((Kept.refl w).alloc _).alloc _).trans T⟩
  · have HC : Hid (checkD ⟨5, n, v, wt, l⟩ = casesE [] l) := check_plain rfl (by rw [HL.out]; exact ht) rfl
    rw [ht] at htk
    clear ht
    go_enter Tryz.func109, Tryz.ntmps109
    go_wp2_with fail
    refine (hi _).mono ?_
    rintro e w1 ⟨rfl, hw⟩
    subst w1
    go_wp2_with fail
    refine (htk _).mono ?_
    rintro e w1 ⟨rfl, T⟩
    have q0 := T.cell (p := ⟨w.heap.size, 4, none⟩) (v := .slice a m c) (by rw [World.cell?_alloc2_first]; rfl)
    have q1 := T.cell (p := ⟨w.heap.size + 1, 4, none⟩) (v := .bool false) (by rw [World.cell?_alloc2_new]; rfl)
    have z0 := cell_lt q0
    have z1 := cell_lt q1
    have T1 := (((Kept.refl w).alloc (.cells #[.int .i64 5, .int .i64 n, .int .i64 v, .int .i64 wt, .slice a m c] 77)).alloc (.cells #[.string (B [114, 101, 99, 118]), .bool true, .bool false, .bool true, .bool false, .int .i64 0, .int .i64 7] 167)).trans T
    go_wp2_with fail
    refine (checkCases_any a m c l w1 (HA.out.kept T1) hm hcap).mono ?_
    rintro e w2 ⟨rfl, T2⟩
    go_wp2_with fail
    go_ret
    rw [HC.out]
    exact ⟨rfl, T1.trans T2⟩
set_option maxHeartbeats 1000000 in
theorem check_k6 (n v wt : Int) (a : Option Addr) (m c : Nat) (l : List CaseD) (w : World) (hr : Rdy w) (hA : AtC w a m l) (hm : m ≤ 1000000) (hcap : m ≤ c) :
    Calls Tryz.prog 109 #[.agg #[.int .i64 6, .int .i64 n, .int .i64 v, .int .i64 wt, .slice a m c]] w fun e w' => e = .returned (.int .i64 (checkD ⟨6, n, v, wt, l⟩)) ∧ Kept w w' := by
  have hi := isKind_any 6
  rw [show isKindB 6 = true from rfl] at hi
  obtain ⟨g0, g1, g2, g3, g4, g5, g6⟩ := hr.k6
  have hlt := hr.lt
  have HA : Hid (AtC w a m l) := hA
  have HL : Hid (l.length = m) := hA.1
  clear hA hr
  have htk := takes_any [99, 108, 111, 115, 101] true false false false 0 7 6 n v wt a m c
  rcases ht : takesB ⟨[99, 108, 111, 115, 101], true, false, false, false, 0, 7⟩ n v wt m with _ | _
  · have HC : Hid (checkD ⟨6, n, v, wt, l⟩ = 1) := check_arg rfl (by rw [HL.out]; exact ht)
    rw [ht] at htk
    clear ht
    go_enter Tryz.func109, Tryz.ntmps109
    go_wp2_with fail
    refine (hi _).mono ?_
    rintro e w1 ⟨rfl, hw⟩
    subst w1
    go_wp2_with fail
    refine (htk _).mono ?_
    rintro e w1 ⟨rfl, T⟩
    go_wp2_with fail
    go_ret
    rw [HC.out]
    exact ⟨rfl, (((Kept.refl w).alloc _).alloc _).trans T⟩
  · have HC : Hid (checkD ⟨6, n, v, wt, l⟩ = casesE [] l) := check_plain rfl (by rw [HL.out]; exact ht) rfl
    rw [ht] at htk
    clear ht
    go_enter Tryz.func109, Tryz.ntmps109
    go_wp2_with fail
    refine (hi _).mono ?_
    rintro e w1 ⟨rfl, hw⟩
    subst w1
    go_wp2_with fail
    refine (htk _).mono ?_
    rintro e w1 ⟨rfl, T⟩
    have q0 := T.cell (p := ⟨w.heap.size, 4, none⟩) (v := .slice a m c) (by rw [World.cell?_alloc2_first]; rfl)
    have q1 := T.cell (p := ⟨w.heap.size + 1, 4, none⟩) (v := .bool false) (by rw [World.cell?_alloc2_new]; rfl)
    have z0 := cell_lt q0
    have z1 := cell_lt q1
    have T1 := (((Kept.refl w).alloc (.cells #[.int .i64 6, .int .i64 n, .int .i64 v, .int .i64 wt, .slice a m c] 77)).alloc (.cells #[.string (B [99, 108, 111, 115, 101]), .bool true, .bool false, .bool false, .bool false, .int .i64 0, .int .i64 7] 167)).trans T
    go_wp2_with fail
    refine (checkCases_any a m c l w1 (HA.out.kept T1) hm hcap).mono ?_
    rintro e w2 ⟨rfl, T2⟩
    go_wp2_with fail
    go_ret
    rw [HC.out]
    exact ⟨rfl, T1.trans T2⟩
set_option maxHeartbeats 1000000 in
theorem check_k7 (n v wt : Int) (a : Option Addr) (m c : Nat) (l : List CaseD) (w : World) (hr : Rdy w) (hA : AtC w a m l) (hm : m ≤ 1000000) (hcap : m ≤ c) :
    Calls Tryz.prog 109 #[.agg #[.int .i64 7, .int .i64 n, .int .i64 v, .int .i64 wt, .slice a m c]] w fun e w' => e = .returned (.int .i64 (checkD ⟨7, n, v, wt, l⟩)) ∧ Kept w w' := by
  have hi := isKind_any 7
  rw [show isKindB 7 = true from rfl] at hi
  obtain ⟨g0, g1, g2, g3, g4, g5, g6⟩ := hr.k7
  have hlt := hr.lt
  have HA : Hid (AtC w a m l) := hA
  have HL : Hid (l.length = m) := hA.1
  clear hA hr
  have htk := takes_any [115, 101, 108, 101, 99, 116] false false true true 0 0 7 n v wt a m c
  rcases ht : takesB ⟨[115, 101, 108, 101, 99, 116], false, false, true, true, 0, 0⟩ n v wt m with _ | _
  · have HC : Hid (checkD ⟨7, n, v, wt, l⟩ = 1) := check_arg rfl (by rw [HL.out]; exact ht)
    rw [ht] at htk
    clear ht
    go_enter Tryz.func109, Tryz.ntmps109
    go_wp2_with fail
    refine (hi _).mono ?_
    rintro e w1 ⟨rfl, hw⟩
    subst w1
    go_wp2_with fail
    refine (htk _).mono ?_
    rintro e w1 ⟨rfl, T⟩
    go_wp2_with fail
    go_ret
    rw [HC.out]
    exact ⟨rfl, (((Kept.refl w).alloc _).alloc _).trans T⟩
  · by_cases hl : m = 0 ∨ 4 < m
    · have HC : Hid (checkD ⟨7, n, v, wt, l⟩ = 18) := check_many rfl (by rw [HL.out]; exact ht) rfl (by rw [HL.out]; exact hl)
      rw [ht] at htk
      clear ht
      go_enter Tryz.func109, Tryz.ntmps109
      go_wp2_with fail
      refine (hi _).mono ?_
      rintro e w1 ⟨rfl, hw⟩
      subst w1
      go_wp2_with fail
      refine (htk _).mono ?_
      rintro e w1 ⟨rfl, T⟩
      have q0 := T.cell (p := ⟨w.heap.size, 4, none⟩) (v := .slice a m c) (by rw [World.cell?_alloc2_first]; rfl)
      have q1 := T.cell (p := ⟨w.heap.size + 1, 4, none⟩) (v := .bool true) (by rw [World.cell?_alloc2_new]; rfl)
      have z0 := cell_lt q0
      have z1 := cell_lt q1
      have T1 := (((Kept.refl w).alloc (.cells #[.int .i64 7, .int .i64 n, .int .i64 v, .int .i64 wt, .slice a m c] 77)).alloc (.cells #[.string (B [115, 101, 108, 101, 99, 116]), .bool false, .bool false, .bool true, .bool true, .int .i64 0, .int .i64 0] 167)).trans T
      rcases hl with hl | hl
      · subst hl
        go_wp2_with fail
        go_ret
        rw [HC.out]
        exact ⟨rfl, T1⟩
      · have h0 : ((m : Int) == 0) = false := by rw [beq_eq_false_iff_ne]; omega
        have h4 : 4 < (m : Int) := by omega
        go_wp2_with fail
        go_ret
        rw [HC.out]
        exact ⟨rfl, T1⟩
    · have HC : Hid (checkD ⟨7, n, v, wt, l⟩ = casesE [] l) := check_pick rfl (by rw [HL.out]; exact ht) (by rw [HL.out]; exact hl)
      rw [ht] at htk
      clear ht
      go_enter Tryz.func109, Tryz.ntmps109
      go_wp2_with fail
      refine (hi _).mono ?_
      rintro e w1 ⟨rfl, hw⟩
      subst w1
      go_wp2_with fail
      refine (htk _).mono ?_
      rintro e w1 ⟨rfl, T⟩
      have q0 := T.cell (p := ⟨w.heap.size, 4, none⟩) (v := .slice a m c) (by rw [World.cell?_alloc2_first]; rfl)
      have q1 := T.cell (p := ⟨w.heap.size + 1, 4, none⟩) (v := .bool true) (by rw [World.cell?_alloc2_new]; rfl)
      have z0 := cell_lt q0
      have z1 := cell_lt q1
      have T1 := (((Kept.refl w).alloc (.cells #[.int .i64 7, .int .i64 n, .int .i64 v, .int .i64 wt, .slice a m c] 77)).alloc (.cells #[.string (B [115, 101, 108, 101, 99, 116]), .bool false, .bool false, .bool true, .bool true, .int .i64 0, .int .i64 0] 167)).trans T
      have h0 : ((m : Int) == 0) = false := by rw [beq_eq_false_iff_ne]; omega
      have h4 : ¬ 4 < (m : Int) := by omega
      go_wp2_with fail
      refine (checkCases_any a m c l w1 (HA.out.kept T1) hm hcap).mono ?_
      rintro e w2 ⟨rfl, T2⟩
      go_wp2_with fail
      go_ret
      rw [HC.out]
      exact ⟨rfl, T1.trans T2⟩
set_option maxHeartbeats 1000000 in
theorem check_k8 (n v wt : Int) (a : Option Addr) (m c : Nat) (l : List CaseD) (w : World) (hr : Rdy w) (hA : AtC w a m l) (hm : m ≤ 1000000) (hcap : m ≤ c) :
    Calls Tryz.prog 109 #[.agg #[.int .i64 8, .int .i64 n, .int .i64 v, .int .i64 wt, .slice a m c]] w fun e w' => e = .returned (.int .i64 (checkD ⟨8, n, v, wt, l⟩)) ∧ Kept w w' := by
  have hi := isKind_any 8
  rw [show isKindB 8 = true from rfl] at hi
  obtain ⟨g0, g1, g2, g3, g4, g5, g6⟩ := hr.k8
  have hlt := hr.lt
  have HA : Hid (AtC w a m l) := hA
  have HL : Hid (l.length = m) := hA.1
  clear hA hr
  have htk := takes_any [108, 111, 111, 112] true false false false 1 32 8 n v wt a m c
  rcases ht : takesB ⟨[108, 111, 111, 112], true, false, false, false, 1, 32⟩ n v wt m with _ | _
  · have HC : Hid (checkD ⟨8, n, v, wt, l⟩ = 1) := check_arg rfl (by rw [HL.out]; exact ht)
    rw [ht] at htk
    clear ht
    go_enter Tryz.func109, Tryz.ntmps109
    go_wp2_with fail
    refine (hi _).mono ?_
    rintro e w1 ⟨rfl, hw⟩
    subst w1
    go_wp2_with fail
    refine (htk _).mono ?_
    rintro e w1 ⟨rfl, T⟩
    go_wp2_with fail
    go_ret
    rw [HC.out]
    exact ⟨rfl, (((Kept.refl w).alloc _).alloc _).trans T⟩
  · have HC : Hid (checkD ⟨8, n, v, wt, l⟩ = casesE [] l) := check_plain rfl (by rw [HL.out]; exact ht) rfl
    rw [ht] at htk
    clear ht
    go_enter Tryz.func109, Tryz.ntmps109
    go_wp2_with fail
    refine (hi _).mono ?_
    rintro e w1 ⟨rfl, hw⟩
    subst w1
    go_wp2_with fail
    refine (htk _).mono ?_
    rintro e w1 ⟨rfl, T⟩
    have q0 := T.cell (p := ⟨w.heap.size, 4, none⟩) (v := .slice a m c) (by rw [World.cell?_alloc2_first]; rfl)
    have q1 := T.cell (p := ⟨w.heap.size + 1, 4, none⟩) (v := .bool false) (by rw [World.cell?_alloc2_new]; rfl)
    have z0 := cell_lt q0
    have z1 := cell_lt q1
    have T1 := (((Kept.refl w).alloc (.cells #[.int .i64 8, .int .i64 n, .int .i64 v, .int .i64 wt, .slice a m c] 77)).alloc (.cells #[.string (B [108, 111, 111, 112]), .bool true, .bool false, .bool false, .bool false, .int .i64 1, .int .i64 32] 167)).trans T
    go_wp2_with fail
    refine (checkCases_any a m c l w1 (HA.out.kept T1) hm hcap).mono ?_
    rintro e w2 ⟨rfl, T2⟩
    go_wp2_with fail
    go_ret
    rw [HC.out]
    exact ⟨rfl, T1.trans T2⟩
set_option maxHeartbeats 1000000 in
theorem check_k9 (n v wt : Int) (a : Option Addr) (m c : Nat) (l : List CaseD) (w : World) (hr : Rdy w) (hA : AtC w a m l) (hm : m ≤ 1000000) (hcap : m ≤ c) :
    Calls Tryz.prog 109 #[.agg #[.int .i64 9, .int .i64 n, .int .i64 v, .int .i64 wt, .slice a m c]] w fun e w' => e = .returned (.int .i64 (checkD ⟨9, n, v, wt, l⟩)) ∧ Kept w w' := by
  have hi := isKind_any 9
  rw [show isKindB 9 = true from rfl] at hi
  obtain ⟨g0, g1, g2, g3, g4, g5, g6⟩ := hr.k9
  have hlt := hr.lt
  have HA : Hid (AtC w a m l) := hA
  have HL : Hid (l.length = m) := hA.1
  clear hA hr
  have htk := takes_any [101, 110, 100] false false false false 0 0 9 n v wt a m c
  rcases ht : takesB ⟨[101, 110, 100], false, false, false, false, 0, 0⟩ n v wt m with _ | _
  · have HC : Hid (checkD ⟨9, n, v, wt, l⟩ = 1) := check_arg rfl (by rw [HL.out]; exact ht)
    rw [ht] at htk
    clear ht
    go_enter Tryz.func109, Tryz.ntmps109
    go_wp2_with fail
    refine (hi _).mono ?_
    rintro e w1 ⟨rfl, hw⟩
    subst w1
    go_wp2_with fail
    refine (htk _).mono ?_
    rintro e w1 ⟨rfl, T⟩
    go_wp2_with fail
    go_ret
    rw [HC.out]
    exact ⟨rfl, (((Kept.refl w).alloc _).alloc _).trans T⟩
  · have HC : Hid (checkD ⟨9, n, v, wt, l⟩ = casesE [] l) := check_plain rfl (by rw [HL.out]; exact ht) rfl
    rw [ht] at htk
    clear ht
    go_enter Tryz.func109, Tryz.ntmps109
    go_wp2_with fail
    refine (hi _).mono ?_
    rintro e w1 ⟨rfl, hw⟩
    subst w1
    go_wp2_with fail
    refine (htk _).mono ?_
    rintro e w1 ⟨rfl, T⟩
    have q0 := T.cell (p := ⟨w.heap.size, 4, none⟩) (v := .slice a m c) (by rw [World.cell?_alloc2_first]; rfl)
    have q1 := T.cell (p := ⟨w.heap.size + 1, 4, none⟩) (v := .bool false) (by rw [World.cell?_alloc2_new]; rfl)
    have z0 := cell_lt q0
    have z1 := cell_lt q1
    have T1 := (((Kept.refl w).alloc (.cells #[.int .i64 9, .int .i64 n, .int .i64 v, .int .i64 wt, .slice a m c] 77)).alloc (.cells #[.string (B [101, 110, 100]), .bool false, .bool false, .bool false, .bool false, .int .i64 0, .int .i64 0] 167)).trans T
    go_wp2_with fail
    refine (checkCases_any a m c l w1 (HA.out.kept T1) hm hcap).mono ?_
    rintro e w2 ⟨rfl, T2⟩
    go_wp2_with fail
    go_ret
    rw [HC.out]
    exact ⟨rfl, T1.trans T2⟩

theorem check_any (k n v wt : Int) (a : Option Addr) (m c : Nat) (l : List CaseD) (w : World) (hr : Rdy w) (hA : AtC w a m l) (hm : m ≤ 1000000) (hcap : m ≤ c) :
    Calls Tryz.prog 109 #[.agg #[.int .i64 k, .int .i64 n, .int .i64 v, .int .i64 wt, .slice a m c]] w fun e w' => e = .returned (.int .i64 (checkD ⟨k, n, v, wt, l⟩)) ∧ Kept w w' := by
  cases hk : isKindB k with
  | false => exact check_none k n v wt a m c l w hk
  | true =>
    rcases kind_cases hk with rfl | rfl | rfl | rfl | rfl | rfl | rfl | rfl | rfl
    · exact check_k1 n v wt a m c l w hr hA hm hcap
    · exact check_k2 n v wt a m c l w hr hA hm hcap
    · exact check_k3 n v wt a m c l w hr hA hm hcap
    · exact check_k4 n v wt a m c l w hr hA hm hcap
    · exact check_k5 n v wt a m c l w hr hA hm hcap
    · exact check_k6 n v wt a m c l w hr hA hm hcap
    · exact check_k7 n v wt a m c l w hr hA hm hcap
    · exact check_k8 n v wt a m c l w hr hA hm hcap
    · exact check_k9 n v wt a m c l w hr hA hm hcap
end Go.Proofs.YtlkbphogpbcjfaaGreatDoor
