/- The reference's CheckOp. The reference's CheckOp of a select. -/
import Derived.Test.YtlkbphogpbcjfaaGreatDoorPgA
namespace Go.Proofs.YtlkbphogpbcjfaaGreatDoor
open Go.RowKit

theorem casesE_nil {l : List CaseD} (h : l.length = 0) : casesE [] l = 0 := by rw [List.eq_nil_of_length_eq_zero h]; rfl
theorem rcheck_none (k n v wt : Int) (a : Option Addr) (m c : Nat) (l : List CaseD) (w : World) (hk : isKindB k = false) :
    Calls Tryz.prog 43 #[.agg #[.int .i64 k, .int .i64 n, .int .i64 v, .int .i64 wt, .slice a m c]] w fun e w' => e = .returned (.int .i64 (checkD ⟨k, n, v, wt, l⟩)) ∧ Kept w w' := by
  have HC : Hid (checkD ⟨k, n, v, wt, l⟩ = 3) := check_no hk
  have hw : k < 1 ∨ (1 ≤ k ∧ 9 < k) := by simp [isKindB] at hk; omega
  rcases hw with h | ⟨h, h2⟩
  · go_enter Tryz.func43, Tryz.ntmps43
    go_wp2_with fail
    go_ret
    rw [HC.out]
    exact ⟨rfl, (Kept.refl w).alloc _⟩
  · go_enter Tryz.func43, Tryz.ntmps43
    go_wp2_with fail
    go_ret
    rw [HC.out]
    exact ⟨rfl, (Kept.refl w).alloc _⟩

set_option maxHeartbeats 2000000 in
theorem rcheck_k1 (n v wt : Int) (a : Option Addr) (m c : Nat) (l : List CaseD) (w : World) (hA : AtC w a m l) :
    Calls Tryz.prog 43 #[.agg #[.int .i64 1, .int .i64 n, .int .i64 v, .int .i64 wt, .slice a m c]] w fun e w' => e = .returned (.int .i64 (checkD ⟨1, n, v, wt, l⟩)) ∧ Kept w w' := by
  have HL : Hid (l.length = m) := hA.1
  clear hA
  go_enter Tryz.func43, Tryz.ntmps43
  go_wp2_with fail
  all_goals (go_ret; refine ⟨?_, (Kept.refl w).alloc _⟩; refine ret_int ?_)
  all_goals (first
    | (rw [check_arg rfl (by rw [HL.out]; rw [Bool.eq_false_iff]; intro hh; simp [takesB, shapeOf] at *; omega)])
    | (rw [check_plain rfl (by rw [HL.out]; simp [takesB, shapeOf] at *; omega) rfl, casesE_nil (by rw [HL.out]; simp at *; omega)]))
set_option maxHeartbeats 2000000 in
theorem rcheck_k2 (n v wt : Int) (a : Option Addr) (m c : Nat) (l : List CaseD) (w : World) (hA : AtC w a m l) :
    Calls Tryz.prog 43 #[.agg #[.int .i64 2, .int .i64 n, .int .i64 v, .int .i64 wt, .slice a m c]] w fun e w' => e = .returned (.int .i64 (checkD ⟨2, n, v, wt, l⟩)) ∧ Kept w w' := by
  have HL : Hid (l.length = m) := hA.1
  clear hA
  go_enter Tryz.func43, Tryz.ntmps43
  go_wp2_with fail
  all_goals (go_ret; refine ⟨?_, (Kept.refl w).alloc _⟩; refine ret_int ?_)
  all_goals (first
    | (rw [check_arg rfl (by rw [HL.out]; rw [Bool.eq_false_iff]; intro hh; simp [takesB, shapeOf] at *; omega)])
    | (rw [check_plain rfl (by rw [HL.out]; simp [takesB, shapeOf] at *; omega) rfl, casesE_nil (by rw [HL.out]; simp at *; omega)]))
set_option maxHeartbeats 2000000 in
theorem rcheck_k3 (n v wt : Int) (a : Option Addr) (m c : Nat) (l : List CaseD) (w : World) (hA : AtC w a m l) :
    Calls Tryz.prog 43 #[.agg #[.int .i64 3, .int .i64 n, .int .i64 v, .int .i64 wt, .slice a m c]] w fun e w' => e = .returned (.int .i64 (checkD ⟨3, n, v, wt, l⟩)) ∧ Kept w w' := by
  have HL : Hid (l.length = m) := hA.1
  clear hA
  go_enter Tryz.func43, Tryz.ntmps43
  go_wp2_with fail
  all_goals (go_ret; refine ⟨?_, (Kept.refl w).alloc _⟩; refine ret_int ?_)
  all_goals (first
    | (rw [check_arg rfl (by rw [HL.out]; rw [Bool.eq_false_iff]; intro hh; simp [takesB, shapeOf] at *; omega)])
    | (rw [check_plain rfl (by rw [HL.out]; simp [takesB, shapeOf] at *; omega) rfl, casesE_nil (by rw [HL.out]; simp at *; omega)]))
set_option maxHeartbeats 2000000 in
theorem rcheck_k4 (n v wt : Int) (a : Option Addr) (m c : Nat) (l : List CaseD) (w : World) (hA : AtC w a m l) :
    Calls Tryz.prog 43 #[.agg #[.int .i64 4, .int .i64 n, .int .i64 v, .int .i64 wt, .slice a m c]] w fun e w' => e = .returned (.int .i64 (checkD ⟨4, n, v, wt, l⟩)) ∧ Kept w w' := by
  have HL : Hid (l.length = m) := hA.1
  clear hA
  go_enter Tryz.func43, Tryz.ntmps43
  go_wp2_with fail
  all_goals (go_ret; refine ⟨?_, (Kept.refl w).alloc _⟩; refine ret_int ?_)
  all_goals (first
    | (rw [check_arg rfl (by rw [HL.out]; rw [Bool.eq_false_iff]; intro hh; simp [takesB, shapeOf] at *; omega)])
    | (rw [check_plain rfl (by rw [HL.out]; simp [takesB, shapeOf] at *; omega) rfl, casesE_nil (by rw [HL.out]; simp at *; omega)]))
set_option maxHeartbeats 2000000 in
theorem rcheck_k5 (n v wt : Int) (a : Option Addr) (m c : Nat) (l : List CaseD) (w : World) (hA : AtC w a m l) :
    Calls Tryz.prog 43 #[.agg #[.int .i64 5, .int .i64 n, .int .i64 v, .int .i64 wt, .slice a m c]] w fun e w' => e = .returned (.int .i64 (checkD ⟨5, n, v, wt, l⟩)) ∧ Kept w w' := by
  have HL : Hid (l.length = m) := hA.1
  clear hA
  go_enter Tryz.func43, Tryz.ntmps43
  go_wp2_with fail
  all_goals (go_ret; refine ⟨?_, (Kept.refl w).alloc _⟩; refine ret_int ?_)
  all_goals (first
    | (rw [check_arg rfl (by rw [HL.out]; rw [Bool.eq_false_iff]; intro hh; simp [takesB, shapeOf] at *; omega)])
    | (rw [check_plain rfl (by rw [HL.out]; simp [takesB, shapeOf] at *; omega) rfl, casesE_nil (by rw [HL.out]; simp at *; omega)]))
set_option maxHeartbeats 2000000 in
theorem rcheck_k6 (n v wt : Int) (a : Option Addr) (m c : Nat) (l : List CaseD) (w : World) (hA : AtC w a m l) :
    Calls Tryz.prog 43 #[.agg #[.int .i64 6, .int .i64 n, .int .i64 v, .int .i64 wt, .slice a m c]] w fun e w' => e = .returned (.int .i64 (checkD ⟨6, n, v, wt, l⟩)) ∧ Kept w w' := by
  have HL : Hid (l.length = m) := hA.1
  clear hA
  go_enter Tryz.func43, Tryz.ntmps43
  go_wp2_with fail
  all_goals (go_ret; refine ⟨?_, (Kept.refl w).alloc _⟩; refine ret_int ?_)
  all_goals (first
    | (rw [check_arg rfl (by rw [HL.out]; rw [Bool.eq_false_iff]; intro hh; simp [takesB, shapeOf] at *; omega)])
    | (rw [check_plain rfl (by rw [HL.out]; simp [takesB, shapeOf] at *; omega) rfl, casesE_nil (by rw [HL.out]; simp at *; omega)]))
set_option maxHeartbeats 2000000 in
theorem rcheck_k8 (n v wt : Int) (a : Option Addr) (m c : Nat) (l : List CaseD) (w : World) (hA : AtC w a m l) :
    Calls Tryz.prog 43 #[.agg #[.int .i64 8, .int .i64 n, .int .i64 v, .int .i64 wt, .slice a m c]] w fun e w' => e = .returned (.int .i64 (checkD ⟨8, n, v, wt, l⟩)) ∧ Kept w w' := by
  have HL : Hid (l.length = m) := hA.1
  clear hA
  go_enter Tryz.func43, Tryz.ntmps43
  go_wp2_with fail
  all_goals (go_ret; refine ⟨?_, (Kept.refl w).alloc _⟩; refine ret_int ?_)
  all_goals (first
    | (rw [check_arg rfl (by rw [HL.out]; rw [Bool.eq_false_iff]; intro hh; simp [takesB, shapeOf] at *; omega)])
    | (rw [check_plain rfl (by rw [HL.out]; simp [takesB, shapeOf] at *; omega) rfl, casesE_nil (by rw [HL.out]; simp at *; omega)]))
set_option maxHeartbeats 2000000 in
theorem rcheck_k9 (n v wt : Int) (a : Option Addr) (m c : Nat) (l : List CaseD) (w : World) (hA : AtC w a m l) :
    Calls Tryz.prog 43 #[.agg #[.int .i64 9, .int .i64 n, .int .i64 v, .int .i64 wt, .slice a m c]] w fun e w' => e = .returned (.int .i64 (checkD ⟨9, n, v, wt, l⟩)) ∧ Kept w w' := by
  have HL : Hid (l.length = m) := hA.1
  clear hA
  go_enter Tryz.func43, Tryz.ntmps43
  go_wp2_with fail
  all_goals (go_ret; refine ⟨?_, (Kept.refl w).alloc _⟩; refine ret_int ?_)
  all_goals (first
    | (rw [check_arg rfl (by rw [HL.out]; rw [Bool.eq_false_iff]; intro hh; simp [takesB, shapeOf] at *; omega)])
    | (rw [check_plain rfl (by rw [HL.out]; simp [takesB, shapeOf] at *; omega) rfl, casesE_nil (by rw [HL.out]; simp at *; omega)]))
end Go.Proofs.YtlkbphogpbcjfaaGreatDoor
namespace Go.Proofs.YtlkbphogpbcjfaaGreatDoor
open Go.RowKit

set_option maxHeartbeats 4000000 in
set_option maxRecDepth 10000 in
theorem rcheck_k7 (n v wt : Int) (a : Option Addr) (m c : Nat) (l : List CaseD) (w : World) (hA : AtC w a m l) :
    Calls Tryz.prog 43 #[.agg #[.int .i64 7, .int .i64 n, .int .i64 v, .int .i64 wt, .slice a m c]] w fun e w' => e = .returned (.int .i64 (checkD ⟨7, n, v, wt, l⟩)) ∧ Kept w w' := by
  have HA : Hid (AtC w a m l) := hA
  have HL : Hid (l.length = m) := hA.1
  clear hA
  rcases ht : takesB (shapeOf 7) n v wt m with _ | _
  · have HC : Hid (checkD ⟨7, n, v, wt, l⟩ = 1) := check_arg rfl (by rw [HL.out]; exact ht)
    have hway : (v != 0) = true ∨ (v = 0 ∧ n < 0) ∨ (v = 0 ∧ 0 ≤ n ∧ 0 < n) ∨ (v = 0 ∧ n = 0 ∧ wt < -1) ∨ (v = 0 ∧ n = 0 ∧ -1 ≤ wt ∧ 1000 < wt) := by
      by_cases hv : v = 0
      · right
        subst hv
        rw [Bool.eq_false_iff] at ht
        simp [takesB, shapeOf] at ht
        omega
      · left; simp [hv]
    clear ht
    rcases hway with h | ⟨rfl, h⟩ | ⟨rfl, h, h2⟩ | ⟨rfl, rfl, h⟩ | ⟨rfl, rfl, h, h2⟩
    · go_enter Tryz.func43, Tryz.ntmps43
      go_wp2_with fail
      go_ret
      rw [HC.out]
      exact ⟨rfl, (Kept.refl w).alloc _⟩
    · go_enter Tryz.func43, Tryz.ntmps43
      go_wp2_with fail
      go_ret
      rw [HC.out]
      exact ⟨rfl, (Kept.refl w).alloc _⟩
    · go_enter Tryz.func43, Tryz.ntmps43
      go_wp2_with fail
      go_ret
      rw [HC.out]
      exact ⟨rfl, (Kept.refl w).alloc _⟩
    · go_enter Tryz.func43, Tryz.ntmps43
      go_wp2_with fail
      go_ret
      rw [HC.out]
      exact ⟨rfl, (Kept.refl w).alloc _⟩
    · go_enter Tryz.func43, Tryz.ntmps43
      go_wp2_with fail
      go_ret
      rw [HC.out]
      exact ⟨rfl, (Kept.refl w).alloc _⟩
  · simp [takesB, shapeOf] at ht
    obtain ⟨⟨⟨_, _⟩, rfl⟩, h1, h2⟩ := ht
    obtain rfl : n = 0 := by omega
    by_cases hl : m = 0 ∨ 4 < m
    · have HC : Hid (checkD ⟨7, 0, 0, wt, l⟩ = 18) := check_many rfl (by rw [HL.out]; simp [takesB, shapeOf]; omega) rfl (by rw [HL.out]; exact hl)
      rcases hl with hl | hl
      · subst hl
        go_enter Tryz.func43, Tryz.ntmps43
        go_wp2_with fail
        go_ret
        rw [HC.out]
        exact ⟨rfl, (Kept.refl w).alloc _⟩
      · have h0 : ¬ (m : Int) < 1 := by omega
        have h4 : 4 < (m : Int) := by omega
        go_enter Tryz.func43, Tryz.ntmps43
        go_wp2_with fail
        go_ret
        rw [HC.out]
        exact ⟨rfl, (Kept.refl w).alloc _⟩
    · have HC : Hid (checkD ⟨7, 0, 0, wt, l⟩ = casesE [] l) := check_pick rfl (by rw [HL.out]; simp [takesB, shapeOf]; omega) (by rw [HL.out]; exact hl)
      have h0 : ¬ (m : Int) < 1 := by omega
      have h4 : ¬ 4 < (m : Int) := by omega
      have K1 : Kept w (w.alloc (.cells #[.int .i64 7, .int .i64 0, .int .i64 0, .int .i64 wt, .slice a m c] 83)) := (Kept.refl w).alloc _
      have GA : Hid ((w.alloc (.cells #[.int .i64 7, .int .i64 0, .int .i64 0, .int .i64 wt, .slice a m c] 83)).cell? ⟨w.heap.size, 4, none⟩ = some (.slice a m c)) := by show _ = _; rw [World.cell?_alloc_at _ _ _ _ rfl]; rfl
      go_enter Tryz.func43, Tryz.ntmps43
      go_wp2_with fail
      go_loopg [6] m (fun gk i wr => ∃ k : Nat, i = .int .i64 k ∧ k + gk = m ∧ Hid (casesE (l.take k) (l.drop k) = casesE [] l) ∧ Kept (w.alloc (.cells #[.int .i64 7, .int .i64 0, .int .i64 0, .int .i64 wt, .slice a m c] 83)) wr)
      case atStart => exact ⟨0, rfl, by omega, rfl, Kept.refl _⟩
      case round =>
       obtain ⟨k, rfl, hk, HI, T⟩ := hrel
       have ga := T.cell GA.out
       have la := cell_lt ga
       have T2 := K1.trans T
       by_cases hkm : k < m
       · obtain ⟨b, f, sd, ch, x, rfl, g0, g1, g2, hb, e1, e2, e3⟩ := (HA.out.kept T2).get k hkm
         have b1 : (k : Int) < (m : Int) := by omega
         have b2 : (0 : Int) ≤ (k : Int) := by omega
         have HE : Hid (casesE (l.take k) (⟨sd, ch, x⟩ :: l.drop (k + 1)) = casesE [] l) := by show _ = _; rw [← e3]; exact HI.out
         have HT : Hid (l.take (k + 1) = l.take k ++ [⟨sd, ch, x⟩]) := e2
         clear e1 e2 e3 HI
         obtain ⟨g1', rfl⟩ : ∃ g, gk = g + 1 := ⟨gk - 1, by omega⟩
         by_cases hbad : badC ⟨sd, ch, x⟩ = true
         · have HR : Hid (casesE [] l = 1) := by show _ = _; rw [← HE.out]; exact casesE_bad hbad
           simp only [badC, Bool.or_eq_true, decide_eq_true_eq, Bool.and_eq_true, Bool.not_eq_true'] at hbad
           have hway : ch < 0 ∨ (0 ≤ ch ∧ 8 ≤ ch) ∨ (0 ≤ ch ∧ ch < 8 ∧ sd = false ∧ (x == 0) = false) := by
             rcases hbad with (h | h) | ⟨h1, h2⟩
             · exact .inl h
             · exact .inr (.inl ⟨by omega, h⟩)
             · by_cases h3 : ch < 0
               · exact .inl h3
               · by_cases h4 : 8 ≤ ch
                 · exact .inr (.inl ⟨by omega, h4⟩)
                 · exact .inr (.inr ⟨by omega, by omega, h2, h1⟩)
           clear hbad
           rcases hway with h | ⟨h, h'⟩ | ⟨h, h', rfl, h3⟩
           · go_wp2_with fail
             go_ret
             rw [HC.out, HR.out]
             exact ⟨rfl, T2.alloc _⟩
           · go_wp2_with fail
             go_ret
             rw [HC.out, HR.out]
             exact ⟨rfl, T2.alloc _⟩
           · have h4 : (x != 0) = true := by simp [bne, h3]
             go_wp2_with fail
             go_ret
             rw [HC.out, HR.out]
             exact ⟨rfl, T2.alloc _⟩
         · have HB : Hid (badC ⟨sd, ch, x⟩ = false) := by show _ = _; simpa using hbad
           clear hbad
           have hway : sd = true ∨ (sd = false ∧ x = 0) := by
             cases hs : sd with
             | true => exact .inl rfl
             | false => exact .inr ⟨rfl, (badC_no HB.out).2.2 hs⟩
           have hch : 0 ≤ ch ∧ ch < 8 := by have := badC_no HB.out; exact ⟨this.1, this.2.1⟩
           obtain ⟨hc1, hc2⟩ := hch
           rcases hway with rfl | ⟨rfl, rfl⟩
           · have K2 := T.alloc (.cells #[.bool true, .int .i64 ch, .int .i64 x] 102)
             have T3 := T2.alloc (.cells #[.bool true, .int .i64 ch, .int .i64 x] 102)
             have GC : Hid ((wr.alloc (.cells #[.bool true, .int .i64 ch, .int .i64 x] 102)).cell? ⟨wr.heap.size, 1, none⟩ = some (.int .i64 ch)) := by show _ = _; rw [World.cell?_alloc_at _ _ _ _ rfl]; rfl
             have GD : Hid ((wr.alloc (.cells #[.bool true, .int .i64 ch, .int .i64 x] 102)).cell? ⟨w.heap.size, 4, none⟩ = some (.slice (some ⟨b, f, none⟩) m c)) := by show _ = _; rw [World.cell?_alloc_past _ _ _ la]; exact ga
             go_wp2_with fail
             go_loopg [8] k (fun g2 i wi => ∃ j : Nat, i = .int .i64 j ∧ j + g2 = k ∧ Hid (hasC (l.take j) ch = false) ∧ Kept (wr.alloc (.cells #[.bool true, .int .i64 ch, .int .i64 x] 102)) wi)
             case atStart => exact ⟨0, rfl, by omega, rfl, Kept.refl _⟩
             case round =>
               obtain ⟨j, rfl, hj, HN, Ti⟩ := hrel
               have T4 := T3.trans Ti
               have gc := Ti.cell GC.out
               have gl := cell_lt gc
               have gd := Ti.cell GD.out
               have gdl := cell_lt gd
               by_cases hjk : j < k
               · obtain ⟨b', f', sd', ch', v', hab, q0, q1, q2, hb', e1, e2, e3⟩ := (HA.out.kept T4).get j (by omega)
                 cases hab
                 have d1 : (j : Int) < (k : Int) := by omega
                 have d2 : (0 : Int) ≤ (j : Int) := by omega
                 have d3 : (j : Int) < (m : Int) := by omega
                 by_cases hcc : ch' = ch
                 · have HR : Hid (casesE [] l = 6) := by
                     show _ = _
                     rw [← HE.out]
                     exact casesE_twice HB.out (hasC_mem e1 hjk hcc)
                   have t : (ch' == ch) = true := by simp [hcc]
                   clear e1 e2 e3 hcc
                   go_wp2_with fail
                   go_quiet (fail)
                   go_wp2_with fail
                   go_ret
                   rw [HC.out, HR.out]
                   exact ⟨rfl, T4.drewN _⟩
                 · have HN2 : Hid (hasC (l.take (j + 1)) ch = false) := by
                     show _ = _
                     rw [e2, hasC_snoc, HN.out]
                     simpa using hcc
                   have t : (ch' == ch) = false := by simp [hcc]
                   clear e1 e2 e3 hcc
                   obtain ⟨g3, rfl⟩ : ∃ g, gk = g + 1 := ⟨gk - 1, by omega⟩
                   go_wp2_with fail
                   go_quiet (fail)
                   go_wp2_with fail
                   go_roundg g3
                   case rel => exact ⟨j + 1, by go_num, by omega, HN2, Ti.drewN _⟩
                   case measure => omega
               · have d1 : ¬ (j : Int) < (k : Int) := by omega
                 obtain rfl : j = k := by omega
                 have HX : Hid (casesE (l.take (j + 1)) (l.drop (j + 1)) = casesE [] l) := by
                   show _ = _
                   rw [← HE.out, HT.out]
                   exact (casesE_next HB.out HN.out).symm
                 go_wp2_with fail
                 go_roundg g1'
                 case rel => exact ⟨j + 1, by go_num, by omega, HX, K2.trans Ti⟩
                 case measure => omega

           · have K2 := T.alloc (.cells #[.bool false, .int .i64 ch, .int .i64 0] 102)
             have T3 := T2.alloc (.cells #[.bool false, .int .i64 ch, .int .i64 0] 102)
             have GC : Hid ((wr.alloc (.cells #[.bool false, .int .i64 ch, .int .i64 0] 102)).cell? ⟨wr.heap.size, 1, none⟩ = some (.int .i64 ch)) := by show _ = _; rw [World.cell?_alloc_at _ _ _ _ rfl]; rfl
             have GD : Hid ((wr.alloc (.cells #[.bool false, .int .i64 ch, .int .i64 0] 102)).cell? ⟨w.heap.size, 4, none⟩ = some (.slice (some ⟨b, f, none⟩) m c)) := by show _ = _; rw [World.cell?_alloc_past _ _ _ la]; exact ga
             go_wp2_with fail
             go_loopg [8] k (fun g2 i wi => ∃ j : Nat, i = .int .i64 j ∧ j + g2 = k ∧ Hid (hasC (l.take j) ch = false) ∧ Kept (wr.alloc (.cells #[.bool false, .int .i64 ch, .int .i64 0] 102)) wi)
             case atStart => exact ⟨0, rfl, by omega, rfl, Kept.refl _⟩
             case round =>
               obtain ⟨j, rfl, hj, HN, Ti⟩ := hrel
               have T4 := T3.trans Ti
               have gc := Ti.cell GC.out
               have gl := cell_lt gc
               have gd := Ti.cell GD.out
               have gdl := cell_lt gd
               by_cases hjk : j < k
               · obtain ⟨b', f', sd', ch', v', hab, q0, q1, q2, hb', e1, e2, e3⟩ := (HA.out.kept T4).get j (by omega)
                 cases hab
                 have d1 : (j : Int) < (k : Int) := by omega
                 have d2 : (0 : Int) ≤ (j : Int) := by omega
                 have d3 : (j : Int) < (m : Int) := by omega
                 by_cases hcc : ch' = ch
                 · have HR : Hid (casesE [] l = 6) := by
                     show _ = _
                     rw [← HE.out]
                     exact casesE_twice HB.out (hasC_mem e1 hjk hcc)
                   have t : (ch' == ch) = true := by simp [hcc]
                   clear e1 e2 e3 hcc
                   go_wp2_with fail
                   go_quiet (fail)
                   go_wp2_with fail
                   go_ret
                   rw [HC.out, HR.out]
                   exact ⟨rfl, T4.drewN _⟩
                 · have HN2 : Hid (hasC (l.take (j + 1)) ch = false) := by
                     show _ = _
                     rw [e2, hasC_snoc, HN.out]
                     simpa using hcc
                   have t : (ch' == ch) = false := by simp [hcc]
                   clear e1 e2 e3 hcc
                   obtain ⟨g3, rfl⟩ : ∃ g, gk = g + 1 := ⟨gk - 1, by omega⟩
                   go_wp2_with fail
                   go_quiet (fail)
                   go_wp2_with fail
                   go_roundg g3
                   case rel => exact ⟨j + 1, by go_num, by omega, HN2, Ti.drewN _⟩
                   case measure => omega
               · have d1 : ¬ (j : Int) < (k : Int) := by omega
                 obtain rfl : j = k := by omega
                 have HX : Hid (casesE (l.take (j + 1)) (l.drop (j + 1)) = casesE [] l) := by
                   show _ = _
                   rw [← HE.out, HT.out]
                   exact (casesE_next HB.out HN.out).symm
                 go_wp2_with fail
                 go_roundg g1'
                 case rel => exact ⟨j + 1, by go_num, by omega, HX, K2.trans Ti⟩
                 case measure => omega

       · have b1 : ¬ (k : Int) < (m : Int) := by omega
         have HR : Hid (casesE [] l = 0) := by
           show _ = _
           rw [← HI.out, List.drop_of_length_le (by rw [HL.out]; omega)]; rfl
         go_wp2_with fail
         go_ret
         rw [HC.out, HR.out]
         exact ⟨rfl, T2⟩

theorem rcheck_any (k n v wt : Int) (a : Option Addr) (m c : Nat) (l : List CaseD) (w : World) (hA : AtC w a m l) :
    Calls Tryz.prog 43 #[.agg #[.int .i64 k, .int .i64 n, .int .i64 v, .int .i64 wt, .slice a m c]] w fun e w' => e = .returned (.int .i64 (checkD ⟨k, n, v, wt, l⟩)) ∧ Kept w w' := by
  cases hk : isKindB k with
  | false => exact rcheck_none k n v wt a m c l w hk
  | true =>
    rcases kind_cases hk with rfl | rfl | rfl | rfl | rfl | rfl | rfl | rfl | rfl
    · exact rcheck_k1 n v wt a m c l w hA
    · exact rcheck_k2 n v wt a m c l w hA
    · exact rcheck_k3 n v wt a m c l w hA
    · exact rcheck_k4 n v wt a m c l w hA
    · exact rcheck_k5 n v wt a m c l w hA
    · exact rcheck_k6 n v wt a m c l w hA
    · exact rcheck_k7 n v wt a m c l w hA
    · exact rcheck_k8 n v wt a m c l w hA
    · exact rcheck_k9 n v wt a m c l w hA
end Go.Proofs.YtlkbphogpbcjfaaGreatDoor
