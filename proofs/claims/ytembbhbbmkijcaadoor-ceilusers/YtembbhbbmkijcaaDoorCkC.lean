/- checkCases. -/
import Derived.Test.YtembbhbbmkijcaaDoorChk
namespace Go.Proofs.YtembbhbbmkijcaaDoor
open Go.RowKit

theorem casesE_bad {seen r : List CaseD} {c : CaseD} (h : badC c = true) : casesE seen (c :: r) = 1 := by rw [casesE, if_pos h]
theorem casesE_twice {seen r : List CaseD} {c : CaseD} (h : badC c = false) (h2 : hasC seen c.chan = true) : casesE seen (c :: r) = 6 := by rw [casesE, if_neg (by rw [h]; decide), if_pos h2]
theorem casesE_next {seen r : List CaseD} {c : CaseD} (h : badC c = false) (h2 : hasC seen c.chan = false) : casesE seen (c :: r) = casesE (seen ++ [c]) r := by rw [casesE, if_neg (by rw [h]; decide), if_neg (by rw [h2]; decide)]
theorem hasC_snoc (l : List CaseD) (d : CaseD) (ch : Int) : hasC (l ++ [d]) ch = (hasC l ch || d.chan == ch) := by simp [hasC]
theorem hasC_mem {l : List CaseD} {j : Nat} {d : CaseD} {ch : Int} {k : Nat} (h : l[j]? = some d) (hj : j < k) (he : d.chan = ch) : hasC (l.take k) ch = true := by
  unfold hasC
  rw [List.any_eq_true]
  refine ⟨d, ?_, by simp [he]⟩
  exact List.mem_of_getElem? (i := j) (by rw [List.getElem?_take, if_pos hj, h])

set_option maxHeartbeats 2000000 in
theorem checkCases_any (a : Option Addr) (m c : Nat) (l : List CaseD) (w : World) (hA : AtC w a m l) (hm : m ≤ 1000000) (hcap : m ≤ c) :
    Calls Tryd.prog 79 #[.slice a m c] w fun e w' => e = .returned (.int .i64 (casesE [] l)) ∧ Kept w w' := by
  have HA : Hid (AtC w a m l) := hA
  have HL : Hid (l.length = m) := hA.1
  clear hA
  go_enter Tryd.func79, Tryd.ntmps79
  go_wp2_with fail
  go_step3
  go_wp2_with fail
  go_step3
  go_wp2_with fail
  go_loopg [3, 10] m (fun gk e i wr => ∃ k : Nat, e = .int .i64 0 ∧ i = .int .i64 k ∧ k + gk = m ∧ Hid (casesE (l.take k) (l.drop k) = casesE [] l) ∧ Kept w wr)
  case atStart => exact ⟨0, rfl, rfl, by omega, rfl, Kept.refl _⟩
  case round =>
    obtain ⟨k, rfl, rfl, hk, HI, T⟩ := hrel
    by_cases hkm : k < m
    · obtain ⟨b, f, sd, ch, v, rfl, g0, g1, g2, hb, e1, e2, e3⟩ := (HA.out.kept T).get k hkm
      have b1 : (k : Int) < (m : Int) := by omega
      have b2 : (0 : Int) ≤ (k : Int) := by omega
      have b3 : (k : Int) ≤ (c : Int) := by omega
      have HE : Hid (casesE (l.take k) (⟨sd, ch, v⟩ :: l.drop (k + 1)) = casesE [] l) := by show _ = _; rw [← e3]; exact HI.out
      have HT : Hid (l.take (k + 1) = l.take k ++ [⟨sd, ch, v⟩]) := e2
      clear e1 e2 e3 HI
      obtain ⟨g1', rfl⟩ : ∃ g, gk = g + 1 := ⟨gk - 1, by omega⟩
      by_cases hbad : badC ⟨sd, ch, v⟩ = true
      · have HR : Hid (casesE [] l = 1) := by show _ = _; rw [← HE.out]; exact casesE_bad hbad
        simp only [badC, Bool.or_eq_true, decide_eq_true_eq, Bool.and_eq_true, Bool.not_eq_true'] at hbad
        have hway : ch < 0 ∨ (0 ≤ ch ∧ 8 ≤ ch) ∨ (0 ≤ ch ∧ ch < 8 ∧ sd = false ∧ (v == 0) = false) := by
          rcases hbad with (h | h) | ⟨h1, h2⟩
          · exact .inl h
          · exact .inr (.inl ⟨by omega, h⟩)
          · by_cases h3 : ch < 0
            · exact .inl h3
            · by_cases h4 : 8 ≤ ch
              · exact .inr (.inl ⟨by omega, h4⟩)
              · exact .inr (.inr ⟨by omega, by omega, h2, h1⟩)
        clear hbad
        rcases hway with h | ⟨h, h'⟩ | ⟨h, h', rfl, h3⟩
        · go_wp2_with fail
          try rw [Exit.noGoto_ret]
          go_ret
          rw [HR.out]
          exact ⟨rfl, T.alloc _⟩
        · go_wp2_with fail
          try rw [Exit.noGoto_ret]
          go_ret
          rw [HR.out]
          exact ⟨rfl, T.alloc _⟩
        · have h4 : (v != 0) = true := by simp [bne, h3]
          go_wp2_with fail
          try rw [Exit.noGoto_ret]
          go_ret
          rw [HR.out]
          exact ⟨rfl, T.alloc _⟩
      · have HB : Hid (badC ⟨sd, ch, v⟩ = false) := by show _ = _; simpa using hbad
        clear hbad
        have hway : v = 0 ∨ ((v != 0) = true ∧ sd = true) := by
          by_cases hv : v = 0
          · exact .inl hv
          · right
            refine ⟨by simp [hv], ?_⟩
            have := HB.out
            simp [badC, hv] at this
            exact this.2
        have hch : 0 ≤ ch ∧ ch < 8 := by have := badC_no HB.out; exact ⟨this.1, this.2.1⟩
        obtain ⟨hc1, hc2⟩ := hch
        rcases hway with rfl | ⟨hv, rfl⟩
        · have T1 := T.alloc (.cells #[.bool sd, .int .i64 ch, .int .i64 0] 112)
          have GC : Hid ((wr.alloc (.cells #[.bool sd, .int .i64 ch, .int .i64 0] 112)).cell? ⟨wr.heap.size, 1, none⟩ = some (.int .i64 ch)) := by show _ = _; rw [World.cell?_alloc_at _ _ _ _ rfl]; rfl
          go_wp2_with fail
          go_loopg [3, 37] k (fun g2 e i wi => ∃ j : Nat, e = .int .i64 0 ∧ i = .int .i64 j ∧ j + g2 = k ∧ Hid (hasC (l.take j) ch = false) ∧ Kept (wr.alloc (.cells #[.bool sd, .int .i64 ch, .int .i64 0] 112)) wi)
          case atStart => exact ⟨0, rfl, rfl, by omega, rfl, Kept.refl _⟩
          case round =>
            obtain ⟨j, rfl, rfl, hj, HN, Ti⟩ := hrel
            have T2 := T1.trans Ti
            have gc := Ti.cell GC.out
            have gl := cell_lt gc
            by_cases hjk : j < k
            · obtain ⟨b', f', sd', ch', v', hab, q0, q1, q2, hb', e1, e2, e3⟩ := (HA.out.kept T2).get j (by omega)
              cases hab
              have d1 : (j : Int) < (k : Int) := by omega
              have d2 : (0 : Int) ≤ (j : Int) := by omega
              by_cases hcc : ch' = ch
              · have HR : Hid (casesE [] l = 6) := by
                  show _ = _
                  rw [← HE.out]
                  exact casesE_twice HB.out (hasC_mem e1 hjk hcc)
                have t : (ch' == ch) = true := by simp [hcc]
                clear e1 e2 e3 hcc
                go_wp2_with fail
                try rw [Exit.noGoto_ret]
                go_ret
                rw [HR.out]
                exact ⟨rfl, T2.alloc _⟩
              · have HN2 : Hid (hasC (l.take (j + 1)) ch = false) := by
                  show _ = _
                  rw [e2, hasC_snoc, HN.out]
                  simpa using hcc
                have t : (ch' == ch) = false := by simp [hcc]
                clear e1 e2 e3 hcc
                obtain ⟨g3, rfl⟩ : ∃ g, gk = g + 1 := ⟨gk - 1, by omega⟩
                go_wp2_with fail
                go_roundg g3
                case rel => exact ⟨j + 1, rfl, by go_num, by omega, HN2, Ti.alloc _⟩
                case measure => omega
            · have d1 : ¬ (j : Int) < (k : Int) := by omega
              obtain rfl : j = k := by omega
              have HX : Hid (casesE (l.take (j + 1)) (l.drop (j + 1)) = casesE [] l) := by
                show _ = _
                rw [← HE.out, HT.out]
                exact (casesE_next HB.out HN.out).symm
              go_wp2_with fail
              go_roundg g1'
              case rel => exact ⟨j + 1, rfl, by go_num, by omega, HX, T2⟩
              case measure => omega
        · have T1 := T.alloc (.cells #[.bool true, .int .i64 ch, .int .i64 v] 112)
          have GC : Hid ((wr.alloc (.cells #[.bool true, .int .i64 ch, .int .i64 v] 112)).cell? ⟨wr.heap.size, 1, none⟩ = some (.int .i64 ch)) := by show _ = _; rw [World.cell?_alloc_at _ _ _ _ rfl]; rfl
          go_wp2_with fail
          go_loopg [3, 37] k (fun g2 e i wi => ∃ j : Nat, e = .int .i64 0 ∧ i = .int .i64 j ∧ j + g2 = k ∧ Hid (hasC (l.take j) ch = false) ∧ Kept (wr.alloc (.cells #[.bool true, .int .i64 ch, .int .i64 v] 112)) wi)
          case atStart => exact ⟨0, rfl, rfl, by omega, rfl, Kept.refl _⟩
          case round =>
            obtain ⟨j, rfl, rfl, hj, HN, Ti⟩ := hrel
            have T2 := T1.trans Ti
            have gc := Ti.cell GC.out
            have gl := cell_lt gc
            by_cases hjk : j < k
            · obtain ⟨b', f', sd', ch', v', hab, q0, q1, q2, hb', e1, e2, e3⟩ := (HA.out.kept T2).get j (by omega)
              cases hab
              have d1 : (j : Int) < (k : Int) := by omega
              have d2 : (0 : Int) ≤ (j : Int) := by omega
              by_cases hcc : ch' = ch
              · have HR : Hid (casesE [] l = 6) := by
                  show _ = _
                  rw [← HE.out]
                  exact casesE_twice HB.out (hasC_mem e1 hjk hcc)
                have t : (ch' == ch) = true := by simp [hcc]
                clear e1 e2 e3 hcc
                go_wp2_with fail
                try rw [Exit.noGoto_ret]
                go_ret
                rw [HR.out]
                exact ⟨rfl, T2.alloc _⟩
              · have HN2 : Hid (hasC (l.take (j + 1)) ch = false) := by
                  show _ = _
                  rw [e2, hasC_snoc, HN.out]
                  simpa using hcc
                have t : (ch' == ch) = false := by simp [hcc]
                clear e1 e2 e3 hcc
                obtain ⟨g3, rfl⟩ : ∃ g, gk = g + 1 := ⟨gk - 1, by omega⟩
                go_wp2_with fail
                go_roundg g3
                case rel => exact ⟨j + 1, rfl, by go_num, by omega, HN2, Ti.alloc _⟩
                case measure => omega
            · have d1 : ¬ (j : Int) < (k : Int) := by omega
              obtain rfl : j = k := by omega
              have HX : Hid (casesE (l.take (j + 1)) (l.drop (j + 1)) = casesE [] l) := by
                show _ = _
                rw [← HE.out, HT.out]
                exact (casesE_next HB.out HN.out).symm
              go_wp2_with fail
              go_roundg g1'
              case rel => exact ⟨j + 1, rfl, by go_num, by omega, HX, T2⟩
              case measure => omega
    · have b1 : ¬ (k : Int) < (m : Int) := by omega
      have HR : Hid (casesE [] l = 0) := by
        show _ = _
        rw [← HI.out, List.drop_of_length_le (by rw [HL.out]; omega)]; rfl
      go_wp2_with fail
      go_ret
      rw [HR.out]
      exact ⟨rfl, T⟩
end Go.Proofs.YtembbhbbmkijcaaDoor
