/- hasAll, checkTask, checkTasks, Check of a set. -/
import Derived.Test.YtolljdomnohmdaaDoorSetF
namespace Go.Proofs.YtolljdomnohmdaaDoor
open Go.RowKit

set_option maxHeartbeats 8000000 in
theorem hasAll_any (L : Int) (ca ta : Option Addr) (cc tc nc nt : Nat) (a : Option Addr) (c : Nat) (p : List OpD) (w : World) (hA : AtP w a p) (hl : p.length ≤ 100000) (hc : ∀ o ∈ p, o.cases.length ≤ 1000000) :
    Calls Tryd.prog 93 #[.agg #[.int .i64 L, .slice ca nc cc, .slice ta nt tc], .slice a p.length c] w fun e w' => e = .returned (.bool (hasAllB L nc p)) ∧ Kept w w' := by
  have HA : Hid (AtP w a p) := hA
  have HC : Hid (∀ o ∈ p, o.cases.length ≤ 1000000) := hc
  clear hA hc
  have K0 := (Kept.refl w).alloc (.cells #[.int .i64 L, .slice ca nc cc, .slice ta nt tc] 58)
  have HB : Hid (Box w.heap.size (w.alloc (.cells #[.int .i64 L, .slice ca nc cc, .slice ta nt tc] 58)) 58 w.heap.size [.int .i64 L, .slice ca nc cc, .slice ta nt tc]) := box_new w.heap.size w 58 [.int .i64 L, .slice ca nc cc, .slice ta nt tc] (Nat.le_refl _) (by simp)
  have s0 : (w.alloc (.cells #[.int .i64 L, .slice ca nc cc, .slice ta nt tc] 58)).cell? ⟨w.heap.size, 0, none⟩ = some (.int .i64 L) := HB.out.cell 0 (by simp)
  have s1 : (w.alloc (.cells #[.int .i64 L, .slice ca nc cc, .slice ta nt tc] 58)).cell? ⟨w.heap.size, 1, none⟩ = some (.slice ca nc cc) := HB.out.cell 1 (by simp)
  go_enter Tryd.func93, Tryd.ntmps93
  go_wp2_with fail
  go_step3
  go_wp2_with fail
  go_region_held3 (fun w' => w'.cell? ⟨w.heap.size, 0, none⟩ = some (.int .i64 L) ∧ w'.cell? ⟨w.heap.size, 1, none⟩ = some (.slice ca nc cc)) (go_keep) (fail)
  go_wp2_with fail
  go_step3
  go_wp2_with fail
  go_loopg [7, 17] p.length (fun gk x7 i wr => ∃ j : Nat, i = .int .i64 j ∧ x7 = .bool true ∧ j + gk = p.length ∧ Hid (hasAllB L nc p = hasAllB L nc (p.drop j)) ∧ Kept w wr ∧ Hid (Box w.heap.size wr 58 w.heap.size [.int .i64 L, .slice ca nc cc, .slice ta nt tc]))
  case atStart => exact ⟨0, rfl, rfl, by omega, (by show _ = _; rw [List.drop_zero]), K0.drew, HB.out.kept ((Kept.refl _).drew)⟩
  case round =>
    obtain ⟨j, rfl, rfl, hj, HE, K, HBr⟩ := hrel
    by_cases hjp : j < p.length
    · obtain ⟨b, f, k, n, v, wt, l, la, lc, rfl, hpj, g0, g1, g2, g3, g4, hlc, hat, hbl, hdr⟩ := (HA.out.kept K).get j hjp
      have b1 : (j : Int) < (p.length : Int) := by omega
      have b2 : (0 : Int) ≤ (j : Int) := by omega
      have hll : l.length ≤ 1000000 := HC.out _ (List.mem_of_getElem? hpj)
      have KB := K.alloc (.cells #[.int .i64 k, .int .i64 n, .int .i64 v, .int .i64 wt, .slice la l.length lc] 77)
      have KA := (Kept.refl wr).alloc (.cells #[.int .i64 k, .int .i64 n, .int .i64 v, .int .i64 wt, .slice la l.length lc] 77)
      have HBn : Hid (Box w.heap.size (wr.alloc (.cells #[.int .i64 k, .int .i64 n, .int .i64 v, .int .i64 wt, .slice la l.length lc] 77)) 58 w.heap.size [.int .i64 L, .slice ca nc cc, .slice ta nt tc]) := HBr.out.kept KA
      have u0 : (wr.alloc (.cells #[.int .i64 k, .int .i64 n, .int .i64 v, .int .i64 wt, .slice la l.length lc] 77)).cell? ⟨w.heap.size, 0, none⟩ = some (.int .i64 L) := HBn.out.cell 0 (by simp)
      have u1 : (wr.alloc (.cells #[.int .i64 k, .int .i64 n, .int .i64 v, .int .i64 wt, .slice la l.length lc] 77)).cell? ⟨w.heap.size, 1, none⟩ = some (.slice ca nc cc) := HBn.out.cell 1 (by simp)
      have u2 : (wr.alloc (.cells #[.int .i64 k, .int .i64 n, .int .i64 v, .int .i64 wt, .slice la l.length lc] 77)).cell? ⟨w.heap.size, 2, none⟩ = some (.slice ta nt tc) := HBn.out.cell 2 (by simp)
      have HE2 : Hid (hasAllB L nc p = if hasB L nc ⟨k, n, v, wt, l⟩ = true then hasAllB L nc (p.drop (j + 1)) else false) := by show _ = _; rw [HE.out, hdr, hasAllB]
      have HHC := hasC_any L ca ta cc tc nc nt la lc l _ (hat.kept KA) hll
      obtain ⟨g3', rfl⟩ : ∃ g, gk = g + 1 := ⟨gk - 1, by omega⟩
      clear hpj hat hdr HE
      by_cases k2 : k = 2
      · subst k2
        have HH : Hid (hasB L nc ⟨2, n, v, wt, l⟩ = decide (n < L)) := rfl
        by_cases hq : n < L
        · have HZ : Hid (hasAllB L nc p = hasAllB L nc (p.drop (j + 1))) := by show _ = _; rw [HE2.out, HH.out, if_pos (by simpa using hq)]
          clear HE2 HH HHC
          go_wp2_with fail
          go_roundg g3'
          case rel => exact ⟨j + 1, by go_num, rfl, by omega, HZ, KB, HBn⟩
          case measure => omega
        · have HZ : Hid (hasAllB L nc p = false) := by show _ = _; rw [HE2.out, HH.out, if_neg (by simpa using hq)]
          clear HE2 HH HHC
          go_wp2_with fail
          try rw [Exit.noGoto_ret]
          go_ret
          rw [HZ.out]
          exact ⟨rfl, KB⟩
      by_cases k3 : k = 3
      · subst k3
        have HH : Hid (hasB L nc ⟨3, n, v, wt, l⟩ = decide (n < L)) := rfl
        by_cases hq : n < L
        · have HZ : Hid (hasAllB L nc p = hasAllB L nc (p.drop (j + 1))) := by show _ = _; rw [HE2.out, HH.out, if_pos (by simpa using hq)]
          clear HE2 HH HHC
          go_wp2_with fail
          go_roundg g3'
          case rel => exact ⟨j + 1, by go_num, rfl, by omega, HZ, KB, HBn⟩
          case measure => omega
        · have HZ : Hid (hasAllB L nc p = false) := by show _ = _; rw [HE2.out, HH.out, if_neg (by simpa using hq)]
          clear HE2 HH HHC
          go_wp2_with fail
          try rw [Exit.noGoto_ret]
          go_ret
          rw [HZ.out]
          exact ⟨rfl, KB⟩
      by_cases k4 : k = 4
      · subst k4
        have HH : Hid (hasB L nc ⟨4, n, v, wt, l⟩ = decide (n < (nc : Int))) := rfl
        by_cases hq : n < (nc : Int)
        · have HZ : Hid (hasAllB L nc p = hasAllB L nc (p.drop (j + 1))) := by show _ = _; rw [HE2.out, HH.out, if_pos (by simpa using hq)]
          clear HE2 HH HHC
          go_wp2_with fail
          go_roundg g3'
          case rel => exact ⟨j + 1, by go_num, rfl, by omega, HZ, KB, HBn⟩
          case measure => omega
        · have HZ : Hid (hasAllB L nc p = false) := by show _ = _; rw [HE2.out, HH.out, if_neg (by simpa using hq)]
          clear HE2 HH HHC
          go_wp2_with fail
          try rw [Exit.noGoto_ret]
          go_ret
          rw [HZ.out]
          exact ⟨rfl, KB⟩
      by_cases k5 : k = 5
      · subst k5
        have HH : Hid (hasB L nc ⟨5, n, v, wt, l⟩ = decide (n < (nc : Int))) := rfl
        by_cases hq : n < (nc : Int)
        · have HZ : Hid (hasAllB L nc p = hasAllB L nc (p.drop (j + 1))) := by show _ = _; rw [HE2.out, HH.out, if_pos (by simpa using hq)]
          clear HE2 HH HHC
          go_wp2_with fail
          go_roundg g3'
          case rel => exact ⟨j + 1, by go_num, rfl, by omega, HZ, KB, HBn⟩
          case measure => omega
        · have HZ : Hid (hasAllB L nc p = false) := by show _ = _; rw [HE2.out, HH.out, if_neg (by simpa using hq)]
          clear HE2 HH HHC
          go_wp2_with fail
          try rw [Exit.noGoto_ret]
          go_ret
          rw [HZ.out]
          exact ⟨rfl, KB⟩
      by_cases k6 : k = 6
      · subst k6
        have HH : Hid (hasB L nc ⟨6, n, v, wt, l⟩ = decide (n < (nc : Int))) := rfl
        by_cases hq : n < (nc : Int)
        · have HZ : Hid (hasAllB L nc p = hasAllB L nc (p.drop (j + 1))) := by show _ = _; rw [HE2.out, HH.out, if_pos (by simpa using hq)]
          clear HE2 HH HHC
          go_wp2_with fail
          go_roundg g3'
          case rel => exact ⟨j + 1, by go_num, rfl, by omega, HZ, KB, HBn⟩
          case measure => omega
        · have HZ : Hid (hasAllB L nc p = false) := by show _ = _; rw [HE2.out, HH.out, if_neg (by simpa using hq)]
          clear HE2 HH HHC
          go_wp2_with fail
          try rw [Exit.noGoto_ret]
          go_ret
          rw [HZ.out]
          exact ⟨rfl, KB⟩
      by_cases k7 : k = 7
      · subst k7
        have HH : Hid (hasB L nc ⟨7, n, v, wt, l⟩ = casesB nc l) := rfl
        cases hq : casesB nc l with
        | true =>
          rw [hq] at HHC
          have HZ : Hid (hasAllB L nc p = hasAllB L nc (p.drop (j + 1))) := by show _ = _; rw [HE2.out, HH.out, if_pos hq]
          clear HE2 HH hq
          go_wp2_with fail
          refine HHC.mono ?_
          rintro e w2 ⟨rfl, t2⟩
          go_wp2_with fail
          go_roundg g3'
          case rel => exact ⟨j + 1, by go_num, rfl, by omega, HZ, KB.trans t2, HBn.out.kept t2⟩
          case measure => omega
        | false =>
          rw [hq] at HHC
          have HZ : Hid (hasAllB L nc p = false) := by show _ = _; rw [HE2.out, HH.out, if_neg (by rw [hq]; simp)]
          clear HE2 HH hq
          go_wp2_with fail
          refine HHC.mono ?_
          rintro e w2 ⟨rfl, t2⟩
          go_wp2_with fail
          try rw [Exit.noGoto_ret]
          go_ret
          rw [HZ.out]
          exact ⟨rfl, KB.trans t2⟩
      have HH : Hid (hasB L nc ⟨k, n, v, wt, l⟩ = true) := by show _ = _; unfold hasB; simp [k2, k3, k4, k5, k6, k7]
      have HZ : Hid (hasAllB L nc p = hasAllB L nc (p.drop (j + 1))) := by show _ = _; rw [HE2.out, if_pos HH.out]
      clear HE2 HH HHC
      go_wp2_with fail
      go_roundg g3'
      case rel => exact ⟨j + 1, by go_num, rfl, by omega, HZ, KB, HBn⟩
      case measure => omega
    · have b1 : ¬ (j : Int) < (p.length : Int) := by omega
      have HZ : Hid (hasAllB L nc p = true) := by show _ = _; rw [HE.out, List.drop_eq_nil_of_le (by omega)]; rfl
      go_wp2_with fail
      try rw [Exit.noGoto_ret]
      go_ret
      rw [HZ.out]
      exact ⟨rfl, K⟩
end Go.Proofs.YtolljdomnohmdaaDoor
