/- The reference's Find, SetWaits, Need. -/
import Derived.Test.YtolljdomnohmdaaDoorRSd
import Derived.Test.YtolljdomnohmdaaDoorRPg
namespace Go.Proofs.YtolljdomnohmdaaDoor
open Go.RowKit

set_option maxHeartbeats 4000000 in
theorem rfind_any (L : Int) (ca ta : Option Addr) (cc tc nc : Nat) (ts : List TaskD) (nm : List UInt8) (w : World) (hA : AtT w ta ts) (hl : ts.length ≤ 100000) :
    Calls Tryd.prog 33 #[.agg #[.int .i64 L, .slice ca nc cc, .slice ta ts.length tc], .string (B nm)] w fun e w' => e = .returned (.tuple #[.int .i64 (findGo nm 0 ts).1, .bool (findGo nm 0 ts).2]) ∧ Kept w w' := by
  have HA : Hid (AtT w ta ts) := hA
  clear hA
  have K0 := (Kept.refl w).alloc (.cells #[.int .i64 L, .slice ca nc cc, .slice ta ts.length tc] 53)
  have HB : Hid (Box w.heap.size (w.alloc (.cells #[.int .i64 L, .slice ca nc cc, .slice ta ts.length tc] 53)) 53 w.heap.size [.int .i64 L, .slice ca nc cc, .slice ta ts.length tc]) := box_new w.heap.size w 53 [.int .i64 L, .slice ca nc cc, .slice ta ts.length tc] (Nat.le_refl _) (by simp)
  go_enter Tryd.func33, Tryd.ntmps33
  go_wp2_with fail
  go_loopg [6] ts.length (fun gk i wr => ∃ (j : Nat) (W : World), W = wr ∧ i = .int .i64 j ∧ j + gk = ts.length ∧ Hid (findGo nm 0 ts = findGo nm j (ts.drop j)) ∧ Kept w W ∧ Hid (Box w.heap.size W 53 w.heap.size [.int .i64 L, .slice ca nc cc, .slice ta ts.length tc]))
  case atStart => exact ⟨0, _, rfl, rfl, by omega, (by show _ = _; rw [List.drop_zero]), K0, HB⟩
  case round =>
    obtain ⟨j, W, hW, rfl, hj, HE, K, HBr⟩ := hrel
    subst hW
    have u2 : W.cell? ⟨w.heap.size, 2, none⟩ = some (.slice ta ts.length tc) := HBr.out.cell 2 (by simp)
    by_cases hjp : j < ts.length
    · obtain ⟨b, f, n1, pd, dl, bu, pr, pa, pc, rfl, hpj, g0, g1, g2, g3, g4, hpc, hat, hbl, hdr⟩ := (HA.out.kept K).get j hjp
      have b1 : (j : Int) < (ts.length : Int) := by omega
      have b2 : (0 : Int) ≤ (j : Int) := by omega
      have HE2 : Hid (findGo nm 0 ts = if n1 = nm then (j, true) else findGo nm (j + 1) (ts.drop (j + 1))) := by show _ = _; rw [HE.out, hdr, findGo]
      obtain ⟨gi, rfl⟩ : ∃ g, gk = g + 1 := ⟨gk - 1, by omega⟩
      clear hpj hat hdr HE g1 g2 g3 g4
      by_cases hn : n1 = nm
      · have e1 : ((B n1).toList == (B nm).toList) = true := by rw [B_eq]; simpa using hn
        have HZ : Hid (findGo nm 0 ts = (j, true)) := by show _ = _; rw [HE2.out, if_pos hn]
        clear HE2 hn
        go_wp2_with fail
        go_ret2
        rw [HZ.out]
        exact ⟨rfl, K⟩
      · have e1 : ((B n1).toList == (B nm).toList) = false := by rw [B_eq]; simpa using hn
        have HZ : Hid (findGo nm 0 ts = findGo nm (j + 1) (ts.drop (j + 1))) := by show _ = _; rw [HE2.out, if_neg hn]
        clear HE2 hn
        go_wp2_with fail
        go_roundg gi
        case rel => exact ⟨j + 1, _, rfl, by go_num, by omega, HZ, K, HBr⟩
        case measure => omega
    · have b1 : ¬ (j : Int) < (ts.length : Int) := by omega
      have HZ : Hid (findGo nm 0 ts = (0, false)) := by show _ = _; rw [HE.out, List.drop_eq_nil_of_le (by omega)]; rfl
      go_wp2_with fail
      go_ret2
      rw [HZ.out]
      exact ⟨rfl, K⟩
set_option maxHeartbeats 4000000 in
theorem rswaits_any (L : Int) (ca ta : Option Addr) (cc tc nc : Nat) (ts : List TaskD) (w : World) (hA : AtT w ta ts) (hok : TsOk ts) (hl : ts.length ≤ 100000) :
    Calls Tryd.prog 37 #[.agg #[.int .i64 L, .slice ca nc cc, .slice ta ts.length tc]] w fun e w' => e = .returned (.bool (anyT ts)) ∧ Kept w w' := by
  have HA : Hid (AtT w ta ts) := hA
  have HO : Hid (TsOk ts) := hok
  clear hA hok
  have K0 := (Kept.refl w).alloc (.cells #[.int .i64 L, .slice ca nc cc, .slice ta ts.length tc] 53)
  have HB : Hid (Box w.heap.size (w.alloc (.cells #[.int .i64 L, .slice ca nc cc, .slice ta ts.length tc] 53)) 53 w.heap.size [.int .i64 L, .slice ca nc cc, .slice ta ts.length tc]) := box_new w.heap.size w 53 [.int .i64 L, .slice ca nc cc, .slice ta ts.length tc] (Nat.le_refl _) (by simp)
  go_enter Tryd.func37, Tryd.ntmps37
  go_wp2_with fail
  go_loopg [3] ts.length (fun gk i wr => ∃ (j : Nat) (W : World), W = wr ∧ i = .int .i64 j ∧ j + gk = ts.length ∧ Hid (anyT ts = anyT (ts.drop j)) ∧ Kept w W ∧ Hid (Box w.heap.size W 53 w.heap.size [.int .i64 L, .slice ca nc cc, .slice ta ts.length tc]))
  case atStart => exact ⟨0, _, rfl, rfl, by omega, (by show _ = _; rw [List.drop_zero]), K0, HB⟩
  case round =>
    obtain ⟨j, W, hW, rfl, hj, HE, K, HBr⟩ := hrel
    subst hW
    have u2 : W.cell? ⟨w.heap.size, 2, none⟩ = some (.slice ta ts.length tc) := HBr.out.cell 2 (by simp)
    by_cases hjp : j < ts.length
    · obtain ⟨b, f, n1, pd, dl, bu, pr, pa, pc, rfl, hpj, g0, g1, g2, g3, g4, hpc, hat, hbl, hdr⟩ := (HA.out.kept K).get j hjp
      obtain ⟨_, hp1, hc1⟩ := HO.out _ (List.mem_of_getElem? hpj)
      simp only at hp1 hc1
      have b1 : (j : Int) < (ts.length : Int) := by omega
      have b2 : (0 : Int) ≤ (j : Int) := by omega
      have hpw := rpwaits_any pa pc pr W hat (by omega)
      have HE2 : Hid (anyT ts = if anyW pr = true then true else anyT (ts.drop (j + 1))) := by show _ = _; rw [HE.out, hdr, anyT]
      obtain ⟨z, hz⟩ : ∃ z, anyW pr = z := ⟨_, rfl⟩
      rw [hz] at hpw HE2
      obtain ⟨gi, rfl⟩ : ∃ g, gk = g + 1 := ⟨gk - 1, by omega⟩
      clear hpj hat hdr HE g0 g1 g2 g3 hz hc1
      cases z with
      | true =>
        have HZ : Hid (anyT ts = true) := by show _ = _; rw [HE2.out, if_pos rfl]
        clear HE2
        go_wp2_with fail
        refine hpw.mono ?_
        rintro e w2 ⟨rfl, t2⟩
        go_wp2_with fail
        go_ret
        rw [HZ.out]
        exact ⟨rfl, K.trans t2⟩
      | false =>
        have HZ : Hid (anyT ts = anyT (ts.drop (j + 1))) := by show _ = _; rw [HE2.out, if_neg (by simp)]
        clear HE2
        go_wp2_with fail
        refine hpw.mono ?_
        rintro e w2 ⟨rfl, t2⟩
        go_wp2_with fail
        go_roundg gi
        case rel => exact ⟨j + 1, _, rfl, by go_num, by omega, HZ, K.trans t2, HBr.out.kept t2⟩
        case measure => omega
    · have b1 : ¬ (j : Int) < (ts.length : Int) := by omega
      have HZ : Hid (anyT ts = false) := by show _ = _; rw [HE.out, List.drop_eq_nil_of_le (by omega)]; rfl
      go_wp2_with fail
      go_ret
      rw [HZ.out]
      exact ⟨rfl, K⟩
theorem rneed_any (nm : List UInt8) (pd dl bu : Int) (pr : List OpD) (pa : Option Addr) (pc : Nat) (w : World) (hA : AtP w pa pr) (hcap : pr.length ≤ pc) (hk : checkP pr = (0, 0)) :
    Calls Tryd.prog 39 #[.agg #[.string (B nm), .int .i64 pd, .int .i64 dl, .int .i64 bu, .slice pa pr.length pc]] w fun e w' => e = .returned (.int .i64 (min (costD pr) bu)) ∧ Kept w w' := by
  have K0 := (Kept.refl w).alloc (.cells #[.string (B nm), .int .i64 pd, .int .i64 dl, .int .i64 bu, .slice pa pr.length pc] 73)
  have HB : Hid (Box w.heap.size (w.alloc (.cells #[.string (B nm), .int .i64 pd, .int .i64 dl, .int .i64 bu, .slice pa pr.length pc] 73)) 73 w.heap.size [.string (B nm), .int .i64 pd, .int .i64 dl, .int .i64 bu, .slice pa pr.length pc]) := box_new w.heap.size w 73 [.string (B nm), .int .i64 pd, .int .i64 dl, .int .i64 bu, .slice pa pr.length pc] (Nat.le_refl _) (by simp)
  have hco := rcost_any pa pc pr _ (hA.kept K0) hcap hk
  obtain ⟨z, hz⟩ : ∃ z, costD pr = z := ⟨_, rfl⟩
  rw [hz] at hco
  rw [hz]
  go_enter Tryd.func39, Tryd.ntmps39
  go_wp2_with fail
  refine hco.mono ?_
  rintro e w2 ⟨rfl, t2⟩
  have s3 : w2.cell? ⟨w.heap.size, 3, none⟩ = some (.int .i64 bu) := (HB.out.kept t2).cell 3 (by simp)
  by_cases h : bu < z
  · have HM : Hid (min z bu = bu) := by show _ = _; omega
    go_wp2_with fail
    go_ret
    rw [HM.out]
    exact ⟨rfl, K0.trans t2⟩
  · have HM : Hid (min z bu = z) := by show _ = _; omega
    go_wp2_with fail
    go_ret
    rw [HM.out]
    exact ⟨rfl, K0.trans t2⟩
end Go.Proofs.YtolljdomnohmdaaDoor
