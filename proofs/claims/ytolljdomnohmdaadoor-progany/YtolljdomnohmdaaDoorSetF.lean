/- checkChans, Find, areTimes, hasCases. -/
import Derived.Test.YtolljdomnohmdaaDoorSetM
namespace Go.Proofs.YtolljdomnohmdaaDoor
open Go.RowKit

set_option maxHeartbeats 4000000 in
theorem chans_any (L : Int) (ca ta : Option Addr) (cc tc nt : Nat) (cs : List ChanD) (w : World) (hA : AtH w ca cs) (hl : cs.length ≤ 100000) :
    Calls Tryd.prog 57 #[.agg #[.int .i64 L, .slice ca cs.length cc, .slice ta nt tc]] w fun e w' => e = .returned (.int .i64 (chansE nt cs)) ∧ Kept w w' := by
  have HA : Hid (AtH w ca cs) := hA
  clear hA
  have K0 := (Kept.refl w).alloc (.cells #[.int .i64 L, .slice ca cs.length cc, .slice ta nt tc] 58)
  have HB : Hid (Box w.heap.size (w.alloc (.cells #[.int .i64 L, .slice ca cs.length cc, .slice ta nt tc] 58)) 58 w.heap.size [.int .i64 L, .slice ca cs.length cc, .slice ta nt tc]) := box_new w.heap.size w 58 [.int .i64 L, .slice ca cs.length cc, .slice ta nt tc] (Nat.le_refl _) (by simp)
  go_enter Tryd.func57, Tryd.ntmps57
  go_wp2_with fail
  go_step3
  go_wp2_with fail
  go_step3
  go_wp2_with fail
  go_loopg [3, 9] cs.length (fun gk x3 i wr => ∃ j : Nat, i = .int .i64 j ∧ x3 = .int .i64 0 ∧ j + gk = cs.length ∧ Hid (chansE nt cs = chansE nt (cs.drop j)) ∧ Kept w wr ∧ Hid (Box w.heap.size wr 58 w.heap.size [.int .i64 L, .slice ca cs.length cc, .slice ta nt tc]))
  case atStart => exact ⟨0, rfl, rfl, by omega, (by show _ = _; rw [List.drop_zero]), K0, HB⟩
  case round =>
    obtain ⟨j, rfl, rfl, hj, HE, K, HBr⟩ := hrel
    by_cases hjp : j < cs.length
    · obtain ⟨b, f, r, s, rfl, hpj, g0, g1, hdr⟩ := (HA.out.kept K).get j hjp
      have b1 : (j : Int) < (cs.length : Int) := by omega
      have b2 : (0 : Int) ≤ (j : Int) := by omega
      have KB := K.alloc (.cells #[.int .i64 r, .int .i64 s] 99)
      have KA := (Kept.refl wr).alloc (.cells #[.int .i64 r, .int .i64 s] 99)
      have HBn : Hid (Box w.heap.size (wr.alloc (.cells #[.int .i64 r, .int .i64 s] 99)) 58 w.heap.size [.int .i64 L, .slice (some ⟨b, f, none⟩) cs.length cc, .slice ta nt tc]) := HBr.out.kept KA
      have s2 : (wr.alloc (.cells #[.int .i64 r, .int .i64 s] 99)).cell? ⟨w.heap.size, 2, none⟩ = some (.slice ta nt tc) := HBn.out.cell 2 (by simp)
      have HE2 : Hid (chansE nt cs = if chanB nt ⟨r, s⟩ = true then chansE nt (cs.drop (j + 1)) else 1) := by show _ = _; rw [HE.out, hdr, chansE]
      obtain ⟨g3', rfl⟩ : ∃ g, gk = g + 1 := ⟨gk - 1, by omega⟩
      clear hpj hdr HE
      have bad : (¬ (0 ≤ r ∧ r ≤ 16 ∧ -1 ≤ s ∧ s < (nt : Int))) → chansE nt cs = 1 := by
        intro h
        rw [HE2.out, if_neg]
        simp only [chanB, Bool.and_eq_true, decide_eq_true_eq]
        rintro ⟨⟨⟨h1, h2⟩, h3⟩, h4⟩
        exact h ⟨h1, h2, h3, h4⟩
      have BAD : Hid ((¬ (0 ≤ r ∧ r ≤ 16 ∧ -1 ≤ s ∧ s < (nt : Int))) → chansE nt cs = 1) := bad
      clear bad
      by_cases h1 : r < 0
      · have HZ : Hid (chansE nt cs = 1) := BAD.out (by omega)
        clear BAD HE2
        go_wp2_with fail
        try rw [Exit.noGoto_ret]
        go_ret
        rw [HZ.out]
        exact ⟨rfl, KB⟩
      by_cases h2 : r > 16
      · have HZ : Hid (chansE nt cs = 1) := BAD.out (by omega)
        clear BAD HE2
        go_wp2_with fail
        try rw [Exit.noGoto_ret]
        go_ret
        rw [HZ.out]
        exact ⟨rfl, KB⟩
      by_cases h3 : s < -1
      · have HZ : Hid (chansE nt cs = 1) := BAD.out (by omega)
        clear BAD HE2
        go_wp2_with fail
        try rw [Exit.noGoto_ret]
        go_ret
        rw [HZ.out]
        exact ⟨rfl, KB⟩
      by_cases h4 : s ≥ (nt : Int)
      · have HZ : Hid (chansE nt cs = 1) := BAD.out (by omega)
        clear BAD HE2
        go_wp2_with fail
        try rw [Exit.noGoto_ret]
        go_ret
        rw [HZ.out]
        exact ⟨rfl, KB⟩
      have HZ : Hid (chansE nt cs = chansE nt (cs.drop (j + 1))) := by
        show _ = _
        rw [HE2.out, if_pos]
        simp only [chanB, Bool.and_eq_true, decide_eq_true_eq]
        omega
      clear BAD HE2
      go_wp2_with fail
      go_roundg g3'
      case rel => exact ⟨j + 1, by go_num, rfl, by omega, HZ, KB, HBn⟩
      case measure => omega
    · have b1 : ¬ (j : Int) < (cs.length : Int) := by omega
      have HZ : Hid (chansE nt cs = 0) := by show _ = _; rw [HE.out, List.drop_eq_nil_of_le (by omega)]; rfl
      go_wp2_with fail
      try rw [Exit.noGoto_ret]
      go_ret
      rw [HZ.out]
      exact ⟨rfl, K⟩

set_option maxHeartbeats 4000000 in
theorem find_any (L : Int) (ca ta : Option Addr) (cc tc nc : Nat) (ts : List TaskD) (nm : List UInt8) (w : World) (hA : AtT w ta ts) (hl : ts.length ≤ 100000) :
    Calls Tryd.prog 32 #[.agg #[.int .i64 L, .slice ca nc cc, .slice ta ts.length tc], .string (B nm)] w fun e w' => e = .returned (.tuple #[.int .i64 (findGo nm 0 ts).1, .bool (findGo nm 0 ts).2]) ∧ Kept w w' := by
  have HA : Hid (AtT w ta ts) := hA
  clear hA
  have K0 := (Kept.refl w).alloc (.cells #[.int .i64 L, .slice ca nc cc, .slice ta ts.length tc] 58)
  go_enter Tryd.func32, Tryd.ntmps32
  go_wp2_with fail
  go_step3
  go_wp2_with fail
  go_step3
  go_wp2_with fail
  go_loopg [6, 7, 13] ts.length (fun gk x6 x7 i wr => ∃ j : Nat, i = .int .i64 j ∧ x6 = .int .i64 0 ∧ x7 = .bool false ∧ j + gk = ts.length ∧ Hid (findGo nm 0 ts = findGo nm j (ts.drop j)) ∧ Kept w wr)
  case atStart => exact ⟨0, rfl, rfl, rfl, by omega, (by show _ = _; rw [List.drop_zero]), K0⟩
  case round =>
    obtain ⟨j, rfl, rfl, rfl, hj, HE, K⟩ := hrel
    by_cases hjp : j < ts.length
    · obtain ⟨b, f, n1, pd, dl, bu, pr, pa, pc, rfl, hpj, g0, g1, g2, g3, g4, hpc, hat, hbl, hdr⟩ := (HA.out.kept K).get j hjp
      have b1 : (j : Int) < (ts.length : Int) := by omega
      have b2 : (0 : Int) ≤ (j : Int) := by omega
      have KB := K.alloc (.cells #[.string (B n1), .int .i64 pd, .int .i64 dl, .int .i64 bu, .slice pa pr.length pc] 70)
      have HE2 : Hid (findGo nm 0 ts = if n1 = nm then (j, true) else findGo nm (j + 1) (ts.drop (j + 1))) := by show _ = _; rw [HE.out, hdr, findGo]
      obtain ⟨g3', rfl⟩ : ∃ g, gk = g + 1 := ⟨gk - 1, by omega⟩
      clear hpj hat hdr HE
      by_cases hn : n1 = nm
      · have e1 : ((B n1).toList == (B nm).toList) = true := by rw [B_eq]; simpa using hn
        have HZ : Hid (findGo nm 0 ts = (j, true)) := by show _ = _; rw [HE2.out, if_pos hn]
        clear HE2 hn
        go_wp2_with fail
        try rw [Exit.noGoto_ret]
        go_ret2
        rw [HZ.out]
        exact ⟨rfl, KB⟩
      · have e1 : ((B n1).toList == (B nm).toList) = false := by rw [B_eq]; simpa using hn
        have HZ : Hid (findGo nm 0 ts = findGo nm (j + 1) (ts.drop (j + 1))) := by show _ = _; rw [HE2.out, if_neg hn]
        clear HE2 hn
        go_wp2_with fail
        go_roundg g3'
        case rel => exact ⟨j + 1, by go_num, rfl, rfl, by omega, HZ, KB⟩
        case measure => omega
    · have b1 : ¬ (j : Int) < (ts.length : Int) := by omega
      have HZ : Hid (findGo nm 0 ts = (0, false)) := by show _ = _; rw [HE.out, List.drop_eq_nil_of_le (by omega)]; rfl
      go_wp2_with fail
      try rw [Exit.noGoto_ret]
      go_ret2
      rw [HZ.out]
      exact ⟨rfl, K⟩

set_option maxHeartbeats 2000000 in
theorem areT_any (nm : List UInt8) (pd dl bu : Int) (pr : List OpD) (pa : Option Addr) (n pc : Nat) (w : World) :
    Calls Tryd.prog 92 #[.agg #[.string (B nm), .int .i64 pd, .int .i64 dl, .int .i64 bu, .slice pa n pc]] w fun e w' => e = .returned (.bool (timesB ⟨nm, pd, dl, bu, pr⟩)) ∧ Kept w w' := by
  have K0 := (Kept.refl w).alloc (.cells #[.string (B nm), .int .i64 pd, .int .i64 dl, .int .i64 bu, .slice pa n pc] 70)
  have HT : Hid (timesB ⟨nm, pd, dl, bu, pr⟩ = (decide (pd ≤ 1099511627776) && decide (dl ≤ pd) && decide (bu ≤ dl) && decide (1 ≤ bu))) := rfl
  by_cases h1 : pd ≤ 1099511627776
  · by_cases h2 : dl ≤ pd
    · by_cases h3 : bu ≤ dl
      · by_cases h4 : bu ≥ 1
        · have HZ : Hid (timesB ⟨nm, pd, dl, bu, pr⟩ = true) := by show _ = _; rw [HT.out]; simp; omega
          clear HT
          go_enter Tryd.func92, Tryd.ntmps92
          go_wp2_with fail
          go_ret
          rw [HZ.out]
          exact ⟨rfl, K0⟩
        · have HZ : Hid (timesB ⟨nm, pd, dl, bu, pr⟩ = false) := by show _ = _; rw [HT.out]; simp; omega
          clear HT
          go_enter Tryd.func92, Tryd.ntmps92
          go_wp2_with fail
          go_ret
          rw [HZ.out]
          exact ⟨rfl, K0⟩
      · have HZ : Hid (timesB ⟨nm, pd, dl, bu, pr⟩ = false) := by show _ = _; rw [HT.out]; simp; omega
        clear HT
        go_enter Tryd.func92, Tryd.ntmps92
        go_wp2_with fail
        go_ret
        rw [HZ.out]
        exact ⟨rfl, K0⟩
    · have HZ : Hid (timesB ⟨nm, pd, dl, bu, pr⟩ = false) := by show _ = _; rw [HT.out]; simp; omega
      clear HT
      go_enter Tryd.func92, Tryd.ntmps92
      go_wp2_with fail
      go_ret
      rw [HZ.out]
      exact ⟨rfl, K0⟩
  · have HZ : Hid (timesB ⟨nm, pd, dl, bu, pr⟩ = false) := by show _ = _; rw [HT.out]; simp; omega
    clear HT
    go_enter Tryd.func92, Tryd.ntmps92
    go_wp2_with fail
    go_ret
    rw [HZ.out]
    exact ⟨rfl, K0⟩

set_option maxHeartbeats 4000000 in
theorem hasC_any (L : Int) (ca ta : Option Addr) (cc tc nc nt : Nat) (a : Option Addr) (c : Nat) (l : List CaseD) (w : World) (hA : AtC w a l.length l) (hl : l.length ≤ 1000000) :
    Calls Tryd.prog 102 #[.agg #[.int .i64 L, .slice ca nc cc, .slice ta nt tc], .slice a l.length c] w fun e w' => e = .returned (.bool (casesB nc l)) ∧ Kept w w' := by
  have HA : Hid (AtC w a l.length l) := hA
  clear hA
  have K0 := (Kept.refl w).alloc (.cells #[.int .i64 L, .slice ca nc cc, .slice ta nt tc] 58)
  have HB : Hid (Box w.heap.size (w.alloc (.cells #[.int .i64 L, .slice ca nc cc, .slice ta nt tc] 58)) 58 w.heap.size [.int .i64 L, .slice ca nc cc, .slice ta nt tc]) := box_new w.heap.size w 58 [.int .i64 L, .slice ca nc cc, .slice ta nt tc] (Nat.le_refl _) (by simp)
  go_enter Tryd.func102, Tryd.ntmps102
  go_wp2_with fail
  go_step3
  go_wp2_with fail
  go_step3
  go_wp2_with fail
  go_loopg [5, 10] l.length (fun gk x5 i wr => ∃ j : Nat, i = .int .i64 j ∧ x5 = .bool true ∧ j + gk = l.length ∧ Hid (casesB nc l = casesB nc (l.drop j)) ∧ Kept w wr ∧ Hid (Box w.heap.size wr 58 w.heap.size [.int .i64 L, .slice ca nc cc, .slice ta nt tc]))
  case atStart => exact ⟨0, rfl, rfl, by omega, (by show _ = _; rw [List.drop_zero]), K0, HB⟩
  case round =>
    obtain ⟨j, rfl, rfl, hj, HE, K, HBr⟩ := hrel
    by_cases hjp : j < l.length
    · obtain ⟨b, f, rfl, g0, g1, g2⟩ := (HA.out.kept K).2 j hjp
      have hge : l.getD j zeroC = l[j] := by simp [List.getD_eq_getElem?_getD, hjp]
      have hdr : l.drop j = l[j] :: l.drop (j + 1) := List.drop_eq_getElem_cons hjp
      rw [hge] at g0 g1 g2
      obtain ⟨d, hd⟩ : ∃ d, l[j] = d := ⟨_, rfl⟩
      rw [hd] at g0 g1 g2 hdr
      obtain ⟨sd, ch, v⟩ := d
      simp only at g0 g1 g2
      have b1 : (j : Int) < (l.length : Int) := by omega
      have b2 : (0 : Int) ≤ (j : Int) := by omega
      have KB := K.alloc (.cells #[.bool sd, .int .i64 ch, .int .i64 v] 107)
      have KA := (Kept.refl wr).alloc (.cells #[.bool sd, .int .i64 ch, .int .i64 v] 107)
      have HBn : Hid (Box w.heap.size (wr.alloc (.cells #[.bool sd, .int .i64 ch, .int .i64 v] 107)) 58 w.heap.size [.int .i64 L, .slice ca nc cc, .slice ta nt tc]) := HBr.out.kept KA
      have s1 : (wr.alloc (.cells #[.bool sd, .int .i64 ch, .int .i64 v] 107)).cell? ⟨w.heap.size, 1, none⟩ = some (.slice ca nc cc) := HBn.out.cell 1 (by simp)
      have HE2 : Hid (casesB nc l = if ch < (nc : Int) then casesB nc (l.drop (j + 1)) else false) := by show _ = _; rw [HE.out, hdr, casesB]
      obtain ⟨g3', rfl⟩ : ∃ g, gk = g + 1 := ⟨gk - 1, by omega⟩
      clear hdr HE hd hge
      by_cases h1 : ch ≥ (nc : Int)
      · have HZ : Hid (casesB nc l = false) := by show _ = _; rw [HE2.out, if_neg (by omega)]
        clear HE2
        go_wp2_with fail
        try rw [Exit.noGoto_ret]
        go_ret
        rw [HZ.out]
        exact ⟨rfl, KB⟩
      · have HZ : Hid (casesB nc l = casesB nc (l.drop (j + 1))) := by show _ = _; rw [HE2.out, if_pos (by omega)]
        clear HE2
        go_wp2_with fail
        go_roundg g3'
        case rel => exact ⟨j + 1, by go_num, rfl, by omega, HZ, KB, HBn⟩
        case measure => omega
    · have b1 : ¬ (j : Int) < (l.length : Int) := by omega
      have HZ : Hid (casesB nc l = true) := by show _ = _; rw [HE.out, List.drop_eq_nil_of_le (by omega)]; rfl
      go_wp2_with fail
      try rw [Exit.noGoto_ret]
      go_ret
      rw [HZ.out]
      exact ⟨rfl, K⟩
end Go.Proofs.YtolljdomnohmdaaDoor
