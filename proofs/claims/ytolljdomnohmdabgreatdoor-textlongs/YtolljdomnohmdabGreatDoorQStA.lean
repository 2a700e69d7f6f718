/- checkChans, Find, areTimes, hasCases. hasAll, checkTask, checkTasks, Check of a set. checkTask, checkTasks, Check, Need, Waits of a set. Check, Need, Waits, Same of a set. Same, of sets without channels. -/
import Derived.ProofKit
import Derived.OpenShut
import Derived.ShutString
import Derived.ChangeOld
import Derived.ChangeArms
import Derived.WideShapes
import Derived.Below
import Derived.Deep.Slices
import Derived.Deep.SlicePairs
import Derived.Test.YtolljdomnohmdabGreatDoorM2
import Derived.Test.YtolljdomnohmdabGreatDoorCas
import Derived.Test.YtolljdomnohmdabGreatDoorCheck
import Derived.Test.YtolljdomnohmdabGreatDoorM3
import Derived.Test.YtolljdomnohmdabGreatDoorM4
import Derived.Test.YtolljdomnohmdabGreatDoorM0
import Derived.Test.YtolljdomnohmdabGreatDoorM1
import Derived.Test.YtolljdomnohmdabGreatDoorOpT
import Derived.Test.YtolljdomnohmdabGreatDoorPar
import Derived.Test.YtolljdomnohmdabGreatDoorM7
import Derived.Test.YtolljdomnohmdabGreatDoorTxt
import Derived.Test.YtolljdomnohmdabGreatDoorRWrd
import Derived.Test.YtolljdomnohmdabGreatDoorM5
import Derived.Test.YtolljdomnohmdabGreatDoorRead
import Derived.Test.YtolljdomnohmdabGreatDoorM8
import Derived.Test.YtolljdomnohmdabGreatDoorTrn
import Derived.Test.YtolljdomnohmdabGreatDoorM12
namespace Go.Proofs.YtolljdomnohmdabGreatDoor
open Go.RowKit

set_option maxHeartbeats 4000000 in
theorem chans_any (L : Int) (ca ta : Option Addr) (cc tc nt : Nat) (cs : List ChanD) (w : World) (hA : AtH w ca cs) (hl : cs.length ≤ 100000) :
    Calls Tryz.prog 30 #[.agg #[.int .i64 L, .slice ca cs.length cc, .slice ta nt tc]] w fun e w' => e = .returned (.int .i64 (chansE nt cs)) ∧ Kept w w' := by
  have HA : Hid (AtH w ca cs) := hA
  clear hA
  have K0 := (Kept.refl w).alloc (.cells #[.int .i64 L, .slice ca cs.length cc, .slice ta nt tc] 27)
  have HB : Hid (Box w.heap.size (w.alloc (.cells #[.int .i64 L, .slice ca cs.length cc, .slice ta nt tc] 27)) 27 w.heap.size [.int .i64 L, .slice ca cs.length cc, .slice ta nt tc]) := box_new w.heap.size w 27 [.int .i64 L, .slice ca cs.length cc, .slice ta nt tc] (Nat.le_refl _) (by simp)
  go_enter Tryz.func30, Tryz.ntmps30
  go_wp2_with fail
  go_step3
  go_wp2_with fail
  go_step3
  go_wp2_with fail
  go_loopg [3, 9] cs.length (fun gk x3 i wr => ∃ j : Nat, i = .int .i64 j ∧ x3 = .int .i64 0 ∧ j + gk = cs.length ∧ Hid (chansE nt cs = chansE nt (cs.drop j)) ∧ Kept w wr ∧ Hid (Box w.heap.size wr 27 w.heap.size [.int .i64 L, .slice ca cs.length cc, .slice ta nt tc]))
  case atStart => exact ⟨0, rfl, rfl, by omega, (by show _ = _; rw [List.drop_zero]), K0, HB⟩
  case round =>
    obtain ⟨j, rfl, rfl, hj, HE, K, HBr⟩ := hrel
    by_cases hjp : j < cs.length
    · obtain ⟨b, f, r, s, rfl, hpj, g0, g1, hdr⟩ := (HA.out.kept K).get j hjp
      have b1 : (j : Int) < (cs.length : Int) := by omega
      have b2 : (0 : Int) ≤ (j : Int) := by omega
      have KB := K.alloc (.cells #[.int .i64 r, .int .i64 s] 60)
      have KA := (Kept.refl wr).alloc (.cells #[.int .i64 r, .int .i64 s] 60)
      have HBn : Hid (Box w.heap.size (wr.alloc (.cells #[.int .i64 r, .int .i64 s] 60)) 27 w.heap.size [.int .i64 L, .slice (some ⟨b, f, none⟩) cs.length cc, .slice ta nt tc]) := HBr.out.kept KA
      have s2 : (wr.alloc (.cells #[.int .i64 r, .int .i64 s] 60)).cell? ⟨w.heap.size, 2, none⟩ = some (.slice ta nt tc) := HBn.out.cell 2 (by simp)
      have HE2 : Hid (chansE nt cs = if chanB nt ⟨r, s⟩ = true then chansE nt (cs.drop (j + 1)) else 1) := by show _ = _; rw [HE.out, hdr, chansE]
      obtain ⟨g3', rfl⟩ : ∃ g, gk = g + 1 := ⟨gk - 1, by omega⟩
      clear hpj hdr HE
      have bad : (¬ (0 ≤ r ∧ r ≤ 16 ∧ -1 ≤ s ∧ s < (nt : Int))) → chansE nt cs = 1 := by
        intro h
        rw [HE2.out, if_neg]
        simp only [chanB, Bool.and_eq_true, decide_eq_true_eq]
        rintro ⟨⟨⟨h1, h2⟩, h3⟩, h4⟩
        exact h ⟨h1, h2, h3, h4⟩
      have BAD : Hid ((¬ (0 ≤ r ∧ r ≤ 16 ∧ -1 ≤ s ∧ s < (nt : Int))) → chansE nt cs = 1) := bad
      clear bad
      by_cases h1 : r < 0
      · have HZ : Hid (chansE nt cs = 1) := BAD.out (by omega)
        clear BAD HE2
        go_wp2_with fail
        try rw [Exit.noGoto_ret]
        go_ret
        rw [HZ.out]
        exact ⟨rfl, KB⟩
      by_cases h2 : r > 16
      · have HZ : Hid (chansE nt cs = 1) := BAD.out (by omega)
        clear BAD HE2
        go_wp2_with fail
        try rw [Exit.noGoto_ret]
        go_ret
        rw [HZ.out]
        exact ⟨rfl, KB⟩
      by_cases h3 : s < -1
      · have HZ : Hid (chansE nt cs = 1) := BAD.out (by omega)
        clear BAD HE2
        go_wp2_with fail
        try rw [Exit.noGoto_ret]
        go_ret
        rw [HZ.out]
        exact ⟨rfl, KB⟩
      by_cases h4 : s ≥ (nt : Int)
      · have HZ : Hid (chansE nt cs = 1) := BAD.out (by omega)
        clear BAD HE2
        go_wp2_with fail
        try rw [Exit.noGoto_ret]
        go_ret
        rw [HZ.out]
        exact ⟨rfl, KB⟩
      have HZ : Hid (chansE nt cs = chansE nt (cs.drop (j + 1))) := by
        show _ = _
        rw [HE2.out, if_pos]
        simp only [chanB, Bool.and_eq_true, decide_eq_true_eq]
        omega
      clear BAD HE2
      go_wp2_with fail
      go_roundg g3'
      case rel => exact ⟨j + 1, by go_num, rfl, by omega, HZ, KB, HBn⟩
      case measure => omega
    · have b1 : ¬ (j : Int) < (cs.length : Int) := by omega
      have HZ : Hid (chansE nt cs = 0) := by show _ = _; rw [HE.out, List.drop_eq_nil_of_le (by omega)]; rfl
      go_wp2_with fail
      try rw [Exit.noGoto_ret]
      go_ret
      rw [HZ.out]
      exact ⟨rfl, K⟩

set_option maxHeartbeats 4000000 in
theorem find_any (L : Int) (ca ta : Option Addr) (cc tc nc : Nat) (ts : List TaskD) (nm : List UInt8) (w : World) (hA : AtT w ta ts) (hl : ts.length ≤ 100000) :
    Calls Tryz.prog 64 #[.agg #[.int .i64 L, .slice ca nc cc, .slice ta ts.length tc], .string (B nm)] w fun e w' => e = .returned (.tuple #[.int .i64 (findGo nm 0 ts).1, .bool (findGo nm 0 ts).2]) ∧ Kept w w' := by
  have HA : Hid (AtT w ta ts) := hA
  clear hA
  have K0 := (Kept.refl w).alloc (.cells #[.int .i64 L, .slice ca nc cc, .slice ta ts.length tc] 27)
  go_enter Tryz.func64, Tryz.ntmps64
  go_wp2_with fail
  go_step3
  go_wp2_with fail
  go_step3
  go_wp2_with fail
  go_loopg [6, 7, 13] ts.length (fun gk x6 x7 i wr => ∃ j : Nat, i = .int .i64 j ∧ x6 = .int .i64 0 ∧ x7 = .bool false ∧ j + gk = ts.length ∧ Hid (findGo nm 0 ts = findGo nm j (ts.drop j)) ∧ Kept w wr)
  case atStart => exact ⟨0, rfl, rfl, rfl, by omega, (by show _ = _; rw [List.drop_zero]), K0⟩
  case round =>
    obtain ⟨j, rfl, rfl, rfl, hj, HE, K⟩ := hrel
    by_cases hjp : j < ts.length
    · obtain ⟨b, f, n1, pd, dl, bu, pr, pa, pc, rfl, hpj, g0, g1, g2, g3, g4, hpc, hat, hbl, hdr⟩ := (HA.out.kept K).get j hjp
      have b1 : (j : Int) < (ts.length : Int) := by omega
      have b2 : (0 : Int) ≤ (j : Int) := by omega
      have KB := K.alloc (.cells #[.string (B n1), .int .i64 pd, .int .i64 dl, .int .i64 bu, .slice pa pr.length pc] 33)
      have HE2 : Hid (findGo nm 0 ts = if n1 = nm then (j, true) else findGo nm (j + 1) (ts.drop (j + 1))) := by show _ = _; rw [HE.out, hdr, findGo]
      obtain ⟨g3', rfl⟩ : ∃ g, gk = g + 1 := ⟨gk - 1, by omega⟩
      clear hpj hat hdr HE
      by_cases hn : n1 = nm
      · have e1 : ((B n1).toList == (B nm).toList) = true := by rw [B_eq]; simpa using hn
        have HZ : Hid (findGo nm 0 ts = (j, true)) := by show _ = _; rw [HE2.out, if_pos hn]
        clear HE2 hn
        go_wp2_with fail
        try rw [Exit.noGoto_ret]
        go_ret2
        rw [HZ.out]
        exact ⟨rfl, KB⟩
      · have e1 : ((B n1).toList == (B nm).toList) = false := by rw [B_eq]; simpa using hn
        have HZ : Hid (findGo nm 0 ts = findGo nm (j + 1) (ts.drop (j + 1))) := by show _ = _; rw [HE2.out, if_neg hn]
        clear HE2 hn
        go_wp2_with fail
        go_roundg g3'
        case rel => exact ⟨j + 1, by go_num, rfl, rfl, by omega, HZ, KB⟩
        case measure => omega
    · have b1 : ¬ (j : Int) < (ts.length : Int) := by omega
      have HZ : Hid (findGo nm 0 ts = (0, false)) := by show _ = _; rw [HE.out, List.drop_eq_nil_of_le (by omega)]; rfl
      go_wp2_with fail
      try rw [Exit.noGoto_ret]
      go_ret2
      rw [HZ.out]
      exact ⟨rfl, K⟩

set_option maxHeartbeats 2000000 in
theorem areT_any (nm : List UInt8) (pd dl bu : Int) (pr : List OpD) (pa : Option Addr) (n pc : Nat) (w : World) :
    Calls Tryz.prog 65 #[.agg #[.string (B nm), .int .i64 pd, .int .i64 dl, .int .i64 bu, .slice pa n pc]] w fun e w' => e = .returned (.bool (timesB ⟨nm, pd, dl, bu, pr⟩)) ∧ Kept w w' := by
  have K0 := (Kept.refl w).alloc (.cells #[.string (B nm), .int .i64 pd, .int .i64 dl, .int .i64 bu, .slice pa n pc] 33)
  have HT : Hid (timesB ⟨nm, pd, dl, bu, pr⟩ = (decide (pd ≤ 1099511627776) && decide (dl ≤ pd) && decide (bu ≤ dl) && decide (1 ≤ bu))) := rfl
  by_cases h1 : pd ≤ 1099511627776
  · by_cases h2 : dl ≤ pd
    · by_cases h3 : bu ≤ dl
      · by_cases h4 : bu ≥ 1
        · have HZ : Hid (timesB ⟨nm, pd, dl, bu, pr⟩ = true) := by show _ = _; rw [HT.out]; simp; omega
          clear HT
          go_enter Tryz.func65, Tryz.ntmps65
          go_wp2_with fail
          go_ret
          rw [HZ.out]
          exact ⟨rfl, K0⟩
        · have HZ : Hid (timesB ⟨nm, pd, dl, bu, pr⟩ = false) := by show _ = _; rw [HT.out]; simp; omega
          clear HT
          go_enter Tryz.func65, Tryz.ntmps65
          go_wp2_with fail
          go_ret
          rw [HZ.out]
          exact ⟨rfl, K0⟩
      · have HZ : Hid (timesB ⟨nm, pd, dl, bu, pr⟩ = false) := by show _ = _; rw [HT.out]; simp; omega
        clear HT
        go_enter Tryz.func65, Tryz.ntmps65
        go_wp2_with fail
        go_ret
        rw [HZ.out]
        exact ⟨rfl, K0⟩
    · have HZ : Hid (timesB ⟨nm, pd, dl, bu, pr⟩ = false) := by show _ = _; rw [HT.out]; simp; omega
      clear HT
      go_enter Tryz.func65, Tryz.ntmps65
      go_wp2_with fail
      go_ret
      rw [HZ.out]
      exact ⟨rfl, K0⟩
  · have HZ : Hid (timesB ⟨nm, pd, dl, bu, pr⟩ = false) := by show _ = _; rw [HT.out]; simp; omega
    clear HT
    go_enter Tryz.func65, Tryz.ntmps65
    go_wp2_with fail
    go_ret
    rw [HZ.out]
    exact ⟨rfl, K0⟩

set_option maxHeartbeats 4000000 in
theorem hasC_any (L : Int) (ca ta : Option Addr) (cc tc nc nt : Nat) (a : Option Addr) (c : Nat) (l : List CaseD) (w : World) (hA : AtC w a l.length l) (hl : l.length ≤ 1000000) :
    Calls Tryz.prog 91 #[.agg #[.int .i64 L, .slice ca nc cc, .slice ta nt tc], .slice a l.length c] w fun e w' => e = .returned (.bool (casesB nc l)) ∧ Kept w w' := by
  have HA : Hid (AtC w a l.length l) := hA
  clear hA
  have K0 := (Kept.refl w).alloc (.cells #[.int .i64 L, .slice ca nc cc, .slice ta nt tc] 27)
  have HB : Hid (Box w.heap.size (w.alloc (.cells #[.int .i64 L, .slice ca nc cc, .slice ta nt tc] 27)) 27 w.heap.size [.int .i64 L, .slice ca nc cc, .slice ta nt tc]) := box_new w.heap.size w 27 [.int .i64 L, .slice ca nc cc, .slice ta nt tc] (Nat.le_refl _) (by simp)
  go_enter Tryz.func91, Tryz.ntmps91
  go_wp2_with fail
  go_step3
  go_wp2_with fail
  go_step3
  go_wp2_with fail
  go_loopg [5, 10] l.length (fun gk x5 i wr => ∃ j : Nat, i = .int .i64 j ∧ x5 = .bool true ∧ j + gk = l.length ∧ Hid (casesB nc l = casesB nc (l.drop j)) ∧ Kept w wr ∧ Hid (Box w.heap.size wr 27 w.heap.size [.int .i64 L, .slice ca nc cc, .slice ta nt tc]))
  case atStart => exact ⟨0, rfl, rfl, by omega, (by show _ = _; rw [List.drop_zero]), K0, HB⟩
  case round =>
    obtain ⟨j, rfl, rfl, hj, HE, K, HBr⟩ := hrel
    by_cases hjp : j < l.length
    · obtain ⟨b, f, rfl, g0, g1, g2⟩ := (HA.out.kept K).2 j hjp
      have hge : l.getD j zeroC = l[j] := by simp [List.getD_eq_getElem?_getD, hjp]
      have hdr : l.drop j = l[j] :: l.drop (j + 1) := List.drop_eq_getElem_cons hjp
      rw [hge] at g0 g1 g2
      obtain ⟨d, hd⟩ : ∃ d, l[j] = d := ⟨_, rfl⟩
      rw [hd] at g0 g1 g2 hdr
      obtain ⟨sd, ch, v⟩ := d
      simp only at g0 g1 g2
      have b1 : (j : Int) < (l.length : Int) := by omega
      have b2 : (0 : Int) ≤ (j : Int) := by omega
      have KB := K.alloc (.cells #[.bool sd, .int .i64 ch, .int .i64 v] 57)
      have KA := (Kept.refl wr).alloc (.cells #[.bool sd, .int .i64 ch, .int .i64 v] 57)
      have HBn : Hid (Box w.heap.size (wr.alloc (.cells #[.bool sd, .int .i64 ch, .int .i64 v] 57)) 27 w.heap.size [.int .i64 L, .slice ca nc cc, .slice ta nt tc]) := HBr.out.kept KA
      have s1 : (wr.alloc (.cells #[.bool sd, .int .i64 ch, .int .i64 v] 57)).cell? ⟨w.heap.size, 1, none⟩ = some (.slice ca nc cc) := HBn.out.cell 1 (by simp)
      have HE2 : Hid (casesB nc l = if ch < (nc : Int) then casesB nc (l.drop (j + 1)) else false) := by show _ = _; rw [HE.out, hdr, casesB]
      obtain ⟨g3', rfl⟩ : ∃ g, gk = g + 1 := ⟨gk - 1, by omega⟩
      clear hdr HE hd hge
      by_cases h1 : ch ≥ (nc : Int)
      · have HZ : Hid (casesB nc l = false) := by show _ = _; rw [HE2.out, if_neg (by omega)]
        clear HE2
        go_wp2_with fail
        try rw [Exit.noGoto_ret]
        go_ret
        rw [HZ.out]
        exact ⟨rfl, KB⟩
      · have HZ : Hid (casesB nc l = casesB nc (l.drop (j + 1))) := by show _ = _; rw [HE2.out, if_pos (by omega)]
        clear HE2
        go_wp2_with fail
        go_roundg g3'
        case rel => exact ⟨j + 1, by go_num, rfl, by omega, HZ, KB, HBn⟩
        case measure => omega
    · have b1 : ¬ (j : Int) < (l.length : Int) := by omega
      have HZ : Hid (casesB nc l = true) := by show _ = _; rw [HE.out, List.drop_eq_nil_of_le (by omega)]; rfl
      go_wp2_with fail
      try rw [Exit.noGoto_ret]
      go_ret
      rw [HZ.out]
      exact ⟨rfl, K⟩
end Go.Proofs.YtolljdomnohmdabGreatDoor
namespace Go.Proofs.YtolljdomnohmdabGreatDoor
open Go.RowKit

set_option maxHeartbeats 8000000 in
theorem hasAll_any (L : Int) (ca ta : Option Addr) (cc tc nc nt : Nat) (a : Option Addr) (c : Nat) (p : List OpD) (w : World) (hA : AtP w a p) (hl : p.length ≤ 100000) (hc : ∀ o ∈ p, o.cases.length ≤ 1000000) :
    Calls Tryz.prog 68 #[.agg #[.int .i64 L, .slice ca nc cc, .slice ta nt tc], .slice a p.length c] w fun e w' => e = .returned (.bool (hasAllB L nc p)) ∧ Kept w w' := by
  have HA : Hid (AtP w a p) := hA
  have HC : Hid (∀ o ∈ p, o.cases.length ≤ 1000000) := hc
  clear hA hc
  have K0 := (Kept.refl w).alloc (.cells #[.int .i64 L, .slice ca nc cc, .slice ta nt tc] 27)
  have HB : Hid (Box w.heap.size (w.alloc (.cells #[.int .i64 L, .slice ca nc cc, .slice ta nt tc] 27)) 27 w.heap.size [.int .i64 L, .slice ca nc cc, .slice ta nt tc]) := box_new w.heap.size w 27 [.int .i64 L, .slice ca nc cc, .slice ta nt tc] (Nat.le_refl _) (by simp)
  have s0 : (w.alloc (.cells #[.int .i64 L, .slice ca nc cc, .slice ta nt tc] 27)).cell? ⟨w.heap.size, 0, none⟩ = some (.int .i64 L) := HB.out.cell 0 (by simp)
  have s1 : (w.alloc (.cells #[.int .i64 L, .slice ca nc cc, .slice ta nt tc] 27)).cell? ⟨w.heap.size, 1, none⟩ = some (.slice ca nc cc) := HB.out.cell 1 (by simp)
  go_enter Tryz.func68, Tryz.ntmps68
  go_wp2_with fail
  go_step3
  go_wp2_with fail
  go_region_held3 (fun w' => w'.cell? ⟨w.heap.size, 0, none⟩ = some (.int .i64 L) ∧ w'.cell? ⟨w.heap.size, 1, none⟩ = some (.slice ca nc cc)) (go_keep) (fail)
  go_wp2_with fail
  go_step3
  go_wp2_with fail
  go_loopg [7, 17] p.length (fun gk x7 i wr => ∃ j : Nat, i = .int .i64 j ∧ x7 = .bool true ∧ j + gk = p.length ∧ Hid (hasAllB L nc p = hasAllB L nc (p.drop j)) ∧ Kept w wr ∧ Hid (Box w.heap.size wr 27 w.heap.size [.int .i64 L, .slice ca nc cc, .slice ta nt tc]))
  case atStart => exact ⟨0, rfl, rfl, by omega, (by show _ = _; rw [List.drop_zero]), K0.drew, HB.out.kept ((Kept.refl _).drew)⟩
  case round =>
    obtain ⟨j, rfl, rfl, hj, HE, K, HBr⟩ := hrel
    by_cases hjp : j < p.length
    · obtain ⟨b, f, k, n, v, wt, l, la, lc, rfl, hpj, g0, g1, g2, g3, g4, hlc, hat, hbl, hdr⟩ := (HA.out.kept K).get j hjp
      have b1 : (j : Int) < (p.length : Int) := by omega
      have b2 : (0 : Int) ≤ (j : Int) := by omega
      have hll : l.length ≤ 1000000 := HC.out _ (List.mem_of_getElem? hpj)
      have KB := K.alloc (.cells #[.int .i64 k, .int .i64 n, .int .i64 v, .int .i64 wt, .slice la l.length lc] 37)
      have KA := (Kept.refl wr).alloc (.cells #[.int .i64 k, .int .i64 n, .int .i64 v, .int .i64 wt, .slice la l.length lc] 37)
      have HBn : Hid (Box w.heap.size (wr.alloc (.cells #[.int .i64 k, .int .i64 n, .int .i64 v, .int .i64 wt, .slice la l.length lc] 37)) 27 w.heap.size [.int .i64 L, .slice ca nc cc, .slice ta nt tc]) := HBr.out.kept KA
      have u0 : (wr.alloc (.cells #[.int .i64 k, .int .i64 n, .int .i64 v, .int .i64 wt, .slice la l.length lc] 37)).cell? ⟨w.heap.size, 0, none⟩ = some (.int .i64 L) := HBn.out.cell 0 (by simp)
      have u1 : (wr.alloc (.cells #[.int .i64 k, .int .i64 n, .int .i64 v, .int .i64 wt, .slice la l.length lc] 37)).cell? ⟨w.heap.size, 1, none⟩ = some (.slice ca nc cc) := HBn.out.cell 1 (by simp)
      have u2 : (wr.alloc (.cells #[.int .i64 k, .int .i64 n, .int .i64 v, .int .i64 wt, .slice la l.length lc] 37)).cell? ⟨w.heap.size, 2, none⟩ = some (.slice ta nt tc) := HBn.out.cell 2 (by simp)
      have HE2 : Hid (hasAllB L nc p = if hasB L nc ⟨k, n, v, wt, l⟩ = true then hasAllB L nc (p.drop (j + 1)) else false) := by show _ = _; rw [HE.out, hdr, hasAllB]
      have HHC := hasC_any L ca ta cc tc nc nt la lc l _ (hat.kept KA) hll
      obtain ⟨g3', rfl⟩ : ∃ g, gk = g + 1 := ⟨gk - 1, by omega⟩
      clear hpj hat hdr HE
      by_cases k2 : k = 2
      · subst k2
        have HH : Hid (hasB L nc ⟨2, n, v, wt, l⟩ = decide (n < L)) := rfl
        by_cases hq : n < L
        · have HZ : Hid (hasAllB L nc p = hasAllB L nc (p.drop (j + 1))) := by show _ = _; rw [HE2.out, HH.out, if_pos (by simpa using hq)]
          clear HE2 HH HHC
          go_wp2_with fail
          go_roundg g3'
          case rel => exact ⟨j + 1, by go_num, rfl, by omega, HZ, KB, HBn⟩
          case measure => omega
        · have HZ : Hid (hasAllB L nc p = false) := by show _ = _; rw [HE2.out, HH.out, if_neg (by simpa using hq)]
          clear HE2 HH HHC
          go_wp2_with fail
          try rw [Exit.noGoto_ret]
          go_ret
          rw [HZ.out]
          exact ⟨rfl, KB⟩
      by_cases k3 : k = 3
      · subst k3
        have HH : Hid (hasB L nc ⟨3, n, v, wt, l⟩ = decide (n < L)) := rfl
        by_cases hq : n < L
        · have HZ : Hid (hasAllB L nc p = hasAllB L nc (p.drop (j + 1))) := by show _ = _; rw [HE2.out, HH.out, if_pos (by simpa using hq)]
          clear HE2 HH HHC
          go_wp2_with fail
          go_roundg g3'
          case rel => exact ⟨j + 1, by go_num, rfl, by omega, HZ, KB, HBn⟩
          case measure => omega
        · have HZ : Hid (hasAllB L nc p = false) := by show _ = _; rw [HE2.out, HH.out, if_neg (by simpa using hq)]
          clear HE2 HH HHC
          go_wp2_with fail
          try rw [Exit.noGoto_ret]
          go_ret
          rw [HZ.out]
          exact ⟨rfl, KB⟩
      by_cases k4 : k = 4
      · subst k4
        have HH : Hid (hasB L nc ⟨4, n, v, wt, l⟩ = decide (n < (nc : Int))) := rfl
        by_cases hq : n < (nc : Int)
        · have HZ : Hid (hasAllB L nc p = hasAllB L nc (p.drop (j + 1))) := by show _ = _; rw [HE2.out, HH.out, if_pos (by simpa using hq)]
          clear HE2 HH HHC
          go_wp2_with fail
          go_roundg g3'
          case rel => exact ⟨j + 1, by go_num, rfl, by omega, HZ, KB, HBn⟩
          case measure => omega
        · have HZ : Hid (hasAllB L nc p = false) := by show _ = _; rw [HE2.out, HH.out, if_neg (by simpa using hq)]
          clear HE2 HH HHC
          go_wp2_with fail
          try rw [Exit.noGoto_ret]
          go_ret
          rw [HZ.out]
          exact ⟨rfl, KB⟩
      by_cases k5 : k = 5
      · subst k5
        have HH : Hid (hasB L nc ⟨5, n, v, wt, l⟩ = decide (n < (nc : Int))) := rfl
        by_cases hq : n < (nc : Int)
        · have HZ : Hid (hasAllB L nc p = hasAllB L nc (p.drop (j + 1))) := by show _ = _; rw [HE2.out, HH.out, if_pos (by simpa using hq)]
          clear HE2 HH HHC
          go_wp2_with fail
          go_roundg g3'
          case rel => exact ⟨j + 1, by go_num, rfl, by omega, HZ, KB, HBn⟩
          case measure => omega
        · have HZ : Hid (hasAllB L nc p = false) := by show _ = _; rw [HE2.out, HH.out, if_neg (by simpa using hq)]
          clear HE2 HH HHC
          go_wp2_with fail
          try rw [Exit.noGoto_ret]
          go_ret
          rw [HZ.out]
          exact ⟨rfl, KB⟩
      by_cases k6 : k = 6
      · subst k6
        have HH : Hid (hasB L nc ⟨6, n, v, wt, l⟩ = decide (n < (nc : Int))) := rfl
        by_cases hq : n < (nc : Int)
        · have HZ : Hid (hasAllB L nc p = hasAllB L nc (p.drop (j + 1))) := by show _ = _; rw [HE2.out, HH.out, if_pos (by simpa using hq)]
          clear HE2 HH HHC
          go_wp2_with fail
          go_roundg g3'
          case rel => exact ⟨j + 1, by go_num, rfl, by omega, HZ, KB, HBn⟩
          case measure => omega
        · have HZ : Hid (hasAllB L nc p = false) := by show _ = _; rw [HE2.out, HH.out, if_neg (by simpa using hq)]
          clear HE2 HH HHC
          go_wp2_with fail
          try rw [Exit.noGoto_ret]
          go_ret
          rw [HZ.out]
          exact ⟨rfl, KB⟩
      by_cases k7 : k = 7
      · subst k7
        have HH : Hid (hasB L nc ⟨7, n, v, wt, l⟩ = casesB nc l) := rfl
        cases hq : casesB nc l with
        | true =>
          rw [hq] at HHC
          have HZ : Hid (hasAllB L nc p = hasAllB L nc (p.drop (j + 1))) := by show _ = _; rw [HE2.out, HH.out, if_pos hq]
          clear HE2 HH hq
          go_wp2_with fail
          refine HHC.mono ?_
          rintro e w2 ⟨rfl, t2⟩
          go_wp2_with fail
          go_roundg g3'
          case rel => exact ⟨j + 1, by go_num, rfl, by omega, HZ, KB.trans t2, HBn.out.kept t2⟩
          case measure => omega
        | false =>
          rw [hq] at HHC
          have HZ : Hid (hasAllB L nc p = false) := by show _ = _; rw [HE2.out, HH.out, if_neg (by rw [hq]; simp)]
          clear HE2 HH hq
          go_wp2_with fail
          refine HHC.mono ?_
          rintro e w2 ⟨rfl, t2⟩
          go_wp2_with fail
          try rw [Exit.noGoto_ret]
          go_ret
          rw [HZ.out]
          exact ⟨rfl, KB.trans t2⟩
      have HH : Hid (hasB L nc ⟨k, n, v, wt, l⟩ = true) := by show _ = _; unfold hasB; simp [k2, k3, k4, k5, k6, k7]
      have HZ : Hid (hasAllB L nc p = hasAllB L nc (p.drop (j + 1))) := by show _ = _; rw [HE2.out, if_pos HH.out]
      clear HE2 HH HHC
      go_wp2_with fail
      go_roundg g3'
      case rel => exact ⟨j + 1, by go_num, rfl, by omega, HZ, KB, HBn⟩
      case measure => omega
    · have b1 : ¬ (j : Int) < (p.length : Int) := by omega
      have HZ : Hid (hasAllB L nc p = true) := by show _ = _; rw [HE.out, List.drop_eq_nil_of_le (by omega)]; rfl
      go_wp2_with fail
      try rw [Exit.noGoto_ret]
      go_ret
      rw [HZ.out]
      exact ⟨rfl, K⟩
end Go.Proofs.YtolljdomnohmdabGreatDoor
namespace Go.Proofs.YtolljdomnohmdabGreatDoor
open Go.RowKit

theorem costD_i64 {p : List OpD} (h : checkP p = (0, 0)) : 0 ≤ costD p ∧ costD p ≤ 512000 := by
  obtain ⟨_, hc, _, f, hb, hf⟩ := taken_prog h
  rw [cost_len hb hc]
  have key : ∀ g : List OpD, (∀ o ∈ g, checkD o = 0) → 0 ≤ costF g ∧ costF g ≤ 1000 * (g.length : Int) := by
    intro g
    induction g with
    | nil => intro _; simp [costF]
    | cons o r ih =>
      intro hg
      have h1 := ih (fun q hq => hg q (by simp [hq]))
      rw [costF, List.length_cons]
      split
      · rename_i hk
        obtain ⟨k, n, v, wt, l⟩ := o
        simp only at hk
        subst hk
        have h2 := run_n (hg ⟨1, n, v, wt, l⟩ (by simp))
        simp only
        omega
      · omega
  have := key f (fun o ho => hc o (bal_mem hb o ho).1)
  omega
theorem checkP_0 {p : List OpD} (h : (checkP p).2 = 0) : checkP p = (0, 0) := by
  unfold checkP at h ⊢
  split
  · rename_i h1; rw [if_pos h1] at h; simp at h
  · rename_i h1
    rw [if_neg h1] at h
    split
    · rename_i h2
      rw [if_pos h2] at h
      split
      · rename_i h3
        rw [if_pos h3] at h
        split
        · rename_i h4; rw [if_pos h4] at h; simp at h
        · rfl
      · rename_i h3; rw [if_neg h3] at h; exact absurd h h3
    · rename_i h2; rw [if_neg h2] at h; exact absurd h h2

set_option maxHeartbeats 8000000 in
theorem task_any (L : Int) (ca ta : Option Addr) (cc tc nc : Nat) (ts : List TaskD) (i : Nat) (t : TaskD) (w : World) (hr : Rdy w) (hA : AtT w ta ts) (hok : TsOk ts) (hl : ts.length ≤ 100000) (hi : ts[i]? = some t) :
    Calls Tryz.prog 51 #[.agg #[.int .i64 L, .slice ca nc cc, .slice ta ts.length tc], .int .i64 i] w fun e w' => e = .returned (.int .i64 (taskE L nc ts i t)) ∧ Kept w w' := by
  have hil : i < ts.length := (List.getElem?_eq_some_iff.1 hi).1
  obtain ⟨b, f, nm, pd, dl, bu, pr, pa, pc, rfl, hpj, g0, g1, g2, g3, g4, hpc, hat, hbl, _⟩ := hA.get i hil
  obtain rfl := Option.some.inj (hi.symm.trans hpj)
  obtain ⟨hn1, hp1, hc1⟩ := hok _ (List.mem_of_getElem? hi)
  simp only at hn1 hp1 hc1
  have HR : Hid (Rdy w) := hr
  have HA : Hid (AtT w (some ⟨b, f, none⟩) ts) := hA
  have HP : Hid (AtP w pa pr) := hat
  have HC : Hid (∀ o ∈ pr, o.cases.length ≤ 1000000) := hc1
  have b1 : (i : Int) < (ts.length : Int) := by omega
  have b2 : (0 : Int) ≤ (i : Int) := by omega
  clear hr hA hat hc1 hok hi hpj hbl
  have KA : Kept w (w.alloc (.cells #[.int .i64 L, .slice ca nc cc, .slice (some ⟨b, f, none⟩) ts.length tc] 27)) := (Kept.refl w).alloc _
  have ga0 := KA.cell g0
  have ga1 := KA.cell g1
  have ga2 := KA.cell g2
  have ga3 := KA.cell g3
  have ga4 := KA.cell g4
  clear g0 g1 g2 g3 g4
  have K2 : Kept w ((w.alloc (.cells #[.int .i64 L, .slice ca nc cc, .slice (some ⟨b, f, none⟩) ts.length tc] 27)).alloc (.cells #[.string (B nm), .int .i64 pd, .int .i64 dl, .int .i64 bu, .slice pa pr.length pc] 33)) := ((Kept.refl w).alloc _).alloc _
  have HB : Hid (Box w.heap.size ((w.alloc (.cells #[.int .i64 L, .slice ca nc cc, .slice (some ⟨b, f, none⟩) ts.length tc] 27)).alloc (.cells #[.string (B nm), .int .i64 pd, .int .i64 dl, .int .i64 bu, .slice pa pr.length pc] 33)) 27 w.heap.size [.int .i64 L, .slice ca nc cc, .slice (some ⟨b, f, none⟩) ts.length tc]) := (box_new w.heap.size w 27 [.int .i64 L, .slice ca nc cc, .slice (some ⟨b, f, none⟩) ts.length tc] (Nat.le_refl _) (by simp)).kept ((Kept.refl _).alloc _)
  have HT : Hid (Box w.heap.size ((w.alloc (.cells #[.int .i64 L, .slice ca nc cc, .slice (some ⟨b, f, none⟩) ts.length tc] 27)).alloc (.cells #[.string (B nm), .int .i64 pd, .int .i64 dl, .int .i64 bu, .slice pa pr.length pc] 33)) 33 (w.heap.size + 1) [.string (B nm), .int .i64 pd, .int .i64 dl, .int .i64 bu, .slice pa pr.length pc]) := by
    have h := box_new w.heap.size (w.alloc (.cells #[.int .i64 L, .slice ca nc cc, .slice (some ⟨b, f, none⟩) ts.length tc] 27)) 33 [.string (B nm), .int .i64 pd, .int .i64 dl, .int .i64 bu, .slice pa pr.length pc] (by simp) (by simp)
    rw [show (w.alloc (.cells #[.int .i64 L, .slice ca nc cc, .slice (some ⟨b, f, none⟩) ts.length tc] 27)).heap.size = w.heap.size + 1 by simp] at h
    exact h
  have S0 : Hid (((w.alloc (.cells #[.int .i64 L, .slice ca nc cc, .slice (some ⟨b, f, none⟩) ts.length tc] 27)).alloc (.cells #[.string (B nm), .int .i64 pd, .int .i64 dl, .int .i64 bu, .slice pa pr.length pc] 33)).cell? ⟨w.heap.size, 0, none⟩ = some (.int .i64 L)) := HB.out.cell 0 (by simp)
  have S1 : Hid (((w.alloc (.cells #[.int .i64 L, .slice ca nc cc, .slice (some ⟨b, f, none⟩) ts.length tc] 27)).alloc (.cells #[.string (B nm), .int .i64 pd, .int .i64 dl, .int .i64 bu, .slice pa pr.length pc] 33)).cell? ⟨w.heap.size, 1, none⟩ = some (.slice ca nc cc)) := HB.out.cell 1 (by simp)
  have S2 : Hid (((w.alloc (.cells #[.int .i64 L, .slice ca nc cc, .slice (some ⟨b, f, none⟩) ts.length tc] 27)).alloc (.cells #[.string (B nm), .int .i64 pd, .int .i64 dl, .int .i64 bu, .slice pa pr.length pc] 33)).cell? ⟨w.heap.size, 2, none⟩ = some (.slice (some ⟨b, f, none⟩) ts.length tc)) := HB.out.cell 2 (by simp)
  have Q0 : Hid (((w.alloc (.cells #[.int .i64 L, .slice ca nc cc, .slice (some ⟨b, f, none⟩) ts.length tc] 27)).alloc (.cells #[.string (B nm), .int .i64 pd, .int .i64 dl, .int .i64 bu, .slice pa pr.length pc] 33)).cell? ⟨w.heap.size + 1, 0, none⟩ = some (.string (B nm))) := HT.out.cell 0 (by simp)
  have Q1 : Hid (((w.alloc (.cells #[.int .i64 L, .slice ca nc cc, .slice (some ⟨b, f, none⟩) ts.length tc] 27)).alloc (.cells #[.string (B nm), .int .i64 pd, .int .i64 dl, .int .i64 bu, .slice pa pr.length pc] 33)).cell? ⟨w.heap.size + 1, 1, none⟩ = some (.int .i64 pd)) := HT.out.cell 1 (by simp)
  have Q2 : Hid (((w.alloc (.cells #[.int .i64 L, .slice ca nc cc, .slice (some ⟨b, f, none⟩) ts.length tc] 27)).alloc (.cells #[.string (B nm), .int .i64 pd, .int .i64 dl, .int .i64 bu, .slice pa pr.length pc] 33)).cell? ⟨w.heap.size + 1, 2, none⟩ = some (.int .i64 dl)) := HT.out.cell 2 (by simp)
  have Q3 : Hid (((w.alloc (.cells #[.int .i64 L, .slice ca nc cc, .slice (some ⟨b, f, none⟩) ts.length tc] 27)).alloc (.cells #[.string (B nm), .int .i64 pd, .int .i64 dl, .int .i64 bu, .slice pa pr.length pc] 33)).cell? ⟨w.heap.size + 1, 3, none⟩ = some (.int .i64 bu)) := HT.out.cell 3 (by simp)
  have Q4 : Hid (((w.alloc (.cells #[.int .i64 L, .slice ca nc cc, .slice (some ⟨b, f, none⟩) ts.length tc] 27)).alloc (.cells #[.string (B nm), .int .i64 pd, .int .i64 dl, .int .i64 bu, .slice pa pr.length pc] 33)).cell? ⟨w.heap.size + 1, 4, none⟩ = some (.slice pa pr.length pc)) := HT.out.cell 4 (by simp)
  have hna := name_any nm hn1 ((w.alloc (.cells #[.int .i64 L, .slice ca nc cc, .slice (some ⟨b, f, none⟩) ts.length tc] 27)).alloc (.cells #[.string (B nm), .int .i64 pd, .int .i64 dl, .int .i64 bu, .slice pa pr.length pc] 33))
  cases hq : nameB nm with
  | false =>
    have HZ : Hid (taskE L nc ts i ⟨nm, pd, dl, bu, pr⟩ = 3) := by show _ = _; unfold taskE; rw [if_neg (by rw [hq]; simp)]
    rw [hq] at hna
    go_enter Tryz.func51, Tryz.ntmps51
    go_wp2_with fail
    refine hna.mono ?_
    rintro e w3 ⟨rfl, hw3⟩
    subst w3
    go_wp2_with fail
    go_ret
    rw [HZ.out]
    exact ⟨rfl, K2⟩
  | true =>
    have HZ : Hid (taskE L nc ts i ⟨nm, pd, dl, bu, pr⟩ = (if (findGo nm 0 ts).1 < i then 6 else if timesB ⟨nm, pd, dl, bu, pr⟩ = true then (if (checkP pr).2 = 0 then (if costD pr = 0 then 5 else if hasAllB L nc pr = true then 0 else 3) else (checkP pr).2) else 1)) := by show _ = _; unfold taskE; rw [if_pos hq]
    rw [hq] at hna
    clear hq
    have hfi := find_any L ca (some ⟨b, f, none⟩) cc tc nc ts nm _ (HA.out.kept K2) hl
    have hfl : (findGo nm 0 ts).1 ≤ ts.length := by have := find_lt nm ts 0; omega
    obtain ⟨fi, fb, hff⟩ : ∃ fi fb, findGo nm 0 ts = (fi, fb) := ⟨_, _, rfl⟩
    rw [hff] at hfi HZ hfl
    simp only at hfi hfl
    by_cases h1 : fi < i
    · have d1 : (fi : Int) < (i : Int) := by omega
      have HZ2 : Hid (taskE L nc ts i ⟨nm, pd, dl, bu, pr⟩ = 6) := by show _ = _; rw [HZ.out, if_pos h1]
      clear HZ
      go_enter Tryz.func51, Tryz.ntmps51
      go_wp2_with fail
      refine hna.mono ?_
      rintro e w3 ⟨rfl, hw3⟩
      subst w3
      go_wp2_with fail
      refine hfi.mono ?_
      rintro e w4 ⟨rfl, t4⟩
      go_wp2_with fail
      go_ret
      rw [HZ2.out]
      exact ⟨rfl, K2.trans t4⟩
    have d1 : ¬ (fi : Int) < (i : Int) := by omega
    have HZ2 : Hid (taskE L nc ts i ⟨nm, pd, dl, bu, pr⟩ = (if timesB ⟨nm, pd, dl, bu, pr⟩ = true then (if (checkP pr).2 = 0 then (if costD pr = 0 then 5 else if hasAllB L nc pr = true then 0 else 3) else (checkP pr).2) else 1)) := by show _ = _; rw [HZ.out, if_neg h1]
    clear HZ
    go_enter Tryz.func51, Tryz.ntmps51
    go_wp2_with fail
    refine hna.mono ?_
    rintro e w3 ⟨rfl, hw3⟩
    subst w3
    go_wp2_with fail
    refine hfi.mono ?_
    rintro e w4 ⟨rfl, t4⟩
    have K4 := K2.trans t4
    have zq04 := t4.cell Q0.out
    have zq14 := t4.cell Q1.out
    have zq24 := t4.cell Q2.out
    have zq34 := t4.cell Q3.out
    have zq44 := t4.cell Q4.out
    have har := areT_any nm pd dl bu pr pa pr.length pc w4
    cases hq : timesB ⟨nm, pd, dl, bu, pr⟩ with
    | false =>
      have HZ3 : Hid (taskE L nc ts i ⟨nm, pd, dl, bu, pr⟩ = 1) := by show _ = _; rw [HZ2.out, if_neg (by rw [hq]; simp)]
      rw [hq] at har
      clear HZ2 hq
      go_wp2_with fail
      refine har.mono ?_
      rintro e w5 ⟨rfl, t5⟩
      go_wp2_with fail
      go_ret
      rw [HZ3.out]
      exact ⟨rfl, K4.trans t5⟩
    | true =>
      have HZ3 : Hid (taskE L nc ts i ⟨nm, pd, dl, bu, pr⟩ = (if (checkP pr).2 = 0 then (if costD pr = 0 then 5 else if hasAllB L nc pr = true then 0 else 3) else (checkP pr).2)) := by show _ = _; rw [HZ2.out, if_pos hq]
      rw [hq] at har
      clear HZ2 hq
      go_wp2_with fail
      refine har.mono ?_
      rintro e w5 ⟨rfl, t5⟩
      have T5 := t4.trans t5
      have K5 := K2.trans T5
      have zq45 := T5.cell Q4.out
      have hck := pcheck_any pa pc pr w5 (HR.out.kept K5) (HP.out.kept K5) hp1 HC.out
      obtain ⟨q1, hq1⟩ : ∃ q, (checkP pr).1 = q := ⟨_, rfl⟩
      obtain ⟨q2, hq2⟩ : ∃ q, (checkP pr).2 = q := ⟨_, rfl⟩
      rw [hq1, hq2] at hck
      by_cases hz : q2 = 0
      · have hCK : checkP pr = (0, 0) := checkP_0 (by rw [hq2, hz])
        have HZ4 : Hid (taskE L nc ts i ⟨nm, pd, dl, bu, pr⟩ = (if costD pr = 0 then 5 else if hasAllB L nc pr = true then 0 else 3)) := by show _ = _; rw [HZ3.out, if_pos (by rw [hq2, hz])]
        clear HZ3 hq1 hq2
        subst hz
        have hTP := taken_prog hCK
        have hcb := costD_i64 hCK
        go_wp2_with fail
        refine hck.mono ?_
        rintro e w6 ⟨rfl, t6⟩
        have T6 := T5.trans t6
        have K6 := K2.trans T6
        have zq46 := T6.cell Q4.out
        have hco := cost_any pa pc pr w6 (HP.out.kept K6) (by omega) hTP.2.1 hTP.2.2.1
        obtain ⟨z, hzz⟩ : ∃ z, costD pr = z := ⟨_, rfl⟩
        rw [hzz] at hco HZ4 hcb
        by_cases hz0 : z = 0
        · subst hz0
          have HZ5 : Hid (taskE L nc ts i ⟨nm, pd, dl, bu, pr⟩ = 5) := by show _ = _; rw [HZ4.out, if_pos rfl]
          clear HZ4
          go_wp2_with fail
          refine hco.mono ?_
          rintro e w7 ⟨rfl, t7⟩
          go_wp2_with fail
          go_ret
          rw [HZ5.out]
          exact ⟨rfl, K6.trans t7⟩
        · have hne : (z == 0) = false := by simpa using hz0
          have HZ5 : Hid (taskE L nc ts i ⟨nm, pd, dl, bu, pr⟩ = (if hasAllB L nc pr = true then 0 else 3)) := by show _ = _; rw [HZ4.out, if_neg hz0]
          clear HZ4
          go_wp2_with fail
          refine hco.mono ?_
          rintro e w7 ⟨rfl, t7⟩
          have T7 := T6.trans t7
          have K7 := K2.trans T7
          have zs07 := T7.cell S0.out
          have zs17 := T7.cell S1.out
          have zs27 := T7.cell S2.out
          have zq47 := T7.cell Q4.out
          have hha := hasAll_any L ca (some ⟨b, f, none⟩) cc tc nc ts.length pa pc pr w7 (HP.out.kept K7) hp1 HC.out
          cases hq : hasAllB L nc pr with
          | true =>
            have HZ6 : Hid (taskE L nc ts i ⟨nm, pd, dl, bu, pr⟩ = 0) := by show _ = _; rw [HZ5.out, if_pos hq]
            rw [hq] at hha
            clear HZ5 hq
            go_wp2_with fail
            refine hha.mono ?_
            rintro e w8 ⟨rfl, t8⟩
            go_wp2_with fail
            go_ret
            rw [HZ6.out]
            exact ⟨rfl, K7.trans t8⟩
          | false =>
            have HZ6 : Hid (taskE L nc ts i ⟨nm, pd, dl, bu, pr⟩ = 3) := by show _ = _; rw [HZ5.out, if_neg (by rw [hq]; simp)]
            rw [hq] at hha
            clear HZ5 hq
            go_wp2_with fail
            refine hha.mono ?_
            rintro e w8 ⟨rfl, t8⟩
            go_wp2_with fail
            go_ret
            rw [HZ6.out]
            exact ⟨rfl, K7.trans t8⟩
      · have hne : (q2 != 0) = true := by simpa using hz
        have HZ4 : Hid (taskE L nc ts i ⟨nm, pd, dl, bu, pr⟩ = q2) := by show _ = _; rw [HZ3.out, hq2, if_neg hz]
        clear HZ3 hq1 hq2
        go_wp2_with fail
        refine hck.mono ?_
        rintro e w6 ⟨rfl, t6⟩
        go_wp2_with fail
        go_ret
        rw [HZ4.out]
        exact ⟨rfl, K5.trans t6⟩

set_option maxHeartbeats 8000000 in
theorem tasks_any (L : Int) (ca ta : Option Addr) (cc tc nc : Nat) (ts : List TaskD) (w : World) (hr : Rdy w) (hA : AtT w ta ts) (hok : TsOk ts) (hl : ts.length ≤ 100000) :
    Calls Tryz.prog 31 #[.agg #[.int .i64 L, .slice ca nc cc, .slice ta ts.length tc]] w fun e w' => e = .returned (.tuple #[.int .i64 (tasksGo L nc ts 0 ts).1, .int .i64 (tasksGo L nc ts 0 ts).2]) ∧ Kept w w' := by
  have HR : Hid (Rdy w) := hr
  have HA : Hid (AtT w ta ts) := hA
  have HO : Hid (TsOk ts) := hok
  clear hr hA hok
  have K0 := (Kept.refl w).alloc (.cells #[.int .i64 L, .slice ca nc cc, .slice ta ts.length tc] 27)
  have HB : Hid (Box w.heap.size (w.alloc (.cells #[.int .i64 L, .slice ca nc cc, .slice ta ts.length tc] 27)) 27 w.heap.size [.int .i64 L, .slice ca nc cc, .slice ta ts.length tc]) := box_new w.heap.size w 27 [.int .i64 L, .slice ca nc cc, .slice ta ts.length tc] (Nat.le_refl _) (by simp)
  go_enter Tryz.func31, Tryz.ntmps31
  go_wp2_with fail
  go_step3
  go_wp2_with fail
  go_step3
  go_wp2_with fail
  go_loopg [4, 5, 10] ts.length (fun gk x4 x5 i wr => ∃ j : Nat, i = .int .i64 j ∧ x4 = .int .i64 0 ∧ x5 = .int .i64 0 ∧ j + gk = ts.length ∧ Hid (tasksGo L nc ts 0 ts = tasksGo L nc ts j (ts.drop j)) ∧ Kept w wr ∧ Hid (Box w.heap.size wr 27 w.heap.size [.int .i64 L, .slice ca nc cc, .slice ta ts.length tc]))
  case atStart => exact ⟨0, rfl, rfl, rfl, by omega, (by show _ = _; rw [List.drop_zero]), K0, HB⟩
  case round =>
    obtain ⟨j, rfl, rfl, rfl, hj, HE, K, HBr⟩ := hrel
    by_cases hjp : j < ts.length
    · have b1 : (j : Int) < (ts.length : Int) := by omega
      have b2 : (0 : Int) ≤ (j : Int) := by omega
      obtain ⟨t, ht⟩ : ∃ t, ts[j]? = some t := ⟨_, List.getElem?_eq_getElem hjp⟩
      have hdr : ts.drop j = t :: ts.drop (j + 1) := by
        rw [List.drop_eq_getElem_cons hjp]
        rw [List.getElem?_eq_getElem hjp] at ht
        rw [Option.some.inj ht]
      have hta := task_any L ca ta cc tc nc ts j t wr (HR.out.kept K) (HA.out.kept K) HO.out hl ht
      have u0 : wr.cell? ⟨w.heap.size, 0, none⟩ = some (.int .i64 L) := HBr.out.cell 0 (by simp)
      have u1 : wr.cell? ⟨w.heap.size, 1, none⟩ = some (.slice ca nc cc) := HBr.out.cell 1 (by simp)
      have u2 : wr.cell? ⟨w.heap.size, 2, none⟩ = some (.slice ta ts.length tc) := HBr.out.cell 2 (by simp)
      obtain ⟨z, hz⟩ : ∃ z, taskE L nc ts j t = z := ⟨_, rfl⟩
      have HE2 : Hid (tasksGo L nc ts 0 ts = if z = 0 then tasksGo L nc ts (j + 1) (ts.drop (j + 1)) else (j, z)) := by show _ = _; rw [HE.out, hdr, tasksGo, hz]
      rw [hz] at hta
      obtain ⟨g3', rfl⟩ : ∃ g, gk = g + 1 := ⟨gk - 1, by omega⟩
      clear ht hdr HE hz
      by_cases hz0 : z = 0
      · subst hz0
        have HE3 : Hid (tasksGo L nc ts 0 ts = tasksGo L nc ts (j + 1) (ts.drop (j + 1))) := by show _ = _; rw [HE2.out, if_pos rfl]
        clear HE2
        go_wp2_with fail
        refine hta.mono ?_
        rintro e w2 ⟨rfl, t2⟩
        go_wp2_with fail
        go_roundg g3'
        case rel => exact ⟨j + 1, by go_num, rfl, rfl, by omega, HE3, K.trans t2, HBr.out.kept t2⟩
        case measure => omega
      · have hne : (z != 0) = true := by simpa using hz0
        have HE3 : Hid (tasksGo L nc ts 0 ts = (j, z)) := by show _ = _; rw [HE2.out, if_neg hz0]
        clear HE2 hz0
        go_wp2_with fail
        refine hta.mono ?_
        rintro e w2 ⟨rfl, t2⟩
        go_wp2_with fail
        try rw [Exit.noGoto_ret]
        go_ret2
        rw [HE3.out]
        exact ⟨rfl, K.trans t2⟩
    · have b1 : ¬ (j : Int) < (ts.length : Int) := by omega
      have HE3 : Hid (tasksGo L nc ts 0 ts = (0, 0)) := by show _ = _; rw [HE.out, List.drop_eq_nil_of_le (by omega)]; rfl
      go_wp2_with fail
      try rw [Exit.noGoto_ret]
      go_ret2
      rw [HE3.out]
      exact ⟨rfl, K⟩
end Go.Proofs.YtolljdomnohmdabGreatDoor
namespace Go.Proofs.YtolljdomnohmdabGreatDoor
open Go.RowKit

set_option maxHeartbeats 4000000 in
theorem scheck_any (L : Int) (ca ta : Option Addr) (cc tc : Nat) (cs : List ChanD) (ts : List TaskD) (w : World) (hr : Rdy w) (hH : AtH w ca cs) (hA : AtT w ta ts) (hok : TsOk ts) (hl : ts.length ≤ 100000) (hcl : cs.length ≤ 100000) :
    Calls Tryz.prog 14 #[.agg #[.int .i64 L, .slice ca cs.length cc, .slice ta ts.length tc]] w fun e w' => e = .returned (.tuple #[.int .i64 (checkS L cs ts).1, .int .i64 (checkS L cs ts).2]) ∧ Kept w w' := by
  have K0 := (Kept.refl w).alloc (.cells #[.int .i64 L, .slice ca cs.length cc, .slice ta ts.length tc] 27)
  have HB : Hid (Box w.heap.size (w.alloc (.cells #[.int .i64 L, .slice ca cs.length cc, .slice ta ts.length tc] 27)) 27 w.heap.size [.int .i64 L, .slice ca cs.length cc, .slice ta ts.length tc]) := box_new w.heap.size w 27 [.int .i64 L, .slice ca cs.length cc, .slice ta ts.length tc] (Nat.le_refl _) (by simp)
  by_cases h1 : L < 0
  · have HZ : Hid (checkS L cs ts = (0, 1)) := by show _ = _; unfold checkS; rw [if_pos (.inl h1)]
    clear hr hH hA hok HB
    go_enter Tryz.func14, Tryz.ntmps14
    go_wp2_with fail
    go_ret2
    rw [HZ.out]
    exact ⟨rfl, (Kept.refl w).alloc _⟩
  by_cases h2 : L > 8
  · have HZ : Hid (checkS L cs ts = (0, 1)) := by show _ = _; unfold checkS; rw [if_pos (.inr h2)]
    clear hr hH hA hok HB
    go_enter Tryz.func14, Tryz.ntmps14
    go_wp2_with fail
    go_ret2
    rw [HZ.out]
    exact ⟨rfl, (Kept.refl w).alloc _⟩
  by_cases h3 : cs.length > 8
  · have HZ : Hid (checkS L cs ts = (0, 18)) := by show _ = _; unfold checkS; rw [if_neg (by omega), if_pos (.inl h3)]
    have b3 : (cs.length : Int) > 8 := by omega
    clear hr hH hA hok HB
    go_enter Tryz.func14, Tryz.ntmps14
    go_wp2_with fail
    go_ret2
    rw [HZ.out]
    exact ⟨rfl, (Kept.refl w).alloc _⟩
  by_cases h4 : ts.length = 0
  · have HZ : Hid (checkS L cs ts = (0, 18)) := by show _ = _; unfold checkS; rw [if_neg (by omega), if_pos (.inr (.inl h4))]
    have b3 : ¬ (cs.length : Int) > 8 := by omega
    have b4 : (ts.length : Int) = 0 := by omega
    clear hr hH hA hok HB
    go_enter Tryz.func14, Tryz.ntmps14
    go_wp2_with fail
    go_ret2
    rw [HZ.out]
    exact ⟨rfl, (Kept.refl w).alloc _⟩
  by_cases h5 : ts.length > 12
  · have HZ : Hid (checkS L cs ts = (0, 18)) := by show _ = _; unfold checkS; rw [if_neg (by omega), if_pos (.inr (.inr h5))]
    have b3 : ¬ (cs.length : Int) > 8 := by omega
    have b4 : ¬ (ts.length : Int) = 0 := by omega
    have b5 : (ts.length : Int) > 12 := by omega
    clear hr hH hA hok HB
    go_enter Tryz.func14, Tryz.ntmps14
    go_wp2_with fail
    go_ret2
    rw [HZ.out]
    exact ⟨rfl, (Kept.refl w).alloc _⟩
  have b3 : ¬ (cs.length : Int) > 8 := by omega
  have b4 : ¬ (ts.length : Int) = 0 := by omega
  have b5 : ¬ (ts.length : Int) > 12 := by omega
  have HZ : Hid (checkS L cs ts = if chansE ts.length cs = 0 then tasksGo L cs.length ts 0 ts else (0, chansE ts.length cs)) := by
    show _ = _
    unfold checkS
    rw [if_neg (by omega), if_neg (by omega)]
  have hch := chans_any L ca ta cc tc ts.length cs _ (hH.kept K0) hcl
  rcases chansE_01 ts.length cs with hz | hz
  · rw [hz] at hch
    have HZ2 : Hid (checkS L cs ts = tasksGo L cs.length ts 0 ts) := by show _ = _; rw [HZ.out, if_pos hz]
    have HTA : Hid (∀ w', Kept w w' → Calls Tryz.prog 31 #[.agg #[.int .i64 L, .slice ca cs.length cc, .slice ta ts.length tc]] w' fun e w'' => e = .returned (.tuple #[.int .i64 (tasksGo L cs.length ts 0 ts).1, .int .i64 (tasksGo L cs.length ts 0 ts).2]) ∧ Kept w' w'') := fun w' t => tasks_any L ca ta cc tc cs.length ts w' (hr.kept t) (hA.kept t) hok hl
    clear HZ hz hr hH hA hok
    go_enter Tryz.func14, Tryz.ntmps14
    go_wp2_with fail
    refine hch.mono ?_
    rintro e w2 ⟨rfl, t2⟩
    have u0 : w2.cell? ⟨w.heap.size, 0, none⟩ = some (.int .i64 L) := (HB.out.kept t2).cell 0 (by simp)
    have u1 : w2.cell? ⟨w.heap.size, 1, none⟩ = some (.slice ca cs.length cc) := (HB.out.kept t2).cell 1 (by simp)
    have u2 : w2.cell? ⟨w.heap.size, 2, none⟩ = some (.slice ta ts.length tc) := (HB.out.kept t2).cell 2 (by simp)
    go_wp2_with fail
    refine (HTA.out w2 (K0.trans t2)).mono ?_
    rintro e w3 ⟨rfl, t3⟩
    go_wp2_with fail
    go_ret2
    rw [HZ2.out]
    exact ⟨rfl, (K0.trans t2).trans t3⟩
  · rw [hz] at hch
    have HZ2 : Hid (checkS L cs ts = (0, 1)) := by show _ = _; rw [HZ.out, if_neg (by omega), hz]
    clear HZ hz hr hH hA hok
    go_enter Tryz.func14, Tryz.ntmps14
    go_wp2_with fail
    refine hch.mono ?_
    rintro e w2 ⟨rfl, t2⟩
    go_wp2_with fail
    go_ret2
    rw [HZ2.out]
    exact ⟨rfl, K0.trans t2⟩

end Go.Proofs.YtolljdomnohmdabGreatDoor
namespace Go.Proofs.YtolljdomnohmdabGreatDoor
open Go.RowKit

theorem sameP_len : ∀ (p q : List OpD), p.length ≠ q.length → sameP p q = false
  | [], [], h => absurd rfl h
  | [], _ :: _, _ => rfl
  | _ :: _, [], _ => rfl
  | a :: p, b :: q, h => by
    rw [sameP, sameP_len p q (by simpa using h)]
    split <;> rfl
theorem sameTs_len : ∀ (p q : List TaskD), p.length ≠ q.length → sameTs p q = false
  | [], [], h => absurd rfl h
  | [], _ :: _, _ => rfl
  | _ :: _, [], _ => rfl
  | a :: p, b :: q, h => by
    rw [sameTs, sameTs_len p q (by simpa using h)]
    split <;> rfl

end Go.Proofs.YtolljdomnohmdabGreatDoor
