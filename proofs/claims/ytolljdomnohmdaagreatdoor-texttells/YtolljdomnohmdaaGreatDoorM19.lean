/- The reference's CheckProg, of any ops. -/
import Derived.Test.YtolljdomnohmdaaGreatDoorM2
import Derived.Test.YtolljdomnohmdaaGreatDoorCas
import Derived.Test.YtolljdomnohmdaaGreatDoorCheck
import Derived.Test.YtolljdomnohmdaaGreatDoorM3
import Derived.Test.YtolljdomnohmdaaGreatDoorM4
import Derived.Test.YtolljdomnohmdaaGreatDoorM0
import Derived.Test.YtolljdomnohmdaaGreatDoorM5
import Derived.Test.YtolljdomnohmdaaGreatDoorOpO
import Derived.Test.YtolljdomnohmdaaGreatDoorM1
import Derived.Test.YtolljdomnohmdaaGreatDoorOpT
import Derived.Test.YtolljdomnohmdaaGreatDoorPar
import Derived.Test.YtolljdomnohmdaaGreatDoorM6
import Derived.Test.YtolljdomnohmdaaGreatDoorM8
import Derived.Test.YtolljdomnohmdaaGreatDoorRTxt7
import Derived.Test.YtolljdomnohmdaaGreatDoorRWrd
import Derived.Test.YtolljdomnohmdaaGreatDoorRead
import Derived.Test.YtolljdomnohmdaaGreatDoorM9
import Derived.Test.YtolljdomnohmdaaGreatDoorTxt
import Derived.Test.YtolljdomnohmdaaGreatDoorTrn
import Derived.Test.YtolljdomnohmdaaGreatDoorQRcX
import Derived.Test.YtolljdomnohmdaaGreatDoorM17
import Derived.Test.YtolljdomnohmdaaGreatDoorQStA
namespace Go.Proofs.YtolljdomnohmdaaGreatDoor
open Go.RowKit

set_option maxHeartbeats 4000000 in
set_option maxRecDepth 20000 in
theorem rcheckP_any (a : Option Addr) (c : Nat) (p : List OpD) (w : World) (hA : AtP w a p) (hcs : ∀ o ∈ p, o.cases.length ≤ 1000000) :
    Calls Tryz.prog 59 #[.slice a p.length c] w fun e w' => e = .returned (.tuple #[.int .i64 (checkP p).1, .int .i64 (checkP p).2]) ∧ Kept w w' := by
  by_cases h48 : 48 < p.length
  · have b48 : (p.length : Int) > 48 := by omega
    have HZ : Hid (checkP p = (0, 18)) := by show _ = _; unfold checkP; rw [if_pos h48]
    clear hA
    go_enter Tryz.func59, Tryz.ntmps59
    go_wp2_with fail
    go_ret2
    rw [HZ.out]
    exact ⟨rfl, Kept.refl w⟩
  by_cases hea : (eachGo 0 p).2 = 0
  · exact rloop_any a c p w hA (by omega) (each_all p 0 hea) hcs
  have HA : Hid (AtP w a p) := hA
  have HCS : Hid (∀ o ∈ p, o.cases.length ≤ 1000000) := hcs
  have HZ : Hid (checkP p = eachGo 0 p) := by show _ = _; unfold checkP; rw [if_neg h48, if_neg hea]
  have HNE : Hid ((eachGo 0 p).2 ≠ 0) := hea
  clear hA hcs hea
  have b48 : ¬ (p.length : Int) > 48 := by omega
  go_enter Tryz.func59, Tryz.ntmps59
  go_wp2_with fail
  go_loopg [4] p.length (fun gk i wr => ∃ (j : Nat) (W : World), W = wr ∧ i = .int .i64 j ∧ j + gk = p.length ∧ Hid (eachGo 0 p = eachGo j (p.drop j)) ∧ Kept w W)
  case atStart => exact ⟨0, _, rfl, rfl, by omega, (by show _ = _; rw [List.drop_zero]), Kept.refl w⟩
  case round =>
    obtain ⟨j, W, hW, rfl, hj, HE, K⟩ := hrel
    subst hW
    by_cases hjp : j < p.length
    · obtain ⟨b, f, k, n, v, wt, l, ca, cc, rfl, hpj, g0, g1, g2, g3, g4, hcc, hat, hbl, hdr⟩ := (HA.out.kept K).get j hjp
      have b1 : (j : Int) < (p.length : Int) := by omega
      have b2 : (0 : Int) ≤ (j : Int) := by omega
      have hck := rcheck_any k n v wt ca l.length cc l W hat (HCS.out _ (List.mem_of_getElem? hpj))
      have HE2 : Hid (eachGo 0 p = if checkD ⟨k, n, v, wt, l⟩ = 0 then eachGo (j + 1) (p.drop (j + 1)) else (j, checkD ⟨k, n, v, wt, l⟩)) := by show _ = _; rw [HE.out, hdr, eachGo]
      obtain ⟨z, hz⟩ : ∃ z, checkD ⟨k, n, v, wt, l⟩ = z := ⟨_, rfl⟩
      rw [hz] at hck HE2
      obtain ⟨g3', rfl⟩ : ∃ g, gk = g + 1 := ⟨gk - 1, by omega⟩
      clear hpj hat hdr HE hz
      by_cases hz0 : z = 0
      · subst hz0
        have HE3 : Hid (eachGo 0 p = eachGo (j + 1) (p.drop (j + 1))) := by show _ = _; rw [HE2.out, if_pos rfl]
        clear HE2
        go_wp2_with fail
        refine hck.mono ?_
        rintro e w2 ⟨rfl, t2⟩
        go_wp2_with fail
        go_roundg g3'
        case rel => exact ⟨j + 1, _, rfl, by go_num, by omega, HE3, K.trans t2⟩
        case measure => omega
      · have hne : (z != 0) = true := by simpa using hz0
        have HE3 : Hid (checkP p = (j, z)) := by show _ = _; rw [HZ.out, HE2.out, if_neg hz0]
        clear HE2 hz0
        go_wp2_with fail
        refine hck.mono ?_
        rintro e w2 ⟨rfl, t2⟩
        go_wp2_with fail
        go_ret2
        rw [HE3.out]
        exact ⟨rfl, K.trans t2⟩
    · exfalso
      refine HNE.out ?_
      rw [HE.out, List.drop_eq_nil_of_le (by omega)]
      rfl
end Go.Proofs.YtolljdomnohmdaaGreatDoor
namespace Go.Proofs.YtolljdomnohmdaaGreatDoor
open Go.RowKit

theorem find_some (nm : List UInt8) : ∀ (ts : List TaskD) (j q : Nat) (t : TaskD), ts[q]? = some t → t.name = nm → (findGo nm j ts).1 ≤ j + q
  | [], j, q, t, h, _ => by simp at h
  | x :: r, j, 0, t, h, hn => by
    simp at h
    subst h
    rw [findGo, if_pos hn]
    simp
  | x :: r, j, q + 1, t, h, hn => by
    rw [findGo]
    split
    · simp
    · have := find_some nm r (j + 1) q t (by simpa using h) hn
      omega
theorem find_first (nm : List UInt8) : ∀ (ts : List TaskD) (j q : Nat) (t : TaskD), ts[q]? = some t → t.name = nm → (∀ q' t', q' < q → ts[q']? = some t' → t'.name ≠ nm) → findGo nm j ts = (j + q, true)
  | [], j, q, t, h, _, _ => by simp at h
  | x :: r, j, 0, t, h, hn, _ => by
    simp at h
    subst h
    rw [findGo, if_pos hn]
    simp
  | x :: r, j, q + 1, t, h, hn, hb => by
    rw [findGo, if_neg (hb 0 x (by omega) (by simp)), find_first nm r (j + 1) q t (by simpa using h) hn (fun q' t' hq ht => hb (q' + 1) t' (by omega) (by simpa using ht))]
    congr 1
    omega
set_option maxHeartbeats 8000000 in
set_option maxRecDepth 10000 in
theorem rtask_any (L : Int) (ca ta : Option Addr) (cc tc nc : Nat) (ts : List TaskD) (i : Nat) (t : TaskD) (w : World) (hA : AtT w ta ts) (hok : TsOk ts) (hl : ts.length ≤ 100000) (hi : ts[i]? = some t) :
    Calls Tryz.prog 34 #[.agg #[.int .i64 L, .slice ca nc cc, .slice ta ts.length tc], .int .i64 i] w fun e w' => e = .returned (.int .i64 (taskE L nc ts i t)) ∧ Kept w w' := by
  have hil : i < ts.length := (List.getElem?_eq_some_iff.1 hi).1
  obtain ⟨b, f, nm, pd, dl, bu, pr, pa, pc, rfl, hpj, g0, g1, g2, g3, g4, hpc, hat, hbl, _⟩ := hA.get i hil
  obtain rfl := Option.some.inj (hi.symm.trans hpj)
  obtain ⟨hn1, hp1, hc1⟩ := hok _ (List.mem_of_getElem? hi)
  simp only at hn1 hp1 hc1
  have HC : Hid (∀ o ∈ pr, o.cases.length ≤ 1000000) := hc1
  have HA : Hid (AtT w (some ⟨b, f, none⟩) ts) := hA
  have HI : Hid (ts[i]? = some ⟨nm, pd, dl, bu, pr⟩) := hi
  have HP : Hid (AtP w pa pr) := hat
  have HPC : Hid (pr.length ≤ pc) := hpc
  have b1 : (i : Int) < (ts.length : Int) := by omega
  have b2 : (0 : Int) ≤ (i : Int) := by omega
  clear hA hat hi hpj hbl hpc hok hc1 hn1 hp1
  have KA : Kept w (w.alloc (.cells #[.int .i64 L, .slice ca nc cc, .slice (some ⟨b, f, none⟩) ts.length tc] 25)) := (Kept.refl w).alloc _
  have ga0 := KA.cell g0
  have ga1 := KA.cell g1
  have ga2 := KA.cell g2
  have ga3 := KA.cell g3
  have ga4 := KA.cell g4
  clear g0 g1 g2 g3 g4
  have K2 : Kept w ((w.alloc (.cells #[.int .i64 L, .slice ca nc cc, .slice (some ⟨b, f, none⟩) ts.length tc] 25)).alloc (.cells #[.string (B nm), .int .i64 pd, .int .i64 dl, .int .i64 bu, .slice pa pr.length pc] 52)) := ((Kept.refl w).alloc _).alloc _
  have HB : Hid (Box w.heap.size ((w.alloc (.cells #[.int .i64 L, .slice ca nc cc, .slice (some ⟨b, f, none⟩) ts.length tc] 25)).alloc (.cells #[.string (B nm), .int .i64 pd, .int .i64 dl, .int .i64 bu, .slice pa pr.length pc] 52)) 25 w.heap.size [.int .i64 L, .slice ca nc cc, .slice (some ⟨b, f, none⟩) ts.length tc]) := (box_new w.heap.size w 25 [.int .i64 L, .slice ca nc cc, .slice (some ⟨b, f, none⟩) ts.length tc] (Nat.le_refl _) (by simp)).kept ((Kept.refl _).alloc _)
  have HT : Hid (Box w.heap.size ((w.alloc (.cells #[.int .i64 L, .slice ca nc cc, .slice (some ⟨b, f, none⟩) ts.length tc] 25)).alloc (.cells #[.string (B nm), .int .i64 pd, .int .i64 dl, .int .i64 bu, .slice pa pr.length pc] 52)) 52 (w.heap.size + 1) [.string (B nm), .int .i64 pd, .int .i64 dl, .int .i64 bu, .slice pa pr.length pc]) := by
    have h := box_new w.heap.size (w.alloc (.cells #[.int .i64 L, .slice ca nc cc, .slice (some ⟨b, f, none⟩) ts.length tc] 25)) 52 [.string (B nm), .int .i64 pd, .int .i64 dl, .int .i64 bu, .slice pa pr.length pc] (by simp) (by simp)
    rw [show (w.alloc (.cells #[.int .i64 L, .slice ca nc cc, .slice (some ⟨b, f, none⟩) ts.length tc] 25)).heap.size = w.heap.size + 1 by simp] at h
    exact h
  have hna := rname_any nm ((w.alloc (.cells #[.int .i64 L, .slice ca nc cc, .slice (some ⟨b, f, none⟩) ts.length tc] 25)).alloc (.cells #[.string (B nm), .int .i64 pd, .int .i64 dl, .int .i64 bu, .slice pa pr.length pc] 52))
  obtain ⟨nb, hnb⟩ : ∃ nb, nameB nm = nb := ⟨_, rfl⟩
  rw [hnb] at hna
  have HNB : Hid (nameB nm = nb) := hnb
  clear hnb
  go_enter Tryz.func34, Tryz.ntmps34
  go_wp2_with fail
  refine hna.mono ?_
  rintro e w3 ⟨rfl, hw3⟩
  subst w3
  clear KA ga0 ga1 ga2 ga3 ga4 hna
  generalize ((w.alloc (.cells #[.int .i64 L, .slice ca nc cc, .slice (some ⟨b, f, none⟩) ts.length tc] 25)).alloc (.cells #[.string (B nm), .int .i64 pd, .int .i64 dl, .int .i64 bu, .slice pa pr.length pc] 52)) = W2 at *
  cases nb with
  | false =>
    have HZ : Hid (taskE L nc ts i ⟨nm, pd, dl, bu, pr⟩ = 3) := by show _ = _; unfold taskE; rw [if_neg (by rw [HNB.out]; simp)]
    go_wp2_with fail
    go_ret
    rw [HZ.out]
    exact ⟨rfl, K2⟩
  | true =>
    have HZ : Hid (taskE L nc ts i ⟨nm, pd, dl, bu, pr⟩ = (if (findGo nm 0 ts).1 < i then 6 else if timesB ⟨nm, pd, dl, bu, pr⟩ = true then (if (checkP pr).2 = 0 then (if costD pr = 0 then 5 else if hasAllB L nc pr = true then 0 else 3) else (checkP pr).2) else 1)) := by show _ = _; unfold taskE; rw [if_pos HNB.out]
    clear HNB
    go_wp2_with fail
    go_loopg [6] i (fun gk x wr => ∃ (q : Nat) (W : World), W = wr ∧ x = .int .i64 q ∧ q + gk = i ∧ Hid (∀ q' t', q' < q → ts[q']? = some t' → t'.name ≠ nm) ∧ Kept w W ∧ Hid (Box w.heap.size W 25 w.heap.size [.int .i64 L, .slice ca nc cc, .slice (some ⟨b, f, none⟩) ts.length tc]) ∧ Hid (Box w.heap.size W 52 (w.heap.size + 1) [.string (B nm), .int .i64 pd, .int .i64 dl, .int .i64 bu, .slice pa pr.length pc]))
    case atStart => exact ⟨0, _, rfl, rfl, by omega, (fun q' t' h => by omega), K2, HB, HT⟩
    case round =>
      obtain ⟨q, W, hW, rfl, hq, HF, K, HBr, HTr⟩ := hrel
      subst hW
      have s2 : W.cell? ⟨w.heap.size, 2, none⟩ = some (.slice (some ⟨b, f, none⟩) ts.length tc) := HBr.out.cell 2 (by simp)
      have t0 : W.cell? ⟨w.heap.size + 1, 0, none⟩ = some (.string (B nm)) := HTr.out.cell 0 (by simp)
      by_cases hqi : q < i
      · obtain ⟨b', f', n1, pd1, dl1, bu1, pr1, pa1, pc1, e1, hpj, g0, _, _, _, _, _, _, _, _⟩ := (HA.out.kept K).get q (by omega)
        cases e1
        have b3 : (q : Int) < (i : Int) := by omega
        have b4 : (q : Int) < (ts.length : Int) := by omega
        have b5 : (0 : Int) ≤ (q : Int) := by omega
        have HPJ : Hid (ts[q]? = some ⟨n1, pd1, dl1, bu1, pr1⟩) := hpj
        obtain ⟨gi, rfl⟩ : ∃ g, gk = g + 1 := ⟨gk - 1, by omega⟩
        clear hpj
        by_cases hn : n1 = nm
        · have e1 : ((B n1).toList == (B nm).toList) = true := by rw [B_eq]; simpa using hn
          have HZ2 : Hid (taskE L nc ts i ⟨nm, pd, dl, bu, pr⟩ = 6) := by
            show _ = _
            rw [HZ.out, if_pos]
            have := find_some nm ts 0 q _ HPJ.out hn
            omega
          clear HZ HF HPJ hn
          go_wp2_with fail
          go_region_held3 (fun w' => w'.cell? ⟨w.heap.size, 2, none⟩ = some (.slice (some ⟨b, f, none⟩) ts.length tc) ∧ w'.cell? ⟨w.heap.size + 1, 0, none⟩ = some (.string (B nm)) ∧ w'.cell? ⟨b, f + q * 5, none⟩ = some (.string (B n1))) (go_keep) (fail)
          go_wp2_with fail
          go_ret
          rw [HZ2.out]
          exact ⟨rfl, K.drew⟩
        · have e1 : ((B n1).toList == (B nm).toList) = false := by rw [B_eq]; simpa using hn
          have HF2 : Hid (∀ q' t', q' < q + 1 → ts[q']? = some t' → t'.name ≠ nm) := by
            intro q' t' h1 h2
            by_cases e : q' = q
            · subst e
              rw [HPJ.out] at h2
              cases h2
              exact hn
            · exact HF.out q' t' (by omega) h2
          clear HF HPJ hn
          go_wp2_with fail
          go_region_held3 (fun w' => w'.cell? ⟨w.heap.size, 2, none⟩ = some (.slice (some ⟨b, f, none⟩) ts.length tc) ∧ w'.cell? ⟨w.heap.size + 1, 0, none⟩ = some (.string (B nm)) ∧ w'.cell? ⟨b, f + q * 5, none⟩ = some (.string (B n1))) (go_keep) (fail)
          go_wp2_with fail
          go_roundg gi
          case rel => exact ⟨q + 1, _, rfl, by go_num, by omega, HF2, K.drew, HBr.out.kept ((Kept.refl W).drew), HTr.out.kept ((Kept.refl W).drew)⟩
          case measure => omega
      · have b3 : ¬ (q : Int) < (i : Int) := by omega
        obtain rfl : q = i := by omega
        have HZ2 : Hid (taskE L nc ts q ⟨nm, pd, dl, bu, pr⟩ = (if timesB ⟨nm, pd, dl, bu, pr⟩ = true then (if (checkP pr).2 = 0 then (if costD pr = 0 then 5 else if hasAllB L nc pr = true then 0 else 3) else (checkP pr).2) else 1)) := by
          show _ = _
          rw [HZ.out, if_neg]
          rw [find_first nm ts 0 q _ HI.out rfl HF.out]
          simp
        have t1 : W.cell? ⟨w.heap.size + 1, 1, none⟩ = some (.int .i64 pd) := HTr.out.cell 1 (by simp)
        have t2 : W.cell? ⟨w.heap.size + 1, 2, none⟩ = some (.int .i64 dl) := HTr.out.cell 2 (by simp)
        have t3 : W.cell? ⟨w.heap.size + 1, 3, none⟩ = some (.int .i64 bu) := HTr.out.cell 3 (by simp)
        have t4 : W.cell? ⟨w.heap.size + 1, 4, none⟩ = some (.slice pa pr.length pc) := HTr.out.cell 4 (by simp)
        have BAD : Hid (¬ (pd ≤ 1099511627776 ∧ dl ≤ pd ∧ bu ≤ dl ∧ 1 ≤ bu) → taskE L nc ts q ⟨nm, pd, dl, bu, pr⟩ = 1) := by
          intro h
          rw [HZ2.out, if_neg]
          simp only [timesB, Bool.and_eq_true, decide_eq_true_eq]
          omega
        clear HZ HF HI
        by_cases c0 : pd < 1
        · have HZ3 : Hid (taskE L nc ts q ⟨nm, pd, dl, bu, pr⟩ = 1) := BAD.out (by omega)
          clear BAD HZ2
          go_wp2_with fail
          go_ret
          rw [HZ3.out]
          exact ⟨rfl, K⟩
        by_cases c1 : pd > 1099511627776
        · have HZ3 : Hid (taskE L nc ts q ⟨nm, pd, dl, bu, pr⟩ = 1) := BAD.out (by omega)
          clear BAD HZ2
          go_wp2_with fail
          go_ret
          rw [HZ3.out]
          exact ⟨rfl, K⟩
        by_cases c2 : dl < 1
        · have HZ3 : Hid (taskE L nc ts q ⟨nm, pd, dl, bu, pr⟩ = 1) := BAD.out (by omega)
          clear BAD HZ2
          go_wp2_with fail
          go_ret
          rw [HZ3.out]
          exact ⟨rfl, K⟩
        by_cases c3 : dl > pd
        · have HZ3 : Hid (taskE L nc ts q ⟨nm, pd, dl, bu, pr⟩ = 1) := BAD.out (by omega)
          clear BAD HZ2
          go_wp2_with fail
          go_ret
          rw [HZ3.out]
          exact ⟨rfl, K⟩
        by_cases c4 : bu < 1
        · have HZ3 : Hid (taskE L nc ts q ⟨nm, pd, dl, bu, pr⟩ = 1) := BAD.out (by omega)
          clear BAD HZ2
          go_wp2_with fail
          go_ret
          rw [HZ3.out]
          exact ⟨rfl, K⟩
        by_cases c5 : bu > dl
        · have HZ3 : Hid (taskE L nc ts q ⟨nm, pd, dl, bu, pr⟩ = 1) := BAD.out (by omega)
          clear BAD HZ2
          go_wp2_with fail
          go_ret
          rw [HZ3.out]
          exact ⟨rfl, K⟩
        have HZ3 : Hid (taskE L nc ts q ⟨nm, pd, dl, bu, pr⟩ = (if (checkP pr).2 = 0 then (if costD pr = 0 then 5 else if hasAllB L nc pr = true then 0 else 3) else (checkP pr).2)) := by
          show _ = _
          rw [HZ2.out, if_pos]
          simp only [timesB, Bool.and_eq_true, decide_eq_true_eq]
          omega
        clear BAD HZ2
        have hck := rcheckP_any pa pc pr W (HP.out.kept K) HC.out
        obtain ⟨q1, hq1⟩ : ∃ q, (checkP pr).1 = q := ⟨_, rfl⟩
        obtain ⟨q2, hq2⟩ : ∃ q, (checkP pr).2 = q := ⟨_, rfl⟩
        rw [hq1, hq2] at hck
        have HQ2 : Hid ((checkP pr).2 = q2) := hq2
        clear hq1 hq2
        go_wp2_with fail
        refine hck.mono ?_
        rintro e w6 ⟨rfl, T6⟩
        have K6 := K.trans T6
        have HB6 : Hid (Box w.heap.size w6 25 w.heap.size [.int .i64 L, .slice ca nc cc, .slice (some ⟨b, f, none⟩) ts.length tc]) := HBr.out.kept T6
        have HT6 : Hid (Box w.heap.size w6 52 (w.heap.size + 1) [.string (B nm), .int .i64 pd, .int .i64 dl, .int .i64 bu, .slice pa pr.length pc]) := HTr.out.kept T6
        clear s2 t0 t1 t2 t3 t4 HBr HTr hck T6 K c0 c1 c2 c3 c4 c5
        have t4 : w6.cell? ⟨w.heap.size + 1, 4, none⟩ = some (.slice pa pr.length pc) := HT6.out.cell 4 (by simp)
        by_cases hz : q2 = 0
        · subst hz
          have hCK : checkP pr = (0, 0) := checkP_0 HQ2.out
          have HZ4 : Hid (taskE L nc ts q ⟨nm, pd, dl, bu, pr⟩ = (if costD pr = 0 then 5 else if hasAllB L nc pr = true then 0 else 3)) := by show _ = _; rw [HZ3.out, if_pos HQ2.out]
          have hco := rcost_any pa pc pr w6 (HP.out.kept K6) HPC.out hCK
          have HCD : Hid (∀ o ∈ pr, checkD o = 0) := (taken_prog hCK).2.1
          have h48 : pr.length ≤ 48 := (taken_prog hCK).1
          obtain ⟨z, hzz⟩ : ∃ z, costD pr = z := ⟨_, rfl⟩
          rw [hzz] at hco HZ4
          clear HZ3 HQ2 hzz hCK
          go_wp2_with fail
          refine hco.mono ?_
          rintro e w7 ⟨rfl, T7⟩
          have K7 := K6.trans T7
          have HB7 : Hid (Box w.heap.size w7 25 w.heap.size [.int .i64 L, .slice ca nc cc, .slice (some ⟨b, f, none⟩) ts.length tc]) := HB6.out.kept T7
          have HT7 : Hid (Box w.heap.size w7 52 (w.heap.size + 1) [.string (B nm), .int .i64 pd, .int .i64 dl, .int .i64 bu, .slice pa pr.length pc]) := HT6.out.kept T7
          clear t4 HB6 HT6 hco T7 K6
          by_cases hz0 : z = 0
          · have HZ5 : Hid (taskE L nc ts q ⟨nm, pd, dl, bu, pr⟩ = 5) := by show _ = _; rw [HZ4.out, if_pos hz0]
            subst hz0
            clear HZ4
            go_wp2_with fail
            go_ret
            rw [HZ5.out]
            exact ⟨rfl, K7⟩
          · have hne : (z == 0) = false := by simpa using hz0
            have HZ5 : Hid (taskE L nc ts q ⟨nm, pd, dl, bu, pr⟩ = (if hasAllB L nc pr = true then 0 else 3)) := by show _ = _; rw [HZ4.out, if_neg hz0]
            clear HZ4 hz0
            go_wp2_with fail
            go_loopg [9] pr.length (fun gk x wr => ∃ (j : Nat) (W : World), W = wr ∧ x = .int .i64 j ∧ j + gk = pr.length ∧ Hid (hasAllB L nc pr = hasAllB L nc (pr.drop j)) ∧ Kept w W ∧ Hid (Box w.heap.size W 25 w.heap.size [.int .i64 L, .slice ca nc cc, .slice (some ⟨b, f, none⟩) ts.length tc]) ∧ Hid (Box w.heap.size W 52 (w.heap.size + 1) [.string (B nm), .int .i64 pd, .int .i64 dl, .int .i64 bu, .slice pa pr.length pc]))
            case atStart => exact ⟨0, _, rfl, rfl, by omega, (by show _ = _; rw [List.drop_zero]), K7, HB7, HT7⟩
            case round =>
              obtain ⟨j, W, hW, rfl, hj, HE, K, HBr, HTr⟩ := hrel
              subst hW
              have t4 : W.cell? ⟨w.heap.size + 1, 4, none⟩ = some (.slice pa pr.length pc) := HTr.out.cell 4 (by simp)
              by_cases hjp : j < pr.length
              · obtain ⟨b', f', k, n, v, wt, l, la, lc, rfl, hpj, g0, g1, g2, g3, g4, hlc, hat, hbl, hdr⟩ := (HP.out.kept K).get j hjp
                have b3 : (j : Int) < (pr.length : Int) := by omega
                have b4 : (0 : Int) ≤ (j : Int) := by omega
                have s0 : W.cell? ⟨w.heap.size, 0, none⟩ = some (.int .i64 L) := HBr.out.cell 0 (by simp)
                have s1 : W.cell? ⟨w.heap.size, 1, none⟩ = some (.slice ca nc cc) := HBr.out.cell 1 (by simp)
                have s2 : W.cell? ⟨w.heap.size, 2, none⟩ = some (.slice (some ⟨b, f, none⟩) ts.length tc) := HBr.out.cell 2 (by simp)
                have hmem := List.mem_of_getElem? hpj
                have hkn := rknown_any k n v wt la l lc L ca (some ⟨b, f, none⟩) nc cc ts.length tc W.drew (hat.kept ((Kept.refl W).drew)) (by have := taken_cases (HCD.out _ hmem); simp only at this; omega)
                rw [known_has (HCD.out _ hmem)] at hkn
                have HE2 : Hid (hasAllB L nc pr = if hasB L nc ⟨k, n, v, wt, l⟩ = true then hasAllB L nc (pr.drop (j + 1)) else false) := by show _ = _; rw [HE.out, hdr, hasAllB]
                obtain ⟨hb, hhb⟩ : ∃ hb, hasB L nc ⟨k, n, v, wt, l⟩ = hb := ⟨_, rfl⟩
                rw [hhb] at hkn HE2
                obtain ⟨gi, rfl⟩ : ∃ g, gk = g + 1 := ⟨gk - 1, by omega⟩
                clear hpj hat hdr HE hmem hhb hlc hbl
                cases hb with
                | true =>
                  have HZ6 : Hid (hasAllB L nc pr = hasAllB L nc (pr.drop (j + 1))) := by show _ = _; rw [HE2.out, if_pos rfl]
                  clear HE2
                  go_wp2_with fail
                  go_region_held3 (fun w' => w'.cell? ⟨w.heap.size + 1, 4, none⟩ = some (.slice (some ⟨b', f', none⟩) pr.length pc) ∧ w'.cell? ⟨b', f' + j * 5, none⟩ = some (.int .i64 k) ∧ w'.cell? ⟨b', f' + j * 5 + 1, none⟩ = some (.int .i64 n) ∧ w'.cell? ⟨b', f' + j * 5 + 2, none⟩ = some (.int .i64 v) ∧ w'.cell? ⟨b', f' + j * 5 + 3, none⟩ = some (.int .i64 wt) ∧ w'.cell? ⟨b', f' + j * 5 + 4, none⟩ = some (.slice la l.length lc) ∧ w'.cell? ⟨w.heap.size, 0, none⟩ = some (.int .i64 L) ∧ w'.cell? ⟨w.heap.size, 1, none⟩ = some (.slice ca nc cc) ∧ w'.cell? ⟨w.heap.size, 2, none⟩ = some (.slice (some ⟨b, f, none⟩) ts.length tc)) (go_keep) (first | (go_at_call 61; refine hkn.mono ?_; rintro e w8 ⟨rfl, t8⟩; have K8 := ((Kept.refl W).drew).trans t8; have y0 := K8.cell t4; have y1 := K8.cell g0; have y2 := K8.cell g1; have y3 := K8.cell g2; have y4 := K8.cell g3; have y5 := K8.cell g4; have y6 := K8.cell s0; have y7 := K8.cell s1; have y8 := K8.cell s2) | fail)
                  go_wp2_with fail
                  go_roundg gi
                  case rel => exact ⟨j + 1, _, rfl, by go_num, by omega, HZ6, K.trans K8, HBr.out.kept K8, HTr.out.kept K8⟩
                  case measure => omega
                | false =>
                  have HZ6 : Hid (taskE L nc ts q ⟨nm, pd, dl, bu, pr⟩ = 3) := by show _ = _; rw [HZ5.out, HE2.out]; simp
                  clear HE2
                  go_wp2_with fail
                  go_region_held3 (fun w' => w'.cell? ⟨w.heap.size + 1, 4, none⟩ = some (.slice (some ⟨b', f', none⟩) pr.length pc) ∧ w'.cell? ⟨b', f' + j * 5, none⟩ = some (.int .i64 k) ∧ w'.cell? ⟨b', f' + j * 5 + 1, none⟩ = some (.int .i64 n) ∧ w'.cell? ⟨b', f' + j * 5 + 2, none⟩ = some (.int .i64 v) ∧ w'.cell? ⟨b', f' + j * 5 + 3, none⟩ = some (.int .i64 wt) ∧ w'.cell? ⟨b', f' + j * 5 + 4, none⟩ = some (.slice la l.length lc) ∧ w'.cell? ⟨w.heap.size, 0, none⟩ = some (.int .i64 L) ∧ w'.cell? ⟨w.heap.size, 1, none⟩ = some (.slice ca nc cc) ∧ w'.cell? ⟨w.heap.size, 2, none⟩ = some (.slice (some ⟨b, f, none⟩) ts.length tc)) (go_keep) (first | (go_at_call 61; refine hkn.mono ?_; rintro e w8 ⟨rfl, t8⟩; have K8 := ((Kept.refl W).drew).trans t8; have y0 := K8.cell t4; have y1 := K8.cell g0; have y2 := K8.cell g1; have y3 := K8.cell g2; have y4 := K8.cell g3; have y5 := K8.cell g4; have y6 := K8.cell s0; have y7 := K8.cell s1; have y8 := K8.cell s2) | fail)
                  go_wp2_with fail
                  go_ret
                  rw [HZ6.out]
                  exact ⟨rfl, K.trans K8⟩
              · have b3 : ¬ (j : Int) < (pr.length : Int) := by omega
                have HZ6 : Hid (taskE L nc ts q ⟨nm, pd, dl, bu, pr⟩ = 0) := by show _ = _; rw [HZ5.out, HE.out, List.drop_eq_nil_of_le (by omega)]; rfl
                go_wp2_with fail
                go_ret
                rw [HZ6.out]
                exact ⟨rfl, K⟩
        · have hne : (q2 != 0) = true := by simpa using hz
          have HZ4 : Hid (taskE L nc ts q ⟨nm, pd, dl, bu, pr⟩ = q2) := by show _ = _; rw [HZ3.out, HQ2.out, if_neg hz]
          clear HZ3 HQ2
          go_wp2_with fail
          go_ret
          rw [HZ4.out]
          exact ⟨rfl, K6⟩
end Go.Proofs.YtolljdomnohmdaaGreatDoor
namespace Go.Proofs.YtolljdomnohmdaaGreatDoor
open Go.RowKit

set_option maxHeartbeats 8000000 in
set_option maxRecDepth 10000 in
theorem rcset_any (L : Int) (ca ta : Option Addr) (cc tc : Nat) (cs : List ChanD) (ts : List TaskD) (w : World) (hH : AtH w ca cs) (hA : AtT w ta ts) (hok : TsOk ts) :
    Calls Tryz.prog 15 #[.agg #[.int .i64 L, .slice ca cs.length cc, .slice ta ts.length tc]] w fun e w' => e = .returned (.tuple #[.int .i64 (checkS L cs ts).1, .int .i64 (checkS L cs ts).2]) ∧ Kept w w' := by
  have HH : Hid (AtH w ca cs) := hH
  have HA : Hid (AtT w ta ts) := hA
  have HO : Hid (TsOk ts) := hok
  clear hH hA hok
  have K0 := (Kept.refl w).alloc (.cells #[.int .i64 L, .slice ca cs.length cc, .slice ta ts.length tc] 25)
  have HB : Hid (Box w.heap.size (w.alloc (.cells #[.int .i64 L, .slice ca cs.length cc, .slice ta ts.length tc] 25)) 25 w.heap.size [.int .i64 L, .slice ca cs.length cc, .slice ta ts.length tc]) := box_new w.heap.size w 25 [.int .i64 L, .slice ca cs.length cc, .slice ta ts.length tc] (Nat.le_refl _) (by simp)
  by_cases c0 : L < 0
  · have HZ : Hid (checkS L cs ts = (0, 1)) := by show _ = _; unfold checkS; rw [if_pos (by omega)]
    go_enter Tryz.func15, Tryz.ntmps15
    go_wp2_with fail
    go_ret2
    rw [HZ.out]
    exact ⟨rfl, K0⟩
  by_cases c1 : L > 8
  · have HZ : Hid (checkS L cs ts = (0, 1)) := by show _ = _; unfold checkS; rw [if_pos (by omega)]
    go_enter Tryz.func15, Tryz.ntmps15
    go_wp2_with fail
    go_ret2
    rw [HZ.out]
    exact ⟨rfl, K0⟩
  by_cases c2 : (cs.length : Int) > 8
  · have HZ : Hid (checkS L cs ts = (0, 18)) := by show _ = _; unfold checkS; rw [if_neg (by omega), if_pos (by omega)]
    go_enter Tryz.func15, Tryz.ntmps15
    go_wp2_with fail
    go_ret2
    rw [HZ.out]
    exact ⟨rfl, K0⟩
  by_cases c3 : (ts.length : Int) < 1
  · have HZ : Hid (checkS L cs ts = (0, 18)) := by show _ = _; unfold checkS; rw [if_neg (by omega), if_pos (by omega)]
    go_enter Tryz.func15, Tryz.ntmps15
    go_wp2_with fail
    go_ret2
    rw [HZ.out]
    exact ⟨rfl, K0⟩
  by_cases c4 : (ts.length : Int) > 12
  · have HZ : Hid (checkS L cs ts = (0, 18)) := by show _ = _; unfold checkS; rw [if_neg (by omega), if_pos (by omega)]
    go_enter Tryz.func15, Tryz.ntmps15
    go_wp2_with fail
    go_ret2
    rw [HZ.out]
    exact ⟨rfl, K0⟩
  have HZ : Hid (checkS L cs ts = if chansE ts.length cs = 0 then tasksGo L cs.length ts 0 ts else (0, chansE ts.length cs)) := by show _ = _; unfold checkS; rw [if_neg (by omega), if_neg (by omega)]
  go_enter Tryz.func15, Tryz.ntmps15
  go_wp2_with fail
  have hl : ts.length ≤ 100000 := by omega
  have hcl : cs.length ≤ 100000 := by omega
  clear c0 c1 c2 c3 c4
  go_loopg [4] cs.length (fun gk i wr => ∃ (j : Nat) (W : World), W = wr ∧ i = .int .i64 j ∧ j + gk = cs.length ∧ Hid (chansE ts.length cs = chansE ts.length (cs.drop j)) ∧ Kept w W ∧ Hid (Box w.heap.size W 25 w.heap.size [.int .i64 L, .slice ca cs.length cc, .slice ta ts.length tc]))
  case atStart => exact ⟨0, _, rfl, rfl, by omega, (by show _ = _; rw [List.drop_zero]), K0, HB⟩
  case round =>
    obtain ⟨j, W, hW, rfl, hj, HE, K, HBr⟩ := hrel
    subst hW
    have s1 : W.cell? ⟨w.heap.size, 1, none⟩ = some (.slice ca cs.length cc) := HBr.out.cell 1 (by simp)
    by_cases hjp : j < cs.length
    · obtain ⟨b, f, r, s, rfl, hpj, g0, g1, hdr⟩ := (HH.out.kept K).get j hjp
      have b1 : (j : Int) < (cs.length : Int) := by omega
      have b2 : (0 : Int) ≤ (j : Int) := by omega
      have KB := K.alloc (.cells #[.int .i64 r, .int .i64 s] 72)
      have KA := (Kept.refl W).alloc (.cells #[.int .i64 r, .int .i64 s] 72)
      have HBn : Hid (Box w.heap.size (W.alloc (.cells #[.int .i64 r, .int .i64 s] 72)) 25 w.heap.size [.int .i64 L, .slice (some ⟨b, f, none⟩) cs.length cc, .slice ta ts.length tc]) := HBr.out.kept KA
      have s2 : (W.alloc (.cells #[.int .i64 r, .int .i64 s] 72)).cell? ⟨w.heap.size, 2, none⟩ = some (.slice ta ts.length tc) := HBn.out.cell 2 (by simp)
      have HE2 : Hid (chansE ts.length cs = if chanB ts.length ⟨r, s⟩ = true then chansE ts.length (cs.drop (j + 1)) else 1) := by show _ = _; rw [HE.out, hdr, chansE]
      obtain ⟨gi, rfl⟩ : ∃ g, gk = g + 1 := ⟨gk - 1, by omega⟩
      clear hpj hdr HE
      have BAD : Hid ((¬ (0 ≤ r ∧ r ≤ 16 ∧ -1 ≤ s ∧ s < (ts.length : Int))) → checkS L cs ts = (0, 1)) := by
        intro h
        have h2 : chansE ts.length cs = 1 := by
          rw [HE2.out, if_neg]
          simp only [chanB, Bool.and_eq_true, decide_eq_true_eq]
          rintro ⟨⟨⟨h1, h2⟩, h3⟩, h4⟩
          exact h ⟨h1, h2, h3, h4⟩
        rw [HZ.out, h2]
        rfl
      by_cases h1 : r < 0
      · have HZ2 : Hid (checkS L cs ts = (0, 1)) := BAD.out (by omega)
        clear BAD HE2
        go_wp2_with fail
        go_ret2
        rw [HZ2.out]
        exact ⟨rfl, KB⟩
      by_cases h2 : r > 16
      · have HZ2 : Hid (checkS L cs ts = (0, 1)) := BAD.out (by omega)
        clear BAD HE2
        go_wp2_with fail
        go_ret2
        rw [HZ2.out]
        exact ⟨rfl, KB⟩
      by_cases h3 : s < -1
      · have HZ2 : Hid (checkS L cs ts = (0, 1)) := BAD.out (by omega)
        clear BAD HE2
        go_wp2_with fail
        go_ret2
        rw [HZ2.out]
        exact ⟨rfl, KB⟩
      by_cases h4 : s ≥ (ts.length : Int)
      · have HZ2 : Hid (checkS L cs ts = (0, 1)) := BAD.out (by omega)
        clear BAD HE2
        go_wp2_with fail
        go_ret2
        rw [HZ2.out]
        exact ⟨rfl, KB⟩
      have HZ2 : Hid (chansE ts.length cs = chansE ts.length (cs.drop (j + 1))) := by
        show _ = _
        rw [HE2.out, if_pos]
        simp only [chanB, Bool.and_eq_true, decide_eq_true_eq]
        omega
      clear BAD HE2
      go_wp2_with fail
      go_roundg gi
      case rel => exact ⟨j + 1, _, rfl, by go_num, by omega, HZ2, KB, HBn⟩
      case measure => omega
    · have b1 : ¬ (j : Int) < (cs.length : Int) := by omega
      have HZ2 : Hid (checkS L cs ts = tasksGo L cs.length ts 0 ts) := by
        show _ = _
        rw [HZ.out, if_pos]
        rw [HE.out, List.drop_eq_nil_of_le (by omega)]
        rfl
      clear HZ HE
      go_wp2_with fail
      go_loopg [6] ts.length (fun gk i wr => ∃ (j : Nat) (W : World), W = wr ∧ i = .int .i64 j ∧ j + gk = ts.length ∧ Hid (tasksGo L cs.length ts 0 ts = tasksGo L cs.length ts j (ts.drop j)) ∧ Kept w W ∧ Hid (Box w.heap.size W 25 w.heap.size [.int .i64 L, .slice ca cs.length cc, .slice ta ts.length tc]))
      case atStart => exact ⟨0, _, rfl, rfl, by omega, (by show _ = _; rw [List.drop_zero]), K, HBr⟩
      case round =>
        obtain ⟨q, W2, hW, rfl, hq, HE, KQ, HBq⟩ := hrel
        subst hW
        have u0 : W2.cell? ⟨w.heap.size, 0, none⟩ = some (.int .i64 L) := HBq.out.cell 0 (by simp)
        have u1 : W2.cell? ⟨w.heap.size, 1, none⟩ = some (.slice ca cs.length cc) := HBq.out.cell 1 (by simp)
        have u2 : W2.cell? ⟨w.heap.size, 2, none⟩ = some (.slice ta ts.length tc) := HBq.out.cell 2 (by simp)
        by_cases hqt : q < ts.length
        · have b3 : (q : Int) < (ts.length : Int) := by omega
          have b4 : (0 : Int) ≤ (q : Int) := by omega
          obtain ⟨t, ht⟩ : ∃ t, ts[q]? = some t := ⟨_, List.getElem?_eq_getElem hqt⟩
          have hdr : ts.drop q = t :: ts.drop (q + 1) := by
            rw [List.drop_eq_getElem_cons hqt]
            rw [List.getElem?_eq_getElem hqt] at ht
            rw [Option.some.inj ht]
          have hta := rtask_any L ca ta cc tc cs.length ts q t W2 (HA.out.kept KQ) HO.out hl ht
          obtain ⟨z, hz⟩ : ∃ z, taskE L cs.length ts q t = z := ⟨_, rfl⟩
          have HE2 : Hid (tasksGo L cs.length ts 0 ts = if z = 0 then tasksGo L cs.length ts (q + 1) (ts.drop (q + 1)) else (q, z)) := by show _ = _; rw [HE.out, hdr, tasksGo, hz]
          rw [hz] at hta
          obtain ⟨gi, rfl⟩ : ∃ g, gk = g + 1 := ⟨gk - 1, by omega⟩
          clear ht hdr HE hz
          by_cases hz0 : z = 0
          · subst hz0
            have HE3 : Hid (tasksGo L cs.length ts 0 ts = tasksGo L cs.length ts (q + 1) (ts.drop (q + 1))) := by show _ = _; rw [HE2.out, if_pos rfl]
            clear HE2
            go_wp2_with fail
            refine hta.mono ?_
            rintro e w2 ⟨rfl, t2⟩
            go_wp2_with fail
            go_roundg gi
            case rel => exact ⟨q + 1, _, rfl, by go_num, by omega, HE3, KQ.trans t2, HBq.out.kept t2⟩
            case measure => omega
          · have hne : (z != 0) = true := by simpa using hz0
            have HE3 : Hid (checkS L cs ts = (q, z)) := by show _ = _; rw [HZ2.out, HE2.out, if_neg hz0]
            clear HE2 hz0
            go_wp2_with fail
            refine hta.mono ?_
            rintro e w2 ⟨rfl, t2⟩
            go_wp2_with fail
            go_ret2
            rw [HE3.out]
            exact ⟨rfl, KQ.trans t2⟩
        · have b3 : ¬ (q : Int) < (ts.length : Int) := by omega
          have HE3 : Hid (checkS L cs ts = (0, 0)) := by show _ = _; rw [HZ2.out, HE.out, List.drop_eq_nil_of_le (by omega)]; rfl
          go_wp2_with fail
          go_ret2
          rw [HE3.out]
          exact ⟨rfl, KQ⟩
/-- Of a set that may be there are 1 to 12 tasks. -/
theorem checkS_len {L : Int} {cs : List ChanD} {ts : List TaskD} (h : (checkS L cs ts).2 = 0) : 1 ≤ ts.length ∧ ts.length ≤ 12 ∧ cs.length ≤ 8 ∧ 0 ≤ L ∧ L ≤ 8 := by
  unfold checkS at h
  split at h
  · simp at h
  · split at h
    · simp at h
    · omega
end Go.Proofs.YtolljdomnohmdaaGreatDoor
