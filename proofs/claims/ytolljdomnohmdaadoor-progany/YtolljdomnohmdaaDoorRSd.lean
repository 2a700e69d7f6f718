/- The reference's CheckSet. -/
import Derived.Test.YtolljdomnohmdaaDoorRSc
namespace Go.Proofs.YtolljdomnohmdaaDoor
open Go.RowKit

set_option maxHeartbeats 8000000 in
set_option maxRecDepth 10000 in
theorem rcset_any (L : Int) (ca ta : Option Addr) (cc tc : Nat) (cs : List ChanD) (ts : List TaskD) (w : World) (hH : AtH w ca cs) (hA : AtT w ta ts) (hok : TsOk ts) :
    Calls Tryd.prog 31 #[.agg #[.int .i64 L, .slice ca cs.length cc, .slice ta ts.length tc]] w fun e w' => e = .returned (.tuple #[.int .i64 (checkS L cs ts).1, .int .i64 (checkS L cs ts).2]) ∧ Kept w w' := by
  have HH : Hid (AtH w ca cs) := hH
  have HA : Hid (AtT w ta ts) := hA
  have HO : Hid (TsOk ts) := hok
  clear hH hA hok
  have K0 := (Kept.refl w).alloc (.cells #[.int .i64 L, .slice ca cs.length cc, .slice ta ts.length tc] 53)
  have HB : Hid (Box w.heap.size (w.alloc (.cells #[.int .i64 L, .slice ca cs.length cc, .slice ta ts.length tc] 53)) 53 w.heap.size [.int .i64 L, .slice ca cs.length cc, .slice ta ts.length tc]) := box_new w.heap.size w 53 [.int .i64 L, .slice ca cs.length cc, .slice ta ts.length tc] (Nat.le_refl _) (by simp)
  by_cases c0 : L < 0
  · have HZ : Hid (checkS L cs ts = (0, 1)) := by show _ = _; unfold checkS; rw [if_pos (by omega)]
    go_enter Tryd.func31, Tryd.ntmps31
    go_wp2_with fail
    go_ret2
    rw [HZ.out]
    exact ⟨rfl, K0⟩
  by_cases c1 : L > 8
  · have HZ : Hid (checkS L cs ts = (0, 1)) := by show _ = _; unfold checkS; rw [if_pos (by omega)]
    go_enter Tryd.func31, Tryd.ntmps31
    go_wp2_with fail
    go_ret2
    rw [HZ.out]
    exact ⟨rfl, K0⟩
  by_cases c2 : (cs.length : Int) > 8
  · have HZ : Hid (checkS L cs ts = (0, 18)) := by show _ = _; unfold checkS; rw [if_neg (by omega), if_pos (by omega)]
    go_enter Tryd.func31, Tryd.ntmps31
    go_wp2_with fail
    go_ret2
    rw [HZ.out]
    exact ⟨rfl, K0⟩
  by_cases c3 : (ts.length : Int) < 1
  · have HZ : Hid (checkS L cs ts = (0, 18)) := by show _ = _; unfold checkS; rw [if_neg (by omega), if_pos (by omega)]
    go_enter Tryd.func31, Tryd.ntmps31
    go_wp2_with fail
    go_ret2
    rw [HZ.out]
    exact ⟨rfl, K0⟩
  by_cases c4 : (ts.length : Int) > 12
  · have HZ : Hid (checkS L cs ts = (0, 18)) := by show _ = _; unfold checkS; rw [if_neg (by omega), if_pos (by omega)]
    go_enter Tryd.func31, Tryd.ntmps31
    go_wp2_with fail
    go_ret2
    rw [HZ.out]
    exact ⟨rfl, K0⟩
  have HZ : Hid (checkS L cs ts = if chansE ts.length cs = 0 then tasksGo L cs.length ts 0 ts else (0, chansE ts.length cs)) := by show _ = _; unfold checkS; rw [if_neg (by omega), if_neg (by omega)]
  go_enter Tryd.func31, Tryd.ntmps31
  go_wp2_with fail
  have hl : ts.length ≤ 100000 := by omega
  have hcl : cs.length ≤ 100000 := by omega
  clear c0 c1 c2 c3 c4
  go_loopg [4] cs.length (fun gk i wr => ∃ (j : Nat) (W : World), W = wr ∧ i = .int .i64 j ∧ j + gk = cs.length ∧ Hid (chansE ts.length cs = chansE ts.length (cs.drop j)) ∧ Kept w W ∧ Hid (Box w.heap.size W 53 w.heap.size [.int .i64 L, .slice ca cs.length cc, .slice ta ts.length tc]))
  case atStart => exact ⟨0, _, rfl, rfl, by omega, (by show _ = _; rw [List.drop_zero]), K0, HB⟩
  case round =>
    obtain ⟨j, W, hW, rfl, hj, HE, K, HBr⟩ := hrel
    subst hW
    have s1 : W.cell? ⟨w.heap.size, 1, none⟩ = some (.slice ca cs.length cc) := HBr.out.cell 1 (by simp)
    by_cases hjp : j < cs.length
    · obtain ⟨b, f, r, s, rfl, hpj, g0, g1, hdr⟩ := (HH.out.kept K).get j hjp
      have b1 : (j : Int) < (cs.length : Int) := by omega
      have b2 : (0 : Int) ≤ (j : Int) := by omega
      have KB := K.alloc (.cells #[.int .i64 r, .int .i64 s] 98)
      have KA := (Kept.refl W).alloc (.cells #[.int .i64 r, .int .i64 s] 98)
      have HBn : Hid (Box w.heap.size (W.alloc (.cells #[.int .i64 r, .int .i64 s] 98)) 53 w.heap.size [.int .i64 L, .slice (some ⟨b, f, none⟩) cs.length cc, .slice ta ts.length tc]) := HBr.out.kept KA
      have s2 : (W.alloc (.cells #[.int .i64 r, .int .i64 s] 98)).cell? ⟨w.heap.size, 2, none⟩ = some (.slice ta ts.length tc) := HBn.out.cell 2 (by simp)
      have HE2 : Hid (chansE ts.length cs = if chanB ts.length ⟨r, s⟩ = true then chansE ts.length (cs.drop (j + 1)) else 1) := by show _ = _; rw [HE.out, hdr, chansE]
      obtain ⟨gi, rfl⟩ : ∃ g, gk = g + 1 := ⟨gk - 1, by omega⟩
      clear hpj hdr HE
      have BAD : Hid ((¬ (0 ≤ r ∧ r ≤ 16 ∧ -1 ≤ s ∧ s < (ts.length : Int))) → checkS L cs ts = (0, 1)) := by
        intro h
        have h2 : chansE ts.length cs = 1 := by
          rw [HE2.out, if_neg]
          simp only [chanB, Bool.and_eq_true, decide_eq_true_eq]
          rintro ⟨⟨⟨h1, h2⟩, h3⟩, h4⟩
          exact h ⟨h1, h2, h3, h4⟩
        rw [HZ.out, h2]
        rfl
      by_cases h1 : r < 0
      · have HZ2 : Hid (checkS L cs ts = (0, 1)) := BAD.out (by omega)
        clear BAD HE2
        go_wp2_with fail
        go_ret2
        rw [HZ2.out]
        exact ⟨rfl, KB⟩
      by_cases h2 : r > 16
      · have HZ2 : Hid (checkS L cs ts = (0, 1)) := BAD.out (by omega)
        clear BAD HE2
        go_wp2_with fail
        go_ret2
        rw [HZ2.out]
        exact ⟨rfl, KB⟩
      by_cases h3 : s < -1
      · have HZ2 : Hid (checkS L cs ts = (0, 1)) := BAD.out (by omega)
        clear BAD HE2
        go_wp2_with fail
        go_ret2
        rw [HZ2.out]
        exact ⟨rfl, KB⟩
      by_cases h4 : s ≥ (ts.length : Int)
      · have HZ2 : Hid (checkS L cs ts = (0, 1)) := BAD.out (by omega)
        clear BAD HE2
        go_wp2_with fail
        go_ret2
        rw [HZ2.out]
        exact ⟨rfl, KB⟩
      have HZ2 : Hid (chansE ts.length cs = chansE ts.length (cs.drop (j + 1))) := by
        show _ = _
        rw [HE2.out, if_pos]
        simp only [chanB, Bool.and_eq_true, decide_eq_true_eq]
        omega
      clear BAD HE2
      go_wp2_with fail
      go_roundg gi
      case rel => exact ⟨j + 1, _, rfl, by go_num, by omega, HZ2, KB, HBn⟩
      case measure => omega
    · have b1 : ¬ (j : Int) < (cs.length : Int) := by omega
      have HZ2 : Hid (checkS L cs ts = tasksGo L cs.length ts 0 ts) := by
        show _ = _
        rw [HZ.out, if_pos]
        rw [HE.out, List.drop_eq_nil_of_le (by omega)]
        rfl
      clear HZ HE
      go_wp2_with fail
      go_loopg [6] ts.length (fun gk i wr => ∃ (j : Nat) (W : World), W = wr ∧ i = .int .i64 j ∧ j + gk = ts.length ∧ Hid (tasksGo L cs.length ts 0 ts = tasksGo L cs.length ts j (ts.drop j)) ∧ Kept w W ∧ Hid (Box w.heap.size W 53 w.heap.size [.int .i64 L, .slice ca cs.length cc, .slice ta ts.length tc]))
      case atStart => exact ⟨0, _, rfl, rfl, by omega, (by show _ = _; rw [List.drop_zero]), K, HBr⟩
      case round =>
        obtain ⟨q, W2, hW, rfl, hq, HE, KQ, HBq⟩ := hrel
        subst hW
        have u0 : W2.cell? ⟨w.heap.size, 0, none⟩ = some (.int .i64 L) := HBq.out.cell 0 (by simp)
        have u1 : W2.cell? ⟨w.heap.size, 1, none⟩ = some (.slice ca cs.length cc) := HBq.out.cell 1 (by simp)
        have u2 : W2.cell? ⟨w.heap.size, 2, none⟩ = some (.slice ta ts.length tc) := HBq.out.cell 2 (by simp)
        by_cases hqt : q < ts.length
        · have b3 : (q : Int) < (ts.length : Int) := by omega
          have b4 : (0 : Int) ≤ (q : Int) := by omega
          obtain ⟨t, ht⟩ : ∃ t, ts[q]? = some t := ⟨_, List.getElem?_eq_getElem hqt⟩
          have hdr : ts.drop q = t :: ts.drop (q + 1) := by
            rw [List.drop_eq_getElem_cons hqt]
            rw [List.getElem?_eq_getElem hqt] at ht
            rw [Option.some.inj ht]
          have hta := rtask_any L ca ta cc tc cs.length ts q t W2 (HA.out.kept KQ) HO.out hl ht
          obtain ⟨z, hz⟩ : ∃ z, taskE L cs.length ts q t = z := ⟨_, rfl⟩
          have HE2 : Hid (tasksGo L cs.length ts 0 ts = if z = 0 then tasksGo L cs.length ts (q + 1) (ts.drop (q + 1)) else (q, z)) := by show _ = _; rw [HE.out, hdr, tasksGo, hz]
          rw [hz] at hta
          obtain ⟨gi, rfl⟩ : ∃ g, gk = g + 1 := ⟨gk - 1, by omega⟩
          clear ht hdr HE hz
          by_cases hz0 : z = 0
          · subst hz0
            have HE3 : Hid (tasksGo L cs.length ts 0 ts = tasksGo L cs.length ts (q + 1) (ts.drop (q + 1))) := by show _ = _; rw [HE2.out, if_pos rfl]
            clear HE2
            go_wp2_with fail
            refine hta.mono ?_
            rintro e w2 ⟨rfl, t2⟩
            go_wp2_with fail
            go_roundg gi
            case rel => exact ⟨q + 1, _, rfl, by go_num, by omega, HE3, KQ.trans t2, HBq.out.kept t2⟩
            case measure => omega
          · have hne : (z != 0) = true := by simpa using hz0
            have HE3 : Hid (checkS L cs ts = (q, z)) := by show _ = _; rw [HZ2.out, HE2.out, if_neg hz0]
            clear HE2 hz0
            go_wp2_with fail
            refine hta.mono ?_
            rintro e w2 ⟨rfl, t2⟩
            go_wp2_with fail
            go_ret2
            rw [HE3.out]
            exact ⟨rfl, KQ.trans t2⟩
        · have b3 : ¬ (q : Int) < (ts.length : Int) := by omega
          have HE3 : Hid (checkS L cs ts = (0, 0)) := by show _ = _; rw [HZ2.out, HE.out, List.drop_eq_nil_of_le (by omega)]; rfl
          go_wp2_with fail
          go_ret2
          rw [HE3.out]
          exact ⟨rfl, KQ⟩
/-- Of a set that may be there are 1 to 12 tasks. -/
theorem checkS_len {L : Int} {cs : List ChanD} {ts : List TaskD} (h : (checkS L cs ts).2 = 0) : 1 ≤ ts.length ∧ ts.length ≤ 12 ∧ cs.length ≤ 8 ∧ 0 ≤ L ∧ L ≤ 8 := by
  unfold checkS at h
  split at h
  · simp at h
  · split at h
    · simp at h
    · omega
end Go.Proofs.YtolljdomnohmdaaDoor
