/- checkTask, checkTasks, Check, Need, Waits of a set. -/
import Derived.Test.YtolljdomnohmdaaDoorSetG
namespace Go.Proofs.YtolljdomnohmdaaDoor
open Go.RowKit

theorem costD_i64 {p : List OpD} (h : checkP p = (0, 0)) : 0 ≤ costD p ∧ costD p ≤ 512000 := by
  obtain ⟨_, hc, _, f, hb, hf⟩ := taken_prog h
  rw [cost_len hb hc]
  have key : ∀ g : List OpD, (∀ o ∈ g, checkD o = 0) → 0 ≤ costF g ∧ costF g ≤ 1000 * (g.length : Int) := by
    intro g
    induction g with
    | nil => intro _; simp [costF]
    | cons o r ih =>
      intro hg
      have h1 := ih (fun q hq => hg q (by simp [hq]))
      rw [costF, List.length_cons]
      split
      · rename_i hk
        obtain ⟨k, n, v, wt, l⟩ := o
        simp only at hk
        subst hk
        have h2 := run_n (hg ⟨1, n, v, wt, l⟩ (by simp))
        simp only
        omega
      · omega
  have := key f (fun o ho => hc o (bal_mem hb o ho).1)
  omega
theorem checkP_0 {p : List OpD} (h : (checkP p).2 = 0) : checkP p = (0, 0) := by
  unfold checkP at h ⊢
  split
  · rename_i h1; rw [if_pos h1] at h; simp at h
  · rename_i h1
    rw [if_neg h1] at h
    split
    · rename_i h2
      rw [if_pos h2] at h
      split
      · rename_i h3
        rw [if_pos h3] at h
        split
        · rename_i h4; rw [if_pos h4] at h; simp at h
        · rfl
      · rename_i h3; rw [if_neg h3] at h; exact absurd h h3
    · rename_i h2; rw [if_neg h2] at h; exact absurd h h2

set_option maxHeartbeats 8000000 in
theorem task_any (L : Int) (ca ta : Option Addr) (cc tc nc : Nat) (ts : List TaskD) (i : Nat) (t : TaskD) (w : World) (hr : Rdy w) (hA : AtT w ta ts) (hok : TsOk ts) (hl : ts.length ≤ 100000) (hi : ts[i]? = some t) :
    Calls Tryd.prog 71 #[.agg #[.int .i64 L, .slice ca nc cc, .slice ta ts.length tc], .int .i64 i] w fun e w' => e = .returned (.int .i64 (taskE L nc ts i t)) ∧ Kept w w' := by
  have hil : i < ts.length := (List.getElem?_eq_some_iff.1 hi).1
  obtain ⟨b, f, nm, pd, dl, bu, pr, pa, pc, rfl, hpj, g0, g1, g2, g3, g4, hpc, hat, hbl, _⟩ := hA.get i hil
  obtain rfl := Option.some.inj (hi.symm.trans hpj)
  obtain ⟨hn1, hp1, hc1⟩ := hok _ (List.mem_of_getElem? hi)
  simp only at hn1 hp1 hc1
  have HR : Hid (Rdy w) := hr
  have HA : Hid (AtT w (some ⟨b, f, none⟩) ts) := hA
  have HP : Hid (AtP w pa pr) := hat
  have HC : Hid (∀ o ∈ pr, o.cases.length ≤ 1000000) := hc1
  have b1 : (i : Int) < (ts.length : Int) := by omega
  have b2 : (0 : Int) ≤ (i : Int) := by omega
  clear hr hA hat hc1 hok hi hpj hbl
  have KA : Kept w (w.alloc (.cells #[.int .i64 L, .slice ca nc cc, .slice (some ⟨b, f, none⟩) ts.length tc] 58)) := (Kept.refl w).alloc _
  have ga0 := KA.cell g0
  have ga1 := KA.cell g1
  have ga2 := KA.cell g2
  have ga3 := KA.cell g3
  have ga4 := KA.cell g4
  clear g0 g1 g2 g3 g4
  have K2 : Kept w ((w.alloc (.cells #[.int .i64 L, .slice ca nc cc, .slice (some ⟨b, f, none⟩) ts.length tc] 58)).alloc (.cells #[.string (B nm), .int .i64 pd, .int .i64 dl, .int .i64 bu, .slice pa pr.length pc] 70)) := ((Kept.refl w).alloc _).alloc _
  have HB : Hid (Box w.heap.size ((w.alloc (.cells #[.int .i64 L, .slice ca nc cc, .slice (some ⟨b, f, none⟩) ts.length tc] 58)).alloc (.cells #[.string (B nm), .int .i64 pd, .int .i64 dl, .int .i64 bu, .slice pa pr.length pc] 70)) 58 w.heap.size [.int .i64 L, .slice ca nc cc, .slice (some ⟨b, f, none⟩) ts.length tc]) := (box_new w.heap.size w 58 [.int .i64 L, .slice ca nc cc, .slice (some ⟨b, f, none⟩) ts.length tc] (Nat.le_refl _) (by simp)).kept ((Kept.refl _).alloc _)
  have HT : Hid (Box w.heap.size ((w.alloc (.cells #[.int .i64 L, .slice ca nc cc, .slice (some ⟨b, f, none⟩) ts.length tc] 58)).alloc (.cells #[.string (B nm), .int .i64 pd, .int .i64 dl, .int .i64 bu, .slice pa pr.length pc] 70)) 70 (w.heap.size + 1) [.string (B nm), .int .i64 pd, .int .i64 dl, .int .i64 bu, .slice pa pr.length pc]) := by
    have h := box_new w.heap.size (w.alloc (.cells #[.int .i64 L, .slice ca nc cc, .slice (some ⟨b, f, none⟩) ts.length tc] 58)) 70 [.string (B nm), .int .i64 pd, .int .i64 dl, .int .i64 bu, .slice pa pr.length pc] (by simp) (by simp)
    rw [show (w.alloc (.cells #[.int .i64 L, .slice ca nc cc, .slice (some ⟨b, f, none⟩) ts.length tc] 58)).heap.size = w.heap.size + 1 by simp] at h
    exact h
  have S0 : Hid (((w.alloc (.cells #[.int .i64 L, .slice ca nc cc, .slice (some ⟨b, f, none⟩) ts.length tc] 58)).alloc (.cells #[.string (B nm), .int .i64 pd, .int .i64 dl, .int .i64 bu, .slice pa pr.length pc] 70)).cell? ⟨w.heap.size, 0, none⟩ = some (.int .i64 L)) := HB.out.cell 0 (by simp)
  have S1 : Hid (((w.alloc (.cells #[.int .i64 L, .slice ca nc cc, .slice (some ⟨b, f, none⟩) ts.length tc] 58)).alloc (.cells #[.string (B nm), .int .i64 pd, .int .i64 dl, .int .i64 bu, .slice pa pr.length pc] 70)).cell? ⟨w.heap.size, 1, none⟩ = some (.slice ca nc cc)) := HB.out.cell 1 (by simp)
  have S2 : Hid (((w.alloc (.cells #[.int .i64 L, .slice ca nc cc, .slice (some ⟨b, f, none⟩) ts.length tc] 58)).alloc (.cells #[.string (B nm), .int .i64 pd, .int .i64 dl, .int .i64 bu, .slice pa pr.length pc] 70)).cell? ⟨w.heap.size, 2, none⟩ = some (.slice (some ⟨b, f, none⟩) ts.length tc)) := HB.out.cell 2 (by simp)
  have Q0 : Hid (((w.alloc (.cells #[.int .i64 L, .slice ca nc cc, .slice (some ⟨b, f, none⟩) ts.length tc] 58)).alloc (.cells #[.string (B nm), .int .i64 pd, .int .i64 dl, .int .i64 bu, .slice pa pr.length pc] 70)).cell? ⟨w.heap.size + 1, 0, none⟩ = some (.string (B nm))) := HT.out.cell 0 (by simp)
  have Q1 : Hid (((w.alloc (.cells #[.int .i64 L, .slice ca nc cc, .slice (some ⟨b, f, none⟩) ts.length tc] 58)).alloc (.cells #[.string (B nm), .int .i64 pd, .int .i64 dl, .int .i64 bu, .slice pa pr.length pc] 70)).cell? ⟨w.heap.size + 1, 1, none⟩ = some (.int .i64 pd)) := HT.out.cell 1 (by simp)
  have Q2 : Hid (((w.alloc (.cells #[.int .i64 L, .slice ca nc cc, .slice (some ⟨b, f, none⟩) ts.length tc] 58)).alloc (.cells #[.string (B nm), .int .i64 pd, .int .i64 dl, .int .i64 bu, .slice pa pr.length pc] 70)).cell? ⟨w.heap.size + 1, 2, none⟩ = some (.int .i64 dl)) := HT.out.cell 2 (by simp)
  have Q3 : Hid (((w.alloc (.cells #[.int .i64 L, .slice ca nc cc, .slice (some ⟨b, f, none⟩) ts.length tc] 58)).alloc (.cells #[.string (B nm), .int .i64 pd, .int .i64 dl, .int .i64 bu, .slice pa pr.length pc] 70)).cell? ⟨w.heap.size + 1, 3, none⟩ = some (.int .i64 bu)) := HT.out.cell 3 (by simp)
  have Q4 : Hid (((w.alloc (.cells #[.int .i64 L, .slice ca nc cc, .slice (some ⟨b, f, none⟩) ts.length tc] 58)).alloc (.cells #[.string (B nm), .int .i64 pd, .int .i64 dl, .int .i64 bu, .slice pa pr.length pc] 70)).cell? ⟨w.heap.size + 1, 4, none⟩ = some (.slice pa pr.length pc)) := HT.out.cell 4 (by simp)
  have hna := name_any nm hn1 ((w.alloc (.cells #[.int .i64 L, .slice ca nc cc, .slice (some ⟨b, f, none⟩) ts.length tc] 58)).alloc (.cells #[.string (B nm), .int .i64 pd, .int .i64 dl, .int .i64 bu, .slice pa pr.length pc] 70))
  cases hq : nameB nm with
  | false =>
    have HZ : Hid (taskE L nc ts i ⟨nm, pd, dl, bu, pr⟩ = 3) := by show _ = _; unfold taskE; rw [if_neg (by rw [hq]; simp)]
    rw [hq] at hna
    go_enter Tryd.func71, Tryd.ntmps71
    go_wp2_with fail
    refine hna.mono ?_
    rintro e w3 ⟨rfl, hw3⟩
    subst w3
    go_wp2_with fail
    go_ret
    rw [HZ.out]
    exact ⟨rfl, K2⟩
  | true =>
    have HZ : Hid (taskE L nc ts i ⟨nm, pd, dl, bu, pr⟩ = (if (findGo nm 0 ts).1 < i then 6 else if timesB ⟨nm, pd, dl, bu, pr⟩ = true then (if (checkP pr).2 = 0 then (if costD pr = 0 then 5 else if hasAllB L nc pr = true then 0 else 3) else (checkP pr).2) else 1)) := by show _ = _; unfold taskE; rw [if_pos hq]
    rw [hq] at hna
    clear hq
    have hfi := find_any L ca (some ⟨b, f, none⟩) cc tc nc ts nm _ (HA.out.kept K2) hl
    have hfl : (findGo nm 0 ts).1 ≤ ts.length := by have := find_lt nm ts 0; omega
    obtain ⟨fi, fb, hff⟩ : ∃ fi fb, findGo nm 0 ts = (fi, fb) := ⟨_, _, rfl⟩
    rw [hff] at hfi HZ hfl
    simp only at hfi hfl
    by_cases h1 : fi < i
    · have d1 : (fi : Int) < (i : Int) := by omega
      have HZ2 : Hid (taskE L nc ts i ⟨nm, pd, dl, bu, pr⟩ = 6) := by show _ = _; rw [HZ.out, if_pos h1]
      clear HZ
      go_enter Tryd.func71, Tryd.ntmps71
      go_wp2_with fail
      refine hna.mono ?_
      rintro e w3 ⟨rfl, hw3⟩
      subst w3
      go_wp2_with fail
      refine hfi.mono ?_
      rintro e w4 ⟨rfl, t4⟩
      go_wp2_with fail
      go_ret
      rw [HZ2.out]
      exact ⟨rfl, K2.trans t4⟩
    have d1 : ¬ (fi : Int) < (i : Int) := by omega
    have HZ2 : Hid (taskE L nc ts i ⟨nm, pd, dl, bu, pr⟩ = (if timesB ⟨nm, pd, dl, bu, pr⟩ = true then (if (checkP pr).2 = 0 then (if costD pr = 0 then 5 else if hasAllB L nc pr = true then 0 else 3) else (checkP pr).2) else 1)) := by show _ = _; rw [HZ.out, if_neg h1]
    clear HZ
    go_enter Tryd.func71, Tryd.ntmps71
    go_wp2_with fail
    refine hna.mono ?_
    rintro e w3 ⟨rfl, hw3⟩
    subst w3
    go_wp2_with fail
    refine hfi.mono ?_
    rintro e w4 ⟨rfl, t4⟩
    have K4 := K2.trans t4
    have zq04 := t4.cell Q0.out
    have zq14 := t4.cell Q1.out
    have zq24 := t4.cell Q2.out
    have zq34 := t4.cell Q3.out
    have zq44 := t4.cell Q4.out
    have har := areT_any nm pd dl bu pr pa pr.length pc w4
    cases hq : timesB ⟨nm, pd, dl, bu, pr⟩ with
    | false =>
      have HZ3 : Hid (taskE L nc ts i ⟨nm, pd, dl, bu, pr⟩ = 1) := by show _ = _; rw [HZ2.out, if_neg (by rw [hq]; simp)]
      rw [hq] at har
      clear HZ2 hq
      go_wp2_with fail
      refine har.mono ?_
      rintro e w5 ⟨rfl, t5⟩
      go_wp2_with fail
      go_ret
      rw [HZ3.out]
      exact ⟨rfl, K4.trans t5⟩
    | true =>
      have HZ3 : Hid (taskE L nc ts i ⟨nm, pd, dl, bu, pr⟩ = (if (checkP pr).2 = 0 then (if costD pr = 0 then 5 else if hasAllB L nc pr = true then 0 else 3) else (checkP pr).2)) := by show _ = _; rw [HZ2.out, if_pos hq]
      rw [hq] at har
      clear HZ2 hq
      go_wp2_with fail
      refine har.mono ?_
      rintro e w5 ⟨rfl, t5⟩
      have T5 := t4.trans t5
      have K5 := K2.trans T5
      have zq45 := T5.cell Q4.out
      have hck := pcheck_any pa pc pr w5 (HR.out.kept K5) (HP.out.kept K5) hp1 HC.out
      obtain ⟨q1, hq1⟩ : ∃ q, (checkP pr).1 = q := ⟨_, rfl⟩
      obtain ⟨q2, hq2⟩ : ∃ q, (checkP pr).2 = q := ⟨_, rfl⟩
      rw [hq1, hq2] at hck
      by_cases hz : q2 = 0
      · have hCK : checkP pr = (0, 0) := checkP_0 (by rw [hq2, hz])
        have HZ4 : Hid (taskE L nc ts i ⟨nm, pd, dl, bu, pr⟩ = (if costD pr = 0 then 5 else if hasAllB L nc pr = true then 0 else 3)) := by show _ = _; rw [HZ3.out, if_pos (by rw [hq2, hz])]
        clear HZ3 hq1 hq2
        subst hz
        have hTP := taken_prog hCK
        have hcb := costD_i64 hCK
        go_wp2_with fail
        refine hck.mono ?_
        rintro e w6 ⟨rfl, t6⟩
        have T6 := T5.trans t6
        have K6 := K2.trans T6
        have zq46 := T6.cell Q4.out
        have hco := cost_any pa pc pr w6 (HP.out.kept K6) (by omega) hTP.2.1 hTP.2.2.1
        obtain ⟨z, hzz⟩ : ∃ z, costD pr = z := ⟨_, rfl⟩
        rw [hzz] at hco HZ4 hcb
        by_cases hz0 : z = 0
        · subst hz0
          have HZ5 : Hid (taskE L nc ts i ⟨nm, pd, dl, bu, pr⟩ = 5) := by show _ = _; rw [HZ4.out, if_pos rfl]
          clear HZ4
          go_wp2_with fail
          refine hco.mono ?_
          rintro e w7 ⟨rfl, t7⟩
          go_wp2_with fail
          go_ret
          rw [HZ5.out]
          exact ⟨rfl, K6.trans t7⟩
        · have hne : (z == 0) = false := by simpa using hz0
          have HZ5 : Hid (taskE L nc ts i ⟨nm, pd, dl, bu, pr⟩ = (if hasAllB L nc pr = true then 0 else 3)) := by show _ = _; rw [HZ4.out, if_neg hz0]
          clear HZ4
          go_wp2_with fail
          refine hco.mono ?_
          rintro e w7 ⟨rfl, t7⟩
          have T7 := T6.trans t7
          have K7 := K2.trans T7
          have zs07 := T7.cell S0.out
          have zs17 := T7.cell S1.out
          have zs27 := T7.cell S2.out
          have zq47 := T7.cell Q4.out
          have hha := hasAll_any L ca (some ⟨b, f, none⟩) cc tc nc ts.length pa pc pr w7 (HP.out.kept K7) hp1 HC.out
          cases hq : hasAllB L nc pr with
          | true =>
            have HZ6 : Hid (taskE L nc ts i ⟨nm, pd, dl, bu, pr⟩ = 0) := by show _ = _; rw [HZ5.out, if_pos hq]
            rw [hq] at hha
            clear HZ5 hq
            go_wp2_with fail
            refine hha.mono ?_
            rintro e w8 ⟨rfl, t8⟩
            go_wp2_with fail
            go_ret
            rw [HZ6.out]
            exact ⟨rfl, K7.trans t8⟩
          | false =>
            have HZ6 : Hid (taskE L nc ts i ⟨nm, pd, dl, bu, pr⟩ = 3) := by show _ = _; rw [HZ5.out, if_neg (by rw [hq]; simp)]
            rw [hq] at hha
            clear HZ5 hq
            go_wp2_with fail
            refine hha.mono ?_
            rintro e w8 ⟨rfl, t8⟩
            go_wp2_with fail
            go_ret
            rw [HZ6.out]
            exact ⟨rfl, K7.trans t8⟩
      · have hne : (q2 != 0) = true := by simpa using hz
        have HZ4 : Hid (taskE L nc ts i ⟨nm, pd, dl, bu, pr⟩ = q2) := by show _ = _; rw [HZ3.out, hq2, if_neg hz]
        clear HZ3 hq1 hq2
        go_wp2_with fail
        refine hck.mono ?_
        rintro e w6 ⟨rfl, t6⟩
        go_wp2_with fail
        go_ret
        rw [HZ4.out]
        exact ⟨rfl, K5.trans t6⟩

set_option maxHeartbeats 8000000 in
theorem tasks_any (L : Int) (ca ta : Option Addr) (cc tc nc : Nat) (ts : List TaskD) (w : World) (hr : Rdy w) (hA : AtT w ta ts) (hok : TsOk ts) (hl : ts.length ≤ 100000) :
    Calls Tryd.prog 58 #[.agg #[.int .i64 L, .slice ca nc cc, .slice ta ts.length tc]] w fun e w' => e = .returned (.tuple #[.int .i64 (tasksGo L nc ts 0 ts).1, .int .i64 (tasksGo L nc ts 0 ts).2]) ∧ Kept w w' := by
  have HR : Hid (Rdy w) := hr
  have HA : Hid (AtT w ta ts) := hA
  have HO : Hid (TsOk ts) := hok
  clear hr hA hok
  have K0 := (Kept.refl w).alloc (.cells #[.int .i64 L, .slice ca nc cc, .slice ta ts.length tc] 58)
  have HB : Hid (Box w.heap.size (w.alloc (.cells #[.int .i64 L, .slice ca nc cc, .slice ta ts.length tc] 58)) 58 w.heap.size [.int .i64 L, .slice ca nc cc, .slice ta ts.length tc]) := box_new w.heap.size w 58 [.int .i64 L, .slice ca nc cc, .slice ta ts.length tc] (Nat.le_refl _) (by simp)
  go_enter Tryd.func58, Tryd.ntmps58
  go_wp2_with fail
  go_step3
  go_wp2_with fail
  go_step3
  go_wp2_with fail
  go_loopg [4, 5, 10] ts.length (fun gk x4 x5 i wr => ∃ j : Nat, i = .int .i64 j ∧ x4 = .int .i64 0 ∧ x5 = .int .i64 0 ∧ j + gk = ts.length ∧ Hid (tasksGo L nc ts 0 ts = tasksGo L nc ts j (ts.drop j)) ∧ Kept w wr ∧ Hid (Box w.heap.size wr 58 w.heap.size [.int .i64 L, .slice ca nc cc, .slice ta ts.length tc]))
  case atStart => exact ⟨0, rfl, rfl, rfl, by omega, (by show _ = _; rw [List.drop_zero]), K0, HB⟩
  case round =>
    obtain ⟨j, rfl, rfl, rfl, hj, HE, K, HBr⟩ := hrel
    by_cases hjp : j < ts.length
    · have b1 : (j : Int) < (ts.length : Int) := by omega
      have b2 : (0 : Int) ≤ (j : Int) := by omega
      obtain ⟨t, ht⟩ : ∃ t, ts[j]? = some t := ⟨_, List.getElem?_eq_getElem hjp⟩
      have hdr : ts.drop j = t :: ts.drop (j + 1) := by
        rw [List.drop_eq_getElem_cons hjp]
        rw [List.getElem?_eq_getElem hjp] at ht
        rw [Option.some.inj ht]
      have hta := task_any L ca ta cc tc nc ts j t wr (HR.out.kept K) (HA.out.kept K) HO.out hl ht
      have u0 : wr.cell? ⟨w.heap.size, 0, none⟩ = some (.int .i64 L) := HBr.out.cell 0 (by simp)
      have u1 : wr.cell? ⟨w.heap.size, 1, none⟩ = some (.slice ca nc cc) := HBr.out.cell 1 (by simp)
      have u2 : wr.cell? ⟨w.heap.size, 2, none⟩ = some (.slice ta ts.length tc) := HBr.out.cell 2 (by simp)
      obtain ⟨z, hz⟩ : ∃ z, taskE L nc ts j t = z := ⟨_, rfl⟩
      have HE2 : Hid (tasksGo L nc ts 0 ts = if z = 0 then tasksGo L nc ts (j + 1) (ts.drop (j + 1)) else (j, z)) := by show _ = _; rw [HE.out, hdr, tasksGo, hz]
      rw [hz] at hta
      obtain ⟨g3', rfl⟩ : ∃ g, gk = g + 1 := ⟨gk - 1, by omega⟩
      clear ht hdr HE hz
      by_cases hz0 : z = 0
      · subst hz0
        have HE3 : Hid (tasksGo L nc ts 0 ts = tasksGo L nc ts (j + 1) (ts.drop (j + 1))) := by show _ = _; rw [HE2.out, if_pos rfl]
        clear HE2
        go_wp2_with fail
        refine hta.mono ?_
        rintro e w2 ⟨rfl, t2⟩
        go_wp2_with fail
        go_roundg g3'
        case rel => exact ⟨j + 1, by go_num, rfl, rfl, by omega, HE3, K.trans t2, HBr.out.kept t2⟩
        case measure => omega
      · have hne : (z != 0) = true := by simpa using hz0
        have HE3 : Hid (tasksGo L nc ts 0 ts = (j, z)) := by show _ = _; rw [HE2.out, if_neg hz0]
        clear HE2 hz0
        go_wp2_with fail
        refine hta.mono ?_
        rintro e w2 ⟨rfl, t2⟩
        go_wp2_with fail
        try rw [Exit.noGoto_ret]
        go_ret2
        rw [HE3.out]
        exact ⟨rfl, K.trans t2⟩
    · have b1 : ¬ (j : Int) < (ts.length : Int) := by omega
      have HE3 : Hid (tasksGo L nc ts 0 ts = (0, 0)) := by show _ = _; rw [HE.out, List.drop_eq_nil_of_le (by omega)]; rfl
      go_wp2_with fail
      try rw [Exit.noGoto_ret]
      go_ret2
      rw [HE3.out]
      exact ⟨rfl, K⟩
end Go.Proofs.YtolljdomnohmdaaDoor
