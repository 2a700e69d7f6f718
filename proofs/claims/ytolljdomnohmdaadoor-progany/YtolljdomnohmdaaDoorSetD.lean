/- Check, Need, Waits, Same of a set. -/
import Derived.Test.YtolljdomnohmdaaDoorSetC
namespace Go.Proofs.YtolljdomnohmdaaDoor
open Go.RowKit

set_option maxHeartbeats 4000000 in
theorem scheck_any (L : Int) (ca ta : Option Addr) (cc tc : Nat) (cs : List ChanD) (ts : List TaskD) (w : World) (hr : Rdy w) (hH : AtH w ca cs) (hA : AtT w ta ts) (hok : TsOk ts) (hl : ts.length ≤ 100000) (hcl : cs.length ≤ 100000) :
    Calls Tryd.prog 30 #[.agg #[.int .i64 L, .slice ca cs.length cc, .slice ta ts.length tc]] w fun e w' => e = .returned (.tuple #[.int .i64 (checkS L cs ts).1, .int .i64 (checkS L cs ts).2]) ∧ Kept w w' := by
  have K0 := (Kept.refl w).alloc (.cells #[.int .i64 L, .slice ca cs.length cc, .slice ta ts.length tc] 58)
  have HB : Hid (Box w.heap.size (w.alloc (.cells #[.int .i64 L, .slice ca cs.length cc, .slice ta ts.length tc] 58)) 58 w.heap.size [.int .i64 L, .slice ca cs.length cc, .slice ta ts.length tc]) := box_new w.heap.size w 58 [.int .i64 L, .slice ca cs.length cc, .slice ta ts.length tc] (Nat.le_refl _) (by simp)
  by_cases h1 : L < 0
  · have HZ : Hid (checkS L cs ts = (0, 1)) := by show _ = _; unfold checkS; rw [if_pos (.inl h1)]
    clear hr hH hA hok HB
    go_enter Tryd.func30, Tryd.ntmps30
    go_wp2_with fail
    go_ret2
    rw [HZ.out]
    exact ⟨rfl, (Kept.refl w).alloc _⟩
  by_cases h2 : L > 8
  · have HZ : Hid (checkS L cs ts = (0, 1)) := by show _ = _; unfold checkS; rw [if_pos (.inr h2)]
    clear hr hH hA hok HB
    go_enter Tryd.func30, Tryd.ntmps30
    go_wp2_with fail
    go_ret2
    rw [HZ.out]
    exact ⟨rfl, (Kept.refl w).alloc _⟩
  by_cases h3 : cs.length > 8
  · have HZ : Hid (checkS L cs ts = (0, 18)) := by show _ = _; unfold checkS; rw [if_neg (by omega), if_pos (.inl h3)]
    have b3 : (cs.length : Int) > 8 := by omega
    clear hr hH hA hok HB
    go_enter Tryd.func30, Tryd.ntmps30
    go_wp2_with fail
    go_ret2
    rw [HZ.out]
    exact ⟨rfl, (Kept.refl w).alloc _⟩
  by_cases h4 : ts.length = 0
  · have HZ : Hid (checkS L cs ts = (0, 18)) := by show _ = _; unfold checkS; rw [if_neg (by omega), if_pos (.inr (.inl h4))]
    have b3 : ¬ (cs.length : Int) > 8 := by omega
    have b4 : (ts.length : Int) = 0 := by omega
    clear hr hH hA hok HB
    go_enter Tryd.func30, Tryd.ntmps30
    go_wp2_with fail
    go_ret2
    rw [HZ.out]
    exact ⟨rfl, (Kept.refl w).alloc _⟩
  by_cases h5 : ts.length > 12
  · have HZ : Hid (checkS L cs ts = (0, 18)) := by show _ = _; unfold checkS; rw [if_neg (by omega), if_pos (.inr (.inr h5))]
    have b3 : ¬ (cs.length : Int) > 8 := by omega
    have b4 : ¬ (ts.length : Int) = 0 := by omega
    have b5 : (ts.length : Int) > 12 := by omega
    clear hr hH hA hok HB
    go_enter Tryd.func30, Tryd.ntmps30
    go_wp2_with fail
    go_ret2
    rw [HZ.out]
    exact ⟨rfl, (Kept.refl w).alloc _⟩
  have b3 : ¬ (cs.length : Int) > 8 := by omega
  have b4 : ¬ (ts.length : Int) = 0 := by omega
  have b5 : ¬ (ts.length : Int) > 12 := by omega
  have HZ : Hid (checkS L cs ts = if chansE ts.length cs = 0 then tasksGo L cs.length ts 0 ts else (0, chansE ts.length cs)) := by
    show _ = _
    unfold checkS
    rw [if_neg (by omega), if_neg (by omega)]
  have hch := chans_any L ca ta cc tc ts.length cs _ (hH.kept K0) hcl
  rcases chansE_01 ts.length cs with hz | hz
  · rw [hz] at hch
    have HZ2 : Hid (checkS L cs ts = tasksGo L cs.length ts 0 ts) := by show _ = _; rw [HZ.out, if_pos hz]
    have HTA : Hid (∀ w', Kept w w' → Calls Tryd.prog 58 #[.agg #[.int .i64 L, .slice ca cs.length cc, .slice ta ts.length tc]] w' fun e w'' => e = .returned (.tuple #[.int .i64 (tasksGo L cs.length ts 0 ts).1, .int .i64 (tasksGo L cs.length ts 0 ts).2]) ∧ Kept w' w'') := fun w' t => tasks_any L ca ta cc tc cs.length ts w' (hr.kept t) (hA.kept t) hok hl
    clear HZ hz hr hH hA hok
    go_enter Tryd.func30, Tryd.ntmps30
    go_wp2_with fail
    refine hch.mono ?_
    rintro e w2 ⟨rfl, t2⟩
    have u0 : w2.cell? ⟨w.heap.size, 0, none⟩ = some (.int .i64 L) := (HB.out.kept t2).cell 0 (by simp)
    have u1 : w2.cell? ⟨w.heap.size, 1, none⟩ = some (.slice ca cs.length cc) := (HB.out.kept t2).cell 1 (by simp)
    have u2 : w2.cell? ⟨w.heap.size, 2, none⟩ = some (.slice ta ts.length tc) := (HB.out.kept t2).cell 2 (by simp)
    go_wp2_with fail
    refine (HTA.out w2 (K0.trans t2)).mono ?_
    rintro e w3 ⟨rfl, t3⟩
    go_wp2_with fail
    go_ret2
    rw [HZ2.out]
    exact ⟨rfl, (K0.trans t2).trans t3⟩
  · rw [hz] at hch
    have HZ2 : Hid (checkS L cs ts = (0, 1)) := by show _ = _; rw [HZ.out, if_neg (by omega), hz]
    clear HZ hz hr hH hA hok
    go_enter Tryd.func30, Tryd.ntmps30
    go_wp2_with fail
    refine hch.mono ?_
    rintro e w2 ⟨rfl, t2⟩
    go_wp2_with fail
    go_ret2
    rw [HZ2.out]
    exact ⟨rfl, K0.trans t2⟩

set_option maxHeartbeats 2000000 in
theorem need_any (nm : List UInt8) (pd dl bu : Int) (pr : List OpD) (pa : Option Addr) (pc : Nat) (w : World) (hA : AtP w pa pr) (hk : checkP pr = (0, 0)) :
    Calls Tryd.prog 38 #[.agg #[.string (B nm), .int .i64 pd, .int .i64 dl, .int .i64 bu, .slice pa pr.length pc]] w fun e w' => e = .returned (.int .i64 (min (costD pr) bu)) ∧ Kept w w' := by
  have K0 := (Kept.refl w).alloc (.cells #[.string (B nm), .int .i64 pd, .int .i64 dl, .int .i64 bu, .slice pa pr.length pc] 70)
  have HB : Hid (Box w.heap.size (w.alloc (.cells #[.string (B nm), .int .i64 pd, .int .i64 dl, .int .i64 bu, .slice pa pr.length pc] 70)) 70 w.heap.size [.string (B nm), .int .i64 pd, .int .i64 dl, .int .i64 bu, .slice pa pr.length pc]) := box_new w.heap.size w 70 [.string (B nm), .int .i64 pd, .int .i64 dl, .int .i64 bu, .slice pa pr.length pc] (Nat.le_refl _) (by simp)
  have hTP := taken_prog hk
  have HCO : Hid (∀ w', Kept w w' → Calls Tryd.prog 14 #[.slice pa pr.length pc] w' fun e w'' => e = .returned (.int .i64 (costD pr)) ∧ Kept w' w'') := fun w' t => cost_any pa pc pr w' (hA.kept t) (by omega) hTP.2.1 hTP.2.2.1
  obtain ⟨z, hz⟩ : ∃ z, costD pr = z := ⟨_, rfl⟩
  rw [hz] at HCO ⊢
  have g3 : (w.alloc (.cells #[.string (B nm), .int .i64 pd, .int .i64 dl, .int .i64 bu, .slice pa pr.length pc] 70)).cell? ⟨w.heap.size, 3, none⟩ = some (.int .i64 bu) := HB.out.cell 3 (by simp)
  have g4 : (w.alloc (.cells #[.string (B nm), .int .i64 pd, .int .i64 dl, .int .i64 bu, .slice pa pr.length pc] 70)).cell? ⟨w.heap.size, 4, none⟩ = some (.slice pa pr.length pc) := HB.out.cell 4 (by simp)
  clear hz hTP hA hk
  go_enter Tryd.func38, Tryd.ntmps38
  go_wp2_with fail
  go_region_held3 (fun w' => w'.cell? ⟨w.heap.size, 3, none⟩ = some (.int .i64 bu) ∧ w'.cell? ⟨w.heap.size, 4, none⟩ = some (.slice pa pr.length pc)) (go_keep) (first | (go_at_call 14; refine (HCO.out _ K0.drew).mono ?_; rintro e w14 ⟨rfl, t14⟩; have K14 := ((Kept.refl _).drew).trans t14; have z3 := K14.cell g3; have z4 := K14.cell g4; have KW := K0.drew.trans t14) | fail)
  go_wp2_with fail
  go_ret
  exact ⟨rfl, KW⟩

set_option maxHeartbeats 4000000 in
theorem swaits_any (L : Int) (ca ta : Option Addr) (cc tc nc : Nat) (ts : List TaskD) (w : World) (hr : Rdy w) (hA : AtT w ta ts) (hok : TsOk ts) (hl : ts.length ≤ 100000) :
    Calls Tryd.prog 36 #[.agg #[.int .i64 L, .slice ca nc cc, .slice ta ts.length tc]] w fun e w' => e = .returned (.bool (anyT ts)) ∧ Kept w w' := by
  have HR : Hid (Rdy w) := hr
  have HA : Hid (AtT w ta ts) := hA
  have HO : Hid (TsOk ts) := hok
  clear hA hr hok
  have K0 := (Kept.refl w).alloc (.cells #[.int .i64 L, .slice ca nc cc, .slice ta ts.length tc] 58)
  go_enter Tryd.func36, Tryd.ntmps36
  go_wp2_with fail
  go_step3
  go_wp2_with fail
  go_step3
  go_wp2_with fail
  go_loopg [3, 9] ts.length (fun gk x3 i wr => ∃ j : Nat, i = .int .i64 j ∧ x3 = .bool false ∧ j + gk = ts.length ∧ Hid (anyT ts = anyT (ts.drop j)) ∧ Kept w wr)
  case atStart => exact ⟨0, rfl, rfl, by omega, (by show _ = _; rw [List.drop_zero]), K0⟩
  case round =>
    obtain ⟨j, rfl, rfl, hj, HE, K⟩ := hrel
    by_cases hjp : j < ts.length
    · obtain ⟨b, f, n1, pd, dl, bu, pr, pa, pc, rfl, hpj, g0, g1, g2, g3, g4, hpc, hat, hbl, hdr⟩ := (HA.out.kept K).get j hjp
      have b1 : (j : Int) < (ts.length : Int) := by omega
      have b2 : (0 : Int) ≤ (j : Int) := by omega
      have KB := K.alloc (.cells #[.string (B n1), .int .i64 pd, .int .i64 dl, .int .i64 bu, .slice pa pr.length pc] 70)
      have KA := (Kept.refl wr).alloc (.cells #[.string (B n1), .int .i64 pd, .int .i64 dl, .int .i64 bu, .slice pa pr.length pc] 70)
      have hok1 := HO.out _ (List.mem_of_getElem? hpj)
      have hct := contains_any pa pc pr _ (HR.out.kept KB) (hat.kept KA) hok1.2.1
      have HE2 : Hid (anyT ts = if anyW pr = true then true else anyT (ts.drop (j + 1))) := by show _ = _; rw [HE.out, hdr, anyT]
      obtain ⟨g3', rfl⟩ : ∃ g, gk = g + 1 := ⟨gk - 1, by omega⟩
      clear hpj hat hdr HE hok1
      cases hq : anyW pr with
      | true =>
        rw [hq] at hct
        have HZ : Hid (anyT ts = true) := by show _ = _; rw [HE2.out, if_pos hq]
        clear HE2 hq
        go_wp2_with fail
        refine hct.mono ?_
        rintro e w2 ⟨rfl, t2⟩
        go_wp2_with fail
        try rw [Exit.noGoto_ret]
        go_ret
        rw [HZ.out]
        exact ⟨rfl, KB.trans t2⟩
      | false =>
        rw [hq] at hct
        have HZ : Hid (anyT ts = anyT (ts.drop (j + 1))) := by show _ = _; rw [HE2.out, if_neg (by rw [hq]; simp)]
        clear HE2 hq
        go_wp2_with fail
        refine hct.mono ?_
        rintro e w2 ⟨rfl, t2⟩
        go_wp2_with fail
        go_roundg g3'
        case rel => exact ⟨j + 1, by go_num, rfl, by omega, HZ, KB.trans t2⟩
        case measure => omega
    · have b1 : ¬ (j : Int) < (ts.length : Int) := by omega
      have HZ : Hid (anyT ts = false) := by show _ = _; rw [HE.out, List.drop_eq_nil_of_le (by omega)]; rfl
      go_wp2_with fail
      try rw [Exit.noGoto_ret]
      go_ret
      rw [HZ.out]
      exact ⟨rfl, K⟩
end Go.Proofs.YtolljdomnohmdaaDoor
