/- SetNumbers, walked. -/
import Derived.Test.YtockpcoegdaipaaDoorSkn
import Derived.Test.YtockpcoegdaipaaDoorLkP
namespace Go.Proofs.YtockpcoegdaipaaDoor
open Go.RowKit

theorem one_at {Bd : Nat} {w : World} {g : Nat} {n1 : List UInt8} {x1 x2 x3 : Int} {a1 : Option Addr} {c1 : Nat} {p1 : List OpD} (h : Box Bd w 76 g [.string (B n1), .int .i64 x1, .int .i64 x2, .int .i64 x3, .slice a1 p1.length c1]) (h1 : AtP w a1 p1) (l1 : p1.length ≤ c1) :
    AtT w (some ⟨g, 0, none⟩) [⟨n1, x1, x2, x3, p1⟩] := by
  intro j t hj
  refine ⟨g, 0, rfl, ?_⟩
  match j, hj with
  | 0, hj =>
    obtain rfl := Option.some.inj hj
    exact ⟨h.cell 0 (by simp), h.cell 1 (by simp), h.cell 2 (by simp), h.cell 3 (by simp), a1, c1, h.cell 4 (by simp), l1, h1⟩
  | j + 1, hj => simp at hj
theorem run_ck {x : Int} (hx : 1 ≤ x ∧ x ≤ 1000) : checkP [oRun x] = (0, 0) := by
  refine bal_check (f := [oRun x]) (.one (m1 := 0) (by simp [oRun]) (by simp [oRun]) run_run (.nil _ _)) (by simp) (fun o ho => ?_) (by simp)
  simp at ho
  subst ho
  exact nrun hx.1 hx.2
theorem run_cost (x : Int) : costD [oRun x] = x := by simp [costD, timesGo, costs, sumL, oRun]
theorem num_check {pd dl bu x : Int} (hx : 1 ≤ x ∧ x ≤ 1000) : checkS 0 [] [⟨[97], pd, dl, bu, [oRun x]⟩] = (0, if timesB ⟨[97], pd, dl, bu, [oRun x]⟩ = true then 0 else 1) := by
  have hn : nameB [97] = true := by decide +kernel
  have hf : findGo [97] 0 [(⟨[97], pd, dl, bu, [oRun x]⟩ : TaskD)] = (0, true) := by simp [findGo]
  have hh : hasAllB 0 0 [oRun x] = true := by simp [hasAllB, hasB, oRun]
  have ht : taskE 0 0 [⟨[97], pd, dl, bu, [oRun x]⟩] 0 ⟨[97], pd, dl, bu, [oRun x]⟩ = if timesB ⟨[97], pd, dl, bu, [oRun x]⟩ = true then 0 else 1 := by
    unfold taskE
    simp [hn, hf, run_ck hx, run_cost, hh, show ¬ x = 0 by omega]
  unfold checkS
  rw [if_neg (by omega), if_neg (by simp), if_pos (show chansE _ [] = 0 from rfl)]
  show tasksGo 0 0 [_] 0 [_] = _
  rw [tasksGo, ht]
  cases timesB ⟨[97], pd, dl, bu, [oRun x]⟩ <;> simp [tasksGo]

set_option maxHeartbeats 8000000 in
set_option maxRecDepth 20000 in
theorem numbers_law (pd dl bu n : Int) (hp0 : -9223372036854775808 ≤ pd) (hp1 : pd ≤ 9223372036854775807) (hd0 : -9223372036854775808 ≤ dl) (hd1 : dl ≤ 9223372036854775807) (hb0 : -9223372036854775808 ≤ bu) (hb1 : bu ≤ 9223372036854775807) (hn0 : 0 ≤ n) (hn1 : n ≤ 255) (w : World) (hr : Rdy w) : Calls Tryd.prog 8 #[.int .i64 pd, .int .i64 dl, .int .i64 bu, .int .u8 n] w fun e w' => e = .returned (.bool true) ∧ Kept w w' := by
  have HR : Hid (Rdy w) := hr
  clear hr
  obtain ⟨x, hx⟩ : ∃ x, 1 + n = x := ⟨_, rfl⟩
  have HX : Hid (1 ≤ x ∧ x ≤ 1000) := ⟨by omega, by omega⟩
  go_enter Tryd.func8, Tryd.ntmps8
  go_wp2_with fail
  refine (sknown_true w HR.out).mono ?_
  rintro e w1 ⟨rfl, K1⟩
  have K3 : Kept w (((w1.alloc (.cells #[.int .i64 1, .int .i64 x, .int .i64 0, .int .i64 0, .slice none 0 0] 52)).alloc (.cells #[.string { data := #[97] }, .int .i64 pd, .int .i64 dl, .int .i64 bu, .slice (some ⟨w1.heap.size, 0, none⟩) 1 1] 76)).alloc (.cells #[.string { data := #[97] }, .int .i64 pd, .int .i64 dl, .int .i64 bu, .slice (some ⟨w1.heap.size, 0, none⟩) 1 1] 76)) := ((K1.alloc _).alloc _).alloc _
  have HP : Hid (AtP (((w1.alloc (.cells #[.int .i64 1, .int .i64 x, .int .i64 0, .int .i64 0, .slice none 0 0] 52)).alloc (.cells #[.string { data := #[97] }, .int .i64 pd, .int .i64 dl, .int .i64 bu, .slice (some ⟨w1.heap.size, 0, none⟩) 1 1] 76)).alloc (.cells #[.string { data := #[97] }, .int .i64 pd, .int .i64 dl, .int .i64 bu, .slice (some ⟨w1.heap.size, 0, none⟩) 1 1] 76)) (some ⟨w1.heap.size, 0, none⟩) [oRun x]) := (lit_ops w1 [oRun x] (by simp [oRun]) #[.int .i64 1, .int .i64 x, .int .i64 0, .int .i64 0, .slice none 0 0] rfl).kept (((Kept.refl _).alloc _).alloc _)
  have HT : Hid (Box w1.heap.size (((w1.alloc (.cells #[.int .i64 1, .int .i64 x, .int .i64 0, .int .i64 0, .slice none 0 0] 52)).alloc (.cells #[.string { data := #[97] }, .int .i64 pd, .int .i64 dl, .int .i64 bu, .slice (some ⟨w1.heap.size, 0, none⟩) 1 1] 76)).alloc (.cells #[.string { data := #[97] }, .int .i64 pd, .int .i64 dl, .int .i64 bu, .slice (some ⟨w1.heap.size, 0, none⟩) 1 1] 76)) 76 (w1.heap.size + 1) [.string (B [97]), .int .i64 pd, .int .i64 dl, .int .i64 bu, .slice (some ⟨w1.heap.size, 0, none⟩) 1 1]) := by
    have h := box_new w1.heap.size (w1.alloc (.cells #[.int .i64 1, .int .i64 x, .int .i64 0, .int .i64 0, .slice none 0 0] 52)) 76 [.string { data := #[97] }, .int .i64 pd, .int .i64 dl, .int .i64 bu, .slice (some ⟨w1.heap.size, 0, none⟩) 1 1] (by simp) (by simp)
    rw [show (w1.alloc (.cells #[.int .i64 1, .int .i64 x, .int .i64 0, .int .i64 0, .slice none 0 0] 52)).heap.size = w1.heap.size + 1 by simp] at h
    exact h.kept ((Kept.refl _).alloc _)
  have HB : Hid (Box w1.heap.size (((w1.alloc (.cells #[.int .i64 1, .int .i64 x, .int .i64 0, .int .i64 0, .slice none 0 0] 52)).alloc (.cells #[.string { data := #[97] }, .int .i64 pd, .int .i64 dl, .int .i64 bu, .slice (some ⟨w1.heap.size, 0, none⟩) 1 1] 76)).alloc (.cells #[.string { data := #[97] }, .int .i64 pd, .int .i64 dl, .int .i64 bu, .slice (some ⟨w1.heap.size, 0, none⟩) 1 1] 76)) 76 (w1.heap.size + 1 + 1) [.string (B [97]), .int .i64 pd, .int .i64 dl, .int .i64 bu, .slice (some ⟨w1.heap.size, 0, none⟩) 1 1]) := by
    have h := box_new w1.heap.size ((w1.alloc (.cells #[.int .i64 1, .int .i64 x, .int .i64 0, .int .i64 0, .slice none 0 0] 52)).alloc (.cells #[.string { data := #[97] }, .int .i64 pd, .int .i64 dl, .int .i64 bu, .slice (some ⟨w1.heap.size, 0, none⟩) 1 1] 76)) 76 [.string { data := #[97] }, .int .i64 pd, .int .i64 dl, .int .i64 bu, .slice (some ⟨w1.heap.size, 0, none⟩) 1 1] (by simp; omega) (by simp)
    rw [show ((w1.alloc (.cells #[.int .i64 1, .int .i64 x, .int .i64 0, .int .i64 0, .slice none 0 0] 52)).alloc (.cells #[.string { data := #[97] }, .int .i64 pd, .int .i64 dl, .int .i64 bu, .slice (some ⟨w1.heap.size, 0, none⟩) 1 1] 76)).heap.size = w1.heap.size + 1 + 1 by simp] at h
    exact h
  have hck := scheck_any 0 none (some ⟨w1.heap.size + 1 + 1, 0, none⟩) 0 1 [] [⟨[97], pd, dl, bu, [oRun x]⟩] _ (HR.out.kept K3) (AtH.nil _ _) (one_at (p1 := [oRun x]) HB.out HP.out (by simp)) (tw_ok (fun t ht => by simp at ht; subst ht; simp [oRun])) (by simp) (by simp)
  rw [num_check HX.out, show ([] : List ChanD).length = 0 from rfl, show ([⟨[97], pd, dl, bu, [oRun x]⟩] : List TaskD).length = 1 from rfl] at hck
  have HTI : Hid (timesB ⟨[97], pd, dl, bu, [oRun x]⟩ = (decide (pd ≤ 1099511627776) && decide (dl ≤ pd) && decide (bu ≤ dl) && decide (1 ≤ bu))) := rfl
  by_cases h1 : pd ≥ 1
  rotate_left
  · have HTT : Hid (timesB ⟨[97], pd, dl, bu, [oRun x]⟩ = false) := by
      show _ = _
      rw [HTI.out]
      cases hq : (decide (pd ≤ 1099511627776) && decide (dl ≤ pd) && decide (bu ≤ dl) && decide (1 ≤ bu)) with
      | false => rfl
      | true => simp at hq; omega
    rw [HTT.out, if_neg (by simp)] at hck
    clear HTT HTI
    have dd : decide (pd ≥ 1) = false := decide_eq_false h1
    go_wp2_with fail
    refine hck.mono ?_
    rintro e w4 ⟨rfl, t4⟩
    go_wp2_with fail
    go_ret
    exact ⟨rfl, K3.trans t4⟩
  by_cases h2 : pd ≤ 1099511627776
  rotate_left
  · have HTT : Hid (timesB ⟨[97], pd, dl, bu, [oRun x]⟩ = false) := by
      show _ = _
      rw [HTI.out]
      cases hq : (decide (pd ≤ 1099511627776) && decide (dl ≤ pd) && decide (bu ≤ dl) && decide (1 ≤ bu)) with
      | false => rfl
      | true => simp at hq; omega
    rw [HTT.out, if_neg (by simp)] at hck
    clear HTT HTI
    have dd : decide (pd ≤ 1099511627776) = false := decide_eq_false h2
    go_wp2_with fail
    refine hck.mono ?_
    rintro e w4 ⟨rfl, t4⟩
    go_wp2_with fail
    go_ret
    exact ⟨rfl, K3.trans t4⟩
  by_cases h3 : dl ≥ 1
  rotate_left
  · have HTT : Hid (timesB ⟨[97], pd, dl, bu, [oRun x]⟩ = false) := by
      show _ = _
      rw [HTI.out]
      cases hq : (decide (pd ≤ 1099511627776) && decide (dl ≤ pd) && decide (bu ≤ dl) && decide (1 ≤ bu)) with
      | false => rfl
      | true => simp at hq; omega
    rw [HTT.out, if_neg (by simp)] at hck
    clear HTT HTI
    have dd : decide (dl ≥ 1) = false := decide_eq_false h3
    go_wp2_with fail
    refine hck.mono ?_
    rintro e w4 ⟨rfl, t4⟩
    go_wp2_with fail
    go_ret
    exact ⟨rfl, K3.trans t4⟩
  by_cases h4 : dl ≤ pd
  rotate_left
  · have HTT : Hid (timesB ⟨[97], pd, dl, bu, [oRun x]⟩ = false) := by
      show _ = _
      rw [HTI.out]
      cases hq : (decide (pd ≤ 1099511627776) && decide (dl ≤ pd) && decide (bu ≤ dl) && decide (1 ≤ bu)) with
      | false => rfl
      | true => simp at hq; omega
    rw [HTT.out, if_neg (by simp)] at hck
    clear HTT HTI
    have dd : decide (dl ≤ pd) = false := decide_eq_false h4
    go_wp2_with fail
    refine hck.mono ?_
    rintro e w4 ⟨rfl, t4⟩
    go_wp2_with fail
    go_ret
    exact ⟨rfl, K3.trans t4⟩
  by_cases h5 : bu ≥ 1
  rotate_left
  · have HTT : Hid (timesB ⟨[97], pd, dl, bu, [oRun x]⟩ = false) := by
      show _ = _
      rw [HTI.out]
      cases hq : (decide (pd ≤ 1099511627776) && decide (dl ≤ pd) && decide (bu ≤ dl) && decide (1 ≤ bu)) with
      | false => rfl
      | true => simp at hq; omega
    rw [HTT.out, if_neg (by simp)] at hck
    clear HTT HTI
    have dd : decide (bu ≥ 1) = false := decide_eq_false h5
    go_wp2_with fail
    refine hck.mono ?_
    rintro e w4 ⟨rfl, t4⟩
    go_wp2_with fail
    go_ret
    exact ⟨rfl, K3.trans t4⟩
  by_cases h6 : bu ≤ dl
  rotate_left
  · have HTT : Hid (timesB ⟨[97], pd, dl, bu, [oRun x]⟩ = false) := by
      show _ = _
      rw [HTI.out]
      cases hq : (decide (pd ≤ 1099511627776) && decide (dl ≤ pd) && decide (bu ≤ dl) && decide (1 ≤ bu)) with
      | false => rfl
      | true => simp at hq; omega
    rw [HTT.out, if_neg (by simp)] at hck
    clear HTT HTI
    have dd : decide (bu ≤ dl) = false := decide_eq_false h6
    go_wp2_with fail
    refine hck.mono ?_
    rintro e w4 ⟨rfl, t4⟩
    go_wp2_with fail
    go_ret
    exact ⟨rfl, K3.trans t4⟩
  have HTT : Hid (timesB ⟨[97], pd, dl, bu, [oRun x]⟩ = true) := by show _ = _; rw [HTI.out]; simp; omega
  rw [HTT.out, if_pos rfl] at hck
  clear HTT HTI
  go_wp2_with fail
  refine hck.mono ?_
  rintro e w4 ⟨rfl, t4⟩
  have HT4 := HT.out.kept t4
  have y0 : w4.cell? ⟨w1.heap.size + 1, 0, none⟩ = some (.string (B [97])) := HT4.cell 0 (by simp)
  have y1 : w4.cell? ⟨w1.heap.size + 1, 1, none⟩ = some (.int .i64 pd) := HT4.cell 1 (by simp)
  have y2 : w4.cell? ⟨w1.heap.size + 1, 2, none⟩ = some (.int .i64 dl) := HT4.cell 2 (by simp)
  have y3 : w4.cell? ⟨w1.heap.size + 1, 3, none⟩ = some (.int .i64 bu) := HT4.cell 3 (by simp)
  have y4 : w4.cell? ⟨w1.heap.size + 1, 4, none⟩ = some (.slice (some ⟨w1.heap.size, 0, none⟩) 1 1) := HT4.cell 4 (by simp)
  have hne := need_any [97] pd dl bu [oRun x] (some ⟨w1.heap.size, 0, none⟩) 1 w4 (HP.out.kept t4) (run_ck HX.out)
  rw [run_cost, Int.min_comm, show ([oRun x] : List OpD).length = 1 from rfl] at hne
  clear hck HT4
  go_wp2_with fail
  refine hne.mono ?_
  rintro e w5 ⟨rfl, t5⟩
  go_wp2_with fail
  go_ret
  exact ⟨rfl, (K3.trans t4).trans t5⟩
end Go.Proofs.YtockpcoegdaipaaDoor
