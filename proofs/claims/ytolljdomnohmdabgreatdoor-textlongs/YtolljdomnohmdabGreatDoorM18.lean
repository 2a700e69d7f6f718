/- The reader: a task more. -/
import Derived.Test.YtolljdomnohmdabGreatDoorM17
namespace Go.Proofs.YtolljdomnohmdabGreatDoor
open Go.RowKit Go.Shelf

def firstE : List Int → Int
  | [] => 0
  | e :: r => if e = 0 then firstE r else e
theorem task_else (s : RdD) (ws : List (List UInt8)) (h : ws.length ≠ 5) : addTaskD s ws = (s, 2) := by
  match ws, h with
  | [], _ => rfl
  | [_], _ => rfl
  | [_, _], _ => rfl
  | [_, _, _], _ => rfl
  | [_, _, _, _], _ => rfl
  | [_, _, _, _, _], h => simp at h
  | _ :: _ :: _ :: _ :: _ :: _ :: _, _ => rfl
theorem task_five (s : RdD) (x nm a b c : List UInt8) : addTaskD s [x, nm, a, b, c] = if firstE [(numOf a).2, (numOf b).2, (numOf c).2] = 0 then (⟨s.L, s.bg, s.cs, s.ts ++ [⟨nm, (numOf a).1, (numOf b).1, (numOf c).1, []⟩]⟩, 0) else (s, firstE [(numOf a).2, (numOf b).2, (numOf c).2]) := by
  by_cases h1 : (numOf a).2 = 0 <;> by_cases h2 : (numOf b).2 = 0 <;> by_cases h3 : (numOf c).2 = 0 <;> simp [addTaskD, firstE, h1, h2, h3]
set_option maxHeartbeats 8000000 in
set_option maxRecDepth 20000 in
theorem taskAdd_any (w0 : World) (rb : Nat) (s : RdD) (ws : List (List UInt8)) (n c : Nat) (ad : Option Addr) (w : World) (hr : Rdy w) (K0 : Kept w0 w) (hn : n = ws.length) (hnc : n ≤ c) (hA : At w ad n ws) (hb : ∀ x ∈ ws, x.length ≤ 1000) (hS : RSx w0 rb w s) (hts : s.ts.length ≤ 100) :
    Calls Tryz.prog 49 #[.pointer (some ⟨rb, 0, none⟩), .slice ad n c] w fun e w' => e = .returned (.int .i64 (addTaskD s ws).2) ∧ Kept w0 w' ∧ RSx w0 rb w' (addTaskD s ws).1 := by
  have HS : Hid (RSx w0 rb w s) := hS
  have HR : Hid (Rdy w) := hr
  clear hS hr
  by_cases h2 : n = 5
  rotate_left
  · have hne : ((n : Int) != 5) = true := by simp; omega
    have HW : Hid (addTaskD s ws = (s, 2)) := task_else s ws (by omega)
    clear hA hb
    go_enter Tryz.func49, Tryz.ntmps49
    go_wp2_with fail
    go_step3
    go_wp2_with fail
    try rw [Exit.noGoto_ret]
    go_ret
    rw [HW.out]
    exact ⟨rfl, K0, HS.out⟩
  subst h2
  obtain ⟨x, nm, ya, yb, yc, rfl⟩ : ∃ x nm a b c, ws = [x, nm, a, b, c] := by
    match ws, hn with
    | [x, nm, a, b, c], _ => exact ⟨x, nm, a, b, c, rfl⟩
  obtain ⟨b0, f0, rfl, g1⟩ := hA.word 1 nm rfl
  have HA2 : Hid (At w (some ⟨b0, f0 + 2, none⟩) 3 [ya, yb, yc]) := hA.drop 2 (by omega)
  obtain ⟨ys, hys⟩ : ∃ ys, [ya, yb, yc] = ys := ⟨_, rfl⟩
  obtain ⟨T, hT⟩ : ∃ T, ys.map (fun y => (numOf y).1) = T := ⟨_, rfl⟩
  obtain ⟨E, hE⟩ : ∃ E, ys.map (fun y => (numOf y).2) = E := ⟨_, rfl⟩
  have HTT : Hid (T = [(numOf ya).1, (numOf yb).1, (numOf yc).1]) := by show _ = _; rw [← hT, ← hys]; rfl
  have HV : Hid (addTaskD s [x, nm, ya, yb, yc] = if firstE E = 0 then (⟨s.L, s.bg, s.cs, s.ts ++ [⟨nm, (numOf ya).1, (numOf yb).1, (numOf yc).1, []⟩]⟩, 0) else (s, firstE E)) := by show _ = _; rw [task_five, ← hE, ← hys]; rfl
  have HB : Hid (∀ y ∈ ys, y.length ≤ 1000) := by intro y hy; rw [← hys] at hy; exact hb y (by simp at hy ⊢; rcases hy with rfl | rfl | rfl <;> simp)
  have hyl : ys.length = 3 := by rw [← hys]; rfl
  have hTl : T.length = 3 := by rw [← hT, List.length_map, hyl]
  rw [hys] at HA2
  have KA := (Kept.refl w).alloc (.cells #[.int .i64 0, .int .i64 0, .int .i64 0] 113)
  have HB0 : Hid (Box w.heap.size (w.alloc (.cells #[.int .i64 0, .int .i64 0, .int .i64 0] 113)) 113 w.heap.size ((fillTo T 0).map intV)) := by
    have h := box_new w.heap.size w 113 [.int .i64 0, .int .i64 0, .int .i64 0] (Nat.le_refl _) (by simp)
    have e : (fillTo T 0).map intV = [.int .i64 0, .int .i64 0, .int .i64 0] := by unfold fillTo; rw [hTl]; rfl
    show Box _ _ _ _ _
    rw [e]
    exact h
  have HFE : Hid (firstE E = firstE (E.drop 0)) := rfl
  clear hA hb hn hys
  go_enter Tryz.func49, Tryz.ntmps49
  go_wp2_with fail
  go_step3
  go_wp2_with fail
  go_step3
  go_wp2_with fail
  go_loopg [6, 16] 3 (fun gk es is wr => ∃ (i : Nat) (W : World), W = wr ∧ es = .int .i64 0 ∧ is = .int .i64 i ∧ i + gk = 3 ∧ Hid (firstE E = firstE (E.drop i)) ∧ Hid (Box w.heap.size W 113 w.heap.size ((fillTo T i).map intV)) ∧ Kept w W)
  case atStart => exact ⟨0, _, rfl, rfl, rfl, by omega, HFE, HB0, KA⟩
  case round =>
    obtain ⟨i, W, hW, rfl, rfl, hi, HF, HX, K⟩ := hrel
    subst hW
    by_cases hin : i < 3
    · have b1 : (i : Int) < 3 := by omega
      have b2 : (0 : Int) ≤ (i : Int) := by omega
      obtain ⟨gm, rfl⟩ : ∃ g, gk = g + 1 := ⟨gk - 1, by omega⟩
      obtain ⟨y, hy⟩ : ∃ y, ys[i]? = some y := ⟨_, List.getElem?_eq_getElem (by omega)⟩
      obtain ⟨b1', f1', e9, u1⟩ := HA2.out.word i y hy
      cases e9
      have u2 := K.cell u1
      have hnu := number_any y (by have := HB.out y (List.mem_of_getElem? hy); omega) W (HR.out.kept K)
      have hTd : T.drop i = (numOf y).1 :: T.drop (i + 1) := by
        have : T[i]? = some (numOf y).1 := by rw [← hT, List.getElem?_map, hy]; rfl
        exact List.drop_eq_getElem?_toList_append.trans (by rw [this]; rfl)
      have hEd : E.drop i = (numOf y).2 :: E.drop (i + 1) := by
        have : E[i]? = some (numOf y).2 := by rw [← hE, List.getElem?_map, hy]; rfl
        exact List.drop_eq_getElem?_toList_append.trans (by rw [this]; rfl)
      obtain ⟨q1, hq1⟩ : ∃ q, (numOf y).1 = q := ⟨_, rfl⟩
      obtain ⟨q2, hq2⟩ : ∃ q, (numOf y).2 = q := ⟨_, rfl⟩
      rw [hq1, hq2] at hnu
      rw [hq1] at hTd
      rw [hq2] at hEd
      have HFN : Hid (firstE E = if q2 = 0 then firstE (E.drop (i + 1)) else q2) := by show _ = _; rw [HF.out, hEd]; rfl
      have HTD : Hid (T.drop i = q1 :: T.drop (i + 1)) := hTd
      clear hq1 hq2 hTd hEd hy u1
      go_wp2_with fail
      refine hnu.mono ?_
      rintro e w1 ⟨rfl, K1⟩
      have B1 := HX.out.kept K1
      have z1 := B1.frozen i
      have z2 : w1.cell? ⟨w.heap.size, i, none⟩ = some (.int .i64 0) := by
        rw [B1.cell i (by rw [List.length_map, fill_len T i (by omega)]; omega), List.getElem?_map, fill_get (by omega)]
        rfl
      have HBN : Hid (Box w.heap.size (w1.setCell ⟨w.heap.size, i, none⟩ (.int .i64 q1)) 113 w.heap.size ((fillTo T (i + 1)).map intV)) := by
        have h := B1.set i (.int .i64 q1)
        rw [show (Value.int .i64 q1) = intV q1 from rfl, ← List.map_set, fill_set HTD.out] at h
        exact h
      have KN : Kept w (w1.setCell ⟨w.heap.size, i, none⟩ (.int .i64 q1)) := (turn_set w1 w.heap.size i _).kept (K.trans K1) (fun i e => by rw [e]; exact Nat.le_refl _)
      clear hnu B1 u2
      by_cases hq : q2 = 0
      · subst hq
        have HFX : Hid (firstE E = firstE (E.drop (i + 1))) := by show _ = _; rw [HFN.out, if_pos rfl]
        go_wp2_with fail
        go_roundg gm
        case rel => exact ⟨i + 1, _, rfl, rfl, by go_num, by omega, HFX, HBN, KN⟩
        case measure => omega
      · have hne : (q2 != 0) = true := by simpa using hq
        have HW : Hid (addTaskD s [x, nm, ya, yb, yc] = (s, q2)) := by show _ = _; rw [HV.out, HFN.out, if_neg hq, if_neg hq]
        go_wp2_with fail
        try rw [Exit.noGoto_ret]
        go_ret
        rw [HW.out]
        exact ⟨rfl, K0.trans KN, HS.out.kept KN⟩
    · have b1 : ¬ (i : Int) < 3 := by omega
      have hi3 : i = 3 := by omega
      subst hi3
      have HW : Hid (addTaskD s [x, nm, ya, yb, yc] = (⟨s.L, s.bg, s.cs, s.ts ++ [⟨nm, (numOf ya).1, (numOf yb).1, (numOf yc).1, []⟩]⟩, 0)) := by
        have e : E.drop 3 = [] := List.drop_eq_nil_of_le (by rw [← hE, List.length_map, hyl]; exact Nat.le_refl _)
        show _ = _
        rw [HV.out, HF.out, e]
        rfl
      have HX3 : Hid (Box w.heap.size W 113 w.heap.size [.int .i64 (numOf ya).1, .int .i64 (numOf yb).1, .int .i64 (numOf yc).1]) := by
        have h := HX.out
        have e : (fillTo T 3).map intV = [.int .i64 (numOf ya).1, .int .i64 (numOf yb).1, .int .i64 (numOf yc).1] := by
          unfold fillTo
          rw [HTT.out]
          rfl
        rw [e] at h
        exact h
      clear HV HF HX HTT
      obtain ⟨va, hva⟩ : ∃ v, (numOf ya).1 = v := ⟨_, rfl⟩
      obtain ⟨vb, hvb⟩ : ∃ v, (numOf yb).1 = v := ⟨_, rfl⟩
      obtain ⟨vc, hvc⟩ : ∃ v, (numOf yc).1 = v := ⟨_, rfl⟩
      rw [hva, hvb, hvc] at HW HX3
      clear hva hvb hvc
      have x0 : W.cell? ⟨w.heap.size, 0, none⟩ = some (.int .i64 va) := HX3.out.cell 0 (by simp)
      have x1 : W.cell? ⟨w.heap.size, 1, none⟩ = some (.int .i64 vb) := HX3.out.cell 1 (by simp)
      have x2 : W.cell? ⟨w.heap.size, 2, none⟩ = some (.int .i64 vc) := HX3.out.cell 2 (by simp)
      have g2 := K.cell g1
      go_wp2_with fail
      go_region_held3 (fun w' => w'.cell? ⟨w.heap.size, 0, none⟩ = some (.int .i64 va) ∧ w'.cell? ⟨w.heap.size, 1, none⟩ = some (.int .i64 vb) ∧ w'.cell? ⟨w.heap.size, 2, none⟩ = some (.int .i64 vc) ∧ w'.cell? ⟨b0, f0 + 1, none⟩ = some (.string (B nm))) (go_keep) (fail)
      all_goals go_wp2_with fail
      have KQ : Kept W ((W.alloc (.cells #[.string (B nm), .int .i64 va, .int .i64 vb, .int .i64 vc, .slice none 0 0] 33)).drew.drew) := ((Kept.refl W).alloc (.cells #[.string (B nm), .int .i64 va, .int .i64 vb, .int .i64 vc, .slice none 0 0] 33)).drew.drew
      have BQ : Box W.heap.size ((W.alloc (.cells #[.string (B nm), .int .i64 va, .int .i64 vb, .int .i64 vc, .slice none 0 0] 33)).drew.drew) 33 W.heap.size [.string (B nm), .int .i64 va, .int .i64 vb, .int .i64 vc, .slice none 0 0] := (box_new W.heap.size W 33 [.string (B nm), .int .i64 va, .int .i64 vb, .int .i64 vc, .slice none 0 0] (Nat.le_refl _) (by simp)).kept ((Kept.refl (W.alloc (.cells #[.string (B nm), .int .i64 va, .int .i64 vb, .int .i64 vc, .slice none 0 0] 33))).drew.drew)
      obtain ⟨hv, tv, pvs, Bp, R0⟩ := HS.out
      have HQ : Hid (RS w0.heap.size rb ((W.alloc (.cells #[.string (B nm), .int .i64 va, .int .i64 vb, .int .i64 vc, .slice none 0 0] 33)).drew.drew) s hv tv pvs Bp) := (R0.kept K).kept KQ
      have KW0 : Kept w0 ((W.alloc (.cells #[.string (B nm), .int .i64 va, .int .i64 vb, .int .i64 vc, .slice none 0 0] 33)).drew.drew) := K0.trans (K.trans KQ)
      have hBpW : Bp ≤ W.heap.size := (R0.kept K).hB.2
      have hrbl : rb < Bp := R0.lowr
      have HLT : Hid (∀ q, tv.ownBlock = some q → q < Bp ∧ q ≠ rb ∧ hv.ownBlock ≠ some q) := R0.lowt
      clear R0
      refine wp_region_S (by kernel_rfl) 12 (fun w' => w'.cell? ⟨rb, 2, none⟩ = some tv ∧ w'.cell? ⟨W.heap.size, 0, none⟩ = some (.string (B nm)) ∧ w'.cell? ⟨W.heap.size, 1, none⟩ = some (.int .i64 va) ∧ w'.cell? ⟨W.heap.size, 2, none⟩ = some (.int .i64 vb) ∧ w'.cell? ⟨W.heap.size, 3, none⟩ = some (.int .i64 vc) ∧ w'.cell? ⟨W.heap.size, 4, none⟩ = some (.slice none 0 0)) ?_
      generalize (W.alloc (.cells #[.string (B nm), .int .i64 va, .int .i64 vb, .int .i64 vc, .slice none 0 0] 33)).drew.drew = W0 at *
      have hS0 : W0.cell? ⟨rb, 2, none⟩ = some tv ∧ W0.cell? ⟨W.heap.size, 0, none⟩ = some (.string (B nm)) ∧ W0.cell? ⟨W.heap.size, 1, none⟩ = some (.int .i64 va) ∧ W0.cell? ⟨W.heap.size, 2, none⟩ = some (.int .i64 vb) ∧ W0.cell? ⟨W.heap.size, 3, none⟩ = some (.int .i64 vc) ∧ W0.cell? ⟨W.heap.size, 4, none⟩ = some (.slice none 0 0) := ⟨HQ.out.box.cell 2 (by simp), BQ.cell 0 (by simp), BQ.cell 1 (by simp), BQ.cell 2 (by simp), BQ.cell 3 (by simp), BQ.cell 4 (by simp)⟩
      refine wpAnyS_take (i := 0) (v := .pointer (some ⟨rb, 0, none⟩)) rfl (by kernel_rfl) (by kernel_rfl) (by kernel_rfl) (by kernel_rfl) (fun _ _ _ h => h) hS0 rfl (fun wx hx => by obtain ⟨s1, s2, s3, s4, s5, s6⟩ := hx; go_simp) ?_
      refine wpAnyS_take (i := 1) (v := .pointer (some ⟨rb, 0, none⟩)) rfl (by kernel_rfl) (by kernel_rfl) (by kernel_rfl) (by kernel_rfl) (fun _ _ _ h => h) hS0 rfl (fun wx hx => by obtain ⟨s1, s2, s3, s4, s5, s6⟩ := hx; go_simp) ?_
      refine wpAnyS_take (i := 2) (v := .pointer (some ⟨rb, 0, none⟩)) rfl (by kernel_rfl) (by kernel_rfl) (by kernel_rfl) (by kernel_rfl) (fun _ _ _ h => h) hS0 rfl (fun wx hx => by obtain ⟨s1, s2, s3, s4, s5, s6⟩ := hx; go_simp) ?_
      refine wpAnyS_take (i := 3) (v := .pointer (some ⟨rb, 0, none⟩)) rfl (by kernel_rfl) (by kernel_rfl) (by kernel_rfl) (by kernel_rfl) (fun _ _ _ h => h) hS0 rfl (fun wx hx => by obtain ⟨s1, s2, s3, s4, s5, s6⟩ := hx; go_simp) ?_
      refine wpAnyS_take (i := 4) (v := .pointer (some ⟨rb, 2, none⟩)) rfl (by kernel_rfl) (by kernel_rfl) (by kernel_rfl) (by kernel_rfl) (fun _ _ _ h => h) hS0 rfl (fun wx hx => by obtain ⟨s1, s2, s3, s4, s5, s6⟩ := hx; go_simp) ?_
      refine wpAnyS_take (i := 5) (v := tv) rfl (by kernel_rfl) (by kernel_rfl) (by kernel_rfl) (by kernel_rfl) (fun _ _ _ h => h) hS0 rfl (fun wx hx => by obtain ⟨s1, s2, s3, s4, s5, s6⟩ := hx; go_simp) ?_
      refine wpAnyS_take (i := 6) (v := .agg #[.string (B nm), .int .i64 va, .int .i64 vb, .int .i64 vc, .slice none 0 0]) rfl (by kernel_rfl) (by kernel_rfl) (by kernel_rfl) (by kernel_rfl) (fun _ _ _ h => h) hS0 rfl (fun wx hx => by obtain ⟨s1, s2, s3, s4, s5, s6⟩ := hx; go_simp) ?_
      refine wpAnyS_one (i := 7) rfl (by kernel_rfl) (fun KX hK => ?_)
      go_simp
      have A1 := (Kept.refl W0).alloc (.cells #[.string (B nm), .int .i64 va, .int .i64 vb, .int .i64 vc, .slice none 0 0] 33)
      refine hK _ _ (fun _ => ⟨A1.cell hS0.1, A1.cell hS0.2.1, A1.cell hS0.2.2.1, A1.cell hS0.2.2.2.1, A1.cell hS0.2.2.2.2.1, A1.cell hS0.2.2.2.2.2⟩) ?_
      clear hK KX A1
      refine wpAnyS_one (i := 8) rfl (by kernel_rfl) (fun KX hK => ?_)
      refine step_append_tk2 _ (by rfl) _ _ (by rfl) w0.heap.size tv s.ts pvs ⟨nm, va, vb, vc, []⟩ (.slice none 0 0) rfl _ rfl W0 (by rfl) (by rfl) W0.heap.size (by rfl) (by rfl) HQ.out.len HQ.out.trow (by omega) KW0.size ?_
      intro g5 c5 w5 R5 t5 hg5
      have B5 := HQ.out.box.turns t5 (fun e => (HLT.out rb e).2.1 rfl)
      have X5 := BQ.turns t5 (fun e => by have := (HLT.out _ e).1; omega)
      have K5 : Kept w0 w5 := t5.kept KW0 (fun q hq => (World.ownsRow.lt HQ.out.trow q hq).1)
      have y1 := B5.frozen 2
      have y2 : w5.cell? ⟨rb, 2, none⟩ = some tv := B5.cell 2 (by simp)
      have hS5 := And.intro y2 (And.intro (X5.cell 0 (by simp)) (And.intro (X5.cell 1 (by simp)) (And.intro (X5.cell 2 (by simp)) (And.intro (X5.cell 3 (by simp)) (X5.cell 4 (by simp))))))
      have HZ : Hid (RSx w0 rb (w5.setCell ⟨rb, 2, none⟩ (.slice (some ⟨g5, 0, none⟩) (s.ts.length + 1) c5)) ⟨s.L, s.bg, s.cs, s.ts ++ [⟨nm, va, vb, vc, []⟩]⟩) := ⟨_, _, _, _, HQ.out.task ⟨nm, va, vb, vc, []⟩ rfl g5 _ c5 rfl R5 t5 hg5⟩
      have K6 : Kept w0 (w5.setCell ⟨rb, 2, none⟩ (.slice (some ⟨g5, 0, none⟩) (s.ts.length + 1) c5)) := (turn_set w5 rb 2 _).kept K5 (fun i e => by rw [e]; exact B5.lt.1)
      refine hK _ _ (fun _ => hS5) ?_
      clear hK KX R5 t5 hg5 hS0 BQ KQ
      refine wpAnyS_one (i := 9) rfl (by kernel_rfl) (fun KX hK => ?_)
      go_simp
      refine hK _ _ (fun _ => hS5) ?_
      clear hK KX
      refine wpAnyS_one (i := 10) rfl (by kernel_rfl) (fun KX hK => ?_)
      go_simp
      refine hK _ _ (fun _ => hS5) ?_
      clear hK KX
      refine wpAnyS_one (i := 11) rfl (by kernel_rfl) (fun KX hK => ?_)
      go_simp
      refine hK _ _ (fun _ => hS5) ?_
      clear hK KX
      refine wpAnyS_one (i := 12) rfl (by kernel_rfl) (fun KX hK => ?_)
      go_simp
      refine hK _ _ (fun h => absurd rfl h) ?_
      clear hK KX
      refine wpAnyS_done (by kernel_rfl) ?_ _
      go_wp2_with fail
      try rw [Exit.noGoto_ret]
      go_ret
      rw [HW.out]
      exact ⟨rfl, K6, HZ.out⟩
end Go.Proofs.YtolljdomnohmdabGreatDoor
namespace Go.Proofs.YtolljdomnohmdabGreatDoor
open Go.RowKit Go.Shelf

theorem last_split {α : Type} (l : List α) (h : 0 < l.length) : ∃ a b, l = a ++ [b] := by
  induction l with
  | nil => simp at h
  | cons x r ih =>
    cases r with
    | nil => exact ⟨[], x, rfl⟩
    | cons y z =>
      obtain ⟨a, b, e⟩ := ih (by simp)
      exact ⟨x :: a, b, by rw [e]; rfl⟩
/-- The last task in memory. -/
theorem RS.last_at {B rb : Nat} {w : World} {s : RdD} {hv tv : Value} {pvs : List Value} {Bp : Nat} (h : RS B rb w s hv tv pvs Bp) (ts : List TaskD) (t : TaskD) (hts : s.ts = ts ++ [t]) : ∃ tb tc pr pv, tv = .slice (some ⟨tb, 0, none⟩) (ts.length + 1) tc ∧ pvs = pr ++ [pv] ∧ pr.length = ts.length ∧ w.cell? ⟨tb, ts.length * 5 + 4, none⟩ = some pv ∧ (∃ svs, ORow Bp w pv t.prog svs) ∧ w.frozen? ⟨tb, ts.length * 5 + 4, none⟩ = false := by
  have hl := h.len
  rw [hts, List.length_append] at hl
  obtain ⟨pr, pv, rfl⟩ := last_split pvs (by rw [hl]; simp)
  have hpl : pr.length = ts.length := by simpa using hl
  have hrow := h.trow
  have hj : s.ts[ts.length]? = some t := by rw [hts]; simp
  have hp : (pr ++ [pv])[ts.length]? = some pv := by rw [← hpl]; simp
  have hln : s.ts.length = ts.length + 1 := by rw [hts]; simp
  rcases hrow.2 with ⟨h1, h2⟩ | ⟨g, cap, cur, h1, hb, _⟩
  · omega
  · rw [hln] at h1
    have hrow2 := hrow
    rw [h1, hln] at hrow2
    refine ⟨g, cap, pr, pv, h1, rfl, hpl, ?_, h.last ts.length t pv hln.symm hj hp, hrow2.frozenAt _⟩
    rw [hrow2.cellAt (ts.length * 5 + 4) (by omega), flatT_get s.ts (pr ++ [pv]) ts.length 4 t pv hj hp (by omega)]
    rfl
set_option maxHeartbeats 8000000 in
set_option maxRecDepth 20000 in
theorem opAdd_any (w0 : World) (rb : Nat) (s : RdD) (line : List UInt8) (w : World) (hr : Rdy w) (K0 : Kept w0 w) (hl : line.length ≤ 1000) (hS : RSx w0 rb w s) (ts : List TaskD) (t : TaskD) (hts : s.ts = ts ++ [t]) (htl : ts.length ≤ 100) (hpl : t.prog.length ≤ 100) :
    Calls Tryz.prog 50 #[.pointer (some ⟨rb, 0, none⟩), .string (B line)] w fun e w' => e = .returned (.int .i64 (addOpD s line).2) ∧ Kept w0 w' ∧ RSx w0 rb w' (addOpD s line).1 := by
  have HS : Hid (RSx w0 rb w s) := hS
  have hpa := parse_any line hl w hr
  obtain ⟨⟨kd, n, v, wt, cl⟩, hq1⟩ : ∃ q, (parseD line).1 = q := ⟨_, rfl⟩
  obtain ⟨q2, hq2⟩ : ∃ q, (parseD line).2 = q := ⟨_, rfl⟩
  have HV : Hid (addOpD s line = if q2 = 0 then (⟨s.L, s.bg, s.cs, putOp s.ts ⟨kd, n, v, wt, cl⟩⟩, 0) else (s, q2)) := by show _ = _; rw [← hq1, ← hq2]; rfl
  rw [hq1, hq2] at hpa
  simp only at hpa
  have HT : Hid (s.ts = ts ++ [t]) := hts
  clear hS hr hq1 hq2 hts
  by_cases h0 : q2 = 0
  rotate_left
  · have hne : (q2 != 0) = true := by simpa using h0
    have HW : Hid (addOpD s line = (s, q2)) := by show _ = _; rw [HV.out, if_neg h0]
    go_enter Tryz.func50, Tryz.ntmps50
    go_wp2_with fail
    refine hpa.mono ?_
    rintro e w1 ⟨sv, rfl, C1, K1⟩
    obtain ⟨sa, sc, hsv, _, _⟩ := C1.at
    subst hsv
    have KA := K1.trans ((Kept.refl w1).alloc (.cells #[.int .i64 kd, .int .i64 n, .int .i64 v, .int .i64 wt, (.slice sa cl.length sc)] 37))
    clear hpa
    go_wp2_with fail
    go_ret
    rw [HW.out]
    exact ⟨rfl, K0.trans KA, HS.out.kept KA⟩
  subst h0
  have HW : Hid (addOpD s line = (⟨s.L, s.bg, s.cs, putOp s.ts ⟨kd, n, v, wt, cl⟩⟩, 0)) := by show _ = _; rw [HV.out, if_pos rfl]
  clear HV
  go_enter Tryz.func50, Tryz.ntmps50
  go_wp2_with fail
  refine hpa.mono ?_
  rintro e w1 ⟨sv, rfl, C1, K1⟩
  obtain ⟨sa, sc, hsv, _, _⟩ := C1.at
  subst hsv
  clear hpa
  obtain ⟨hv, tv, pvs, Bp, R0⟩ := HS.out
  obtain ⟨tb, tc, pr, pv, rfl, rfl, hprl, cpv, ⟨svs, O0⟩, _⟩ := R0.last_at ts t HT.out
  have KA := K1.trans ((Kept.refl w1).alloc (.cells #[.int .i64 kd, .int .i64 n, .int .i64 v, .int .i64 wt, (.slice sa cl.length sc)] 37))
  have RA := R0.kept KA
  have c2 : (w1.alloc (.cells #[.int .i64 kd, .int .i64 n, .int .i64 v, .int .i64 wt, (.slice sa cl.length sc)] 37)).cell? ⟨rb, 2, none⟩ = some (.slice (some ⟨tb, 0, none⟩) (ts.length + 1) tc) := RA.box.cell 2 (by simp)
  have hla := lastT_any rb tb ts.length tc (w1.alloc (.cells #[.int .i64 kd, .int .i64 n, .int .i64 v, .int .i64 wt, (.slice sa cl.length sc)] 37)) c2 htl
  have BX0 : Box w1.heap.size (w1.alloc (.cells #[.int .i64 kd, .int .i64 n, .int .i64 v, .int .i64 wt, (.slice sa cl.length sc)] 37)) 37 w1.heap.size [.int .i64 kd, .int .i64 n, .int .i64 v, .int .i64 wt, (.slice sa cl.length sc)] := box_new w1.heap.size w1 37 [.int .i64 kd, .int .i64 n, .int .i64 v, .int .i64 wt, (.slice sa cl.length sc)] (Nat.le_refl _) (by simp)
  have HCR : Hid (CRow 57 w.heap.size (w1.alloc (.cells #[.int .i64 kd, .int .i64 n, .int .i64 v, .int .i64 wt, (.slice sa cl.length sc)] 37)) (.slice sa cl.length sc) cl) := C1.kept ((Kept.refl w1).alloc _)
  have HQ0 : Hid (RS w0.heap.size rb (w1.alloc (.cells #[.int .i64 kd, .int .i64 n, .int .i64 v, .int .i64 wt, (.slice sa cl.length sc)] 37)) s hv (.slice (some ⟨tb, 0, none⟩) (ts.length + 1) tc) (pr ++ [pv]) Bp) := RA
  have HOR : Hid (ORow Bp (w1.alloc (.cells #[.int .i64 kd, .int .i64 n, .int .i64 v, .int .i64 wt, (.slice sa cl.length sc)] 37)) pv t.prog svs) := O0.kept KA
  have HOL : Hid (∀ q, pv.ownBlock = some q → Bp ≤ q ∧ q < w.heap.size) := fun q hq => O0.lt q hq
  have hBp : Bp ≤ w.heap.size := R0.hB.2
  have hws : w.heap.size ≤ w1.heap.size := K1.size
  have c4 := KA.cell cpv
  clear C1 R0 O0 cpv RA K1
  go_wp2_with fail
  refine hla.mono ?_
  rintro e w2 ⟨rfl, K2⟩
  have BQ2 := BX0.kept K2
  have HCR2 : Hid (CRow 57 w.heap.size w2 (.slice sa cl.length sc) cl) := HCR.out.kept K2
  have HQ2 : Hid (RS w0.heap.size rb w2 s hv (.slice (some ⟨tb, 0, none⟩) (ts.length + 1) tc) (pr ++ [pv]) Bp) := HQ0.out.kept K2
  have HOR2 : Hid (ORow Bp w2 pv t.prog svs) := HOR.out.kept K2
  have KW2 : Kept w0 w2 := K0.trans (KA.trans K2)
  have c5 := K2.cell c4
  have hws2 : w.heap.size ≤ w2.heap.size := (KA.trans K2).size
  clear hla BX0 HCR HQ0 HOR c2 c4 KA K2
  go_wp2_with fail
  have BQ : Box w1.heap.size w2.drew 37 w1.heap.size [.int .i64 kd, .int .i64 n, .int .i64 v, .int .i64 wt, (.slice sa cl.length sc)] := BQ2.kept (Kept.refl w2).drew
  have HCR3 : Hid (CRow 57 w.heap.size w2.drew (.slice sa cl.length sc) cl) := HCR2.out.kept (Kept.refl w2).drew
  have HQ : Hid (RS w0.heap.size rb w2.drew s hv (.slice (some ⟨tb, 0, none⟩) (ts.length + 1) tc) (pr ++ [pv]) Bp) := HQ2.out.kept (Kept.refl w2).drew
  have HOR3 : Hid (ORow Bp w2.drew pv t.prog svs) := HOR2.out.kept (Kept.refl w2).drew
  have KW0 : Kept w0 w2.drew := KW2.drew
  have c6 : w2.drew.cell? ⟨tb, ts.length * 5 + 4, none⟩ = some pv := ((Kept.refl w2).drew).cell c5
  have hws3 : w.heap.size ≤ w2.drew.heap.size := hws2
  clear BQ2 HCR2 HQ2 HOR2 KW2 c5 hws2
  refine wp_region_S (by kernel_rfl) 10 (fun w' => w'.cell? ⟨tb, ts.length * 5 + 4, none⟩ = some pv ∧ w'.cell? ⟨w1.heap.size, 0, none⟩ = some (.int .i64 kd) ∧ w'.cell? ⟨w1.heap.size, 1, none⟩ = some (.int .i64 n) ∧ w'.cell? ⟨w1.heap.size, 2, none⟩ = some (.int .i64 v) ∧ w'.cell? ⟨w1.heap.size, 3, none⟩ = some (.int .i64 wt) ∧ w'.cell? ⟨w1.heap.size, 4, none⟩ = some (.slice sa cl.length sc)) ?_
  generalize w2.drew = W0 at *
  have hS0 : W0.cell? ⟨tb, ts.length * 5 + 4, none⟩ = some pv ∧ W0.cell? ⟨w1.heap.size, 0, none⟩ = some (.int .i64 kd) ∧ W0.cell? ⟨w1.heap.size, 1, none⟩ = some (.int .i64 n) ∧ W0.cell? ⟨w1.heap.size, 2, none⟩ = some (.int .i64 v) ∧ W0.cell? ⟨w1.heap.size, 3, none⟩ = some (.int .i64 wt) ∧ W0.cell? ⟨w1.heap.size, 4, none⟩ = some (.slice sa cl.length sc) := ⟨c6, BQ.cell 0 (by simp), BQ.cell 1 (by simp), BQ.cell 2 (by simp), BQ.cell 3 (by simp), BQ.cell 4 (by simp)⟩
  refine wpAnyS_take (i := 0) (v := .pointer (some ⟨tb, ts.length * 5, none⟩)) rfl (by kernel_rfl) (by kernel_rfl) (by kernel_rfl) (by kernel_rfl) (fun _ _ _ h => h) hS0 rfl (fun wx hx => by obtain ⟨s1, s2, s3, s4, s5, s6⟩ := hx; go_simp) ?_
  refine wpAnyS_take (i := 1) (v := .pointer (some ⟨tb, ts.length * 5, none⟩)) rfl (by kernel_rfl) (by kernel_rfl) (by kernel_rfl) (by kernel_rfl) (fun _ _ _ h => h) hS0 rfl (fun wx hx => by obtain ⟨s1, s2, s3, s4, s5, s6⟩ := hx; go_simp) ?_
  refine wpAnyS_take (i := 2) (v := .pointer (some ⟨tb, ts.length * 5, none⟩)) rfl (by kernel_rfl) (by kernel_rfl) (by kernel_rfl) (by kernel_rfl) (fun _ _ _ h => h) hS0 rfl (fun wx hx => by obtain ⟨s1, s2, s3, s4, s5, s6⟩ := hx; go_simp) ?_
  refine wpAnyS_take (i := 3) (v := .pointer (some ⟨tb, ts.length * 5 + 4, none⟩)) rfl (by kernel_rfl) (by kernel_rfl) (by kernel_rfl) (by kernel_rfl) (fun _ _ _ h => h) hS0 rfl (fun wx hx => by obtain ⟨s1, s2, s3, s4, s5, s6⟩ := hx; go_simp) ?_
  refine wpAnyS_take (i := 4) (v := pv) rfl (by kernel_rfl) (by kernel_rfl) (by kernel_rfl) (by kernel_rfl) (fun _ _ _ h => h) hS0 rfl (fun wx hx => by obtain ⟨s1, s2, s3, s4, s5, s6⟩ := hx; go_simp) ?_
  refine wpAnyS_take (i := 5) (v := .agg #[.int .i64 kd, .int .i64 n, .int .i64 v, .int .i64 wt, (.slice sa cl.length sc)]) rfl (by kernel_rfl) (by kernel_rfl) (by kernel_rfl) (by kernel_rfl) (fun _ _ _ h => h) hS0 rfl (fun wx hx => by obtain ⟨s1, s2, s3, s4, s5, s6⟩ := hx; go_simp) ?_
  refine wpAnyS_one (i := 6) rfl (by kernel_rfl) (fun KX hK => ?_)
  go_simp
  have A1 := (Kept.refl W0).alloc (.cells #[.int .i64 kd, .int .i64 n, .int .i64 v, .int .i64 wt, (.slice sa cl.length sc)] 37)
  refine hK _ _ (fun _ => ⟨A1.cell hS0.1, A1.cell hS0.2.1, A1.cell hS0.2.2.1, A1.cell hS0.2.2.2.1, A1.cell hS0.2.2.2.2.1, A1.cell hS0.2.2.2.2.2⟩) ?_
  clear hK KX A1
  refine wpAnyS_one (i := 7) rfl (by kernel_rfl) (fun KX hK => ?_)
  refine step_append_op _ (by rfl) _ _ (by rfl) Bp pv t.prog svs kd n v wt cl (.slice sa cl.length sc) W0 (by rfl) (by rfl) W0.heap.size (by rfl) (by rfl) HOR3.out (HCR3.out.base hBp) (fun q hq e => by have h1 := (World.ownsRow.lt HCR3.out q hq).1; have h2 := (HOL.out q e).2; omega) (by omega) (by omega) ?_
  intro g5 c5 w5 R5 t5 hg5
  have htb := HQ.out.lowt tb rfl
  have X5 := BQ.turns t5 (fun e => by have := (HOL.out _ e).2; omega)
  have K5 : Kept w0 w5 := t5.kept KW0 (fun q hq => by have h1 := (HOL.out q hq).1; have h2 := HQ.out.hB.1; omega)
  have y2 : w5.cell? ⟨tb, ts.length * 5 + 4, none⟩ = some pv := t5.cell c6 (cell_lt c6) (fun e => by have h1 : Bp ≤ tb := (HOL.out _ e).1; omega)
  have HZ : Hid (RSx w0 rb (w5.setCell ⟨tb, ts.length * 5 + 4, none⟩ (.slice (some ⟨g5, 0, none⟩) (t.prog.length + 1) c5)) ⟨s.L, s.bg, s.cs, putOp s.ts ⟨kd, n, v, wt, cl⟩⟩) := ⟨_, _, _, _, RS.op HT.out hprl HQ.out ⟨kd, n, v, wt, cl⟩ _ g5 _ c5 R5 t5⟩
  have y1 : w5.frozen? ⟨tb, ts.length * 5 + 4, none⟩ = false := by
    have r5 := owns_turns HQ.out.trow t5 (fun q hq e => by have h1 := (HOL.out q e).1; have e2 := own_g _ _ _ q hq; omega)
    have hln : s.ts.length = ts.length + 1 := by rw [HT.out]; simp
    rw [hln] at r5
    exact r5.frozenAt _
  have hS5 := And.intro y2 (And.intro (X5.cell 0 (by simp)) (And.intro (X5.cell 1 (by simp)) (And.intro (X5.cell 2 (by simp)) (And.intro (X5.cell 3 (by simp)) (X5.cell 4 (by simp))))))
  have K6 : Kept w0 (w5.setCell ⟨tb, ts.length * 5 + 4, none⟩ (.slice (some ⟨g5, 0, none⟩) (t.prog.length + 1) c5)) := (turn_set w5 tb _ _).kept K5 (fun i e => by rw [e]; exact (World.ownsRow.lt HQ.out.trow tb rfl).1)
  refine hK _ _ (fun _ => hS5) ?_
  clear hK KX R5 t5 hg5 hS0 BQ
  refine wpAnyS_one (i := 8) rfl (by kernel_rfl) (fun KX hK => ?_)
  go_simp
  refine hK _ _ (fun _ => hS5) ?_
  clear hK KX
  refine wpAnyS_one (i := 9) rfl (by kernel_rfl) (fun KX hK => ?_)
  go_simp
  refine hK _ _ (fun _ => hS5) ?_
  clear hK KX
  refine wpAnyS_one (i := 10) rfl (by kernel_rfl) (fun KX hK => ?_)
  go_simp
  refine hK _ _ (fun h => absurd rfl h) ?_
  clear hK KX
  refine wpAnyS_done (by kernel_rfl) ?_ _
  go_wp2_with fail
  go_ret
  rw [HW.out]
  exact ⟨rfl, K6, HZ.out⟩
end Go.Proofs.YtolljdomnohmdabGreatDoor
