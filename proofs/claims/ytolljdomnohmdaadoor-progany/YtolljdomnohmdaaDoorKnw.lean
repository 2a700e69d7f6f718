/- known. -/
import Derived.Test.YtolljdomnohmdaaDoorInts
import Derived.Test.YtolljdomnohmdaaDoorWts
namespace Go.Proofs.YtolljdomnohmdaaDoor
open Go.RowKit

def kP0 : List OpD := [⟨8, 3, 0, 0, []⟩, ⟨2, 2, 0, 0, []⟩, ⟨1, 4, 0, 0, []⟩, ⟨3, 2, 0, 0, []⟩, ⟨9, 0, 0, 0, []⟩, ⟨5, 1, 0, -1, []⟩]
def kQ0 : List OpD := [⟨2, 2, 0, 0, []⟩, ⟨5, 1, 0, -1, []⟩, ⟨3, 2, 0, 0, []⟩]
def kF0 : List OpD := rep 3 [⟨2, 2, 0, 0, []⟩, ⟨1, 4, 0, 0, []⟩, ⟨3, 2, 0, 0, []⟩] ++ [⟨5, 1, 0, -1, []⟩]
theorem k_bal : Bal 3 0 0 kP0 kF0 := by
  refine Bal.loop (o := ⟨8, 3, 0, 0, []⟩) (e := ⟨9, 0, 0, 0, []⟩) (b := [⟨2, 2, 0, 0, []⟩, ⟨1, 4, 0, 0, []⟩, ⟨3, 2, 0, 0, []⟩]) (p := [⟨5, 1, 0, -1, []⟩]) rfl rfl ?_ ?_
  · exact .one (m1 := 4) (by decide) (by decide) rfl (.one (m1 := 4) (by decide) (by decide) (by decide +kernel) (.one (m1 := 0) (by decide) (by decide) (by decide +kernel) (.nil _ _)))
  · exact .one (m1 := 0) (by decide) (by decide) (by decide +kernel) (.nil _ _)
theorem k_check : checkP kP0 = (0, 0) := by decide +kernel
theorem k_check1 : checkP (kP0.drop 1) = (3, 11) := by decide +kernel
theorem k_check2 : checkP (kP0.take 2) = (1, 11) := by decide +kernel
theorem k_check3 : checkP kQ0 = (1, 11) := by decide +kernel
theorem k_m0 : matchD kP0 0 = 4 := by decide +kernel
theorem k_m4 : matchD kP0 4 = 0 := by decide +kernel
theorem k_m2 : matchD kP0 2 = -1 := by decide +kernel
theorem k_cost : costD kP0 = 12 := by decide +kernel
theorem k_steps : stepsD kP0 = 10 := by decide +kernel
theorem k_w : anyW kP0 = true := by decide +kernel
theorem k_w5 : anyW (kP0.take 5) = false := by decide +kernel
theorem k_s2 : secGo 2 0 0 kF0 = 4 := by decide +kernel
theorem k_s1 : secGo 1 0 0 kF0 = 0 := by decide +kernel
theorem k_locks : locksD kP0 = [2] := by
  unfold locksD
  rw [show lockNs kP0 = [2] from rfl, List.mergeSort_singleton]
  decide +kernel
theorem k_len : kF0.length = 10 := by decide +kernel
theorem k_nil : ∀ o ∈ kP0, o.cases = [] := by decide +kernel
theorem few_of {p : List OpD} (h : ∀ o ∈ p, o.cases = []) : ∀ o ∈ p, o.cases.length ≤ 1000000 := fun o ho => by rw [h o ho]; simp

set_option maxHeartbeats 8000000 in
set_option maxRecDepth 20000 in
theorem known_true (w : World) (hr : Rdy w) : Calls Tryd.prog 6 #[] w fun e w' => e = .returned (.bool true) ∧ Kept w w' := by
  have K0 := (Kept.refl w).alloc (.cells #[.int .i64 8, .int .i64 3, .int .i64 0, .int .i64 0, .slice none 0 0, .int .i64 2, .int .i64 2, .int .i64 0, .int .i64 0, .slice none 0 0, .int .i64 1, .int .i64 4, .int .i64 0, .int .i64 0, .slice none 0 0, .int .i64 3, .int .i64 2, .int .i64 0, .int .i64 0, .slice none 0 0, .int .i64 9, .int .i64 0, .int .i64 0, .int .i64 0, .slice none 0 0, .int .i64 5, .int .i64 1, .int .i64 0, .int .i64 (-1), .slice none 0 0] 77)
  have HA : Hid (AtP (w.alloc (.cells #[.int .i64 8, .int .i64 3, .int .i64 0, .int .i64 0, .slice none 0 0, .int .i64 2, .int .i64 2, .int .i64 0, .int .i64 0, .slice none 0 0, .int .i64 1, .int .i64 4, .int .i64 0, .int .i64 0, .slice none 0 0, .int .i64 3, .int .i64 2, .int .i64 0, .int .i64 0, .slice none 0 0, .int .i64 9, .int .i64 0, .int .i64 0, .int .i64 0, .slice none 0 0, .int .i64 5, .int .i64 1, .int .i64 0, .int .i64 (-1), .slice none 0 0] 77)) (some ⟨w.heap.size, 0, none⟩) kP0) := lit_ops w kP0 k_nil _ rfl
  have HBX : Hid (Box w.heap.size (w.alloc (.cells #[.int .i64 8, .int .i64 3, .int .i64 0, .int .i64 0, .slice none 0 0, .int .i64 2, .int .i64 2, .int .i64 0, .int .i64 0, .slice none 0 0, .int .i64 1, .int .i64 4, .int .i64 0, .int .i64 0, .slice none 0 0, .int .i64 3, .int .i64 2, .int .i64 0, .int .i64 0, .slice none 0 0, .int .i64 9, .int .i64 0, .int .i64 0, .int .i64 0, .slice none 0 0, .int .i64 5, .int .i64 1, .int .i64 0, .int .i64 (-1), .slice none 0 0] 77)) 77 w.heap.size [.int .i64 8, .int .i64 3, .int .i64 0, .int .i64 0, .slice none 0 0, .int .i64 2, .int .i64 2, .int .i64 0, .int .i64 0, .slice none 0 0, .int .i64 1, .int .i64 4, .int .i64 0, .int .i64 0, .slice none 0 0, .int .i64 3, .int .i64 2, .int .i64 0, .int .i64 0, .slice none 0 0, .int .i64 9, .int .i64 0, .int .i64 0, .int .i64 0, .slice none 0 0, .int .i64 5, .int .i64 1, .int .i64 0, .int .i64 (-1), .slice none 0 0]) := box_new w.heap.size w 77 [.int .i64 8, .int .i64 3, .int .i64 0, .int .i64 0, .slice none 0 0, .int .i64 2, .int .i64 2, .int .i64 0, .int .i64 0, .slice none 0 0, .int .i64 1, .int .i64 4, .int .i64 0, .int .i64 0, .slice none 0 0, .int .i64 3, .int .i64 2, .int .i64 0, .int .i64 0, .slice none 0 0, .int .i64 9, .int .i64 0, .int .i64 0, .int .i64 0, .slice none 0 0, .int .i64 5, .int .i64 1, .int .i64 0, .int .i64 (-1), .slice none 0 0] (Nat.le_refl _) (by simp)
  have HR : Hid (Rdy w) := hr
  clear hr
  go_enter Tryd.func6, Tryd.ntmps6
  go_wp2_with fail
  generalize w.alloc (.cells #[.int .i64 8, .int .i64 3, .int .i64 0, .int .i64 0, .slice none 0 0, .int .i64 2, .int .i64 2, .int .i64 0, .int .i64 0, .slice none 0 0, .int .i64 1, .int .i64 4, .int .i64 0, .int .i64 0, .slice none 0 0, .int .i64 3, .int .i64 2, .int .i64 0, .int .i64 0, .slice none 0 0, .int .i64 9, .int .i64 0, .int .i64 0, .int .i64 0, .slice none 0 0, .int .i64 5, .int .i64 1, .int .i64 0, .int .i64 (-1), .slice none 0 0] 77) = w0 at K0 HA HBX ⊢
  have h1 := pcheck_any (some ⟨w.heap.size, 0, none⟩) 6 kP0 w0 (HR.out.kept K0) HA.out (by decide) (few_of k_nil)
  rw [k_check, show kP0.length = 6 from rfl] at h1
  go_wp2_with fail
  refine h1.mono ?_
  rintro e w1 ⟨rfl, t1⟩
  have K1 := K0.trans t1
  have h2 := pcheck_any (some ⟨w.heap.size, 5, none⟩) 5 (kP0.drop 1) w1 (HR.out.kept K1) (by have := (HA.out.kept t1).drop 1; simpa using this) (by decide) (few_of (fun o ho => k_nil o (List.mem_of_mem_drop ho)))
  rw [k_check1, show (kP0.drop 1).length = 5 from rfl] at h2
  clear h1
  go_wp2_with fail
  refine h2.mono ?_
  rintro e w2 ⟨rfl, t2⟩
  have K2 := K1.trans t2
  have h3 := pcheck_any (some ⟨w.heap.size, 0, none⟩) 6 (kP0.take 2) w2 (HR.out.kept K2) ((HA.out.kept (t1.trans t2)).take 2) (by decide) (few_of (fun o ho => k_nil o (List.mem_of_mem_take ho)))
  rw [k_check2, show (kP0.take 2).length = 2 from rfl] at h3
  clear h2
  go_wp2_with fail
  refine h3.mono ?_
  rintro e w3 ⟨rfl, t3⟩
  have K3 := K2.trans t3
  have T3 := (t1.trans t2).trans t3
  clear h3
  have B3 := HBX.out.kept T3
  have c1_0 : w3.cell? ⟨w.heap.size, 5, none⟩ = some (.int .i64 2) := B3.cell 5 (by simp)
  have c1_1 : w3.cell? ⟨w.heap.size, 6, none⟩ = some (.int .i64 2) := B3.cell 6 (by simp)
  have c1_2 : w3.cell? ⟨w.heap.size, 7, none⟩ = some (.int .i64 0) := B3.cell 7 (by simp)
  have c1_3 : w3.cell? ⟨w.heap.size, 8, none⟩ = some (.int .i64 0) := B3.cell 8 (by simp)
  have c1_4 : w3.cell? ⟨w.heap.size, 9, none⟩ = some (.slice none 0 0) := B3.cell 9 (by simp)
  have c3_0 : w3.cell? ⟨w.heap.size, 15, none⟩ = some (.int .i64 3) := B3.cell 15 (by simp)
  have c3_1 : w3.cell? ⟨w.heap.size, 16, none⟩ = some (.int .i64 2) := B3.cell 16 (by simp)
  have c3_2 : w3.cell? ⟨w.heap.size, 17, none⟩ = some (.int .i64 0) := B3.cell 17 (by simp)
  have c3_3 : w3.cell? ⟨w.heap.size, 18, none⟩ = some (.int .i64 0) := B3.cell 18 (by simp)
  have c3_4 : w3.cell? ⟨w.heap.size, 19, none⟩ = some (.slice none 0 0) := B3.cell 19 (by simp)
  have c5_0 : w3.cell? ⟨w.heap.size, 25, none⟩ = some (.int .i64 5) := B3.cell 25 (by simp)
  have c5_1 : w3.cell? ⟨w.heap.size, 26, none⟩ = some (.int .i64 1) := B3.cell 26 (by simp)
  have c5_2 : w3.cell? ⟨w.heap.size, 27, none⟩ = some (.int .i64 0) := B3.cell 27 (by simp)
  have c5_3 : w3.cell? ⟨w.heap.size, 28, none⟩ = some (.int .i64 (-1)) := B3.cell 28 (by simp)
  have c5_4 : w3.cell? ⟨w.heap.size, 29, none⟩ = some (.slice none 0 0) := B3.cell 29 (by simp)
  have lB := B3.lt.2
  have h4 := fun wq (k : Kept w wq) => pcheck_any (some ⟨wq.heap.size, 0, none⟩) 3 kQ0 (wq.alloc (.cells #[.int .i64 2, .int .i64 2, .int .i64 0, .int .i64 0, .slice none 0 0, .int .i64 5, .int .i64 1, .int .i64 0, .int .i64 (-1), .slice none 0 0, .int .i64 3, .int .i64 2, .int .i64 0, .int .i64 0, .slice none 0 0] 77)) (HR.out.kept (k.alloc _)) (lit_ops wq kQ0 (by decide +kernel) _ rfl) (by decide) (few_of (by decide +kernel))
  rw [k_check3, show kQ0.length = 3 from rfl] at h4
  go_wp2_with fail
  go_region_held3 (fun w' => w'.cell? ⟨w.heap.size, 5, none⟩ = some (.int .i64 2) ∧ w'.cell? ⟨w.heap.size, 6, none⟩ = some (.int .i64 2) ∧ w'.cell? ⟨w.heap.size, 7, none⟩ = some (.int .i64 0) ∧ w'.cell? ⟨w.heap.size, 8, none⟩ = some (.int .i64 0) ∧ w'.cell? ⟨w.heap.size, 9, none⟩ = some (.slice none 0 0) ∧ w'.cell? ⟨w.heap.size, 15, none⟩ = some (.int .i64 3) ∧ w'.cell? ⟨w.heap.size, 16, none⟩ = some (.int .i64 2) ∧ w'.cell? ⟨w.heap.size, 17, none⟩ = some (.int .i64 0) ∧ w'.cell? ⟨w.heap.size, 18, none⟩ = some (.int .i64 0) ∧ w'.cell? ⟨w.heap.size, 19, none⟩ = some (.slice none 0 0) ∧ w'.cell? ⟨w.heap.size, 25, none⟩ = some (.int .i64 5) ∧ w'.cell? ⟨w.heap.size, 26, none⟩ = some (.int .i64 1) ∧ w'.cell? ⟨w.heap.size, 27, none⟩ = some (.int .i64 0) ∧ w'.cell? ⟨w.heap.size, 28, none⟩ = some (.int .i64 (-1)) ∧ w'.cell? ⟨w.heap.size, 29, none⟩ = some (.slice none 0 0)) (go_keep) (first | (go_at_call 9; refine (h4 w3.drew K3.drew).mono ?_; rintro e w4 ⟨rfl, t4⟩; have TT4 : Kept w3 w4 := (((Kept.refl w3).drew).alloc _).trans t4; have B4 := B3.kept TT4; have c1_0 : w4.cell? ⟨w.heap.size, 5, none⟩ = some (.int .i64 2) := B4.cell 5 (by simp); have c1_1 : w4.cell? ⟨w.heap.size, 6, none⟩ = some (.int .i64 2) := B4.cell 6 (by simp); have c1_2 : w4.cell? ⟨w.heap.size, 7, none⟩ = some (.int .i64 0) := B4.cell 7 (by simp); have c1_3 : w4.cell? ⟨w.heap.size, 8, none⟩ = some (.int .i64 0) := B4.cell 8 (by simp); have c1_4 : w4.cell? ⟨w.heap.size, 9, none⟩ = some (.slice none 0 0) := B4.cell 9 (by simp); have c3_0 : w4.cell? ⟨w.heap.size, 15, none⟩ = some (.int .i64 3) := B4.cell 15 (by simp); have c3_1 : w4.cell? ⟨w.heap.size, 16, none⟩ = some (.int .i64 2) := B4.cell 16 (by simp); have c3_2 : w4.cell? ⟨w.heap.size, 17, none⟩ = some (.int .i64 0) := B4.cell 17 (by simp); have c3_3 : w4.cell? ⟨w.heap.size, 18, none⟩ = some (.int .i64 0) := B4.cell 18 (by simp); have c3_4 : w4.cell? ⟨w.heap.size, 19, none⟩ = some (.slice none 0 0) := B4.cell 19 (by simp); have c5_0 : w4.cell? ⟨w.heap.size, 25, none⟩ = some (.int .i64 5) := B4.cell 25 (by simp); have c5_1 : w4.cell? ⟨w.heap.size, 26, none⟩ = some (.int .i64 1) := B4.cell 26 (by simp); have c5_2 : w4.cell? ⟨w.heap.size, 27, none⟩ = some (.int .i64 0) := B4.cell 27 (by simp); have c5_3 : w4.cell? ⟨w.heap.size, 28, none⟩ = some (.int .i64 (-1)) := B4.cell 28 (by simp); have c5_4 : w4.cell? ⟨w.heap.size, 29, none⟩ = some (.slice none 0 0) := B4.cell 29 (by simp)) | fail)
  clear c1_0 c1_1 c1_2 c1_3 c1_4 c3_0 c3_1 c3_2 c3_3 c3_4 c5_0 c5_1 c5_2 c5_3 c5_4 lB h4
  have K4 := K3.trans TT4
  have T4 := T3.trans TT4
  have h5 := flat_any (some ⟨w.heap.size, 0, none⟩) 6 kP0 kF0 w4 (HR.out.kept K4) (HA.out.kept T4) (by decide) k_check k_bal
  rw [show kP0.length = 6 from rfl] at h5
  go_wp2_with fail
  refine h5.mono ?_
  rintro e w5 ⟨v5, rfl, ⟨svs, R5⟩, t5⟩
  obtain ⟨fa, fc, hv5, _, _, _⟩ := R5.view
  rw [k_len] at hv5
  subst hv5
  have K5 := K4.trans t5
  have T5 := T4.trans t5
  clear h5 R5
  have h6 := match_any (some ⟨w.heap.size, 0, none⟩) 6 kP0 0 w5 (HA.out.kept T5) (by decide) (by omega)
  rw [k_m0, show kP0.length = 6 from rfl] at h6
  go_wp2_with fail
  refine h6.mono ?_
  rintro e w6 ⟨rfl, hw6⟩
  subst w6
  clear h6
  have h6 := match_any (some ⟨w.heap.size, 0, none⟩) 6 kP0 4 w5 (HA.out.kept T5) (by decide) (by omega)
  rw [k_m4, show kP0.length = 6 from rfl] at h6
  go_wp2_with fail
  refine h6.mono ?_
  rintro e w6 ⟨rfl, hw6⟩
  subst w6
  clear h6
  have h6 := match_any (some ⟨w.heap.size, 0, none⟩) 6 kP0 2 w5 (HA.out.kept T5) (by decide) (by omega)
  rw [k_m2, show kP0.length = 6 from rfl] at h6
  go_wp2_with fail
  refine h6.mono ?_
  rintro e w6 ⟨rfl, hw6⟩
  subst w6
  clear h6
  have htp := taken_prog k_check
  have h7 := cost_any (some ⟨w.heap.size, 0, none⟩) 6 kP0 w5 (HA.out.kept T5) (by decide) htp.2.1 htp.2.2.1
  rw [k_cost, show kP0.length = 6 from rfl] at h7
  go_wp2_with fail
  refine h7.mono ?_
  rintro e w7 ⟨rfl, t7⟩
  have K7 := K5.trans t7
  have T7 := T5.trans t7
  have h8 := steps_any (some ⟨w.heap.size, 0, none⟩) 6 kP0 w7 (HA.out.kept T7) (by decide) htp.2.1 htp.2.2.1
  rw [k_steps, show kP0.length = 6 from rfl] at h8
  clear h7 htp
  go_wp2_with fail
  refine h8.mono ?_
  rintro e w8 ⟨rfl, t8⟩
  have K8 := K7.trans t8
  have T8 := T7.trans t8
  have h9 := pwaits_any (some ⟨w.heap.size, 0, none⟩) 6 kP0 w8 (HR.out.kept K8) (HA.out.kept T8) (by decide)
  rw [k_w, show kP0.length = 6 from rfl] at h9
  clear h8
  go_wp2_with fail
  refine h9.mono ?_
  rintro e w9 ⟨rfl, t9⟩
  have K9 := K8.trans t9
  have T9 := T8.trans t9
  have ha := pwaits_any (some ⟨w.heap.size, 0, none⟩) 6 (kP0.take 5) w9 (HR.out.kept K9) ((HA.out.kept T9).take 5) (by decide)
  rw [k_w5, show (kP0.take 5).length = 5 from rfl] at ha
  clear h9
  go_wp2_with fail
  refine ha.mono ?_
  rintro e wa ⟨rfl, ta⟩
  have Ka := K9.trans ta
  have Ta := T9.trans ta
  have hb := section_any (some ⟨w.heap.size, 0, none⟩) 6 kP0 kF0 2 wa (HR.out.kept Ka) (HA.out.kept Ta) (by decide) k_check k_bal
  rw [k_s2, show kP0.length = 6 from rfl] at hb
  clear ha
  go_wp2_with fail
  refine hb.mono ?_
  rintro e wb ⟨rfl, tb⟩
  have Kb := Ka.trans tb
  have Tb := Ta.trans tb
  have hc := section_any (some ⟨w.heap.size, 0, none⟩) 6 kP0 kF0 1 wb (HR.out.kept Kb) (HA.out.kept Tb) (by decide) k_check k_bal
  rw [k_s1, show kP0.length = 6 from rfl] at hc
  clear hb
  go_wp2_with fail
  refine hc.mono ?_
  rintro e wc ⟨rfl, tc⟩
  have Kc := Kb.trans tc
  have Tc := Tb.trans tc
  have hd := locks_any (some ⟨w.heap.size, 0, none⟩) 6 kP0 wc (HA.out.kept Tc) (by decide)
  rw [k_locks, show kP0.length = 6 from rfl, show ([2] : List Int).length = 1 from rfl] at hd
  clear hc
  go_wp2_with fail
  refine hd.mono ?_
  rintro e wd ⟨va, vc, rfl, hva, td⟩
  have Kd := Kc.trans td
  have he := ints_any va (some ⟨wd.heap.size, 0, none⟩) vc 1 [2] [2] (wd.alloc (.cells #[.int .i64 2] 3)) (hva.kept ((Kept.refl wd).alloc _)) (fun j x hx => by
    have hj : j = 0 := by
      have := (List.getElem?_eq_some_iff.1 hx).1
      simp at this
      exact this
    subst hj
    simp at hx
    subst hx
    exact ⟨wd.heap.size, 0, rfl, by rw [World.cell?_alloc_at _ _ _ _ rfl]; rfl⟩) (by simp) (by simp)
  rw [show ([2] : List Int).length = 1 from rfl, decide_eq_true rfl] at he
  clear hd hva
  go_wp2_with fail
  refine he.mono ?_
  rintro e we ⟨rfl, te⟩
  go_wp2_with fail
  go_ret
  exact ⟨rfl, (Kd.alloc _).trans te⟩
end Go.Proofs.YtolljdomnohmdaaDoor
