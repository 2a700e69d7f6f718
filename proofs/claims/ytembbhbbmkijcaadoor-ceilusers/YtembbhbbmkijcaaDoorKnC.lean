/- The law's own known, of ceilings. -/
import Derived.Test.YtembbhbbmkijcaaDoorCeB
import Derived.Test.YtembbhbbmkijcaaDoorSkn
namespace Go.Proofs.YtembbhbbmkijcaaDoor
open Go.RowKit

/-- Numbers as they are written. -/
theorem lit_nums (w : World) (t : TypeId) (l : List Int) : AtI (w.alloc (.cells (l.map (Value.int .i64)).toArray t)) (some ⟨w.heap.size, 0, none⟩) l := by
  intro j x hj
  refine ⟨w.heap.size, 0, rfl, ?_⟩
  rw [World.cell?_alloc_at _ _ _ _ rfl, Nat.zero_add]
  simp [hj]
theorem ints_same (a b : Option Addr) (n c d : Nat) (l : List Int) (w : World) (hA : AtI w a l) (hB : AtI w b l) (hn : l.length = n) (hl : l.length ≤ 100000) :
    Calls Tryd.prog 6 #[.slice a n c, .slice b n d] w fun e w' => e = .returned (.bool true) ∧ Kept w w' := by
  subst hn
  refine (ints_any a b c d l l w hA hB hl hl).mono ?_
  rintro e w' ⟨rfl, k⟩
  exact ⟨by simp, k⟩
theorem lrow_same (a b : Option Addr) (n c d : Nat) (l : List Int) (w : World) (hA : AtI w a l) (hB : AtI w b l) (hn : l.length = n) (hl : l.length ≤ 100000) :
    Calls Tryd.prog 10 #[.slice a n c, .slice b n d] w fun e w' => e = .returned (.bool true) ∧ Kept w w' := by
  subst hn
  refine (lrow_any a b c d l l w hA hB hl hl).mono ?_
  rintro e w' ⟨rfl, k⟩
  exact ⟨by simp, k⟩
def twF (i : Nat) : List OpD := if i = 0 then twPA else twPB
theorem twA_bal : Bal 3 0 0 twPA twPA := .one (m1 := 0) (by decide) (by decide) (by decide +kernel) (.one (m1 := 1) (by decide) (by decide) (by decide +kernel) (.one (m1 := 1) (by decide) (by decide) (by decide +kernel) (.one (m1 := 0) (by decide) (by decide) (by decide +kernel) (.nil _ _))))
theorem twB_bal : Bal 3 0 0 twPB twPB := .one (m1 := 1) (by decide) (by decide) (by decide +kernel) (.one (m1 := 1) (by decide) (by decide) (by decide +kernel) (.one (m1 := 0) (by decide) (by decide) (by decide +kernel) (.one (m1 := 0) (by decide) (by decide) (by decide +kernel) (.nil _ _))))
theorem tw_bal : ∀ i t, [twA, twBB][i]? = some t → Bal 3 0 0 t.prog (twF i)
  | 0, t, h => by cases h; exact twA_bal
  | 1, t, h => by cases h; exact twB_bal
  | n + 2, t, h => by simp at h
theorem tw_ceil : ceilD [twA, twBB] 1 = [2] := by decide +kernel
theorem tw_sec : secD 0 twF [twA, twBB] = [1, 4] := by decide +kernel
theorem tw_prog : ∀ t ∈ [twA, twBB], checkP t.prog = (0, 0) := by decide +kernel

set_option maxHeartbeats 8000000 in
set_option maxRecDepth 20000 in
theorem cknown_true (w : World) (hr : Rdy w) : Calls Tryd.prog 5 #[] w fun e w' => e = .returned (.bool true) ∧ Kept w w' := by
  have HR : Hid (Rdy w) := hr
  clear hr
  go_enter Tryd.func5, Tryd.ntmps5
  go_wp2_with fail
  refine (two_ex w).mono ?_
  rintro e w1 ⟨g, a, b, rfl, K1, T1⟩
  have HT : Hid (TwoS w.heap.size w1 g a b) := T1
  have TA := (Kept.refl w1).alloc (.cells #[.int .i64 1, .slice none 0 0, .slice (some ⟨g, 0, none⟩) 2 2] 27)
  have KA : Kept w (w1.alloc (.cells #[.int .i64 1, .slice none 0 0, .slice (some ⟨g, 0, none⟩) 2 2] 27)) := K1.trans TA
  have HBX : Hid (Box w.heap.size (w1.alloc (.cells #[.int .i64 1, .slice none 0 0, .slice (some ⟨g, 0, none⟩) 2 2] 27)) 27 w1.heap.size [.int .i64 1, .slice none 0 0, .slice (some ⟨g, 0, none⟩) 2 2]) := box_new w.heap.size w1 27 [.int .i64 1, .slice none 0 0, .slice (some ⟨g, 0, none⟩) 2 2] K1.size (by simp)
  have HAT : Hid (AtT (w1.alloc (.cells #[.int .i64 1, .slice none 0 0, .slice (some ⟨g, 0, none⟩) 2 2] 27)) (some ⟨g, 0, none⟩) [twA, twBB]) := HT.out.tasks.kept TA
  obtain ⟨xb, hxb⟩ : ∃ xb, w1.heap.size = xb := ⟨_, rfl⟩
  rw [hxb] at HBX
  have hof := of_any 1 none (some ⟨g, 0, none⟩) 0 0 2 [twA, twBB] (w1.alloc (.cells #[.int .i64 1, .slice none 0 0, .slice (some ⟨g, 0, none⟩) 2 2] 27)) HAT.out tw_ok0 (by decide) (by decide) (by decide)
  rw [tw_ceil] at hof
  clear T1
  go_wp2_with fail
  generalize (w1.alloc (.cells #[.int .i64 1, .slice none 0 0, .slice (some ⟨g, 0, none⟩) 2 2] 27)) = wA at *
  refine hof.mono ?_
  rintro e w2 ⟨g2, rfl, A2, K2⟩
  have AL : AtI (w2.alloc (.cells #[.int .i64 2] 3)) (some ⟨w2.heap.size, 0, none⟩) [2] := lit_nums w2 3 [2]
  have KL := (Kept.refl w2).alloc (.cells #[.int .i64 2] 3)
  have his := ints_same (some ⟨g2, 0, none⟩) (some ⟨w2.heap.size, 0, none⟩) 1 1 1 [2] (w2.alloc (.cells #[.int .i64 2] 3)) (A2.kept KL) AL rfl (by decide)
  have K2L := K2.trans KL
  clear hof A2 AL KL
  go_wp2_with fail
  generalize (w2.alloc (.cells #[.int .i64 2] 3)) = wB at *
  refine his.mono ?_
  rintro e w3 ⟨rfl, K3⟩
  have K13 := K2L.trans K3
  have x0 : w3.cell? ⟨xb, 0, none⟩ = some (.int .i64 1) := (HBX.out.kept K13).cell 0 (by simp)
  have x1 : w3.cell? ⟨xb, 1, none⟩ = some (.slice none 0 0) := (HBX.out.kept K13).cell 1 (by simp)
  have x2 : w3.cell? ⟨xb, 2, none⟩ = some (.slice (some ⟨g, 0, none⟩) 2 2) := (HBX.out.kept K13).cell 2 (by simp)
  have hse := sections_any 1 0 none (some ⟨g, 0, none⟩) 0 0 2 [twA, twBB] twF w3 (HR.out.kept (KA.trans K13)) (HAT.out.kept K13) (by decide) tw_prog tw_bal (by decide) (by decide)
  rw [tw_sec] at hse
  clear his K2L
  go_wp2_with fail
  refine hse.mono ?_
  rintro e w4 ⟨g4, rfl, A4, K4⟩
  have AL : AtI (w4.alloc (.cells #[.int .i64 1, .int .i64 4] 2)) (some ⟨w4.heap.size, 0, none⟩) [1, 4] := lit_nums w4 2 [1, 4]
  have KL := (Kept.refl w4).alloc (.cells #[.int .i64 1, .int .i64 4] 2)
  have hrs := lrow_same (some ⟨g4, 0, none⟩) (some ⟨w4.heap.size, 0, none⟩) 2 2 2 [1, 4] (w4.alloc (.cells #[.int .i64 1, .int .i64 4] 2)) (A4.kept KL) AL rfl (by decide)
  have K14 := K13.trans (K4.trans KL)
  clear hse A4 AL KL x0 x1 x2
  go_wp2_with fail
  generalize (w4.alloc (.cells #[.int .i64 1, .int .i64 4] 2)) = wC at *
  refine hrs.mono ?_
  rintro e w5 ⟨rfl, K5⟩
  have K15 := K14.trans K5
  have x0 : w5.cell? ⟨xb, 0, none⟩ = some (.int .i64 1) := (HBX.out.kept K15).cell 0 (by simp)
  have x1 : w5.cell? ⟨xb, 1, none⟩ = some (.slice none 0 0) := (HBX.out.kept K15).cell 1 (by simp)
  have x2 : w5.cell? ⟨xb, 2, none⟩ = some (.slice (some ⟨g, 0, none⟩) 2 2) := (HBX.out.kept K15).cell 2 (by simp)
  have hsn := sections_none 1 1 none (some ⟨g, 0, none⟩) 0 0 2 2 w5 (.inr (by decide))
  clear hrs
  go_wp2_with fail
  refine hsn.mono ?_
  rintro e w6 ⟨rfl, K6⟩
  have KF := KA.trans (K15.trans K6)
  clear hsn x0 x1 x2
  go_wp2_with fail
  go_ret
  exact ⟨rfl, KF⟩
end Go.Proofs.YtembbhbbmkijcaaDoor
