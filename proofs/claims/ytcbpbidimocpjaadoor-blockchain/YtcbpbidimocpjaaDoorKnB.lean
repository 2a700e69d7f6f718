/- The law's own known, of blocking. -/
import Derived.Test.YtcbpbidimocpjaaDoorBlA
import Derived.Test.YtcbpbidimocpjaaDoorQKnC
namespace Go.Proofs.YtcbpbidimocpjaaDoor
open Go.RowKit Go.Sort

theorem flats_ex {ts : List TaskD} (h : ∀ t ∈ ts, checkP t.prog = (0, 0)) : ∃ F : Nat → List OpD, ∀ (i : Nat) (t : TaskD), ts[i]? = some t → Bal 3 0 0 t.prog (F i) := by
  refine ⟨fun i => match ts[i]? with
    | some t => Classical.epsilon (fun f => Bal 3 0 0 t.prog f)
    | none => [], fun i t hi => ?_⟩
  simp only [hi]
  obtain ⟨_, _, _, f, hb, _⟩ := taken_prog (h t (List.mem_of_getElem? hi))
  exact Classical.epsilon_spec (p := fun f => Bal 3 0 0 t.prog f) ⟨f, hb⟩
theorem tw_blk : blkS twF [twA, twBB] 1 = [4, 0] := by decide +kernel

set_option maxHeartbeats 8000000 in
set_option maxRecDepth 20000 in
theorem bknown_true (w : World) (hr : Rdy w) : Calls Tryd.prog 6 #[] w fun e w' => e = .returned (.bool true) ∧ Kept w w' := by
  have HR : Hid (Rdy w) := hr
  clear hr
  go_enter Tryd.func6, Tryd.ntmps6
  go_wp2_with fail
  refine (two_ex w).mono ?_
  rintro e w1 ⟨g, a, b, rfl, K1, T1⟩
  have HT : Hid (TwoS w.heap.size w1 g a b) := T1
  have hof := bof_any 1 none (some ⟨g, 0, none⟩) 0 0 2 [twA, twBB] twF w1 (HR.out.kept K1) HT.out.tasks tw_ok0 (by decide) (by decide) (by decide) tw_prog tw_bal
  rw [tw_blk] at hof
  clear T1
  go_wp2_with fail
  refine hof.mono ?_
  rintro e w2 ⟨g2, rfl, -, A2, K2⟩
  have AL : AtI (w2.alloc (.cells #[.int .i64 4, .int .i64 0] 2)) (some ⟨w2.heap.size, 0, none⟩) [4, 0] := lit_nums w2 2 [4, 0]
  have KL := (Kept.refl w2).alloc (.cells #[.int .i64 4, .int .i64 0] 2)
  have his := lrow_same (some ⟨g2, 0, none⟩) (some ⟨w2.heap.size, 0, none⟩) 2 2 2 [4, 0] (w2.alloc (.cells #[.int .i64 4, .int .i64 0] 2)) (A2.kept KL) AL rfl (by decide)
  have K2L := K1.trans (K2.trans KL)
  clear hof A2 AL KL
  go_wp2_with fail
  refine his.mono ?_
  rintro e w3 ⟨rfl, K3⟩
  have KF := K2L.trans K3
  clear his K2L
  go_wp2_with fail
  go_ret
  exact ⟨rfl, KF⟩
end Go.Proofs.YtcbpbidimocpjaaDoor
