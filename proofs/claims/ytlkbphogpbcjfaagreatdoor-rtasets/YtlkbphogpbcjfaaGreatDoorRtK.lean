/- The law's own known, of response times. -/
import Derived.Test.YtlkbphogpbcjfaaGreatDoorRtH
import Derived.Test.YtlkbphogpbcjfaaGreatDoorQKnC
namespace Go.Proofs.YtlkbphogpbcjfaaGreatDoor
open Go.RowKit Go.Sort

/-- A row that is written out. -/
theorem lit_lds (w : World) (e : TypeId) (l : List LoadD) : AtL (w.alloc (.cells (flatL l).toArray e)) (some ⟨w.heap.size, 0, none⟩) l := by
  intro j x hj
  have h0 := flatL_get l j 0 x hj (by omega)
  have h1 := flatL_get l j 1 x hj (by omega)
  refine ⟨w.heap.size, 0, rfl, ?_, ?_⟩
  · rw [World.cell?_alloc_at _ _ _ _ rfl]
    simpa [ldV] using h0
  · rw [World.cell?_alloc_at _ _ _ _ rfl]
    simpa [ldV] using h1
def knL : List LoadD := [⟨7, 3⟩, ⟨12, 3⟩]
theorem kn_1 : fixT 5 knL 20 = (20, 5, 0) := by decide +kernel
theorem kn_2 : fixT 5 knL 19 = (0, 0, 13) := by decide +kernel
theorem kn_3 : fixT 5 [⟨1, 1⟩] 4611686018427387904 = (0, 0, 15) := by decide +kernel
theorem kn_4 : fixT 1 [⟨1, 4611686018427387904⟩] 9223372036854775807 = (0, 0, 14) := by decide +kernel
theorem kn_5 : nextR 14 5 knL = (17, 0) := by decide +kernel
theorem kn_6 : nextR (-1) 5 knL = (0, 1) := by decide +kernel
theorem kn_7 : nextR 1 5 [⟨0, 1⟩] = (0, 1) := by decide +kernel
theorem kn_8 : ofD twF [twA, twBB] 1 0 = (6, 0) := by decide +kernel
theorem kn_9 : ofD twF [twA, twBB] 1 1 = (7, 0) := by decide +kernel
theorem kn_10 : ofD twF [twA, twBB] 1 2 = (0, 1) := by decide +kernel
theorem tw_bud : ∀ t ∈ [twA, twBB], 1 ≤ t.budget ∧ t.budget ≤ 1099511627776 := by decide +kernel
set_option maxHeartbeats 8000000 in
set_option maxRecDepth 20000 in
theorem lknown_true (w : World) (hr : Rdy w) : Calls Tryz.prog 4 #[] w fun e w' => e = .returned (.bool true) ∧ Kept w w' := by
  have HR : Hid (Rdy w) := hr
  clear hr
  have HA : Hid (AtL (w.alloc (.cells #[.int .i64 7, .int .i64 3, .int .i64 12, .int .i64 3] 46)) (some ⟨w.heap.size, 0, none⟩) knL) := lit_lds w 46 knL
  have K0 := (Kept.refl w).alloc (.cells #[.int .i64 7, .int .i64 3, .int .i64 12, .int .i64 3] 46)
  have h1 := fix_any (some ⟨w.heap.size, 0, none⟩) 2 knL 5 20 (w.alloc (.cells #[.int .i64 7, .int .i64 3, .int .i64 12, .int .i64 3] 46)) HA.out (by decide) (by omega)
  rw [kn_1] at h1
  go_enter Tryz.func4, Tryz.ntmps4
  go_wp2_with fail
  refine h1.mono ?_
  rintro e w1 ⟨rfl, T1⟩
  have K1 := K0.trans T1
  have HA1 : Hid (AtL w1 (some ⟨w.heap.size, 0, none⟩) knL) := HA.out.kept T1
  simp only [trio]
  clear h1 HA T1 K0
  have h2 := fix_any (some ⟨w.heap.size, 0, none⟩) 2 knL 5 19 w1 HA1.out (by decide) (by omega)
  rw [kn_2] at h2
  go_wp2_with fail
  refine h2.mono ?_
  rintro e w2 ⟨rfl, T2⟩
  have K2 := K1.trans T2
  have HA2 : Hid (AtL w2 (some ⟨w.heap.size, 0, none⟩) knL) := HA1.out.kept T2
  simp only [trio]
  clear h2 HA1 T2 K1
  have h3 := fix_any (some ⟨w2.heap.size, 0, none⟩) 1 [⟨1, 1⟩] 5 4611686018427387904 (w2.alloc (.cells #[.int .i64 1, .int .i64 1] 46)) (lit_lds w2 46 [⟨1, 1⟩]) (by decide) (by omega)
  rw [kn_3] at h3
  have KB := (Kept.refl w2).alloc (.cells #[.int .i64 1, .int .i64 1] 46)
  go_wp2_with fail
  refine h3.mono ?_
  rintro e w3 ⟨rfl, T3⟩
  have T3' := KB.trans T3
  have K3 := K2.trans T3'
  have HA3 : Hid (AtL w3 (some ⟨w.heap.size, 0, none⟩) knL) := HA2.out.kept T3'
  simp only [trio]
  clear h3 HA2 T3 T3' KB K2
  have h4 := fix_any (some ⟨w3.heap.size, 0, none⟩) 1 [⟨1, 4611686018427387904⟩] 1 9223372036854775807 (w3.alloc (.cells #[.int .i64 1, .int .i64 4611686018427387904] 46)) (lit_lds w3 46 [⟨1, 4611686018427387904⟩]) (by decide) (by omega)
  rw [kn_4] at h4
  have KB := (Kept.refl w3).alloc (.cells #[.int .i64 1, .int .i64 4611686018427387904] 46)
  go_wp2_with fail
  refine h4.mono ?_
  rintro e w4 ⟨rfl, T4⟩
  have T4' := KB.trans T4
  have K4 := K3.trans T4'
  have HA4 : Hid (AtL w4 (some ⟨w.heap.size, 0, none⟩) knL) := HA3.out.kept T4'
  simp only [trio]
  clear h4 HA3 T4 T4' KB K3
  have h5 := next_any (some ⟨w.heap.size, 0, none⟩) 2 knL 14 5 w4 HA4.out (by decide) (by omega) (by omega)
  rw [kn_5] at h5
  go_wp2_with fail
  refine h5.mono ?_
  rintro e w5 ⟨rfl, T5⟩
  have K5 := K4.trans T5
  have HA5 : Hid (AtL w5 (some ⟨w.heap.size, 0, none⟩) knL) := HA4.out.kept T5
  clear h5 HA4 T5 K4
  have h6 := next_any (some ⟨w.heap.size, 0, none⟩) 2 knL (-1) 5 w5 HA5.out (by decide) (by omega) (by omega)
  rw [kn_6] at h6
  go_wp2_with fail
  refine h6.mono ?_
  rintro e w6 ⟨rfl, T6⟩
  have K6 := K5.trans T6
  clear h6 HA5 T6 K5
  have h7 := next_any (some ⟨w6.heap.size, 0, none⟩) 1 [⟨0, 1⟩] 1 5 (w6.alloc (.cells #[.int .i64 0, .int .i64 1] 46)) (lit_lds w6 46 [⟨0, 1⟩]) (by decide) (by omega) (by omega)
  rw [kn_7] at h7
  have KB := K6.alloc (.cells #[.int .i64 0, .int .i64 1] 46)
  go_wp2_with fail
  refine h7.mono ?_
  rintro e w7 ⟨rfl, T7⟩
  have K7 := KB.trans T7
  clear h7 T7 KB K6
  go_wp2_with fail
  refine (two_ex w7).mono ?_
  rintro e w8 ⟨g8, a8, b8, rfl, T8, S8⟩
  have K8 := K7.trans T8
  have h8 := rof_any 1 none (some ⟨g8, 0, none⟩) 0 0 2 [twA, twBB] twF 0 w8 (HR.out.kept K8) S8.tasks tw_ok0 (by decide) (by decide) (by decide) tw_prog tw_bal tw_bud
  rw [kn_8] at h8
  clear S8 T8 K7
  go_wp2_with fail
  refine h8.mono ?_
  rintro e w9 ⟨rfl, T9⟩
  have K9 := K8.trans T9
  clear h8 T9 K8
  go_wp2_with fail
  refine (two_ex w9).mono ?_
  rintro e w10 ⟨g8, a8, b8, rfl, T8, S8⟩
  have K10 := K9.trans T8
  have h8 := rof_any 1 none (some ⟨g8, 0, none⟩) 0 0 2 [twA, twBB] twF 1 w10 (HR.out.kept K10) S8.tasks tw_ok0 (by decide) (by decide) (by decide) tw_prog tw_bal tw_bud
  rw [kn_9] at h8
  clear S8 T8 K9
  go_wp2_with fail
  refine h8.mono ?_
  rintro e w11 ⟨rfl, T9⟩
  have K11 := K10.trans T9
  clear h8 T9 K10
  go_wp2_with fail
  refine (two_ex w11).mono ?_
  rintro e w12 ⟨g8, a8, b8, rfl, T8, S8⟩
  have K12 := K11.trans T8
  have h8 := rof_any 1 none (some ⟨g8, 0, none⟩) 0 0 2 [twA, twBB] twF 2 w12 (HR.out.kept K12) S8.tasks tw_ok0 (by decide) (by decide) (by decide) tw_prog tw_bal tw_bud
  rw [kn_10] at h8
  clear S8 T8 K11
  go_wp2_with fail
  refine h8.mono ?_
  rintro e w13 ⟨rfl, T9⟩
  have K13 := K12.trans T9
  clear h8 T9 K12
  go_wp2_with fail
  go_ret
  exact ⟨rfl, K13⟩
end Go.Proofs.YtlkbphogpbcjfaaGreatDoor
