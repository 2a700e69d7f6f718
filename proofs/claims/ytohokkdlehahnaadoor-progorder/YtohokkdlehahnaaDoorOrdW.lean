/- ProgOrder, walked. -/
import Derived.Test.YtohokkdlehahnaaDoorApp2
import Derived.Test.YtohokkdlehahnaaDoorKnw
namespace Go.Proofs.YtohokkdlehahnaaDoor
open Go.RowKit

def runs (k : Nat) : List OpD := List.replicate k ⟨1, 1, 0, 0, []⟩
theorem runs_succ (k : Nat) : runs (k + 1) = runs k ++ [⟨1, 1, 0, 0, []⟩] := by unfold runs; rw [List.replicate_succ']
theorem runs_len (k : Nat) : (runs k).length = k := by simp [runs]
def tail0 : List OpD := [⟨9, 0, 0, 0, []⟩]
theorem ord_q0 : ∀ k : Fin 20, checkP (runs k.1 ++ tail0) = (k.1 + 0, 11) := by decide +kernel
def tail1 : List OpD := [⟨8, 2, 0, 0, []⟩, ⟨1, 1, 0, 0, []⟩]
theorem ord_q1 : ∀ k : Fin 20, checkP (runs k.1 ++ tail1) = (k.1 + 1, 11) := by decide +kernel
def tail2 : List OpD := [⟨3, 1, 0, 0, []⟩]
theorem ord_q2 : ∀ k : Fin 20, checkP (runs k.1 ++ tail2) = (k.1 + 0, 11) := by decide +kernel
def tail3 : List OpD := [⟨2, 1, 0, 0, []⟩, ⟨2, 1, 0, 0, []⟩]
theorem ord_q3 : ∀ k : Fin 20, checkP (runs k.1 ++ tail3) = (k.1 + 1, 11) := by decide +kernel
def tail4 : List OpD := [⟨2, 1, 0, 0, []⟩, ⟨5, 0, 0, 3, []⟩]
theorem ord_q4 : ∀ k : Fin 20, checkP (runs k.1 ++ tail4) = (k.1 + 1, 11) := by decide +kernel
def tail5 : List OpD := [⟨8, 2, 0, 0, []⟩, ⟨2, 1, 0, 0, []⟩, ⟨9, 0, 0, 0, []⟩, ⟨3, 1, 0, 0, []⟩]
theorem ord_q5 : ∀ k : Fin 20, checkP (runs k.1 ++ tail5) = (k.1 + 2, 11) := by decide +kernel
theorem runs_nil {k : Nat} {t : List OpD} (h : ∀ o ∈ t, o.cases = []) : ∀ o ∈ runs k ++ t, o.cases.length ≤ 1000000 := by
  intro o ho
  rcases List.mem_append.1 ho with ho | ho
  · rw [List.eq_of_mem_replicate ho]; simp
  · rw [h o ho]; simp

set_option maxHeartbeats 8000000 in
set_option maxRecDepth 20000 in
theorem order_law (wh ah : Int) (hw0 : 0 ≤ wh) (hw1 : wh ≤ 255) (ha0 : 0 ≤ ah) (ha1 : ah ≤ 255) (w : World) (hr : Rdy w) : Calls Tryd.prog 7 #[.int .u8 wh, .int .u8 ah] w fun e w' => e = .returned (.bool true) ∧ Kept w w' := by
  have HR : Hid (Rdy w) := hr
  clear hr
  obtain ⟨K, hK⟩ : ∃ K : Nat, ah % 20 = (K : Int) := ⟨(ah % 20).toNat, by omega⟩
  have hK20 : K < 20 := by omega
  have hqq : wh % 6 = 0 ∨ wh % 6 = 1 ∨ wh % 6 = 2 ∨ wh % 6 = 3 ∨ wh % 6 = 4 ∨ wh % 6 = 5 := by omega
  have HQ : Hid (wh % 6 = 0 ∨ wh % 6 = 1 ∨ wh % 6 = 2 ∨ wh % 6 = 3 ∨ wh % 6 = 4 ∨ wh % 6 = 5) := hqq
  clear hqq
  have M0 : ∀ w', Hid (∃ svs, ORow w.heap.size w' (.slice none 0 0) (runs 0) svs) := fun w' => ⟨[], ORow.nil _ _⟩
  go_enter Tryd.func7, Tryd.ntmps7
  go_wp2_with fail
  refine (known_true w HR.out).mono ?_
  rintro e w1 ⟨rfl, K1⟩
  go_wp2_with fail
  clear hK
  go_loopg [5, 7] K (fun gk x5 i wr => ∃ (j : Nat) (v : Value), v = x5 ∧ i = .int .i64 j ∧ j + gk = K ∧ Hid (∃ svs, ORow w.heap.size wr v (runs j) svs) ∧ Kept w wr)
  case atStart => exact ⟨0, _, rfl, rfl, by omega, M0 w1, K1⟩
  case round =>
    obtain ⟨j, v5, hx5, rfl, hj, HM, KK⟩ := hrel
    subst hx5
    by_cases hjK : j < K
    · have b1 : (j : Int) < (K : Int) := by omega
      obtain ⟨g3', rfl⟩ : ∃ g, gk = g + 1 := ⟨gk - 1, by omega⟩
      have hll : (runs j).length + ([⟨1, 1, 0, 0, []⟩] : List OpD).length ≤ 1000000 := by rw [runs_len]; simp; omega
      go_wp2_with (at_builtin; refine wpList_append_lits _ (by rfl) _ _ rfl w.heap.size v5 (runs j) [⟨1, 1, 0, 0, []⟩] (by simp) (by simp) _ rfl wr (by rfl) (by rfl) wr.heap.size (by rfl) 1 (by rfl) (by rfl) HM.out hll KK.size ?_; intro g5 c5 w5 R5 t5; have K5 := t5.kept KK (fun i hi => by obtain ⟨svs, h⟩ := HM.out; exact (h.lt i hi).1); rw [← runs_succ] at R5)
      go_roundg g3'
      case rel => exact ⟨j + 1, _, rfl, by go_num, by omega, R5, K5⟩
      case measure => omega
    · have b1 : ¬ (j : Int) < (K : Int) := by omega
      obtain rfl : j = K := by omega
      have hown : ∀ i, v5.ownBlock = some i → w.heap.size ≤ i := fun i hi => by obtain ⟨svs, h⟩ := HM.out; exact (h.lt i hi).1
      have HOWN : Hid (∀ i, v5.ownBlock = some i → w.heap.size ≤ i) := hown
      clear hown
      rcases HQ.out with hq | hq | hq | hq | hq | hq
      · have hll : (runs j).length + tail0.length ≤ 1000000 := by rw [runs_len]; simp [tail0]; omega
        go_wp2_with (first | (at_builtin; refine wpList_append_lits _ (by rfl) _ _ rfl w.heap.size v5 (runs j) tail0 (by decide +kernel) (by decide) _ rfl wr (by rfl) (by rfl) wr.heap.size (by rfl) 1 (by rfl) (by rfl) HM.out hll KK.size ?_; intro g5 c5 w5 R5 t5; have K5 := t5.kept KK HOWN.out; have HR5 : Hid (∃ svs, ORow w.heap.size w5 (.slice (some ⟨g5, 0, none⟩) ((runs j).length + 1) c5) (runs j ++ tail0) svs) := R5; clear R5 t5) | fail)
        have hpc : Calls Tryd.prog 12 #[.slice (some ⟨g5, 0, none⟩) ((runs j).length + 1) c5] w5 fun e w' => e = .returned (.tuple #[.int .i64 (j : Int), .int .i64 11]) ∧ Kept w5 w' := by
          obtain ⟨svs, h⟩ := HR5.out
          obtain ⟨a9, c9, e9, _, _, h9⟩ := h.view
          have ea := (Value.slice.inj e9).1
          subst ea
          have hp := pcheck_any (some ⟨g5, 0, none⟩) c5 (runs j ++ tail0) w5 (HR.out.kept K5) h9 (by rw [List.length_append, runs_len]; simp [tail0]; omega) (runs_nil (by decide +kernel))
          rw [ord_q0 ⟨j, hK20⟩, List.length_append, show tail0.length = 1 from rfl] at hp
          exact hp
        rw [runs_len] at hpc ⊢
        go_wp2_with fail
        refine hpc.mono ?_
        rintro e w6 ⟨rfl, t6⟩
        go_wp2_with fail
        go_ret
        exact ⟨rfl, K5.trans t6⟩
      · have hll : (runs j).length + tail1.length ≤ 1000000 := by rw [runs_len]; simp [tail1]; omega
        go_wp2_with (first | (at_builtin; refine wpList_append_lits _ (by rfl) _ _ rfl w.heap.size v5 (runs j) tail1 (by decide +kernel) (by decide) _ rfl wr (by rfl) (by rfl) wr.heap.size (by rfl) 2 (by rfl) (by rfl) HM.out hll KK.size ?_; intro g5 c5 w5 R5 t5; have K5 := t5.kept KK HOWN.out; have HR5 : Hid (∃ svs, ORow w.heap.size w5 (.slice (some ⟨g5, 0, none⟩) ((runs j).length + 2) c5) (runs j ++ tail1) svs) := R5; clear R5 t5) | fail)
        have hpc : Calls Tryd.prog 12 #[.slice (some ⟨g5, 0, none⟩) ((runs j).length + 2) c5] w5 fun e w' => e = .returned (.tuple #[.int .i64 ((j : Int) + 1), .int .i64 11]) ∧ Kept w5 w' := by
          obtain ⟨svs, h⟩ := HR5.out
          obtain ⟨a9, c9, e9, _, _, h9⟩ := h.view
          have ea := (Value.slice.inj e9).1
          subst ea
          have hp := pcheck_any (some ⟨g5, 0, none⟩) c5 (runs j ++ tail1) w5 (HR.out.kept K5) h9 (by rw [List.length_append, runs_len]; simp [tail1]; omega) (runs_nil (by decide +kernel))
          rw [ord_q1 ⟨j, hK20⟩, List.length_append, show tail1.length = 2 from rfl] at hp
          exact hp
        rw [runs_len] at hpc ⊢
        go_wp2_with fail
        refine hpc.mono ?_
        rintro e w6 ⟨rfl, t6⟩
        go_wp2_with fail
        go_ret
        exact ⟨rfl, K5.trans t6⟩
      · have hll : (runs j).length + tail2.length ≤ 1000000 := by rw [runs_len]; simp [tail2]; omega
        go_wp2_with (first | (at_builtin; refine wpList_append_lits _ (by rfl) _ _ rfl w.heap.size v5 (runs j) tail2 (by decide +kernel) (by decide) _ rfl wr (by rfl) (by rfl) wr.heap.size (by rfl) 1 (by rfl) (by rfl) HM.out hll KK.size ?_; intro g5 c5 w5 R5 t5; have K5 := t5.kept KK HOWN.out; have HR5 : Hid (∃ svs, ORow w.heap.size w5 (.slice (some ⟨g5, 0, none⟩) ((runs j).length + 1) c5) (runs j ++ tail2) svs) := R5; clear R5 t5) | fail)
        have hpc : Calls Tryd.prog 12 #[.slice (some ⟨g5, 0, none⟩) ((runs j).length + 1) c5] w5 fun e w' => e = .returned (.tuple #[.int .i64 (j : Int), .int .i64 11]) ∧ Kept w5 w' := by
          obtain ⟨svs, h⟩ := HR5.out
          obtain ⟨a9, c9, e9, _, _, h9⟩ := h.view
          have ea := (Value.slice.inj e9).1
          subst ea
          have hp := pcheck_any (some ⟨g5, 0, none⟩) c5 (runs j ++ tail2) w5 (HR.out.kept K5) h9 (by rw [List.length_append, runs_len]; simp [tail2]; omega) (runs_nil (by decide +kernel))
          rw [ord_q2 ⟨j, hK20⟩, List.length_append, show tail2.length = 1 from rfl] at hp
          exact hp
        rw [runs_len] at hpc ⊢
        go_wp2_with fail
        refine hpc.mono ?_
        rintro e w6 ⟨rfl, t6⟩
        go_wp2_with fail
        go_ret
        exact ⟨rfl, K5.trans t6⟩
      · have hll : (runs j).length + tail3.length ≤ 1000000 := by rw [runs_len]; simp [tail3]; omega
        go_wp2_with (first | (at_builtin; refine wpList_append_lits _ (by rfl) _ _ rfl w.heap.size v5 (runs j) tail3 (by decide +kernel) (by decide) _ rfl wr (by rfl) (by rfl) wr.heap.size (by rfl) 2 (by rfl) (by rfl) HM.out hll KK.size ?_; intro g5 c5 w5 R5 t5; have K5 := t5.kept KK HOWN.out; have HR5 : Hid (∃ svs, ORow w.heap.size w5 (.slice (some ⟨g5, 0, none⟩) ((runs j).length + 2) c5) (runs j ++ tail3) svs) := R5; clear R5 t5) | fail)
        have hpc : Calls Tryd.prog 12 #[.slice (some ⟨g5, 0, none⟩) ((runs j).length + 2) c5] w5 fun e w' => e = .returned (.tuple #[.int .i64 ((j : Int) + 1), .int .i64 11]) ∧ Kept w5 w' := by
          obtain ⟨svs, h⟩ := HR5.out
          obtain ⟨a9, c9, e9, _, _, h9⟩ := h.view
          have ea := (Value.slice.inj e9).1
          subst ea
          have hp := pcheck_any (some ⟨g5, 0, none⟩) c5 (runs j ++ tail3) w5 (HR.out.kept K5) h9 (by rw [List.length_append, runs_len]; simp [tail3]; omega) (runs_nil (by decide +kernel))
          rw [ord_q3 ⟨j, hK20⟩, List.length_append, show tail3.length = 2 from rfl] at hp
          exact hp
        rw [runs_len] at hpc ⊢
        go_wp2_with fail
        refine hpc.mono ?_
        rintro e w6 ⟨rfl, t6⟩
        go_wp2_with fail
        go_ret
        exact ⟨rfl, K5.trans t6⟩
      · have hll : (runs j).length + tail4.length ≤ 1000000 := by rw [runs_len]; simp [tail4]; omega
        go_wp2_with (first | (at_builtin; refine wpList_append_lits _ (by rfl) _ _ rfl w.heap.size v5 (runs j) tail4 (by decide +kernel) (by decide) _ rfl wr (by rfl) (by rfl) wr.heap.size (by rfl) 2 (by rfl) (by rfl) HM.out hll KK.size ?_; intro g5 c5 w5 R5 t5; have K5 := t5.kept KK HOWN.out; have HR5 : Hid (∃ svs, ORow w.heap.size w5 (.slice (some ⟨g5, 0, none⟩) ((runs j).length + 2) c5) (runs j ++ tail4) svs) := R5; clear R5 t5) | fail)
        have hpc : Calls Tryd.prog 12 #[.slice (some ⟨g5, 0, none⟩) ((runs j).length + 2) c5] w5 fun e w' => e = .returned (.tuple #[.int .i64 ((j : Int) + 1), .int .i64 11]) ∧ Kept w5 w' := by
          obtain ⟨svs, h⟩ := HR5.out
          obtain ⟨a9, c9, e9, _, _, h9⟩ := h.view
          have ea := (Value.slice.inj e9).1
          subst ea
          have hp := pcheck_any (some ⟨g5, 0, none⟩) c5 (runs j ++ tail4) w5 (HR.out.kept K5) h9 (by rw [List.length_append, runs_len]; simp [tail4]; omega) (runs_nil (by decide +kernel))
          rw [ord_q4 ⟨j, hK20⟩, List.length_append, show tail4.length = 2 from rfl] at hp
          exact hp
        rw [runs_len] at hpc ⊢
        go_wp2_with fail
        refine hpc.mono ?_
        rintro e w6 ⟨rfl, t6⟩
        go_wp2_with fail
        go_ret
        exact ⟨rfl, K5.trans t6⟩
      · have hll : (runs j).length + tail5.length ≤ 1000000 := by rw [runs_len]; simp [tail5]; omega
        go_wp2_with (first | (at_builtin; refine wpList_append_lits _ (by rfl) _ _ rfl w.heap.size v5 (runs j) tail5 (by decide +kernel) (by decide) _ rfl wr (by rfl) (by rfl) wr.heap.size (by rfl) 4 (by rfl) (by rfl) HM.out hll KK.size ?_; intro g5 c5 w5 R5 t5; have K5 := t5.kept KK HOWN.out; have HR5 : Hid (∃ svs, ORow w.heap.size w5 (.slice (some ⟨g5, 0, none⟩) ((runs j).length + 4) c5) (runs j ++ tail5) svs) := R5; clear R5 t5) | fail)
        have hpc : Calls Tryd.prog 12 #[.slice (some ⟨g5, 0, none⟩) ((runs j).length + 4) c5] w5 fun e w' => e = .returned (.tuple #[.int .i64 ((j : Int) + 2), .int .i64 11]) ∧ Kept w5 w' := by
          obtain ⟨svs, h⟩ := HR5.out
          obtain ⟨a9, c9, e9, _, _, h9⟩ := h.view
          have ea := (Value.slice.inj e9).1
          subst ea
          have hp := pcheck_any (some ⟨g5, 0, none⟩) c5 (runs j ++ tail5) w5 (HR.out.kept K5) h9 (by rw [List.length_append, runs_len]; simp [tail5]; omega) (runs_nil (by decide +kernel))
          rw [ord_q5 ⟨j, hK20⟩, List.length_append, show tail5.length = 4 from rfl] at hp
          exact hp
        rw [runs_len] at hpc ⊢
        go_wp2_with fail
        refine hpc.mono ?_
        rintro e w6 ⟨rfl, t6⟩
        go_wp2_with fail
        go_ret
        exact ⟨rfl, K5.trans t6⟩
end Go.Proofs.YtohokkdlehahnaaDoor
