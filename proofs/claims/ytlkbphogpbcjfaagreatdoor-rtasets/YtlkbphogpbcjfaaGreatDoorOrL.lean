/- Higher, Lower: who goes ahead, who behind. -/
import Derived.Test.YtlkbphogpbcjfaaGreatDoorOrX
namespace Go.Proofs.YtlkbphogpbcjfaaGreatDoor
open Go.RowKit Go.Sort

set_option maxHeartbeats 2000000 in
theorem place_any (g c k : Nat) (zs : List Int) (i : Int) (w : World) (hH : Holds (Value.int .i64) w g 0 zs.toArray) (hk : zs[k]? = some i) (hne : ∀ q, q < k → zs[q]? ≠ some i) (hl : zs.length ≤ 1000) :
    Calls Tryz.prog 53 #[.slice (some ⟨g, 0, none⟩) zs.length c, .int .i64 i] w fun e w' => e = .returned (.int .i64 k) ∧ w' = w := by
  have hkl := (List.getElem?_eq_some_iff.1 hk).1
  have HC : Hid (∀ (j : Nat) (x : Int), zs[j]? = some x → w.cell? ⟨g, j, none⟩ = some (.int .i64 x)) := by
    intro j x hx
    obtain ⟨hj, e⟩ := List.getElem?_eq_some_iff.1 hx
    have h := (hH j (by simpa using hj)).1
    rw [Nat.zero_add] at h
    rw [h]
    simp [hj, e]
  have HK : Hid (zs[k]? = some i) := hk
  have HN : Hid (∀ q, q < k → zs[q]? ≠ some i) := hne
  clear hH hk hne
  go_enter Tryz.func53, Tryz.ntmps53
  go_wp2_with fail
  go_step3
  go_wp2_with fail
  go_step3
  go_wp2_with fail
  go_loopg [5, 10] zs.length (fun gk x5 v wr => ∃ j : Nat, x5 = .int .i64 0 ∧ v = .int .i64 j ∧ j + gk = zs.length ∧ j ≤ k ∧ wr = w)
  case atStart => exact ⟨0, rfl, rfl, by omega, by omega, rfl⟩
  case round =>
    obtain ⟨j, rfl, rfl, hj, hjk, hw⟩ := hrel
    subst wr
    have b1 : (j : Int) < (zs.length : Int) := by omega
    have b2 : (0 : Int) ≤ (j : Int) := by omega
    obtain ⟨g3', rfl⟩ : ∃ g, gk = g + 1 := ⟨gk - 1, by omega⟩
    by_cases e : j = k
    · subst e
      have c1 := HC.out j i HK.out
      have q1 : (i == i) = true := by simp
      go_wp2_with fail
      try rw [Exit.noGoto_ret]
      go_ret
      exact ⟨rfl, rfl⟩
    · obtain ⟨x, hx⟩ : ∃ x, zs[j]? = some x := ⟨_, List.getElem?_eq_getElem (by omega)⟩
      have c1 := HC.out j x hx
      have hxi : x ≠ i := fun h => HN.out j (by omega) (by rw [hx, h])
      have q1 : (x == i) = false := beq_eq_false_iff_ne.2 hxi
      clear hx
      go_wp2_with fail
      go_roundg g3'
      case rel => exact ⟨j + 1, rfl, by go_num, by omega, by omega, rfl⟩
      case measure => omega
set_option maxHeartbeats 2000000 in
theorem rising_any (g o c : Nat) (zs : List Int) (w : World) (hH : Holds (Value.int .i64) w g o zs.toArray) (hg : g < w.heap.size) (hl : zs.length ≤ 1000) :
    Calls Tryz.prog 52 #[.slice (some ⟨g, o, none⟩) zs.length c] w fun e w' => e = .returned (.slice (some ⟨g, o, none⟩) zs.length c) ∧ Turns (fun k => k = g) w w' ∧ AtI w' (some ⟨g, o, none⟩) (zs.mergeSort fun x y => decide (x ≤ y)) := by
  by_cases hz : zs.length = 0
  · have hzs : zs = [] := List.eq_nil_of_length_eq_zero hz
    have hs := Tryz.slices_Sort_int_none (some ⟨g, o, none⟩) c w
    rw [hz]
    have HE : Hid (AtI w (some ⟨g, o, none⟩) (zs.mergeSort fun x y => decide (x ≤ y))) := by
      subst hzs
      intro j x hx
      simp at hx
    clear hH hzs
    go_enter Tryz.func52, Tryz.ntmps52
    go_wp2_with (first | (go_at_call 66; refine hs.mono ?_; rintro e w5 ⟨rfl, rfl⟩) | fail)
    go_ret
    exact ⟨rfl, Turns.refl _ _, HE.out⟩
  · have hs := Tryz.slices_Sort_int g o c zs w hH hg (by omega)
    have HE : Hid (∀ q os, Turns (fun k => k = g) w (grow (putRow (Value.int .i64) (Sort.ahead w q) g o (zs.mergeSort fun x y => decide (x ≤ y)).toArray) os) ∧ AtI (grow (putRow (Value.int .i64) (Sort.ahead w q) g o (zs.mergeSort fun x y => decide (x ≤ y)).toArray) os) (some ⟨g, o, none⟩) (zs.mergeSort fun x y => decide (x ≤ y))) := by
      intro q os
      refine ⟨turns_grow (turns_put _ w q g o _) os, fun j x hx => ⟨g, o, rfl, ?_⟩⟩
      obtain ⟨hj, e⟩ := List.getElem?_eq_some_iff.1 hx
      rw [cell?_grow _ _ _ (by show g < _; rw [size_putRow]; exact hg)]
      rw [cell?_putRow (Value.int .i64) (Sort.ahead w q) g o zs.toArray _ hH (by simp) j (by simpa using hj)]
      simp only [List.getElem!_toArray]
      rw [getElem!_pos _ j hj, e]
    clear hH
    generalize (zs.mergeSort fun x y => decide (x ≤ y)) = ms at *
    go_enter Tryz.func52, Tryz.ntmps52
    go_wp2_with (first | (go_at_call 66; refine hs.mono ?_; rintro e w5 ⟨rfl, q, os, rfl⟩) | fail)
    go_ret
    exact ⟨rfl, HE.out q os⟩
set_option maxHeartbeats 2000000 in
theorem isTask_any (L : Int) (ca : Option Addr) (nc cc : Nat) (a : Option Addr) (n c : Nat) (i : Int) (w : World) :
    Calls Tryz.prog 51 #[.agg #[.int .i64 L, .slice ca nc cc, .slice a n c], .int .i64 i] w fun e w' => e = .returned (.bool (decide (0 ≤ i ∧ i < (n : Int)))) ∧ Kept w w' := by
  have KA := (Kept.refl w).alloc (.cells #[.int .i64 L, .slice ca nc cc, .slice a n c] 36)
  by_cases h0 : 0 ≤ i
  · have r0 : i ≥ 0 := h0
    have e : decide (0 ≤ i ∧ i < (n : Int)) = decide (i < (n : Int)) := by simp [h0]
    rw [e]
    go_enter Tryz.func51, Tryz.ntmps51
    go_wp2_with fail
    go_ret
    exact ⟨rfl, KA⟩
  · have r0 : ¬ i ≥ 0 := h0
    have e : decide (0 ≤ i ∧ i < (n : Int)) = false := by simp [h0]
    rw [e]
    go_enter Tryz.func51, Tryz.ntmps51
    go_wp2_with fail
    go_ret
    exact ⟨rfl, KA⟩

end Go.Proofs.YtlkbphogpbcjfaaGreatDoor
