/- Higher, Lower: who goes ahead, who behind. -/
import Derived.Test.YtcbpbidimocpjaaGreatDoorOrX
namespace Go.Proofs.YtcbpbidimocpjaaGreatDoor
open Go.RowKit Go.Sort

set_option maxHeartbeats 2000000 in
theorem place_any (g c k : Nat) (zs : List Int) (i : Int) (w : World) (hH : Holds (Value.int .i64) w g 0 zs.toArray) (hk : zs[k]? = some i) (hne : ∀ q, q < k → zs[q]? ≠ some i) (hl : zs.length ≤ 1000) :
    Calls Tryz.prog 27 #[.slice (some ⟨g, 0, none⟩) zs.length c, .int .i64 i] w fun e w' => e = .returned (.int .i64 k) ∧ w' = w := by
  have hkl := (List.getElem?_eq_some_iff.1 hk).1
  have HC : Hid (∀ (j : Nat) (x : Int), zs[j]? = some x → w.cell? ⟨g, j, none⟩ = some (.int .i64 x)) := by
    intro j x hx
    obtain ⟨hj, e⟩ := List.getElem?_eq_some_iff.1 hx
    have h := (hH j (by simpa using hj)).1
    rw [Nat.zero_add] at h
    rw [h]
    simp [hj, e]
  have HK : Hid (zs[k]? = some i) := hk
  have HN : Hid (∀ q, q < k → zs[q]? ≠ some i) := hne
  clear hH hk hne
  go_enter Tryz.func27, Tryz.ntmps27
  go_wp2_with fail
  go_step3
  go_wp2_with fail
  go_step3
  go_wp2_with fail
  go_loopg [5, 10] zs.length (fun gk x5 v wr => ∃ j : Nat, x5 = .int .i64 0 ∧ v = .int .i64 j ∧ j + gk = zs.length ∧ j ≤ k ∧ wr = w)
  case atStart => exact ⟨0, rfl, rfl, by omega, by omega, rfl⟩
  case round =>
    obtain ⟨j, rfl, rfl, hj, hjk, hw⟩ := hrel
    subst wr
    have b1 : (j : Int) < (zs.length : Int) := by omega
    have b2 : (0 : Int) ≤ (j : Int) := by omega
    obtain ⟨g3', rfl⟩ : ∃ g, gk = g + 1 := ⟨gk - 1, by omega⟩
    by_cases e : j = k
    · subst e
      have c1 := HC.out j i HK.out
      have q1 : (i == i) = true := by simp
      go_wp2_with fail
      try rw [Exit.noGoto_ret]
      go_ret
      exact ⟨rfl, rfl⟩
    · obtain ⟨x, hx⟩ : ∃ x, zs[j]? = some x := ⟨_, List.getElem?_eq_getElem (by omega)⟩
      have c1 := HC.out j x hx
      have hxi : x ≠ i := fun h => HN.out j (by omega) (by rw [hx, h])
      have q1 : (x == i) = false := beq_eq_false_iff_ne.2 hxi
      clear hx
      go_wp2_with fail
      go_roundg g3'
      case rel => exact ⟨j + 1, rfl, by go_num, by omega, by omega, rfl⟩
      case measure => omega
set_option maxHeartbeats 2000000 in
theorem rising_any (g o c : Nat) (zs : List Int) (w : World) (hH : Holds (Value.int .i64) w g o zs.toArray) (hg : g < w.heap.size) (hl : zs.length ≤ 1000) :
    Calls Tryz.prog 26 #[.slice (some ⟨g, o, none⟩) zs.length c] w fun e w' => e = .returned (.slice (some ⟨g, o, none⟩) zs.length c) ∧ Turns (fun k => k = g) w w' ∧ AtI w' (some ⟨g, o, none⟩) (zs.mergeSort fun x y => decide (x ≤ y)) := by
  by_cases hz : zs.length = 0
  · have hzs : zs = [] := List.eq_nil_of_length_eq_zero hz
    have hs := Tryz.slices_Sort_int_none (some ⟨g, o, none⟩) c w
    rw [hz]
    have HE : Hid (AtI w (some ⟨g, o, none⟩) (zs.mergeSort fun x y => decide (x ≤ y))) := by
      subst hzs
      intro j x hx
      simp at hx
    clear hH hzs
    go_enter Tryz.func26, Tryz.ntmps26
    go_wp2_with (first | (go_at_call 43; refine hs.mono ?_; rintro e w5 ⟨rfl, rfl⟩) | fail)
    go_ret
    exact ⟨rfl, Turns.refl _ _, HE.out⟩
  · have hs := Tryz.slices_Sort_int g o c zs w hH hg (by omega)
    have HE : Hid (∀ q os, Turns (fun k => k = g) w (grow (putRow (Value.int .i64) (Sort.ahead w q) g o (zs.mergeSort fun x y => decide (x ≤ y)).toArray) os) ∧ AtI (grow (putRow (Value.int .i64) (Sort.ahead w q) g o (zs.mergeSort fun x y => decide (x ≤ y)).toArray) os) (some ⟨g, o, none⟩) (zs.mergeSort fun x y => decide (x ≤ y))) := by
      intro q os
      refine ⟨turns_grow (turns_put _ w q g o _) os, fun j x hx => ⟨g, o, rfl, ?_⟩⟩
      obtain ⟨hj, e⟩ := List.getElem?_eq_some_iff.1 hx
      rw [cell?_grow _ _ _ (by show g < _; rw [size_putRow]; exact hg)]
      rw [cell?_putRow (Value.int .i64) (Sort.ahead w q) g o zs.toArray _ hH (by simp) j (by simpa using hj)]
      simp only [List.getElem!_toArray]
      rw [getElem!_pos _ j hj, e]
    clear hH
    generalize (zs.mergeSort fun x y => decide (x ≤ y)) = ms at *
    go_enter Tryz.func26, Tryz.ntmps26
    go_wp2_with (first | (go_at_call 43; refine hs.mono ?_; rintro e w5 ⟨rfl, q, os, rfl⟩) | fail)
    go_ret
    exact ⟨rfl, HE.out q os⟩
set_option maxHeartbeats 2000000 in
theorem isTask_any (L : Int) (ca : Option Addr) (nc cc : Nat) (a : Option Addr) (n c : Nat) (i : Int) (w : World) :
    Calls Tryz.prog 24 #[.agg #[.int .i64 L, .slice ca nc cc, .slice a n c], .int .i64 i] w fun e w' => e = .returned (.bool (decide (0 ≤ i ∧ i < (n : Int)))) ∧ Kept w w' := by
  have KA := (Kept.refl w).alloc (.cells #[.int .i64 L, .slice ca nc cc, .slice a n c] 33)
  by_cases h0 : 0 ≤ i
  · have r0 : i ≥ 0 := h0
    have e : decide (0 ≤ i ∧ i < (n : Int)) = decide (i < (n : Int)) := by simp [h0]
    rw [e]
    go_enter Tryz.func24, Tryz.ntmps24
    go_wp2_with fail
    go_ret
    exact ⟨rfl, KA⟩
  · have r0 : ¬ i ≥ 0 := h0
    have e : decide (0 ≤ i ∧ i < (n : Int)) = false := by simp [h0]
    rw [e]
    go_enter Tryz.func24, Tryz.ntmps24
    go_wp2_with fail
    go_ret
    exact ⟨rfl, KA⟩

set_option maxHeartbeats 2000000 in
theorem lower_out (L : Int) (ca : Option Addr) (nc cc : Nat) (a : Option Addr) (n c : Nat) (i : Int) (w : World) (hi : ¬ (0 ≤ i ∧ i < (n : Int))) :
    Calls Tryz.prog 11 #[.agg #[.int .i64 L, .slice ca nc cc, .slice a n c], .int .i64 i] w fun e w' => e = .returned (.slice none 0 0) ∧ Kept w w' := by
  have KA := (Kept.refl w).alloc (.cells #[.int .i64 L, .slice ca nc cc, .slice a n c] 33)
  have ht := isTask_any L ca nc cc a n c i (w.alloc (.cells #[.int .i64 L, .slice ca nc cc, .slice a n c] 33))
  rw [decide_eq_false hi] at ht
  go_enter Tryz.func11, Tryz.ntmps11
  go_wp2_with (first | (go_at_call 24; refine ht.mono ?_; rintro e w1 ⟨rfl, K1⟩) | fail)
  go_ret
  exact ⟨rfl, KA.trans K1⟩
set_option maxHeartbeats 2000000 in
theorem lower_in (L : Int) (ca : Option Addr) (nc cc : Nat) (a : Option Addr) (n c : Nat) (D : Nat → Int) (x : Nat) (hx : x < n) (w : World) (hD : AtD w a n D) (h20 : n < 20) :
    Calls Tryz.prog 11 #[.agg #[.int .i64 L, .slice ca nc cc, .slice a n c], .int .i64 x] w fun e w' => ∃ va m vc, e = .returned (.slice va m vc) ∧ m = (loD n D x).length ∧ AtI w' va (loD n D x) ∧ Kept w w' := by
  have KA := (Kept.refl w).alloc (.cells #[.int .i64 L, .slice ca nc cc, .slice a n c] 33)
  have ht := isTask_any L ca nc cc a n c x (w.alloc (.cells #[.int .i64 L, .slice ca nc cc, .slice a n c] 33))
  rw [decide_eq_true (show (0 : Int) ≤ (x : Int) ∧ (x : Int) < (n : Int) by omega)] at ht
  have HB : Hid (Box w.heap.size (w.alloc (.cells #[.int .i64 L, .slice ca nc cc, .slice a n c] 33)) 33 w.heap.size [.int .i64 L, .slice ca nc cc, .slice a n c]) := box_new w.heap.size w 33 [.int .i64 L, .slice ca nc cc, .slice a n c] (Nat.le_refl _) (by simp)
  have HD : Hid (AtD w a n D) := hD
  clear hD
  go_enter Tryz.func11, Tryz.ntmps11
  go_wp2_with (first | (go_at_call 24; refine ht.mono ?_; rintro e w1 ⟨rfl, K1⟩; have HB1 := HB.out.kept K1; have s0 := HB1.cell 0 (by simp); have s1 := HB1.cell 1 (by simp); have s2 := HB1.cell 2 (by simp); simp only [List.getElem?_cons_zero, List.getElem?_cons_succ] at s0 s1 s2; have hrow := row_any L ca nc cc a n c D w1 (HD.out.kept (KA.trans K1)) (by omega) h20; clear HB1 ht) | fail)
  refine hrow.mono ?_
  rintro e w2 ⟨R, g, hR, rfl, hg1, hg2, hH, K2⟩
  clear s0 s1 s2 hrow
  obtain ⟨hp1, hp2⟩ := row_first hR hx
  have hkn := rank_lt hR hx
  have hRl : (R.map (fun j : Nat => (j : Int))).length = n := by rw [List.length_map, hR.len]
  have hpl := place_any g n (rank n D x) (R.map (fun j : Nat => (j : Int))) (x : Int) w2 hH hp1 hp2 (by omega)
  rw [hRl] at hpl
  have hat := hR.at hx
  have KW := (KA.trans K1).trans K2
  have hgw : w.heap.size ≤ g := by have h := (KA.trans K1).size; omega
  have hri := rising_any g (rank n D x + 1) (n - (rank n D x + 1)) ((R.map (fun j : Nat => (j : Int))).drop (rank n D x + 1)) w2 (holds_drop hH _) hg2 (by rw [List.length_drop]; omega)
  have hlen : ((R.map (fun j : Nat => (j : Int))).drop (rank n D x + 1)).length = n - (rank n D x + 1) := by rw [List.length_drop]; omega
  have hms : ((R.map (fun j : Nat => (j : Int))).drop (rank n D x + 1)).mergeSort (fun x y => decide (x ≤ y)) = loD n D x := by rw [← List.map_drop]; exact hR.low hat
  have hml : n - (rank n D x + 1) = (loD n D x).length := by rw [← hms, List.length_mergeSort, hlen]
  rw [hlen, hms] at hri
  have HML : Hid (n - (rank n D x + 1) = (loD n D x).length) := hml
  clear hml hms hlen hp1 hp2 hH hat hRl hR
  generalize rank n D x = k at *
  by_cases hnk : n = k + 1
  · have hri0 := rising_any g 0 0 [] w2 (by intro j hj; simp at hj) hg2 (by simp)
    simp only [List.length_nil] at hri0
    have HL0 : Hid (loD n D x = []) := List.eq_nil_of_length_eq_zero (by have := HML.out; omega)
    clear HML hri HD HB
    subst hnk
    go_wp2_with (first | (go_at_call 27; refine hpl.mono ?_; rintro e w3 ⟨rfl, hw3⟩; subst w3) | (go_at_call 26; refine hri0.mono ?_; rintro e w4 ⟨rfl, T4, A4⟩) | fail)
    go_ret
    refine ⟨_, _, _, rfl, by rw [HL0.out]; rfl, ?_, T4.kept KW (fun i hi => by omega)⟩
    rw [HL0.out]
    intro j y hj
    simp at hj
  · have b1 : (0 : Int) ≤ (k : Int) + 1 := by omega
    have b2 : (k : Int) + 1 ≤ (n : Int) := by omega
    go_wp2_with (first | (go_at_call 27; refine hpl.mono ?_; rintro e w3 ⟨rfl, hw3⟩; subst w3) | (go_at_call 26; refine hri.mono ?_; rintro e w4 ⟨rfl, T4, A4⟩) | fail)
    go_ret
    exact ⟨_, _, _, rfl, HML.out, A4, T4.kept KW (fun i hi => by omega)⟩
end Go.Proofs.YtcbpbidimocpjaaGreatDoor
