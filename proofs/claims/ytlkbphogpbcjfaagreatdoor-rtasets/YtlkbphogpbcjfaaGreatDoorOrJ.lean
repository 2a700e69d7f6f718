/- Higher. -/
import Derived.Test.YtlkbphogpbcjfaaGreatDoorOrL
namespace Go.Proofs.YtlkbphogpbcjfaaGreatDoor
open Go.RowKit Go.Sort

set_option maxHeartbeats 2000000 in
theorem higher_in (L : Int) (ca : Option Addr) (nc cc : Nat) (a : Option Addr) (n c : Nat) (D : Nat → Int) (x : Nat) (hx : x < n) (w : World) (hD : AtD w a n D) (h20 : n < 20) :
    Calls Tryz.prog 35 #[.agg #[.int .i64 L, .slice ca nc cc, .slice a n c], .int .i64 x] w fun e w' => ∃ va m vc, e = .returned (.slice va m vc) ∧ m = (hiD n D x).length ∧ AtI w' va (hiD n D x) ∧ Kept w w' := by
  have KA := (Kept.refl w).alloc (.cells #[.int .i64 L, .slice ca nc cc, .slice a n c] 36)
  have ht := isTask_any L ca nc cc a n c x (w.alloc (.cells #[.int .i64 L, .slice ca nc cc, .slice a n c] 36))
  rw [decide_eq_true (show (0 : Int) ≤ (x : Int) ∧ (x : Int) < (n : Int) by omega)] at ht
  have HB : Hid (Box w.heap.size (w.alloc (.cells #[.int .i64 L, .slice ca nc cc, .slice a n c] 36)) 36 w.heap.size [.int .i64 L, .slice ca nc cc, .slice a n c]) := box_new w.heap.size w 36 [.int .i64 L, .slice ca nc cc, .slice a n c] (Nat.le_refl _) (by simp)
  have HD : Hid (AtD w a n D) := hD
  clear hD
  go_enter Tryz.func35, Tryz.ntmps35
  go_wp2_with (first | (go_at_call 51; refine ht.mono ?_; rintro e w1 ⟨rfl, K1⟩; have HB1 := HB.out.kept K1; have s0 := HB1.cell 0 (by simp); have s1 := HB1.cell 1 (by simp); have s2 := HB1.cell 2 (by simp); simp only [List.getElem?_cons_zero, List.getElem?_cons_succ] at s0 s1 s2; have hrow := row_any L ca nc cc a n c D w1 (HD.out.kept (KA.trans K1)) (by omega) h20; clear HB1 ht) | fail)
  refine hrow.mono ?_
  rintro e w2 ⟨R, g, hR, rfl, hg1, hg2, hH, K2⟩
  clear s0 s1 s2 hrow
  obtain ⟨hp1, hp2⟩ := row_first hR hx
  have hkn := rank_lt hR hx
  have hRl : (R.map (fun j : Nat => (j : Int))).length = n := by rw [List.length_map, hR.len]
  have hpl := place_any g n (rank n D x) (R.map (fun j : Nat => (j : Int))) (x : Int) w2 hH hp1 hp2 (by omega)
  rw [hRl] at hpl
  have hat := hR.at hx
  have KW := (KA.trans K1).trans K2
  have hgw : w.heap.size ≤ g := by have h := (KA.trans K1).size; omega
  have hri := rising_any g 0 n ((R.map (fun j : Nat => (j : Int))).take (rank n D x)) w2 (holds_take hH _) hg2 (by rw [List.length_take]; omega)
  have hlen : ((R.map (fun j : Nat => (j : Int))).take (rank n D x)).length = rank n D x := by rw [List.length_take]; omega
  have hms : ((R.map (fun j : Nat => (j : Int))).take (rank n D x)).mergeSort (fun x y => decide (x ≤ y)) = hiD n D x := by rw [← List.map_take]; exact hR.high hat
  have hml : rank n D x = (hiD n D x).length := by rw [← hms, List.length_mergeSort, hlen]
  rw [hlen, hms] at hri
  have HML : Hid (rank n D x = (hiD n D x).length) := hml
  clear hml hms hlen hp1 hp2 hH hat hRl hR
  generalize rank n D x = k at *
  have b1 : (0 : Int) ≤ (k : Int) := by omega
  have b2 : (k : Int) ≤ (n : Int) := by omega
  go_wp2_with (first | (go_at_call 53; refine hpl.mono ?_; rintro e w3 ⟨rfl, hw3⟩; subst w3) | (go_at_call 52; refine hri.mono ?_; rintro e w4 ⟨rfl, T4, A4⟩) | fail)
  go_ret
  exact ⟨_, _, _, rfl, HML.out, A4, T4.kept KW (fun i hi => by omega)⟩
end Go.Proofs.YtlkbphogpbcjfaaGreatDoor
