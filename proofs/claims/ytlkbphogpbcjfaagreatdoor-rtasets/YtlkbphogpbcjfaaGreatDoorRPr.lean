/- The reference's Prios, Higher, Lower. -/
import Derived.Test.YtlkbphogpbcjfaaGreatDoorOrX
namespace Go.Proofs.YtlkbphogpbcjfaaGreatDoor
open Go.RowKit Go.Sort

/-- How many of the first m go ahead of i. -/
def cntB (D : Nat → Int) (i m : Nat) : Nat := (List.range m).countP (fun j => befB D j i)
theorem cntB_next (D : Nat → Int) (i m : Nat) : cntB D i (m + 1) = cntB D i m + (if befB D m i = true then 1 else 0) := by
  unfold cntB
  rw [List.range_succ, List.countP_append]
  congr 1
  simp [List.countP_cons, List.countP_nil]
theorem cntB_le (D : Nat → Int) (i m : Nat) : cntB D i m ≤ m := by
  have := List.countP_le_length (p := fun j => befB D j i) (l := List.range m)
  rw [List.length_range] at this
  exact this
theorem prD_take {n : Nat} {D : Nat → Int} {j : Nat} (hj : j < n) : (prD n D).take (j + 1) = (prD n D).take j ++ [(n : Int) - (rank n D j : Int)] := by
  rw [List.take_add_one, prD_get hj]
  rfl
theorem rrow_view {B : Nat} {w : World} {v : Value} {l : List Int} (h : IRow 3 B w v l) : ∃ a c, v = .slice a l.length c ∧ AtI w a l ∧ (∀ b f, a = some ⟨b, f, none⟩ → B ≤ b) := by
  rcases h.2 with ⟨h1, h2⟩ | ⟨g, cap, cur, h1, hb, _⟩
  · refine ⟨none, 0, by rw [h1, h2], ?_, fun b f e => by cases e⟩
    rw [List.eq_nil_of_length_eq_zero h2]
    intro j x hj
    simp at hj
  · subst h1
    exact ⟨some ⟨g, 0, none⟩, cap, rfl, irow_at h rfl, fun b f e => by cases e; exact hb⟩
set_option maxHeartbeats 4000000 in
set_option maxRecDepth 10000 in
theorem rprios_any (L : Int) (ca : Option Addr) (nc cc : Nat) (a : Option Addr) (n c : Nat) (D : Nat → Int) (w : World) (hD : AtD w a n D) (hn : n ≤ 1000) :
    Calls Tryz.prog 39 #[.agg #[.int .i64 L, .slice ca nc cc, .slice a n c]] w fun e w' => ∃ va vc, e = .returned (.slice va n vc) ∧ AtI w' va (prD n D) ∧ Kept w w' := by
  have HD : Hid (AtD w a n D) := hD
  clear hD
  have K0 := (Kept.refl w).alloc (.cells #[.int .i64 L, .slice ca nc cc, .slice a n c] 25)
  have HB : Hid (Box w.heap.size (w.alloc (.cells #[.int .i64 L, .slice ca nc cc, .slice a n c] 25)) 25 w.heap.size [.int .i64 L, .slice ca nc cc, .slice a n c]) := box_new w.heap.size w 25 [.int .i64 L, .slice ca nc cc, .slice a n c] (Nat.le_refl _) (by simp)
  go_enter Tryz.func39, Tryz.ntmps39
  go_wp2_with fail
  go_loopg [3, 4] n (fun gk x3 i wr => ∃ (j : Nat) (v : Value) (W : World), W = wr ∧ v = x3 ∧ i = .int .i64 j ∧ j + gk = n ∧ Hid (IRow 3 w.heap.size W v ((prD n D).take j)) ∧ Hid (∀ q, v.ownBlock = some q → w.heap.size < q) ∧ Hid (Box w.heap.size W 25 w.heap.size [.int .i64 L, .slice ca nc cc, .slice a n c]) ∧ Kept w W)
  case atStart => exact ⟨0, _, _, rfl, rfl, rfl, by omega, IRow.nil _ _ _, (fun q hq => by simp [Value.ownBlock] at hq), HB, K0⟩
  case round =>
    obtain ⟨j, v, W, hW, hv, rfl, hj, HI, HN, HBr, K⟩ := hrel
    subst hW
    subst hv
    have u2 : W.cell? ⟨w.heap.size, 2, none⟩ = some (.slice a n c) := HBr.out.cell 2 (by simp)
    by_cases hjn : j < n
    · have b1 : (j : Int) < (n : Int) := by omega
      have b2 : (0 : Int) ≤ (j : Int) := by omega
      obtain ⟨b, f, rfl, _⟩ := HD.out j hjn
      have HC : Hid (∀ wx, Kept w wx → ∀ q, q < n → wx.cell? ⟨b, f + q * 5 + 2, none⟩ = some (.int .i64 (D q))) := by
        intro wx kx q hq
        obtain ⟨b', f', e, h⟩ := HD.out q hq
        cases e
        exact kx.cell h
      obtain ⟨gm, rfl⟩ : ∃ g, gk = g + 1 := ⟨gk - 1, by omega⟩
      obtain ⟨wo1, rfl⟩ : ∃ z, z = W := ⟨_, rfl⟩
      go_wp2_with fail
      go_loopg [5, 6] n (fun gk y5 i wr2 => ∃ (q ct : Nat) (W2 : World), W2 = wr2 ∧ y5 = .int .i64 ((n : Int) - (ct : Int)) ∧ i = .int .i64 q ∧ q + gk = n ∧ ct ≤ q ∧ Hid (ct = cntB D j q) ∧ Hid (IRow 3 w.heap.size W2 v ((prD n D).take j)) ∧ Hid (Box w.heap.size W2 25 w.heap.size [.int .i64 L, .slice ca nc cc, .slice (some ⟨b, f, none⟩) n c]) ∧ Kept w W2)
      case atStart => exact ⟨0, 0, _, rfl, by simp, rfl, by omega, by omega, (by show _ = _; simp [cntB]), HI, HBr, K⟩
      case round =>
        obtain ⟨q, ct, W2, hW, rfl, rfl, hq, hct, HCT, HI2, HB2, KS⟩ := hrel
        subst hW
        have v2 : W2.cell? ⟨w.heap.size, 2, none⟩ = some (.slice (some ⟨b, f, none⟩) n c) := HB2.out.cell 2 (by simp)
        by_cases hqn : q < n
        · have b3 : (q : Int) < (n : Int) := by omega
          have b4 : (0 : Int) ≤ (q : Int) := by omega
          have c1 := HC.out W2 KS q hqn
          have c2 := HC.out W2 KS j hjn
          have hcs := cntB_next D j q
          rw [← HCT.out] at hcs
          have HBE : Hid (befB D q j = true ↔ bef D q j) := befB_iff D q j
          obtain ⟨x, hx⟩ : ∃ x, D q = x := ⟨_, rfl⟩
          obtain ⟨y, hy⟩ : ∃ y, D j = y := ⟨_, rfl⟩
          rw [hx] at c1
          rw [hy] at c2
          have HXY : Hid (bef D q j ↔ (x < y ∨ (x = y ∧ q < j))) := by show _ ↔ _; unfold bef; rw [hx, hy]
          obtain ⟨gi, rfl⟩ : ∃ g, gk = g + 1 := ⟨gk - 1, by omega⟩
          have HCS : Hid (cntB D j (q + 1) = ct + (if befB D q j = true then 1 else 0)) := hcs
          clear hcs hx hy
          by_cases h1 : x < y
          · skip
            have HCZ : Hid (cntB D j (q + 1) = ct + 1) := by show _ = _; rw [HCS.out, if_pos (HBE.out.2 (HXY.out.2 (by omega)))]
            clear HCS HBE HXY
            go_wp2_with fail
            go_big_region
            all_goals go_wp2_with fail
            go_roundg gi
            case rel => exact ⟨q + 1, ct + 1, _, rfl, by go_num, by go_num, by omega, by omega, HCZ.out.symm, HI2.out.kept ((Kept.refl W2).drew), HB2.out.kept ((Kept.refl W2).drew), KS.drew⟩
            case measure => omega
          by_cases h2 : x = y
          · subst h2
            by_cases h3 : (q : Int) < (j : Int)
            · skip
              have HCZ : Hid (cntB D j (q + 1) = ct + 1) := by show _ = _; rw [HCS.out, if_pos (HBE.out.2 (HXY.out.2 (by omega)))]
              clear HCS HBE HXY
              go_wp2_with fail
              go_big_region
              all_goals go_wp2_with fail
              go_roundg gi
              case rel => exact ⟨q + 1, ct + 1, _, rfl, by go_num, by go_num, by omega, by omega, HCZ.out.symm, HI2.out.kept ((Kept.refl W2).drew), HB2.out.kept ((Kept.refl W2).drew), KS.drew⟩
              case measure => omega
            · skip
              have HCZ : Hid (cntB D j (q + 1) = ct + 0) := by show _ = _; rw [HCS.out, if_neg (fun h => by have := HXY.out.1 (HBE.out.1 h); omega)]
              clear HCS HBE HXY
              go_wp2_with fail
              go_big_region
              all_goals go_wp2_with fail
              go_roundg gi
              case rel => exact ⟨q + 1, ct + 0, _, rfl, by simp, by go_num, by omega, by omega, HCZ.out.symm, HI2.out.kept ((Kept.refl W2).drew), HB2.out.kept ((Kept.refl W2).drew), KS.drew⟩
              case measure => omega
          · skip
            have HCZ : Hid (cntB D j (q + 1) = ct + 0) := by show _ = _; rw [HCS.out, if_neg (fun h => by have := HXY.out.1 (HBE.out.1 h); omega)]
            clear HCS HBE HXY
            go_wp2_with fail
            have e1 : (x == y) = false := beq_eq_false_iff_ne.2 (by omega)
            have d1 : decide (x < y) = false := decide_eq_false (by omega)
            go_big_region
            all_goals go_wp2_with fail
            go_roundg gi
            case rel => exact ⟨q + 1, ct + 0, _, rfl, by simp, by go_num, by omega, by omega, HCZ.out.symm, HI2.out.kept ((Kept.refl W2).drew), HB2.out.kept ((Kept.refl W2).drew), KS.drew⟩
            case measure => omega
        · have b3 : ¬ (q : Int) < (n : Int) := by omega
          have HW : Hid ((prD n D).take (j + 1) = (prD n D).take j ++ [(n : Int) - (ct : Int)]) := by
            show _ = _
            rw [prD_take hjn, HCT.out, show q = n by omega]
            rfl
          have hln : ((prD n D).take j).length ≤ 1000000 := by rw [List.length_take, prD_len]; omega
          go_wp2_with (at_builtin; refine wpList_append_int nInt _ (by rfl) _ _ rfl w.heap.size v ((prD n D).take j) ((n : Int) - (ct : Int)) W2 (by rfl) (by rfl) W2.heap.size (by rfl) (by rfl) HI2.out hln KS.size ?_; intro g5 c5 w5 R5 gr5 at5; have T5 : Turns (fun k => v.ownBlock = some k) W2 w5 := ((Turns.refl _ W2).alloc _).trans (Turns.grown gr5 (fun k e => e)); have K5 : Kept w w5 := T5.kept KS (fun i hi => (World.ownsRow.lt HI2.out i hi).1); have B5 : Hid (Box w.heap.size w5 25 w.heap.size [.int .i64 L, .slice ca nc cc, .slice (some ⟨b, f, none⟩) n c]) := HB2.out.turns T5 (fun e => by have := HN.out _ e; omega); have N5 : w.heap.size < g5 := (by rcases at5 with h | h; exact HN.out _ h; have := HB2.out.lt.2; omega); rw [← HW.out, List.length_take] at R5)
          go_roundg gm
          case rel => exact ⟨j + 1, _, _, rfl, rfl, by go_num, by omega, R5, (fun q hq => by simp [Value.ownBlock] at hq; omega), B5, K5⟩
          case measure => omega
    · have b1 : ¬ (j : Int) < (n : Int) := by omega
      have HI3 : Hid (IRow 3 w.heap.size W v (prD n D)) := by have h := HI.out; rw [List.take_of_length_le (by rw [prD_len]; omega)] at h; exact h
      obtain ⟨va, vc, hv, A5, _⟩ := rrow_view HI3.out
      rw [prD_len] at hv
      subst hv
      have HF : Hid (AtI W va (prD n D)) := A5
      clear A5
      go_wp2_with fail
      go_ret
      exact ⟨va, ⟨vc, rfl⟩, HF.out, K⟩
theorem hiD_next (P : Nat → Bool) (m : Nat) : ((List.range (m + 1)).filter P).map (fun j : Nat => (j : Int)) = ((List.range m).filter P).map (fun j : Nat => (j : Int)) ++ (if P m = true then [(m : Int)] else []) := by
  rw [List.range_succ, List.filter_append, List.map_append]
  congr 1
  by_cases h : P m = true
  · simp [h]
  · simp [h]
def sideB (D : Nat → Int) (x : Nat) (g : Bool) (k : Nat) : Bool := if g = true then befB D k x else befB D x k
def sideD (D : Nat → Int) (x : Nat) (g : Bool) (m : Nat) : List Int := ((List.range m).filter (sideB D x g)).map (fun j : Nat => (j : Int))
theorem sideD_hi (n : Nat) (D : Nat → Int) (x : Nat) : sideD D x true n = hiD n D x := by unfold sideD hiD sideB; simp
theorem sideD_lo (n : Nat) (D : Nat → Int) (x : Nat) : sideD D x false n = loD n D x := by unfold sideD loD sideB; simp
theorem sideD_len (D : Nat → Int) (x : Nat) (g : Bool) (m : Nat) : (sideD D x g m).length ≤ m := by
  unfold sideD
  rw [List.length_map]
  have := List.length_filter_le (sideB D x g) (List.range m)
  rw [List.length_range] at this
  exact this
/-- On which side one is, by the priorities. -/
theorem side_iff {n : Nat} {D : Nat → Int} {R : List Nat} (hR : RowOk n D R) {x k : Nat} (hx : x < n) (hk : k < n) (hne : k ≠ x) (g : Bool) : sideB D x g k = (decide ((n : Int) - (rank n D k : Int) > (n : Int) - (rank n D x : Int)) == g) := by
  have h1 := rank_bef hR hk hx
  have h2 := rank_bef hR hx hk
  have h3 : ¬ rank n D k = rank n D x := fun e => hne (rank_inj hR hk hx e)
  unfold sideB
  cases g with
  | true =>
    rw [if_pos rfl, Bool.eq_iff_iff, befB_iff, ← h1]
    simp
  | false =>
    rw [if_neg (by simp), Bool.eq_iff_iff, befB_iff, ← h2]
    simp
    omega
theorem side_self (D : Nat → Int) (x : Nat) (g : Bool) : sideB D x g x = false := by
  unfold sideB
  simp [befB]
end Go.Proofs.YtlkbphogpbcjfaaGreatDoor
