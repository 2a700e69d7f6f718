/- RingApart, walked. -/
import Derived.Test.YtlegbdbepjcloaaKnown
namespace Go.Proofs.Ytlegbdbepjcloaa
open Go.RowKit Go.Conc

theorem At.drop {w : World} {b f n : Nat} {l : List Int} (h : At w (some ⟨b, f, none⟩) n l) (k : Nat) (hk : k ≤ n) : At w (some ⟨b, f + k, none⟩) (n - k) (l.drop k) := by
  refine ⟨by rw [List.length_drop, h.1], fun j hj => ?_⟩
  obtain ⟨b', f', e, hc⟩ := h.2 (k + j) (by omega)
  cases e
  refine ⟨b, f + k, rfl, ?_⟩
  rw [Nat.add_assoc, hc]
  simp [List.getD_eq_getElem?_getD]

/-- One number of a row of the call's own is stored. -/
theorem IntRow.set {B : Nat} {w : World} {g n cp : Nat} {A : List Int} (h : IntRow B w (.slice (some ⟨g, 0, none⟩) n cp) A) (j : Nat) (y : Int) :
    IntRow B (w.setCell ⟨g, j, none⟩ (.int .i64 y)) (.slice (some ⟨g, 0, none⟩) n cp) (A.set j y) := by
  unfold IntRow at *
  rw [List.length_set, List.map_set]
  obtain ⟨a, c, e, _⟩ := IntRow.sl h
  cases e
  exact (h.stored j (.int .i64 y)).1

set_option maxHeartbeats 4000000 in
theorem apart_any (a : Option Addr) (n cp : Nat) (Z : List Int) (x : Int) (w : World) (hn : n ≤ 16) (hn1 : 1 ≤ n) (hcp : n ≤ cp) (hU : At w a n Z) (hx0 : 0 ≤ x) (hx1 : x ≤ 255) :
    Calls Try.prog 6 #[.slice a n cp, .int .u8 x] w fun e w' => e = .returned (.bool true) ∧ Below w.heap.size w w' := by
  obtain ⟨_, b, f, rfl, _⟩ := hU.get 0 (by omega)
  have HU : Hid (At w (some ⟨b, f, none⟩) n Z) := hU
  have HZ : Hid (Z.length = n) := hU.1
  clear hU
  have g1 : decide ((n : Int) < 1) = false := decide_eq_false (by omega)
  have g2 : decide (16 < (n : Int)) = false := decide_eq_false (by omega)
  have g3 : ¬ (n : Int) = 0 := by omega
  have hem := Int.emod_nonneg x (show (n : Int) ≠ 0 by omega)
  have hem2 := Int.emod_lt_of_pos x (show (0 : Int) < (n : Int) by omega)
  obtain ⟨k, hk⟩ : ∃ k : Nat, x % (n : Int) = (k : Int) := ⟨(x % (n : Int)).toNat, by omega⟩
  have hkn : k < n := by omega
  clear hem hem2
  go_enter Try.func6, Try.ntmps6
  go_wp2_with fail
  refine (known_true w).mono ?_
  rintro e w1 ⟨rfl, T1⟩
  go_wp2_with fail
  refine (new_ok w.heap.size n w1 T1.size hn).mono ?_
  rintro e w2 ⟨rb, c, rfl, h2, t2, _, _⟩
  have T2 := T1.trans t2
  go_wp2_with fail
  go_loopw [7] (fun i wr => ∃ j : Nat, i = .int .i64 j ∧ j ≤ n ∧ RP w.heap.size wr rb c n (Z.take j) ∧ Turns (fun _ => False) w wr) (fun i _ => n - (intOf i).toNat)
  case atStart => exact ⟨0, rfl, by omega, by rw [List.take_zero]; exact h2, T2⟩
  case round =>
    obtain ⟨j, rfl, hj, hh, T⟩ := hrel
    clear h2 T1 t2 T2
    by_cases hjn : j < n
    · obtain ⟨y, b', f', e0, hcell, _, e3, _⟩ := HU.out.get j hjn
      cases e0
      have gx := T.cell hcell (cell_lt hcell) (fun x => x)
      have HE3 : Hid (Z.take (j + 1) = Z.take j ++ [y]) := e3
      clear hcell e3
      have b1 : (j : Int) < (n : Int) := by omega
      have b3 : (0 : Int) ≤ (j : Int) := by omega
      go_wp2_with fail
      refine (push_room y hh (by rw [List.length_take]; omega)).mono ?_
      rintro e w3 ⟨rfl, h3, t3⟩
      have T3 := hh.frame (Nat.le_refl _) T t3
      go_wp2_with fail
      go_roundw
      case rel => exact ⟨j + 1, by go_num, by omega, by rw [HE3.out]; exact h3, T3⟩
      case measure => simp [intOf]; omega
    · have hjj : j = n := by omega
      subst hjj
      have b1 : ¬ (j : Int) < (j : Int) := by omega
      rw [List.take_of_length_le (by rw [HZ.out]; omega)] at hh
      clear hj hjn
      go_wp2_with fail
      refine (all_any hh T.size).mono ?_
      rintro e w3 ⟨v3, rfl, i3, HV3, h3, t3⟩
      have T3 := hh.frame (Nat.le_refl _) T t3
      have F3 : Hid (∀ i, v3.ownBlock = some i → i < w3.heap.size) := fun i e => (World.ownsRow.lt i3 i e).2
      have G3 : Hid (∀ i, v3.ownBlock = some i → ¬ RFoot rb c i) := fun i e hf => by have h1 := HV3.out i e; have h2 := (hh.foot i hf).2; omega
      have L3 : Hid (∀ i, v3.ownBlock = some i → w.heap.size ≤ i) := fun i e => by have h1 := HV3.out i e; have h2 := T.size; omega
      go_wp2_with fail
      refine (twin_any h3 T3.size).mono ?_
      rintro e w4 ⟨tb, rfl, tc, o4⟩
      have T4 := h3.frame (Nat.le_refl _) T3 o4.tu
      have AP := h3.apt o4.lo o4.lo2
      have i4 := i3.turns o4.tu (fun i e1 e2 => G3.out i e1 (.inr e2))
      have G4 : Hid (∀ i, v3.ownBlock = some i → ¬ RFoot tb tc i) := fun i e hf => by
        have h1 := F3.out i e
        have h2 := o4.lo
        have h3 := o4.lo2
        rcases hf with hf | hf <;> omega
      have h4 := o4.old
      have u4 := o4.tw
      clear o4 hh h3 t3 T3 i3 HV3 F3 T
      obtain ⟨a4, c4, rfl, p4⟩ := i4.at
      rw [HZ.out] at i4 p4 G3 G4 L3
      rw [HZ.out]
      go_wp2_with fail
      refine (row_yes p4 (HU.out.turns T4) (by omega)).mono ?_
      rintro e w5 ⟨rfl, t5⟩
      have T5 := T4.trans t5
      have i5 := i4.keep t5
      have h5 := h4.keep t5
      have u5 := u4.keep t5
      clear t5 T4 i4 h4 u4 p4
      obtain ⟨g, e5⟩ : ∃ g, a4 = some ⟨g, 0, none⟩ := by
        obtain ⟨a', c', e', fa⟩ := i5.sl
        cases e'
        obtain ⟨g, e, _⟩ := fa 0 (by omega)
        exact ⟨g, e⟩
      subst e5
      have G3' := G3.out g rfl
      have G4' := G4.out g rfl
      have L3' := L3.out g rfl
      clear G3 G4 L3
      have HA : Hid (Z.length = j ∧ IntRow w.heap.size w5 (.slice (some ⟨g, 0, none⟩) j c4) Z) := ⟨HZ.out, i5⟩
      clear i5
      go_wp2_with fail
      rw [hk]
      clear hk
      go_loopw [11] (fun i wr => ∃ (q : Nat) (A : List Int), i = .int .i64 q ∧ q ≤ j ∧ Hid (A.length = j ∧ IntRow w.heap.size wr (.slice (some ⟨g, 0, none⟩) j c4) A) ∧ RP w.heap.size wr rb c j Z ∧ RP w.heap.size wr tb tc j Z ∧ Turns (fun _ => False) w wr) (fun i _ => j - (intOf i).toNat)
      case atStart => exact ⟨0, Z, rfl, by omega, HA, h5, u5, T5⟩
      case round =>
        clear HA h5 u5 T5
        obtain ⟨q, A, rfl, hq, HA, hh, uu, T⟩ := hrel
        by_cases hqj : q < j
        · have ho := HA.out.2
          have ho' : wr.ownsRow w.heap.size 2 1 (.slice (some ⟨g, 0, none⟩) j c4) A.length (A.map intV) := ho
          rw [HA.out.1] at ho'
          obtain ⟨y, hy⟩ : ∃ y, A.getD q 0 = y := ⟨_, rfl⟩
          have gy : wr.cell? ⟨g, q, none⟩ = some (.int .i64 y) := by
            rw [ho'.cellAt q (by omega), List.getElem?_map, ← hy]
            have : q < A.length := by rw [HA.out.1]; exact hqj
            simp [this, intV]
          have gf := ho'.frozenAt q
          clear hy ho ho'
          have b1 : (q : Int) < (j : Int) := by omega
          have b2 : (0 : Int) ≤ (q : Int) := by omega
          go_wp2_with fail
          go_roundw
          case rel =>
            have ts : Turns (fun i => i = g) wr (wr.setCell ⟨g, q, none⟩ (.int .i64 (wrap64 (y + 1)))) := Turns.setCell (S := fun i => i = g) (Turns.refl _ _) (p := ⟨g, q, none⟩) rfl _
            exact ⟨q + 1, A.set q (wrap64 (y + 1)), by go_num, by omega, ⟨by rw [List.length_set]; exact HA.out.1, HA.out.2.set q _⟩, hh.turns ts (fun i e => by subst e; exact G3'), uu.turns ts (fun i e => by subst e; exact G4'), T.next ts (fun i h1 h2 => by omega)⟩
          case measure => simp [intOf]; omega
        · have hqq : q = j := by omega
          subst hqq
          have b1 : ¬ (q : Int) < (q : Int) := by omega
          clear HA G3' G4' L3' hqj hq
          go_wp2_with fail
          go_loopw [12] (fun i wr => ∃ r : Nat, i = .int .i64 r ∧ r ≤ k ∧ RP w.heap.size wr rb c q Z ∧ RP w.heap.size wr tb tc q (Z.drop r) ∧ Turns (fun _ => False) w wr) (fun i _ => k - (intOf i).toNat)
          case atStart => exact ⟨0, rfl, by omega, hh, by rw [List.drop_zero]; exact uu, T⟩
          case round =>
            clear hh uu T
            obtain ⟨r, rfl, hr, hh, uu, T⟩ := hrel
            by_cases hrk : r < k
            · obtain ⟨y, b', f', e0, _, _, _, e3⟩ := HU.out.get r (by omega)
              cases e0
              rw [e3] at uu
              clear e3
              have c1 : (r : Int) < (k : Int) := by omega
              go_wp2_with fail
              refine (pop_some y uu).mono ?_
              rintro e w7 ⟨rfl, u7, t7⟩
              have T7 := uu.frame (Nat.le_refl _) T t7
              have h7 := hh.other AP t7
              go_wp2_with fail
              go_roundw
              case rel => exact ⟨r + 1, by go_num, by omega, h7, u7, T7⟩
              case measure => simp [intOf]; omega
            · have hrr : r = k := by omega
              subst hrr
              have c1 : ¬ (r : Int) < (r : Int) := by omega
              clear hr hrk
              have HD : Hid (At w (some ⟨b, f + r, none⟩) (q - r) (Z.drop r)) := HU.out.drop r (by omega)
              have HL : Hid (q - Z.length = 0 ∧ q - (Z.drop r).length = r) := by
                refine ⟨by rw [HZ.out]; omega, by rw [List.length_drop, HZ.out]; omega⟩
              have c2 : (0 : Int) ≤ (r : Int) := by omega
              have c3 : (r : Int) ≤ (q : Int) := by omega
              have c4' : (r : Int) ≤ (cp : Int) := by omega
              have c5 : (r : Int) < (cp : Int) := by omega
              have c6 : ((r : Int) == (r : Int)) = true := by simp
              have c7 : (q : Int) ≤ (cp : Int) := by omega
              have hqc : ¬ cp = r := by omega
              have hh' := hh.drew
              have T' := T.drew
              have uu' := uu.drew
              go_wp2_with fail
              have hqm : Z.length ≤ 1000000 := by rw [HZ.out]; omega
              have hqd : Z.length - r ≤ 1000000 := by rw [HZ.out]; omega
              go_region_held3 (fun _ => True) (go_keep) (first | (go_at_call 18; refine (all_any z4 T4.size).mono ?_; rintro e w5 ⟨v5, rfl, i5, HV5, z5, t5⟩; have T5 := z4.frame (Nat.le_refl _) T4 t5; have y5 := y4.other AP t5; obtain ⟨a5, d5, rfl, p5⟩ := i5.at; rw [List.length_drop] at p5; clear z4) | (go_at_call 17; refine (row_yes p5 (HD.out.turns T5) hqd).mono ?_; rintro e w6 ⟨rfl, t6⟩; have T6 := T5.trans t6; have y6 := y5.keep t6; have z6 := z5.keep t6; clear p5) | (go_at_call 17; refine (row_yes p3 (HU.out.turns T3) hqm).mono ?_; rintro e w4 ⟨rfl, t4⟩; have T4 := T3.trans t4; have y4 := y3.keep t4; have z4 := z3.keep t4; clear p3) | (go_at_call 18; refine (all_any hh' T'.size).mono ?_; rintro e w3 ⟨v3, rfl, i3, HV3, y3, t3⟩; have T3 := hh'.frame (Nat.le_refl _) T' t3; have z3 := uu'.other AP.symm t3; obtain ⟨a3, d3, rfl, p3⟩ := i3.at; clear hh') | (go_at_call 16; refine (room_any z7).mono ?_; rintro e w8 ⟨rfl, t8⟩; rw [HL.out.2]; have T8 := T7.trans t8; clear z7) | (go_at_call 16; refine (room_any y6).mono ?_; rintro e w7 ⟨rfl, t7⟩; rw [HL.out.1]; have T7 := T6.trans t7; have z7 := z6.keep t7; clear y6) | fail)
              go_wp2_with fail
              go_ret
              exact ⟨rfl, T8.below (fun _ x => x.elim) (Nat.le_refl _)⟩

set_option maxHeartbeats 400000 in
theorem apart_skip (a : Option Addr) (n cp : Nat) (x : Int) (w : World) (hn : (n : Int) < 1 ∨ 16 < (n : Int)) :
    Calls Try.prog 6 #[.slice a n cp, .int .u8 x] w fun e w' => e = .returned (.bool true) ∧ Below w.heap.size w w' := by
  rcases hn with hn | hn
  · have g1 : decide ((n : Int) < 1) = true := decide_eq_true hn
    clear hn
    go_enter Try.func6, Try.ntmps6
    go_wp2_with fail
    refine (known_true w).mono ?_
    rintro e w1 ⟨rfl, T1⟩
    go_wp2_with fail
    go_ret
    exact ⟨rfl, T1.below (fun _ x => x.elim) (Nat.le_refl _)⟩
  · have g1 : decide ((n : Int) < 1) = false := decide_eq_false (by omega)
    have g2 : decide (16 < (n : Int)) = true := decide_eq_true hn
    clear hn
    go_enter Try.func6, Try.ntmps6
    go_wp2_with fail
    refine (known_true w).mono ?_
    rintro e w1 ⟨rfl, T1⟩
    go_wp2_with fail
    go_ret
    exact ⟨rfl, T1.below (fun _ x => x.elim) (Nat.le_refl _)⟩
end Go.Proofs.Ytlegbdbepjcloaa
