/- RingTurns, walked. -/
import Derived.Test.YtlegbdbepjcloaaKnown
namespace Go.Proofs.Ytlegbdbepjcloaa
open Go.RowKit Go.Conc

/-- The numbers that are put ahead. -/
def negs (k : Nat) : List Int := (List.range k).map (fun i : Nat => -(i : Int))
theorem negs_len (k : Nat) : (negs k).length = k := by simp [negs]
theorem negs_succ (k : Nat) : negs (k + 1) = negs k ++ [-(k : Int)] := by simp [negs, List.range_succ]
theorem negs_get (k i : Nat) (h : i < k) : (negs k)[i]? = some (-(i : Int)) := by simp [negs, h]
/-- What is in the ring behind i rounds. -/
def win (k : Nat) (Z : List Int) (i : Nat) : List Int := ((negs k ++ Z).drop i).take k
theorem win_zero (k : Nat) (Z : List Int) : win k Z 0 = negs k := by
  unfold win
  rw [List.drop_zero, List.take_append_of_le_length (by rw [negs_len]; omega), List.take_of_length_le (by rw [negs_len]; omega)]
theorem win_len (k : Nat) (Z : List Int) (i : Nat) (h : i ≤ Z.length) : (win k Z i).length = k := by
  unfold win
  rw [List.length_take, List.length_drop, List.length_append, negs_len]; omega
theorem win_step (k : Nat) (Z : List Int) (i : Nat) (y : Int) (hy : Z[i]? = some y) : ∃ x, win k Z i ++ [y] = x :: win k Z (i + 1) ∧ (negs k ++ Z)[i]? = some x := by
  have hi : i < Z.length := (List.getElem?_eq_some_iff.1 hy).1
  have hF : i < (negs k ++ Z).length := by rw [List.length_append]; omega
  have hg : ((negs k ++ Z).drop i)[k]? = some y := by
    rw [List.getElem?_drop, List.getElem?_append_right (by rw [negs_len]; omega), negs_len, Nat.add_sub_cancel, hy]
  refine ⟨(negs k ++ Z)[i], ?_, by simp [List.getElem?_eq_getElem hF]⟩
  have h1 : win k Z i ++ [y] = ((negs k ++ Z).drop i).take (k + 1) := by
    rw [List.take_add_one, hg]; rfl
  rw [h1, List.drop_eq_getElem_cons hF]
  rfl

set_option maxHeartbeats 4000000 in
theorem turns_any (x z : Int) (a : Option Addr) (n cp : Nat) (Z : List Int) (w : World) (hn : n ≤ 60) (hU : At w a n Z) (hx0 : 0 ≤ x) (hx1 : x ≤ 255) (hz0 : 0 ≤ z) (hz1 : z ≤ 255) :
    Calls Try.prog 5 #[.int .u8 x, .int .u8 z, .slice a n cp] w fun e w' => e = .returned (.bool true) ∧ Below w.heap.size w w' := by
  have HU : Hid (At w a n Z) := hU
  have HZ : Hid (Z.length = n) := hU.1
  clear hU
  have g1 : decide (60 < (n : Int)) = false := decide_eq_false (by omega)
  obtain ⟨m, hm⟩ : ∃ m : Nat, 1 + x % 16 = (m : Int) := ⟨(1 + x % 16).toNat, by omega⟩
  have hm1 : m ≤ 16 := by omega
  have hm2 : 1 ≤ m := by omega
  have hm3 : ¬ (m : Int) = 0 := by omega
  have hem := Int.emod_nonneg z (show (m : Int) ≠ 0 by omega)
  have hem2 := Int.emod_lt_of_pos z (show (0 : Int) < (m : Int) by omega)
  obtain ⟨k, hk⟩ : ∃ k : Nat, z % (m : Int) = (k : Int) := ⟨(z % (m : Int)).toNat, by omega⟩
  have hkm : k < m := by omega
  clear hem hem2
  go_enter Try.func5, Try.ntmps5
  go_wp2_with fail
  refine (known_true w).mono ?_
  rintro e w1 ⟨rfl, T1⟩
  go_wp2_with fail
  refine (new_ok w.heap.size m w1 T1.size hm1).mono ?_
  rintro e w2 ⟨rb, c, rfl, h2, t2, _, _⟩
  have T2 := T1.trans t2
  go_wp2_with fail
  clear hm hk
  go_loopw [11] (fun i wr => ∃ j : Nat, i = .int .i64 j ∧ j ≤ k ∧ RP w.heap.size wr rb c m (negs j) ∧ Turns (fun _ => False) w wr) (fun i _ => k - (intOf i).toNat)
  case atStart => exact ⟨0, rfl, by omega, h2, T2⟩
  case round =>
    clear h2 T1 t2 T2
    obtain ⟨j, rfl, hj, hh, T⟩ := hrel
    by_cases hjk : j < k
    · have b1 : (j : Int) < (k : Int) := by omega
      have b4 : IntKind.i64.wrap (-(j : Int)) = -(j : Int) := by rw [IntKind.wrap_i64]; omega
      have b5 : IntKind.i64.wrap (0 - (j : Int)) = -(j : Int) := by rw [IntKind.wrap_i64]; omega
      go_wp2_with fail
      refine (push_room (-(j : Int)) hh (by rw [negs_len]; omega)).mono ?_
      rintro e w3 ⟨rfl, h3, t3⟩
      have T3 := hh.frame (Nat.le_refl _) T t3
      go_wp2_with fail
      go_roundw
      case rel => exact ⟨j + 1, by go_num, by omega, by rw [negs_succ]; exact h3, T3⟩
      case measure => simp [intOf]; omega
    · have hjj : j = k := by omega
      subst hjj
      have b1 : ¬ (j : Int) < (j : Int) := by omega
      rw [← win_zero j Z] at hh
      go_wp2_with fail
      go_loopw [12] (fun i wr => ∃ q : Nat, i = .int .i64 q ∧ q ≤ n ∧ RP w.heap.size wr rb c m (win j Z q) ∧ Turns (fun _ => False) w wr) (fun i _ => n - (intOf i).toNat)
      case atStart => exact ⟨0, rfl, by omega, hh, T⟩
      case round =>
        clear hh T hj hjk b1
        obtain ⟨q, rfl, hq, hh, T⟩ := hrel
        by_cases hqn : q < n
        · obtain ⟨y, b, f, rfl, hcell, hy, _, _⟩ := HU.out.get q hqn
          have gx := T.cell hcell (cell_lt hcell) (fun x => x)
          obtain ⟨v, hv1, hv2⟩ := win_step j Z q y hy
          have HV1 : Hid (win j Z q ++ [y] = v :: win j Z (q + 1)) := hv1
          have HWL : Hid ((win j Z q).length = j) := win_len j Z q (by rw [HZ.out]; omega)
          clear hv1 hy
          have b1 : (q : Int) < (n : Int) := by omega
          have b2 : (0 : Int) ≤ (q : Int) := by omega
          have b4 : IntKind.i64.wrap (-(q : Int)) = -(q : Int) := by rw [IntKind.wrap_i64]; omega
          have b5 : IntKind.i64.wrap (0 - (q : Int)) = -(q : Int) := by rw [IntKind.wrap_i64]; omega
          have b6 : (((j + 1 : Nat) : Int) != ((j + 1 : Nat) : Int)) = false := by simp
          have b7 : (((j : Nat) : Int) + 1 != ((j : Nat) : Int) + 1) = false := by simp
          by_cases hqj : q < j
          · have hvq : v = -(q : Int) := by
              rw [List.getElem?_append_left (by rw [negs_len]; exact hqj), negs_get j q hqj] at hv2
              exact (Option.some.inj hv2).symm
            have c1 : ¬ ((q : Int) ≥ (j : Int)) := by omega
            have c2 : ¬ ((j : Int) ≤ (q : Int)) := by omega
            have c3 : (-(q : Int) != -(q : Int)) = false := by simp
            subst hvq
            clear hv2
            go_wp2_with fail
            refine (push_room y hh (by rw [HWL.out]; omega)).mono ?_
            rintro e w3 ⟨rfl, h3, t3⟩
            have T3 := hh.frame (Nat.le_refl _) T t3
            rw [HV1.out] at h3
            go_wp2_with fail
            refine (len_any h3).mono ?_
            rintro e w4 ⟨rfl, hw⟩
            subst w4
            rw [← HV1.out, List.length_append, HWL.out, List.length_singleton]
            go_wp2_with fail
            refine (pop_some _ h3).mono ?_
            rintro e w4 ⟨rfl, h4, t4⟩
            have T4 := h3.frame (Nat.le_refl _) T3 t4
            go_wp2_with fail
            go_roundw
            case rel => exact ⟨q + 1, by go_num, by omega, h4, T4⟩
            case measure => simp [intOf]; omega
          · have hvq : Z[q - j]? = some v := by
              rw [List.getElem?_append_right (by rw [negs_len]; omega), negs_len] at hv2
              exact hv2
            have c1 : (q : Int) ≥ (j : Int) := by omega
            have c2 : (j : Int) ≤ (q : Int) := by omega
            have c3 : (v != v) = false := by simp
            have c4 : IntKind.i64.wrap ((q : Int) - (j : Int)) = ((q - j : Nat) : Int) := by rw [IntKind.wrap_i64]; omega
            have c5 : ((q - j : Nat) : Int) < (n : Int) := by omega
            have c6 : (0 : Int) ≤ ((q - j : Nat) : Int) := by omega
            obtain ⟨y2, b', f', e2, hcell2, hy2, _, _⟩ := HU.out.get (q - j) (by omega)
            cases e2
            have hyy : y2 = v := by rw [hvq] at hy2; exact (Option.some.inj hy2).symm
            subst hyy
            clear hv2 hvq hy2
            go_wp2_with fail
            refine (push_room y hh (by rw [HWL.out]; omega)).mono ?_
            rintro e w3 ⟨rfl, h3, t3⟩
            have T3 := hh.frame (Nat.le_refl _) T t3
            rw [HV1.out] at h3
            go_wp2_with fail
            refine (len_any h3).mono ?_
            rintro e w4 ⟨rfl, hw⟩
            subst w4
            rw [← HV1.out, List.length_append, HWL.out, List.length_singleton]
            go_wp2_with fail
            refine (pop_some _ h3).mono ?_
            rintro e w4 ⟨rfl, h4, t4⟩
            have T4 := h3.frame (Nat.le_refl _) T3 t4
            have gz := T4.cell hcell2 (cell_lt hcell2) (fun x => x)
            go_wp2_with fail
            go_roundw
            case rel => exact ⟨q + 1, by go_num, by omega, h4, T4⟩
            case measure => simp [intOf]; omega
        · have hqq : q = n := by omega
          subst hqq
          have b1 : ¬ (q : Int) < (q : Int) := by omega
          have b2 : ((j : Int) == (j : Int)) = true := by simp
          go_wp2_with fail
          refine (len_any hh).mono ?_
          rintro e w4 ⟨rfl, hw⟩
          subst w4
          rw [win_len j Z q (by rw [HZ.out]; omega)]
          go_wp2_with fail
          go_ret
          exact ⟨rfl, T.below (fun _ x => x.elim) (Nat.le_refl _)⟩

set_option maxHeartbeats 400000 in
theorem turns_skip (x z : Int) (a : Option Addr) (n cp : Nat) (w : World) (hn : 60 < (n : Int)) :
    Calls Try.prog 5 #[.int .u8 x, .int .u8 z, .slice a n cp] w fun e w' => e = .returned (.bool true) ∧ Below w.heap.size w w' := by
  go_enter Try.func5, Try.ntmps5
  go_wp2_with fail
  refine (known_true w).mono ?_
  rintro e w1 ⟨rfl, T1⟩
  go_wp2_with fail
  go_ret
  exact ⟨rfl, T1.below (fun _ x => x.elim) (Nat.le_refl _)⟩
end Go.Proofs.Ytlegbdbepjcloaa
