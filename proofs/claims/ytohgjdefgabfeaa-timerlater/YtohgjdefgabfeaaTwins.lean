/- TimerTwins, walked. -/
import Derived.Test.YtohgjdefgabfeaaDue
namespace Go.Proofs.Ytohgjdefgabfeaa
open Go.RowKit Tm

theorem aft_left (k : Int) (row : List Du) (m : Int) (hk : 0 ≤ k) (h : ∀ x ∈ row, x.left ≤ m) : ∀ x ∈ aft k row, x.left ≤ m := by
  intro x hx
  simp only [aft, List.mem_map, List.mem_filter] at hx
  obtain ⟨y, ⟨hy, _⟩, rfl⟩ := hx
  have := h y hy
  show y.left - k ≤ m
  omega

/-- Timers that share nothing. -/
def Apt (a : Nat) (va : Value) (b : Nat) (vb : Value) : Prop := ∀ k, Foot a va k → ¬ Foot b vb k
theorem Apt.symm {a : Nat} {va : Value} {b : Nat} {vb : Value} (h : Apt a va b vb) : Apt b vb a va := fun k h1 h2 => h k h2 h1
theorem Apt.out {e s e2 s2 : TypeId} {B B2 : Nat} {w w' : World} {tb ub : Nat} {rv rv' uv : Value} {row' r2 : List Du} (h : Apt tb rv ub uv) (o : Out e s B w w' tb rv rv' row') (hu : TP e2 s2 B2 w ub uv r2) : Apt tb rv' ub uv ∧ TP e2 s2 B2 w' ub uv r2 := by
  refine ⟨?_, hu.turns o.tu (fun k hf => h k hf)⟩
  intro k hk hf
  rcases o.foot k hk with h1 | h1
  · exact h k h1 hf
  · have := (hu.foot k hf).2; omega
theorem Apt.twin {e s e2 s2 : TypeId} {B B2 : Nat} {w w' : World} {tb ub : Nat} {rv uv : Value} {row r2 : List Du} (o : TwinOut e s B w w' tb rv row) (hu : TP e2 s2 B2 w ub uv r2) : Apt tb rv ub uv ∧ TP e2 s2 B2 w' ub uv r2 := by
  refine ⟨?_, hu.keep o.tu⟩
  intro k hk hf
  have := o.lo k hk
  have := (hu.foot k hf).2
  omega

set_option maxHeartbeats 4000000 in
theorem twins_any (a : Option Addr) (n cp : Nat) (Z : List Int) (x : Int) (w : World) (hn : n ≤ 40) (hU : U8s w a n Z) (hx0 : 0 ≤ x) (hx1 : x ≤ 255) :
    Calls Try.prog 6 #[.slice a n cp, .int .u8 x] w fun e w' => e = .returned (.bool true) ∧ Below w.heap.size w w' := by
  have HU : Hid (U8s w a n Z) := hU
  clear hU
  have g1 : decide (40 < (n : Int)) = false := decide_eq_false (by omega)
  have hem := Int.emod_nonneg x (show (30 : Int) ≠ 0 by decide)
  have hem2 := Int.emod_lt_of_pos x (show (0 : Int) < 30 by decide)
  go_enter Try.func6, Try.ntmps6
  go_wp2_with fail
  refine (known_true w).mono ?_
  rintro e w1 ⟨rfl, T1⟩
  go_wp2_with fail
  refine (new_any w.heap.size w1 T1.size).mono ?_
  rintro e w2 ⟨tb, rfl, h2, t2, _⟩
  have T2 := T1.trans t2
  go_wp2_with fail
  go_loopw [6] (fun i wr => ∃ (c : Nat) (rv : Value), i = .int .i64 c ∧ c ≤ n ∧ TP 57 53 w.heap.size wr tb rv (rowM 30 Z c) ∧ Turns (fun _ => False) w wr) (fun i _ => n - (intOf i).toNat)
  case atStart => exact ⟨0, _, rfl, by omega, h2, T2⟩
  case round =>
    obtain ⟨c, rv, rfl, hc, hh, T⟩ := hrel
    clear h2 T1 t2 T2
    by_cases hcn : c < n
    · obtain ⟨b, f, rfl, hcell, hz0, hz1⟩ := HU.out c hcn
      have gx := T.cell hcell (cell_lt hcell) (fun x => x)
      have HE : Hid (entM 30 Z c = ⟨(c : Int), 1 + Z.getD c 0 % 30⟩) := rfl
      obtain ⟨y, hy⟩ : ∃ x, Z.getD c 0 = x := ⟨_, rfl⟩
      rw [hy] at gx hz0 hz1 HE
      clear hy hcell
      have b1 : (c : Int) < (n : Int) := by omega
      have b3 : (0 : Int) ≤ (c : Int) := by omega
      have hem3 := Int.emod_nonneg y (show (30 : Int) ≠ 0 by decide)
      have hem4 := Int.emod_lt_of_pos y (show (0 : Int) < 30 by decide)
      have HFT : Hid (fitP (c : Int) (1 + y % 30)) := ⟨by omega, by omega, by omega, by omega⟩
      clear hem3 hem4
      go_wp2_with fail
      refine (put_ok (c : Int) (1 + y % 30) hh HFT.out (rowM_has 30 Z c) (by rw [rowM_len]; omega) T.size).mono ?_
      rintro e w3 ⟨rfl, rv3, o3⟩
      have T3 := hh.frame (Nat.le_refl _) T o3.tu
      go_wp2_with fail
      go_roundw
      case rel =>
        refine ⟨c + 1, rv3, by go_num, by omega, ?_, T3⟩
        rw [rowM_succ, HE.out]
        exact o3.tp
      case measure => simp [intOf]; omega
    · have hcc : c = n := by omega
      subst hcc
      clear hcn
      have HR : Hid (∀ x ∈ rowM 30 Z c, x.left ≤ 30) := rowM_left 30 Z c (by omega) (by omega)
      have h0 : TP 57 53 w.heap.size wr tb rv (aft ((0 : Nat) : Int) (rowM 30 Z c)) := by rw [show ((0 : Nat) : Int) = 0 from rfl, aft_zero hh.pos]; exact hh
      clear hh
      go_wp2_with fail
      go_loopw [7] (fun i wr => ∃ (j : Nat) (rv : Value), i = .int .i64 (j : Int) ∧ (j : Int) ≤ x % 30 ∧ TP 57 53 w.heap.size wr tb rv (aft (j : Int) (rowM 30 Z c)) ∧ Turns (fun _ => False) w wr) (fun i _ => 30 - (intOf i).toNat)
      case atStart => exact ⟨0, rv, rfl, by omega, h0, T⟩
      case round =>
        clear h0 T
        obtain ⟨j, rv, rfl, hj, hh, T⟩ := hrel
        by_cases hj4 : (j : Int) < x % 30
        · go_wp2_with fail
          refine (tick_any hh T.size).mono ?_
          rintro e w3 ⟨dv, rfl, i3, rv3, o3, _⟩
          have T3 := hh.frame (Nat.le_refl _) T o3.tu
          have hh3 := o3.tp
          rw [rest_aft] at hh3
          go_wp2_with fail
          go_roundw
          case rel => exact ⟨j + 1, rv3, by go_num, by omega, by simpa using hh3, T3⟩
          case measure => simp [intOf]; omega
        · have HR0 : Hid (∀ y ∈ aft (j : Int) (rowM 30 Z c), y.left ≤ 30) := aft_left _ _ 30 (by omega) HR.out
          generalize aft (j : Int) (rowM 30 Z c) = R at *
          clear HU HR
          go_wp2_with fail
          refine (twin_any hh T.size).mono ?_
          rintro e w3 ⟨ub, rfl, uv, o3⟩
          have A3 := Apt.twin o3 hh
          have T3 := T.trans o3.tu
          go_wp2_with fail
          refine (twin_any A3.2 T3.size).mono ?_
          rintro e w4 ⟨vb, rfl, vv, o4⟩
          have A4 := Apt.twin o4 A3.2
          have A5 := Apt.twin o4 o3.tp
          have T4 := T3.trans o4.tu
          have hv0 : TP 57 53 w.heap.size w4 vb vv (aft ((0 : Nat) : Int) R) := by rw [show ((0 : Nat) : Int) = 0 from rfl, aft_zero hh.pos]; exact o4.tp
          go_wp2_with fail
          go_loopw [10] (fun i wr => ∃ (q : Nat) (vq : Value), i = .int .i64 (q : Int) ∧ q ≤ 31 ∧ TP 57 53 w.heap.size wr tb rv R ∧ TP 57 53 w.heap.size wr ub uv R ∧ TP 57 53 w.heap.size wr vb vq (aft (q : Int) R) ∧ Apt vb vq tb rv ∧ Apt vb vq ub uv ∧ Turns (fun _ => False) w wr) (fun i _ => 31 - (intOf i).toNat)
          case atStart => exact ⟨0, vv, rfl, by omega, A4.2, A5.2, hv0, A4.1, A5.1, T4⟩
          case round =>
            have AP := A3.1
            clear A4 A5 hv0 T4 T3 A3 o3 o4 T hh
            obtain ⟨q, vq, rfl, hq, ht, hu, hv, D1, D2, T⟩ := hrel
            by_cases hq3 : q < 31
            · have b1 : (q : Int) < 31 := by omega
              go_wp2_with fail
              refine (tick_any hv T.size).mono ?_
              rintro e w5 ⟨dv, rfl, i5, vq5, o5, _⟩
              have T5 := hv.frame (Nat.le_refl _) T o5.tu
              have hv5 := o5.tp
              rw [rest_aft] at hv5
              have E1 := D1.out o5 ht
              have E2 := D2.out o5 hu
              go_wp2_with fail
              go_roundw
              case rel => exact ⟨q + 1, vq5, by go_num, by omega, E1.2, E2.2, by simpa using hv5, E1.1, E2.1, T5⟩
              case measure => simp [intOf]; omega
            · have hqq : q = 31 := by omega
              subst hqq
              clear hq hq3
              rw [aft_end _ _ (fun y hy => by have := HR0.out y hy; simp; omega)] at hv
              go_wp2_with fail
              refine (len_any hv).mono ?_
              rintro e w5 ⟨rfl, hw⟩
              subst w5
              go_wp2_with fail
              refine (put_ok 0 5 hv ⟨by decide, by decide, by decide, by decide⟩ rfl (by simp) T.size).mono ?_
              rintro e w5 ⟨rfl, vq5, o5⟩
              have T5 := hv.frame (Nat.le_refl _) T o5.tu
              have hv5 : TP 57 53 w.heap.size w5 vb vq5 [⟨0, 5⟩] := o5.tp
              have E1 := D1.out o5 ht
              have E2 := D2.out o5 hu
              have ht0 : TP 57 53 w.heap.size w5 tb rv (aft ((0 : Nat) : Int) R) := by rw [show ((0 : Nat) : Int) = 0 from rfl, aft_zero ht.pos]; exact E1.2
              have hu0 : TP 57 53 w.heap.size w5 ub uv (aft ((0 : Nat) : Int) R) := by rw [show ((0 : Nat) : Int) = 0 from rfl, aft_zero ht.pos]; exact E2.2
              go_wp2_with fail
              go_loopw [11] (fun i wr => ∃ (q : Nat) (rt ru : Value), i = .int .i64 (q : Int) ∧ q ≤ 31 ∧ TP 57 53 w.heap.size wr tb rt (aft (q : Int) R) ∧ TP 57 53 w.heap.size wr ub ru (aft (q : Int) R) ∧ TP 57 53 w.heap.size wr vb vq5 [⟨0, 5⟩] ∧ Apt ub ru tb rt ∧ Apt vb vq5 tb rt ∧ Apt vb vq5 ub ru ∧ Turns (fun _ => False) w wr) (fun i _ => 31 - (intOf i).toNat)
              case atStart => exact ⟨0, rv, uv, rfl, by omega, ht0, hu0, hv5, AP, E1.1, E2.1, T5⟩
              case round =>
                clear ht0 hu0 hv5 E1 E2 T5 o5 ht hu hv D1 D2 T AP
                obtain ⟨q, rt, ru, rfl, hq, ht, hu, hv, D0, D1, D2, T⟩ := hrel
                by_cases hq3 : q < 31
                · have b1 : (q : Int) < 31 := by omega
                  have hlt := ht.len
                  go_wp2_with fail
                  refine (len_any ht).mono ?_
                  rintro e w6 ⟨rfl, hw⟩
                  subst w6
                  go_wp2_with fail
                  refine (len_any hu).mono ?_
                  rintro e w6 ⟨rfl, hw⟩
                  subst w6
                  have q1 : (((aft (q : Int) R).length : Int) != ((aft (q : Int) R).length : Int)) = false := by simp
                  go_wp2_with fail
                  refine (tick_any ht T.size).mono ?_
                  rintro e w6 ⟨d6, rfl, i6, rt6, o6, l6⟩
                  have T6 := ht.frame (Nat.le_refl _) T o6.tu
                  have E0 := D0.symm.out o6 hu
                  have E1 := D1.symm.out o6 hv
                  have ht6 := o6.tp
                  rw [rest_aft] at ht6
                  have fu := hu.foot
                  go_wp2_with fail
                  refine (tick_any E0.2 T6.size).mono ?_
                  rintro e w7 ⟨d7, rfl, i7, ru7, o7, l7⟩
                  have T7 := E0.2.frame (Nat.le_refl _) T6 o7.tu
                  have F0 := E0.1.symm.out o7 ht6
                  have F2 := D2.symm.out o7 E1.2
                  have hu7 := o7.tp
                  rw [rest_aft] at hu7
                  have j7 := i6.turns o7.tu (fun k e hf => by have h1 := (l6 k e).1; have h2 := (fu k hf).2; omega)
                  go_wp2_with fail
                  refine (ints_any j7 i7 (by have := dueR_le (aft (q : Int) R); omega)).mono ?_
                  rintro e w8 ⟨rfl, t8⟩
                  rw [show decide (dueR (aft (q : Int) R) = dueR (aft (q : Int) R)) = true from by simp]
                  go_wp2_with fail
                  go_roundw
                  case rel => exact ⟨q + 1, rt6, ru7, by go_num, by omega, by simpa using F0.2.keep t8, by simpa using hu7.keep t8, F2.2.keep t8, F0.1, E1.1.symm, F2.1.symm, T7.trans t8⟩
                  case measure => simp [intOf]; omega
                · have hqq : q = 31 := by omega
                  subst hqq
                  clear hq hq3
                  rw [aft_end _ _ (fun y hy => by have := HR0.out y hy; simp; omega)] at ht
                  go_wp2_with fail
                  refine (len_any ht).mono ?_
                  rintro e w6 ⟨rfl, hw⟩
                  subst w6
                  go_wp2_with fail
                  refine (len_any hv).mono ?_
                  rintro e w6 ⟨rfl, hw⟩
                  subst w6
                  go_wp2_with fail
                  go_ret
                  exact ⟨rfl, T.below (fun _ x => x.elim) (Nat.le_refl _)⟩

set_option maxHeartbeats 400000 in
theorem twins_skip (a : Option Addr) (n cp : Nat) (x : Int) (w : World) (hn : 40 < (n : Int)) :
    Calls Try.prog 6 #[.slice a n cp, .int .u8 x] w fun e w' => e = .returned (.bool true) ∧ Below w.heap.size w w' := by
  go_enter Try.func6, Try.ntmps6
  go_wp2_with fail
  refine (known_true w).mono ?_
  rintro e w1 ⟨rfl, T1⟩
  go_wp2_with fail
  go_ret
  exact ⟨rfl, T1.below (fun _ x => x.elim) (Nat.le_refl _)⟩
end Go.Proofs.Ytohgjdefgabfeaa
