/- TimerDue, walked. -/
import Derived.Test.YtohgjdefgabfeaaKnown
namespace Go.Proofs.Ytohgjdefgabfeaa
open Go.RowKit Tm

/-- The entries that are put: each id with 1 + its number, of so many. -/
def entM (m : Int) (Z : List Int) (i : Nat) : Du := ⟨(i : Int), 1 + Z.getD i 0 % m⟩
def rowM (m : Int) (Z : List Int) (c : Nat) : List Du := (List.range c).map (entM m Z)
theorem rowM_succ (m : Int) (Z : List Int) (c : Nat) : rowM m Z (c + 1) = rowM m Z c ++ [entM m Z c] := by simp [rowM, List.range_succ]
theorem rowM_len (m : Int) (Z : List Int) (c : Nat) : (rowM m Z c).length = c := by simp [rowM]
theorem rowM_at (m : Int) (Z : List Int) (c i : Nat) (h : i < c) : at' (rowM m Z c) i = entM m Z i := by simp [at', rowM, h]
theorem rowM_has (m : Int) (Z : List Int) (c : Nat) : hasB (rowM m Z c) (c : Int) = false := by
  apply (plc_none (findL_none ?_)).2
  intro i hi
  rw [rowM_len] at hi
  rw [rowM_at m Z c i hi]
  simp [entM]
  omega

theorem entM_pos (m : Int) (Z : List Int) (i : Nat) (hm : 0 < m) (hm2 : m ≤ 1000) : 1 ≤ (entM m Z i).left ∧ (entM m Z i).left ≤ m := by
  have h1 := Int.emod_nonneg (Z.getD i 0) (show m ≠ 0 by omega)
  have h2 := Int.emod_lt_of_pos (Z.getD i 0) hm
  simp only [entM]
  omega
theorem rowM_left (m : Int) (Z : List Int) (c : Nat) (hm : 0 < m) (hm2 : m ≤ 1000) : ∀ x ∈ rowM m Z c, x.left ≤ m := by
  intro x hx
  simp only [rowM, List.mem_map] at hx
  obtain ⟨i, _, rfl⟩ := hx
  exact (entM_pos m Z i hm hm2).2

/-- Of the first i those that are due at k. -/
def dueM (m : Int) (Z : List Int) (k : Int) (i : Nat) : List Int := ((rowM m Z i).filter (fun x => x.left == k)).map (·.id)
theorem dueM_in {m : Int} {Z : List Int} {k : Int} {i : Nat} (h : 1 + Z.getD i 0 % m = k) : dueM m Z k (i + 1) = dueM m Z k i ++ [(i : Int)] := by
  unfold dueM
  have h' : 1 + Z[i]?.getD 0 % m = k := by simpa using h
  rw [rowM_succ, List.filter_append, List.map_append]
  simp [entM, h']
theorem dueM_out {m : Int} {Z : List Int} {k : Int} {i : Nat} (h : 1 + Z.getD i 0 % m ≠ k) : dueM m Z k (i + 1) = dueM m Z k i := by
  unfold dueM
  have h' : ¬ 1 + Z[i]?.getD 0 % m = k := by simpa using h
  rw [rowM_succ, List.filter_append, List.map_append]
  simp [entM, h']
theorem dueM_pre (m : Int) (Z : List Int) (k : Int) (i d : Nat) : ∃ r, dueM m Z k (i + d) = dueM m Z k i ++ r := by
  induction d with
  | zero => exact ⟨[], by simp⟩
  | succ d ih =>
    obtain ⟨r, hr⟩ := ih
    rw [← Nat.add_assoc]
    by_cases h : 1 + Z.getD (i + d) 0 % m = k
    · exact ⟨r ++ [((i + d : Nat) : Int)], by rw [dueM_in h, hr, List.append_assoc]⟩
    · exact ⟨r, by rw [dueM_out h, hr]⟩
theorem dueM_le (m : Int) (Z : List Int) (k : Int) (i : Nat) : (dueM m Z k i).length ≤ i := by
  unfold dueM; rw [List.length_map]
  exact Nat.le_trans (List.length_filter_le _ _) (by rw [rowM_len]; omega)
theorem dueM_at {m : Int} {Z : List Int} {k : Int} {i n : Nat} (hi : i < n) (h : 1 + Z.getD i 0 % m = k) : (dueM m Z k i).length < (dueM m Z k n).length ∧ (dueM m Z k n).getD (dueM m Z k i).length 0 = (i : Int) := by
  obtain ⟨r, hr⟩ := dueM_pre m Z k (i + 1) (n - (i + 1))
  rw [show i + 1 + (n - (i + 1)) = n from by omega, dueM_in h, List.append_assoc] at hr
  rw [hr]
  constructor
  · simp
  · simp

/-- What is told of numbers of 8 bits that came in. -/
def U8s (w : World) (a : Option Addr) (n : Nat) (Z : List Int) : Prop := ∀ j, j < n → ∃ b f, a = some ⟨b, f, none⟩ ∧ w.cell? ⟨b, f + j, none⟩ = some (.int .u8 (Z.getD j 0)) ∧ 0 ≤ Z.getD j 0 ∧ Z.getD j 0 ≤ 255

set_option maxHeartbeats 2000000 in
theorem due_any (a : Option Addr) (n cp : Nat) (Z : List Int) (w : World) (hn : n ≤ 60) (hU : U8s w a n Z) :
    Calls Try.prog 4 #[.slice a n cp] w fun e w' => e = .returned (.bool true) ∧ Below w.heap.size w w' := by
  have HU : Hid (U8s w a n Z) := hU
  clear hU
  have g1 : decide (60 < (n : Int)) = false := decide_eq_false (by omega)
  go_enter Try.func4, Try.ntmps4
  go_wp2_with fail
  refine (known_true w).mono ?_
  rintro e w1 ⟨rfl, T1⟩
  go_wp2_with fail
  refine (new_any w.heap.size w1 T1.size).mono ?_
  rintro e w2 ⟨tb, rfl, h2, t2, _⟩
  have T2 := T1.trans t2
  go_wp2_with fail
  go_loopw [4] (fun i wr => ∃ (c : Nat) (rv : Value), i = .int .i64 c ∧ c ≤ n ∧ TP 57 53 w.heap.size wr tb rv (rowM 40 Z c) ∧ Turns (fun _ => False) w wr) (fun i _ => n - (intOf i).toNat)
  case atStart => exact ⟨0, _, rfl, by omega, h2, T2⟩
  case round =>
    obtain ⟨c, rv, rfl, hc, hh, T⟩ := hrel
    clear h2 T1 t2 T2
    by_cases hcn : c < n
    · obtain ⟨b, f, rfl, hcell, hz0, hz1⟩ := HU.out c hcn
      have gx := T.cell hcell (cell_lt hcell) (fun x => x)
      have HE : Hid (entM 40 Z c = ⟨(c : Int), 1 + Z.getD c 0 % 40⟩) := rfl
      obtain ⟨x, hx⟩ : ∃ x, Z.getD c 0 = x := ⟨_, rfl⟩
      rw [hx] at gx hz0 hz1 HE
      clear hx hcell
      have b1 : (c : Int) < (n : Int) := by omega
      have b3 : (0 : Int) ≤ (c : Int) := by omega
      have hem := Int.emod_nonneg x (show (40 : Int) ≠ 0 by decide)
      have hem2 := Int.emod_lt_of_pos x (show (0 : Int) < 40 by decide)
      have HFT : Hid (fitP (c : Int) (1 + x % 40)) := ⟨by omega, by omega, by omega, by omega⟩
      clear hem hem2
      go_wp2_with fail
      refine (put_ok (c : Int) (1 + x % 40) hh HFT.out (rowM_has 40 Z c) (by rw [rowM_len]; omega) T.size).mono ?_
      rintro e w3 ⟨rfl, rv3, o3⟩
      have T3 := hh.frame (Nat.le_refl _) T o3.tu
      go_wp2_with fail
      go_roundw
      case rel =>
        refine ⟨c + 1, rv3, by go_num, by omega, ?_, T3⟩
        rw [rowM_succ, HE.out]
        exact o3.tp
      case measure => simp [intOf]; omega
    · have hcc : c = n := by omega
      subst hcc
      clear hcn
      have HR : Hid (∀ x ∈ rowM 40 Z c, x.left ≤ 40) := rowM_left 40 Z c (by omega) (by omega)
      have hpos := hh.pos
      have h0 : TP 57 53 w.heap.size wr tb rv (aft ((0 : Nat) : Int) (rowM 40 Z c)) := by rw [show ((0 : Nat) : Int) = 0 from rfl, aft_zero hpos]; exact hh
      clear hh
      go_wp2_with fail
      go_loopw [5] (fun i wr => ∃ (j : Nat) (rv : Value), i = .int .i64 ((j : Int) + 1) ∧ j ≤ 40 ∧ TP 57 53 w.heap.size wr tb rv (aft (j : Int) (rowM 40 Z c)) ∧ Turns (fun _ => False) w wr) (fun i _ => 41 - (intOf i).toNat)
      case atStart => exact ⟨0, rv, rfl, by omega, h0, T⟩
      case round =>
        clear h0 T
        obtain ⟨j, rv, rfl, hj, hh, T⟩ := hrel
        by_cases hj4 : j < 40
        · have q1 : ((j : Int) + 1 ≤ 40) := by omega
          go_wp2_with fail
          refine (tick_any hh T.size).mono ?_
          rintro e w3 ⟨dv, rfl, i3, rv3, o3, _⟩
          have T3 := hh.frame (Nat.le_refl _) T o3.tu
          have hh3 := o3.tp
          rw [rest_aft] at hh3
          rw [due_aft] at i3
          have i3' : IntRow w.heap.size w3 dv (dueM 40 Z ((j : Int) + 1) c) := i3
          obtain ⟨da, dc, rfl, hda⟩ := i3'.sl
          have HDA : Hid (∀ i, i < (dueM 40 Z ((j : Int) + 1) c).length → ∃ g, da = some ⟨g, 0, none⟩ ∧ ∀ q, q < (dueM 40 Z ((j : Int) + 1) c).length → w3.cell? ⟨g, q, none⟩ = some (.int .i64 ((dueM 40 Z ((j : Int) + 1) c).getD q 0))) := hda
          clear hda i3 i3'
          have hDl := dueM_le 40 Z ((j : Int) + 1) c
          go_wp2_with fail
          go_loopw [7, 8] (fun m i wr => ∃ d : Nat, i = .int .i64 d ∧ d ≤ c ∧ m = .int .i64 ((dueM 40 Z ((j : Int) + 1) d).length : Int) ∧ wr = w3) (fun _ i _ => c - (intOf i).toNat)
          case atStart => exact ⟨0, rfl, by omega, rfl, rfl⟩
          case round =>
            obtain ⟨d, rfl, hd, rfl, rfl⟩ := hrel
            have hdl := dueM_le 40 Z ((j : Int) + 1) d
            by_cases hdc : d < c
            · obtain ⟨b, f, rfl, hcell, hz0, hz1⟩ := HU.out d hdc
              have gx := T3.cell hcell (cell_lt hcell) (fun x => x)
              have Hin : Hid (1 + Z.getD d 0 % 40 = (j : Int) + 1 → dueM 40 Z ((j : Int) + 1) (d + 1) = dueM 40 Z ((j : Int) + 1) d ++ [(d : Int)]) := dueM_in
              have Hout : Hid (1 + Z.getD d 0 % 40 ≠ (j : Int) + 1 → dueM 40 Z ((j : Int) + 1) (d + 1) = dueM 40 Z ((j : Int) + 1) d) := dueM_out
              have Hat : Hid (1 + Z.getD d 0 % 40 = (j : Int) + 1 → (dueM 40 Z ((j : Int) + 1) d).length < (dueM 40 Z ((j : Int) + 1) c).length ∧ (dueM 40 Z ((j : Int) + 1) c).getD (dueM 40 Z ((j : Int) + 1) d).length 0 = (d : Int)) := dueM_at hdc
              obtain ⟨x, hx⟩ : ∃ x, Z.getD d 0 = x := ⟨_, rfl⟩
              rw [hx] at gx hz0 hz1 Hin Hout Hat
              clear hx hcell
              have b1 : (d : Int) < (c : Int) := by omega
              have b3 : (0 : Int) ≤ (d : Int) := by omega
              by_cases hk : 1 + x % 40 = (j : Int) + 1
              · have q2 : (1 + x % 40 != (j : Int) + 1) = false := by simp [hk]
                have HK : Hid (1 + x % 40 = (j : Int) + 1) := hk
                clear hk
                obtain ⟨A1, A2⟩ := Hat.out HK.out
                obtain ⟨dg, rfl, hdq⟩ := HDA.out _ A1
                have gy := hdq _ A1
                rw [A2] at gy
                clear hdq
                have e1 : (((dueM 40 Z ((j : Int) + 1) c).length : Int) ≤ ((dueM 40 Z ((j : Int) + 1) d).length : Int)) = False := by simp; omega
                have q4 : ((d : Int) != (d : Int)) = false := by simp
                go_wp2_with fail
                go_roundw
                case rel =>
                  refine ⟨d + 1, by go_num, by omega, ?_, by first | rfl | trivial⟩
                  rw [Hin.out HK.out, List.length_append]
                  go_num
                case measure => simp [intOf]; omega
              · have q2 : (1 + x % 40 != (j : Int) + 1) = true := by rw [bne_iff_ne]; exact hk
                have HK : Hid (1 + x % 40 ≠ (j : Int) + 1) := hk
                clear hk
                go_wp2_with fail
                go_roundw
                case rel =>
                  refine ⟨d + 1, by go_num, by omega, ?_, by first | rfl | trivial⟩
                  rw [Hout.out HK.out]
                case measure => simp [intOf]; omega
            · have hdd : d = c := by omega
              subst hdd
              have b1 : ¬ (d : Int) < (d : Int) := by omega
              have q5 : (((dueM 40 Z ((j : Int) + 1) d).length : Int) != ((dueM 40 Z ((j : Int) + 1) d).length : Int)) = false := by simp
              go_wp2_with fail
              go_roundw
              case rel => exact ⟨j + 1, rv3, by go_num, by omega, by simpa using hh3, T3⟩
              case measure => simp [intOf]; omega
        · have hjj : j = 40 := by omega
          subst hjj
          have hE : aft ((40 : Nat) : Int) (rowM 40 Z c) = [] := aft_end _ _ (fun x hx => by have := HR.out x hx; simpa using this)
          rw [hE] at hh
          clear hE
          go_wp2_with fail
          refine (len_any hh).mono ?_
          rintro e w3 ⟨rfl, hw⟩
          subst w3
          go_wp2_with fail
          refine (tick_any hh T.size).mono ?_
          rintro e w3 ⟨dv, rfl, i3, rv3, o3, _⟩
          have T3 := hh.frame (Nat.le_refl _) T o3.tu
          have i3' : IntRow w.heap.size w3 dv [] := i3
          obtain ⟨da, dc, rfl, _⟩ := i3'.sl
          go_wp2_with fail
          go_ret
          exact ⟨rfl, T3.below (fun _ x => x.elim) (Nat.le_refl _)⟩

set_option maxHeartbeats 400000 in
theorem due_skip (a : Option Addr) (n cp : Nat) (w : World) (hn : 60 < (n : Int)) :
    Calls Try.prog 4 #[.slice a n cp] w fun e w' => e = .returned (.bool true) ∧ Below w.heap.size w w' := by
  go_enter Try.func4, Try.ntmps4
  go_wp2_with fail
  refine (known_true w).mono ?_
  rintro e w1 ⟨rfl, T1⟩
  go_wp2_with fail
  go_ret
  exact ⟨rfl, T1.below (fun _ x => x.elim) (Nat.le_refl _)⟩

end Go.Proofs.Ytohgjdefgabfeaa
