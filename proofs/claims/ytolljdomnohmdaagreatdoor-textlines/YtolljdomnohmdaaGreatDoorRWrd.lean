/- The reference's Word, by its contract. -/
import Derived.Laws.IdiomStrings
import Derived.Test.YtolljdomnohmdaaGreatDoorM2
namespace Go.Proofs.YtolljdomnohmdaaGreatDoor
open Go.RowKit

theorem kept_digit (w : World) (x : Value) : Kept w (w.alloc (.cells #[x] 5)) := (Kept.refl w).alloc _
/-- The last digit. -/
def dig (m : Nat) : UInt8 := UInt8.ofNat (48 + m % 10)
theorem dig_nat (m : Nat) : (dig m).toNat = 48 + m % 10 := ofNat_digit (Nat.mod_lt _ (by decide))
/-- Those ahead of it. -/
def pre (m : Nat) : List UInt8 := if m < 10 then [] else Lib.decDigits (m / 10)
theorem dec_pre (m : Nat) : Lib.decDigits m = pre m ++ [dig m] := by
  unfold pre
  by_cases h : m < 10
  · rw [if_pos h, Lib.decDigits_one h, dig, Nat.mod_eq_of_lt h]; rfl
  · rw [if_neg h, dec_rec h]; rfl
theorem conv_digit (W : World) (m : Nat) :
    (convert 56 9 (.slice (some ⟨W.heap.size, 0, none⟩) 1 1)).run Tryz.prog (W.alloc (.cells #[.int .u8 (48 + (m : Int) % 10)] 5)) = .ok (.string (B [dig m])) (W.alloc (.cells #[.int .u8 (48 + (m : Int) % 10)] 5)) := by
  refine run_convert_bytes_back (P := Tryz.prog) _ 56 9 5 ⟨W.heap.size, 0, none⟩ 1 [dig m] Tryz.underlying56 Tryz.underlying5 Tryz.underlying9 ?_
  intro j hj
  have hj0 : j = 0 := by simp at hj; omega
  subst hj0
  rw [Addr.add_lit, Nat.zero_add, World.cell?_alloc_at _ _ _ _ rfl]
  simp [dig_nat]

theorem dec_len : ∀ (k u : Nat), u < 10 ^ (k + 1) → (Lib.decDigits u).length ≤ k + 1
  | 0, u, h => by rw [Lib.decDigits_one (by simpa using h)]; simp
  | k + 1, u, h => by
    by_cases h9 : u < 10
    · rw [Lib.decDigits_one h9]; simp
    · rw [dec_rec h9, List.length_append]
      have := dec_len k (u / 10) (by rw [Nat.pow_succ] at h; omega)
      simp; omega
theorem dec_len19 (u : Nat) (h : u < 10000000000000000000) : (Lib.decDigits u).length ≤ 19 := dec_len 18 u h

set_option maxHeartbeats 2000000 in
theorem rword_pos (n : Nat) (hn : n ≤ 9223372036854775807) (w : World) :
    Calls Tryz.prog 25 #[.int .i64 (n : Int)] w fun e w' => e = .returned (.string (B (Lib.decDigits n))) ∧ Kept w w' := by
  have t0 : decide ((n : Int) < 0) = false := decide_eq_false (by omega)
  have hcv := conv_digit w n
  have HL : Hid ((Lib.decDigits n).length ≤ 19) := dec_len19 n (by omega)
  go_enter Tryz.func25, Tryz.ntmps25
  go_wp2_with fail
  clear hcv t0
  go_loopw [0, 3] (fun x s wr => ∃ (m : Nat) (r : List UInt8), x = .int .i64 (m : Int) ∧ s = .string (B r) ∧ m ≤ n ∧ Hid (Lib.decDigits n = pre m ++ r) ∧ Kept w wr) (fun x _ _ => (intOf x).toNat)
  case atStart => exact ⟨n, [dig n], rfl, rfl, Nat.le_refl _, dec_pre n, kept_digit _ _⟩
  case round =>
    obtain ⟨m, r, rfl, rfl, hm, HR, T⟩ := hrel
    by_cases h10 : m < 10
    · have t1 : decide ((10 : Int) ≤ (m : Int)) = false := decide_eq_false (by omega)
      have HP : Hid (Lib.decDigits n = r) := by
        have := HR.out
        unfold pre at this
        rw [if_pos h10] at this
        exact this
      clear h10
      go_wp2_with fail
      go_ret
      rw [HP.out]
      exact ⟨rfl, T⟩
    · have t1 : decide ((10 : Int) ≤ (m : Int)) = true := decide_eq_true (by omega)
      obtain ⟨q, hq⟩ : ∃ q : Nat, m / 10 = q := ⟨_, rfl⟩
      have hq2 : (m : Int) / 10 = (q : Int) := by omega
      have HQ : Hid (q < m ∧ Lib.decDigits n = pre q ++ dig q :: r) := by
        refine ⟨by omega, ?_⟩
        have := HR.out
        unfold pre at this
        rw [if_neg h10, hq, dec_pre q] at this
        rw [this]; simp
      have hcv := conv_digit wr q
      have hlr : r.length ≤ 19 := by
        have h1 := HL.out
        rw [HR.out, List.length_append] at h1
        omega
      have hadd : ∀ wx, (Op.stringOp .add (B [dig q]) (B r)).run Tryz.prog wx = .ok (.string (B (dig q :: r))) wx := by
        intro wx
        rw [run_string_add_sum _ _ _ (by rw [B_size, B_size]; simp; omega), B_add]
        rfl
      clear hq h10 hlr
      go_wp2_with fail
      go_roundw
      case rel => exact ⟨q, dig q :: r, rfl, rfl, by have := HQ.out.1; omega, HQ.out.2, T.trans (kept_digit _ _)⟩
      case measure => have := HQ.out.1; simp [intOf]; omega

theorem wrap_neg (q : Nat) (h : q ≤ 1000000000000000000) : wrap64 (-(q : Int)) = -(q : Int) := by
  rw [wrap64]
  omega

set_option maxHeartbeats 400000 in
theorem rword_neg : ∀ (u : Nat), 1 ≤ u → u ≤ 9223372036854775808 → ∀ w : World,
    Calls Tryz.prog 25 #[.int .i64 (-(u : Int))] w fun e w' => e = .returned (.string (B (45 :: Lib.decDigits u))) ∧ Kept w w' := by
  intro u
  induction u using Nat.strongRecOn with
  | _ u ih =>
    intro h1 h2 w
    have t0 : decide (-(u : Int) < 0) = true := decide_eq_true (by omega)
    by_cases h9 : u < 10
    · have t1 : decide (-10 < -(u : Int)) = true := decide_eq_true (by omega)
      have hdl : (Lib.decDigits u).length ≤ 19 := dec_len19 u (by omega)
      have hadd : ∀ wx, (Op.stringOp .add ⟨#[45]⟩ (B (Lib.decDigits u))).run Tryz.prog wx = .ok (.string (B (45 :: Lib.decDigits u))) wx := by
        intro wx
        have e45 : (⟨#[45]⟩ : ByteArray) = B [45] := rfl
        rw [e45, run_string_add_sum _ _ _ (by rw [B_size, B_size]; simp; omega), B_add]
        rfl
      have hwp := rword_pos u (by omega)
      clear ih hdl
      go_enter Tryz.func25, Tryz.ntmps25
      go_wp2_with fail
      refine (hwp _).mono ?_
      rintro e w1 ⟨rfl, k1⟩
      go_wp2_with fail
      go_ret
      exact ⟨rfl, k1⟩
    · have t1 : decide ((u : Int) < 10) = false := decide_eq_false (by omega)
      have t2 : ¬ (u : Int) < 10 := by omega
      obtain ⟨q, hq⟩ : ∃ q : Nat, u / 10 = q := ⟨_, rfl⟩
      obtain ⟨d, hd⟩ : ∃ d : Nat, u % 10 = d := ⟨_, rfl⟩
      have hdl : (Lib.decDigits q).length ≤ 19 := dec_len19 q (by omega)
      have hd9 : d < 10 := by omega
      have HD : Hid (Lib.decDigits u = Lib.decDigits q ++ Lib.decDigits d) := by
        show _ = _
        rw [dec_rec h9, hq, hd, Lib.decDigits_one hd9]
      have hadd : ∀ wx, (Op.stringOp .add (B (45 :: Lib.decDigits q)) (B (Lib.decDigits d))).run Tryz.prog wx = .ok (.string (B (45 :: (Lib.decDigits q ++ Lib.decDigits d)))) wx := by
        intro wx
        have := dec_len19 d (by omega)
        rw [run_string_add_sum _ _ _ (by rw [B_size, B_size]; simp; omega), B_add]
        rfl
      have hih : ∀ w : World, Calls Tryz.prog 25 #[.int .i64 (-(q : Int))] w (fun e w' => e = .returned (.string (B (45 :: Lib.decDigits q))) ∧ Kept w w') := fun w => ih q (by omega) (by omega) (by omega) w
      have hwp := rword_pos d (by omega)
      have hq2 : (-(u : Int)).tdiv 10 = -(q : Int) := by rw [Int.neg_tdiv, Int.tdiv_eq_ediv_of_nonneg (by omega)]; omega
      have hd2 : (-(u : Int)).tmod 10 = -(d : Int) := by rw [Int.neg_tmod, Int.tmod_eq_emod_of_nonneg (by omega)]; omega
      have hwq : wrap64 (-(q : Int)) = -(q : Int) := wrap_neg q (by omega)
      clear ih hdl hq hd h9
      go_enter Tryz.func25, Tryz.ntmps25
      go_wp2_with fail
      refine (hih w).mono ?_
      rintro e w1 ⟨rfl, k1⟩
      go_wp2_with fail
      refine (hwp _).mono ?_
      rintro e w2 ⟨rfl, k2⟩
      go_wp2_with fail
      go_ret
      rw [HD.out]
      exact ⟨rfl, k1.trans k2⟩

theorem rword_any (n : Int) (h0 : -9223372036854775808 ≤ n) (h1 : n ≤ 9223372036854775807) (w : World) :
    Calls Tryz.prog 25 #[.int .i64 n] w fun e w' => e = .returned (.string (B (Lib.itoa n))) ∧ Kept w w' := by
  by_cases hn : n < 0
  · have e : n = -((n.natAbs : Nat) : Int) := by omega
    have := rword_neg n.natAbs (by omega) (by omega) w
    rw [← e] at this
    unfold Lib.itoa
    rw [if_pos hn]
    exact this
  · have e : n = ((n.toNat : Nat) : Int) := by omega
    have := rword_pos n.toNat (by omega) w
    rw [← e] at this
    unfold Lib.itoa
    rw [if_neg hn]
    exact this
end Go.Proofs.YtolljdomnohmdaaGreatDoor
