/- Ints of the law's package: are two rows of numbers alike; by its contract. -/
import Derived.Test.YtohgjdefgabfeaaCan
namespace Go.Proofs.Ytohgjdefgabfeaa
open Go.RowKit Tm

set_option maxHeartbeats 400000 in
theorem ints_len {na nb : Nat} (a b : Option Addr) (ca cb : Nat) (w : World) (h : na ≠ nb) :
    Calls Try.prog 13 #[.slice a na ca, .slice b nb cb] w fun e w' => e = .returned (.bool false) ∧ w' = w := by
  have t : ((na : Int) != (nb : Int)) = true := by rw [bne_iff_ne]; omega
  go_enter Try.func13, Try.ntmps13
  go_wp2
  go_ret
  exact ⟨rfl, rfl⟩

set_option maxHeartbeats 400000 in
theorem ints_zero (a b : Option Addr) (ca cb : Nat) (w : World) :
    Calls Try.prog 13 #[.slice a 0 ca, .slice b 0 cb] w fun e w' => e = .returned (.bool true) ∧ w' = w := by
  go_enter Try.func13, Try.ntmps13
  go_wp2
  go_loopw [5] (fun i wr => i = .int .i64 0 ∧ wr = w) (fun _ _ => 0)
  case atStart => exact ⟨rfl, rfl⟩
  case round =>
    obtain ⟨rfl, rfl⟩ := hrel
    go_wp2
    go_ret
    exact ⟨rfl, rfl⟩

set_option maxHeartbeats 1000000 in
theorem ints_some (ga gb n ca cb : Nat) (la lb : List Int) (w : World) (hla : la.length = n) (hlb : lb.length = n) (hn : n ≤ 9223372036854775807)
    (ha : ∀ j, j < n → w.cell? ⟨ga, j, none⟩ = some (.int .i64 (la.getD j 0))) (hb : ∀ j, j < n → w.cell? ⟨gb, j, none⟩ = some (.int .i64 (lb.getD j 0))) :
    Calls Try.prog 13 #[.slice (some ⟨ga, 0, none⟩) n ca, .slice (some ⟨gb, 0, none⟩) n cb] w fun e w' => e = .returned (.bool (decide (la = lb))) ∧ ∃ q, w' = w.drewN q := by
  have HA : Hid (∀ j, j < n → w.cell? ⟨ga, j, none⟩ = some (.int .i64 (la.getD j 0))) := ha
  have HB : Hid (∀ j, j < n → w.cell? ⟨gb, j, none⟩ = some (.int .i64 (lb.getD j 0))) := hb
  have HLA : Hid (la.length = n) := hla
  have HLB : Hid (lb.length = n) := hlb
  clear ha hb hla hlb
  have t : ((n : Int) != (n : Int)) = false := by simp
  go_enter Try.func13, Try.ntmps13
  go_wp2
  go_loopw [5] (fun i wr => ∃ (k q : Nat), i = .int .i64 k ∧ k ≤ n ∧ Hid (∀ j, j < k → la.getD j 0 = lb.getD j 0) ∧ wr = w.drewN q) (fun i _ => n - (intOf i).toNat)
  case atStart => exact ⟨0, 0, rfl, by omega, fun j hj => by omega, rfl⟩
  case round =>
    obtain ⟨k, q, rfl, hk, HE, rfl⟩ := hrel
    by_cases hkn : k < n
    · obtain ⟨x, hx⟩ : ∃ x, la.getD k 0 = x := ⟨_, rfl⟩
      obtain ⟨y, hy⟩ : ∃ y, lb.getD k 0 = y := ⟨_, rfl⟩
      have gx := HA.out k hkn
      have gy := HB.out k hkn
      rw [hx] at gx
      rw [hy] at gy
      have HXX : Hid (la.getD k 0 = x) := hx
      have HYY : Hid (lb.getD k 0 = y) := hy
      clear hx hy
      have b1 : (k : Int) < (n : Int) := by omega
      have b2 : (0 : Int) ≤ (k : Int) := by omega
      by_cases hxy : x = y
      · have t2 : (x != y) = false := by simp [hxy]
        have HXY : Hid (x = y) := hxy
        clear hxy
        go_wp2_with fail
        go_quiet (fail)
        go_wp2_with fail
        go_roundw
        case rel =>
          refine ⟨k + 1, _, by go_num, by omega, ?_, rfl⟩
          intro j hj
          by_cases hjk : j = k
          · rw [hjk, HXX.out, HYY.out, HXY.out]
          · exact HE.out j (by omega)
        case measure => simp [intOf]; omega
      · have t2 : (x != y) = true := by rw [bne_iff_ne]; exact hxy
        have HXY : Hid (¬ x = y) := hxy
        clear hxy
        go_wp2_with fail
        go_quiet (fail)
        go_wp2_with fail
        go_ret
        refine ⟨?_, _, drewN_add _ _ _⟩
        have : decide (la = lb) = false := by
          apply decide_eq_false
          intro h
          apply HXY.out
          rw [← HXX.out, ← HYY.out, h]
        rw [this]
        rfl
    · have hkk : k = n := by omega
      have HKK : Hid (k = n) := hkk
      have b1 : ¬ (k : Int) < (n : Int) := by omega
      clear hkk hkn
      go_wp2
      go_ret
      refine ⟨?_, _, rfl⟩
      have : decide (la = lb) = true := by
        apply decide_eq_true
        apply List.ext_getElem
        · rw [HLA.out, HLB.out]
        · intro j h1 h2
          have := HE.out j (by rw [HKK.out, ← HLA.out]; exact h1)
          simpa [List.getD_eq_getElem?_getD, h1, h2] using this
      rw [this]
      rfl

theorem ints_any {B C : Nat} {va vb : Value} {la lb : List Int} {w : World} (ha : IntRow B w va la) (hb : IntRow C w vb lb) (hn : la.length ≤ 1000000) :
    Calls Try.prog 13 #[va, vb] w fun e w' => e = .returned (.bool (decide (la = lb))) ∧ Turns (fun _ => False) w w' := by
  obtain ⟨a, ca, rfl, fa⟩ := ha.sl
  obtain ⟨b, cb, rfl, fb⟩ := hb.sl
  by_cases hl : la.length = lb.length
  · by_cases hz : la.length = 0
    · have e1 : la = [] := List.eq_nil_of_length_eq_zero hz
      have e2 : lb = [] := List.eq_nil_of_length_eq_zero (by omega)
      subst e1
      subst e2
      refine (ints_zero a b ca cb w).mono ?_
      rintro e w' ⟨rfl, rfl⟩
      exact ⟨by simp, Turns.refl _ _⟩
    · obtain ⟨ga, rfl, ga1⟩ := fa 0 (by omega)
      obtain ⟨gb, rfl, gb1⟩ := fb 0 (by omega)
      rw [← hl]
      refine (ints_some ga gb la.length ca cb la lb w rfl hl.symm (by omega) ga1 (by rw [hl]; exact gb1)).mono ?_
      rintro e w' ⟨rfl, q, rfl⟩
      exact ⟨rfl, (Turns.refl _ _).drewN q⟩
  · refine (ints_len a b ca cb w hl).mono ?_
    rintro e w' ⟨rfl, rfl⟩
    have : decide (la = lb) = false := decide_eq_false (fun h => hl (by rw [h]))
    exact ⟨by rw [this], Turns.refl _ _⟩
end Go.Proofs.Ytohgjdefgabfeaa
