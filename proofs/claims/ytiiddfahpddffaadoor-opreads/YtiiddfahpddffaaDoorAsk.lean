/- allWithin, isWord, Name, isDecimal, Clone and the reference's Name, by their contracts. -/
import Derived.Test.YtiiddfahpddffaaDoorMem
namespace Go.Proofs.YtiiddfahpddffaaDoor
open Go.RowKit

theorem within_false {lo hi : Nat} {l : List UInt8} {k : Nat} {c : UInt8} (h : l[k]? = some c) (hc : c.toNat < lo ∨ hi < c.toNat) : within lo hi l = false := by
  rw [Bool.eq_false_iff]
  intro e
  have := ((within_iff _ _ _).1 e).2 c (List.mem_of_getElem? h)
  omega
theorem within_all {lo hi : Nat} {l : List UInt8} (h : ∀ j c, j < l.length → l[j]? = some c → lo ≤ c.toNat ∧ c.toNat ≤ hi) : within lo hi l = !l.isEmpty := by
  unfold within
  have : l.all (fun c => decide (lo ≤ c.toNat) && decide (c.toNat ≤ hi)) = true := by
    rw [List.all_eq_true]
    intro c hc
    obtain ⟨j, hj, e⟩ := List.getElem_of_mem hc
    have := h j c hj (by rw [List.getElem?_eq_getElem hj, e])
    simp [this]
  rw [this, Bool.and_true]

set_option maxHeartbeats 400000 in
theorem within_any (s : ByteArray) (lo hi : Nat) (hs : s.size ≤ 1000000) (w : World) :
    Calls Tryd.prog 57 #[.string s, .int .u8 lo, .int .u8 hi] w fun e w' => e = .returned (.bool (within lo hi s.data.toList)) ∧ w' = w := by
  obtain ⟨em, he⟩ : ∃ b, s.toList.isEmpty = b := ⟨_, rfl⟩
  have HE : Hid (s.data.toList.isEmpty = em) := by show _ = _; rw [← toList_of]; exact he
  go_enter Tryd.func57, Tryd.ntmps57
  go_wp2_with fail
  go_step3
  go_wp2_with fail
  go_step3
  go_wp2_with fail
  clear he
  go_loopw [7, 13] (fun b i wr => ∃ k : Nat, b = .bool (!em) ∧ i = .int .i64 k ∧ k ≤ s.size ∧ Hid (∀ j c, j < k → s.data.toList[j]? = some c → lo ≤ c.toNat ∧ c.toNat ≤ hi) ∧ wr = w) (fun _ i _ => s.size - (intOf i).toNat)
  case atStart => exact ⟨0, rfl, rfl, by omega, fun j c hj => by omega, rfl⟩
  case round =>
    obtain ⟨k, rfl, rfl, hk, HA, hw⟩ := hrel
    subst wr
    by_cases hkl : k < s.size
    · have b1 : (k : Int) < (s.size : Int) := by omega
      have b2 : (0 : Int) ≤ (k : Int) := by omega
      obtain ⟨c, e1, e2, _, _⟩ := byte_get s k hkl
      have HG : Hid (s.data.toList[k]? = some c) := e2
      clear e2
      by_cases h1 : c.toNat < lo
      · have t1 : decide (c.toNat < lo) = true := decide_eq_true h1
        have HW : Hid (within lo hi s.data.toList = false) := within_false HG.out (.inl h1)
        go_wp2
        rw [Exit.noGoto_ret]
        go_ret
        rw [HW.out]
        exact ⟨rfl, rfl⟩
      · have t1 : decide (c.toNat < lo) = false := decide_eq_false h1
        by_cases h2 : hi < c.toNat
        · have t2 : decide (hi < c.toNat) = true := decide_eq_true h2
          have HW : Hid (within lo hi s.data.toList = false) := within_false HG.out (.inr h2)
          go_wp2
          rw [Exit.noGoto_ret]
          go_ret
          rw [HW.out]
          exact ⟨rfl, rfl⟩
        · have t2 : decide (hi < c.toNat) = false := decide_eq_false h2
          go_wp2
          go_roundw
          case rel =>
            refine ⟨k + 1, rfl, by go_num, by omega, ?_, (by first | rfl | trivial)⟩
            intro j d hj hd
            by_cases hjk : j = k
            · rw [hjk, HG.out] at hd
              cases hd
              omega
            · exact HA.out j d (by omega) hd
          case measure => simp [intOf]; omega
    · have b1 : ¬ (k : Int) < (s.size : Int) := by omega
      have hkk : k = s.size := by omega
      have HW : Hid (within lo hi s.data.toList = !em) := by
        show _ = _
        rw [← HE.out]
        exact within_all (fun j c hj hc => HA.out j c (by rw [hkk, Lib.size_eq]; exact hj) hc)
      clear hkk
      go_wp2
      go_ret
      rw [HW.out]
      exact ⟨rfl, rfl⟩

theorem isWord_any (s : ByteArray) (hs : s.size ≤ 1000000) (w : World) :
    Calls Tryd.prog 47 #[.string s] w fun e w' => e = .returned (.bool (within 33 126 s.data.toList)) ∧ w' = w := by
  go_enter Tryd.func47, Tryd.ntmps47
  go_wp2_with fail
  refine (within_any s 33 126 hs w).mono ?_
  rintro e w1 ⟨rfl, hw⟩
  subst w1
  go_wp2_with fail
  go_ret
  exact ⟨rfl, rfl⟩

set_option maxHeartbeats 400000 in
theorem clone_any (s : ByteArray) (hs : s.size ≤ 1000000) (w : World) :
    Calls Tryd.prog 48 #[.string s] w fun e w' => e = .returned (.string s) ∧ Kept w w' := by
  go_enter Tryd.func48, Tryd.ntmps48
  go_wp2_with fail
  refine (Tryd.stringslite_Clone s w (by omega)).mono ?_
  rintro e w1 ⟨rfl, k1⟩
  go_wp2_with fail
  go_ret
  exact ⟨rfl, k1⟩
end Go.Proofs.YtiiddfahpddffaaDoor
