/- The reference's Kind, laid, parseWait. -/
import Derived.Test.YtiiddfahpddffaaDoorRTxt
import Derived.Test.YtiiddfahpddffaaDoorRdr
namespace Go.Proofs.YtiiddfahpddffaaDoor
open Go.RowKit

theorem rkind_at {k : Nat} (h1 : 1 ≤ k) (h9 : k ≤ 9) : kindOf (shapeOf k).word = k := by
  have : k = 1 ∨ k = 2 ∨ k = 3 ∨ k = 4 ∨ k = 5 ∨ k = 6 ∨ k = 7 ∨ k = 8 ∨ k = 9 := by omega
  rcases this with rfl | rfl | rfl | rfl | rfl | rfl | rfl | rfl | rfl <;> decide
theorem rkind_none {x : List UInt8} (h : ∀ j, 1 ≤ j → j < 10 → (shapeOf j).word ≠ x) : kindOf x = 0 := by
  by_cases hk : kindOf x = 0
  · exact hk
  · have := kindOf_word hk
    exact absurd this.1 (h _ this.2.1 (by omega))
def wordsL : List Value := [.string ⟨#[]⟩, .string ⟨#[114, 117, 110]⟩, .string ⟨#[108, 111, 99, 107]⟩, .string ⟨#[117, 110, 108, 111, 99, 107]⟩, .string ⟨#[115, 101, 110, 100]⟩, .string ⟨#[114, 101, 99, 118]⟩, .string ⟨#[99, 108, 111, 115, 101]⟩, .string ⟨#[115, 101, 108, 101, 99, 116]⟩, .string ⟨#[108, 111, 111, 112]⟩, .string ⟨#[101, 110, 100]⟩]
theorem words_get (k : Nat) (h : k ≤ 9) : wordsL[k]? = some (.string (B (shapeOf k).word)) := by
  have : k = 0 ∨ k = 1 ∨ k = 2 ∨ k = 3 ∨ k = 4 ∨ k = 5 ∨ k = 6 ∨ k = 7 ∨ k = 8 ∨ k = 9 := by omega
  rcases this with rfl | rfl | rfl | rfl | rfl | rfl | rfl | rfl | rfl | rfl <;> rfl

set_option maxHeartbeats 2000000 in
theorem rkind_any (x : List UInt8) (w : World) : Calls Tryd.prog 38 #[.string (B x)] w fun e w' => e = .returned (.int .i64 (kindOf x)) ∧ Kept w w' := by
  have K1 := (Kept.refl w).alloc (.cells wordsL.toArray 9)
  have GW : Hid (∀ k, k ≤ 9 → (w.alloc (.cells wordsL.toArray 9)).cell? ⟨w.heap.size, k, none⟩ = some (.string (B (shapeOf k).word))) := by
    intro k hk
    rw [World.cell?_alloc_at _ _ _ _ rfl]
    simpa using words_get k hk
  go_enter Tryd.func38, Tryd.ntmps38
  go_wp2_with fail
  refine (words_any w).mono ?_
  rintro e w1 ⟨rfl, hw⟩
  rw [show w.alloc (.cells #[.string ⟨#[]⟩, .string ⟨#[114, 117, 110]⟩, .string ⟨#[108, 111, 99, 107]⟩, .string ⟨#[117, 110, 108, 111, 99, 107]⟩, .string ⟨#[115, 101, 110, 100]⟩, .string ⟨#[114, 101, 99, 118]⟩, .string ⟨#[99, 108, 111, 115, 101]⟩, .string ⟨#[115, 101, 108, 101, 99, 116]⟩, .string ⟨#[108, 111, 111, 112]⟩, .string ⟨#[101, 110, 100]⟩] 9) = w.alloc (.cells wordsL.toArray 9) from rfl] at hw
  rw [← hw] at K1 GW
  clear hw
  go_wp2_with fail
  go_loopg [4] 9 (fun gk i wr => ∃ k : Nat, i = .int .i64 k ∧ 1 ≤ k ∧ k + gk = 10 ∧ Hid (∀ j, 1 ≤ j → j < k → (shapeOf j).word ≠ x) ∧ wr = w1)
  case atStart => exact ⟨1, rfl, by omega, by omega, (fun j h1 h2 => by omega), rfl⟩
  case round =>
    obtain ⟨k, rfl, hk1, hk, HN, hw⟩ := hrel
    subst wr
    by_cases hk9 : k ≤ 9
    · have b1 : (k : Int) < 10 := by omega
      have b2 : (0 : Int) ≤ (k : Int) := by omega
      have gw := GW.out k hk9
      obtain ⟨wd, hwd⟩ : ∃ z, (shapeOf k).word = z := ⟨_, rfl⟩
      rw [hwd] at gw
      have HW : Hid ((shapeOf k).word = wd) := hwd
      clear hwd
      by_cases he : wd = x
      · have e1 : ((B wd).toList == (B x).toList) = true := by rw [B_eq]; simpa using he
        have HK : Hid (kindOf x = k) := by show _ = _; rw [← he, ← HW.out]; exact rkind_at hk1 hk9
        clear he
        go_wp2_with fail
        go_ret
        rw [HK.out]
        exact ⟨rfl, K1⟩
      · have e1 : ((B wd).toList == (B x).toList) = false := by rw [B_eq]; simpa using he
        have HN2 : Hid (∀ j, 1 ≤ j → j < k + 1 → (shapeOf j).word ≠ x) := by
          intro j h1 h2
          by_cases hj : j = k
          · rw [hj, HW.out]; exact he
          · exact HN.out j h1 (by omega)
        clear he
        obtain ⟨g3, rfl⟩ : ∃ g, gk = g + 1 := ⟨gk - 1, by omega⟩
        go_wp2_with fail
        go_roundg g3
        case rel => exact ⟨k + 1, by go_num, by omega, by omega, HN2, rfl⟩
        case measure => omega
    · have b1 : ¬ (k : Int) < 10 := by omega
      obtain rfl : k = 10 := by omega
      have HK : Hid (kindOf x = 0) := by show _ = _; exact rkind_none HN.out
      go_wp2_with fail
      go_ret
      rw [HK.out]
      exact ⟨rfl, K1⟩

theorem rparseWait_any (x : List UInt8) (hx : x.length ≤ 100000) (w : World) :
    Calls Tryd.prog 41 #[.string (B x)] w fun e w' => e = .returned (.tuple #[.int .i64 (waitOf x).1, .int .i64 (waitOf x).2]) ∧ w' = w := by
  by_cases hd : x = [45]
  · have e1 : ((B x).toList == [45]) = true := by rw [B_is, hd]; rfl
    have HW : Hid (waitOf x = (-1, 0)) := by show _ = _; rw [hd]; rfl
    clear hd
    go_enter Tryd.func41, Tryd.ntmps41
    go_wp2_with fail
    go_ret2
    rw [HW.out]
    exact ⟨rfl, rfl⟩
  · have e1 : ((B x).toList == [45]) = false := by rw [B_is]; simpa using hd
    have hnu := rnumber_any x hx w
    rcases numOf_cases x with ⟨_, e⟩ | ⟨_, e | ⟨m, e, _⟩⟩
    · have HW : Hid (waitOf x = (0, 2)) := by show _ = _; unfold waitOf; rw [if_neg hd, e]; rfl
      rw [e] at hnu
      clear hd e
      go_enter Tryd.func41, Tryd.ntmps41
      go_wp2_with fail
      refine hnu.mono ?_
      rintro en w1 ⟨rfl, hw⟩
      subst w1
      go_wp2_with fail
      go_ret2
      rw [HW.out]
      exact ⟨rfl, rfl⟩
    · have HW : Hid (waitOf x = (0, 14)) := by show _ = _; unfold waitOf; rw [if_neg hd, e]; rfl
      rw [e] at hnu
      clear hd e
      go_enter Tryd.func41, Tryd.ntmps41
      go_wp2_with fail
      refine hnu.mono ?_
      rintro en w1 ⟨rfl, hw⟩
      subst w1
      go_wp2_with fail
      go_ret2
      rw [HW.out]
      exact ⟨rfl, rfl⟩
    · by_cases hm : m < 0
      · have HW : Hid (waitOf x = (0, 2)) := by show _ = _; unfold waitOf; rw [if_neg hd, e]; simp [hm]
        rw [e] at hnu
        clear hd e
        go_enter Tryd.func41, Tryd.ntmps41
        go_wp2_with fail
        refine hnu.mono ?_
        rintro en w1 ⟨rfl, hw⟩
        subst w1
        go_wp2_with fail
        go_ret2
        rw [HW.out]
        exact ⟨rfl, rfl⟩
      · have HW : Hid (waitOf x = (m, 0)) := by show _ = _; unfold waitOf; rw [if_neg hd, e]; simp [hm]
        rw [e] at hnu
        clear hd e
        go_enter Tryd.func41, Tryd.ntmps41
        go_wp2_with fail
        refine hnu.mono ?_
        rintro en w1 ⟨rfl, hw⟩
        subst w1
        go_wp2_with fail
        go_ret2
        rw [HW.out]
        exact ⟨rfl, rfl⟩
end Go.Proofs.YtiiddfahpddffaaDoor
