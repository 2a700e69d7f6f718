/- Waits, of a program. -/
import Derived.Test.YtolljdomnohmdaaDoorFlt
namespace Go.Proofs.YtolljdomnohmdaaDoor
open Go.RowKit

set_option maxHeartbeats 2000000 in
theorem index_any (a : Option Addr) (c : Nat) (p : List OpD) (w : World) (hr : Rdy w) (hA : AtP w a p) (hp : p.length ≤ 100000) :
    Calls Tryd.prog 66 #[.slice a p.length c, .func (.func 49) #[] #[]] w fun e w' => e = .returned (.int .i64 (idxW 0 p)) ∧ Kept w w' := by
  have HR : Hid (Rdy w) := hr
  have HA : Hid (AtP w a p) := hA
  clear hr hA
  go_enter Tryd.func66, Tryd.ntmps66
  go_wp2_with fail
  go_loopg [8] p.length (fun gk i wr => ∃ j : Nat, i = .int .i64 j ∧ j + gk = p.length ∧ Hid (idxW 0 p = idxW j (p.drop j)) ∧ Kept w wr)
  case atStart => exact ⟨0, rfl, by omega, (by show _ = _; rw [List.drop_zero]), Kept.refl w⟩
  case round =>
    obtain ⟨j, rfl, hj, HE, K⟩ := hrel
    by_cases hjp : j < p.length
    · obtain ⟨b, f, k, n, v, wt, l, ca, cc, rfl, hpj, g0, g1, g2, g3, g4, hcc, hat, hbl, hdr⟩ := (HA.out.kept K).get j hjp
      have b1 : (j : Int) < (p.length : Int) := by omega
      have b2 : (0 : Int) ≤ (j : Int) := by omega
      have hwa := waits_any k n v wt ca l.length cc l wr (HR.out.kept K)
      have HE2 : Hid (idxW 0 p = if waitsD ⟨k, n, v, wt, l⟩ = true then (j : Int) else idxW (j + 1) (p.drop (j + 1))) := by show _ = _; rw [HE.out, hdr, idxW]
      obtain ⟨g3', rfl⟩ : ∃ g, gk = g + 1 := ⟨gk - 1, by omega⟩
      clear hpj hat hdr HE
      cases hq : waitsD ⟨k, n, v, wt, l⟩ with
      | true =>
        rw [hq] at hwa
        have HE3 : Hid (idxW 0 p = (j : Int)) := by show _ = _; rw [HE2.out, if_pos hq]
        clear HE2 hq
        go_wp2_with fail
        refine hwa.mono ?_
        rintro e w2 ⟨rfl, t2⟩
        go_wp2_with fail
        go_ret
        rw [HE3.out]
        exact ⟨rfl, K.trans t2⟩
      | false =>
        rw [hq] at hwa
        have HE3 : Hid (idxW 0 p = idxW (j + 1) (p.drop (j + 1))) := by show _ = _; rw [HE2.out, if_neg (by rw [hq]; simp)]
        clear HE2 hq
        go_wp2_with fail
        refine hwa.mono ?_
        rintro e w2 ⟨rfl, t2⟩
        go_wp2_with fail
        go_roundg g3'
        case rel => exact ⟨j + 1, by go_num, by omega, HE3, K.trans t2⟩
        case measure => omega
    · have b1 : ¬ (j : Int) < (p.length : Int) := by omega
      have HE3 : Hid (idxW 0 p = -1) := by show _ = _; rw [HE.out, List.drop_eq_nil_of_le (by omega)]; rfl
      go_wp2_with fail
      go_ret
      rw [HE3.out]
      exact ⟨rfl, K⟩
theorem contains_any (a : Option Addr) (c : Nat) (p : List OpD) (w : World) (hr : Rdy w) (hA : AtP w a p) (hp : p.length ≤ 100000) :
    Calls Tryd.prog 48 #[.slice a p.length c, .func (.func 49) #[] #[]] w fun e w' => e = .returned (.bool (anyW p)) ∧ Kept w w' := by
  have hia := index_any a c p w hr hA hp
  have HI := idx_any p 0
  obtain ⟨z, hz⟩ : ∃ z, idxW 0 p = z := ⟨_, rfl⟩
  rw [hz] at hia HI
  have HI2 : Hid (decide (0 ≤ z) = anyW p) := HI
  clear HI hz hr hA
  go_enter Tryd.func48, Tryd.ntmps48
  go_wp2_with fail
  refine hia.mono ?_
  rintro e w2 ⟨rfl, t2⟩
  go_wp2_with fail
  go_ret
  rw [← HI2.out]
  exact ⟨rfl, t2⟩
theorem pwaits_any (a : Option Addr) (c : Nat) (p : List OpD) (w : World) (hr : Rdy w) (hA : AtP w a p) (hp : p.length ≤ 100000) :
    Calls Tryd.prog 17 #[.slice a p.length c] w fun e w' => e = .returned (.bool (anyW p)) ∧ Kept w w' := by
  have hca := contains_any a c p w hr hA hp
  clear hr hA
  go_enter Tryd.func17, Tryd.ntmps17
  go_wp2_with fail
  refine hca.mono ?_
  rintro e w2 ⟨rfl, t2⟩
  go_wp2_with fail
  go_ret
  exact ⟨rfl, t2⟩
end Go.Proofs.YtolljdomnohmdaaDoor
