/- The reference's CheckProg, of any ops. -/
import Derived.Test.YtolljdomnohmdaaDoorRcX
namespace Go.Proofs.YtolljdomnohmdaaDoor
open Go.RowKit

set_option maxHeartbeats 4000000 in
set_option maxRecDepth 20000 in
theorem rcheckP_any (a : Option Addr) (c : Nat) (p : List OpD) (w : World) (hA : AtP w a p) (hcs : ∀ o ∈ p, o.cases.length ≤ 1000000) :
    Calls Tryd.prog 10 #[.slice a p.length c] w fun e w' => e = .returned (.tuple #[.int .i64 (checkP p).1, .int .i64 (checkP p).2]) ∧ Kept w w' := by
  by_cases h48 : 48 < p.length
  · have b48 : (p.length : Int) > 48 := by omega
    have HZ : Hid (checkP p = (0, 18)) := by show _ = _; unfold checkP; rw [if_pos h48]
    clear hA
    go_enter Tryd.func10, Tryd.ntmps10
    go_wp2_with fail
    go_ret2
    rw [HZ.out]
    exact ⟨rfl, Kept.refl w⟩
  by_cases hea : (eachGo 0 p).2 = 0
  · exact rloop_any a c p w hA (by omega) (each_all p 0 hea) hcs
  have HA : Hid (AtP w a p) := hA
  have HCS : Hid (∀ o ∈ p, o.cases.length ≤ 1000000) := hcs
  have HZ : Hid (checkP p = eachGo 0 p) := by show _ = _; unfold checkP; rw [if_neg h48, if_neg hea]
  have HNE : Hid ((eachGo 0 p).2 ≠ 0) := hea
  clear hA hcs hea
  have b48 : ¬ (p.length : Int) > 48 := by omega
  go_enter Tryd.func10, Tryd.ntmps10
  go_wp2_with fail
  go_loopg [4] p.length (fun gk i wr => ∃ (j : Nat) (W : World), W = wr ∧ i = .int .i64 j ∧ j + gk = p.length ∧ Hid (eachGo 0 p = eachGo j (p.drop j)) ∧ Kept w W)
  case atStart => exact ⟨0, _, rfl, rfl, by omega, (by show _ = _; rw [List.drop_zero]), Kept.refl w⟩
  case round =>
    obtain ⟨j, W, hW, rfl, hj, HE, K⟩ := hrel
    subst hW
    by_cases hjp : j < p.length
    · obtain ⟨b, f, k, n, v, wt, l, ca, cc, rfl, hpj, g0, g1, g2, g3, g4, hcc, hat, hbl, hdr⟩ := (HA.out.kept K).get j hjp
      have b1 : (j : Int) < (p.length : Int) := by omega
      have b2 : (0 : Int) ≤ (j : Int) := by omega
      have hck := rcheck_any k n v wt ca l.length cc l W hat (HCS.out _ (List.mem_of_getElem? hpj))
      have HE2 : Hid (eachGo 0 p = if checkD ⟨k, n, v, wt, l⟩ = 0 then eachGo (j + 1) (p.drop (j + 1)) else (j, checkD ⟨k, n, v, wt, l⟩)) := by show _ = _; rw [HE.out, hdr, eachGo]
      obtain ⟨z, hz⟩ : ∃ z, checkD ⟨k, n, v, wt, l⟩ = z := ⟨_, rfl⟩
      rw [hz] at hck HE2
      obtain ⟨g3', rfl⟩ : ∃ g, gk = g + 1 := ⟨gk - 1, by omega⟩
      clear hpj hat hdr HE hz
      by_cases hz0 : z = 0
      · subst hz0
        have HE3 : Hid (eachGo 0 p = eachGo (j + 1) (p.drop (j + 1))) := by show _ = _; rw [HE2.out, if_pos rfl]
        clear HE2
        go_wp2_with fail
        refine hck.mono ?_
        rintro e w2 ⟨rfl, t2⟩
        go_wp2_with fail
        go_roundg g3'
        case rel => exact ⟨j + 1, _, rfl, by go_num, by omega, HE3, K.trans t2⟩
        case measure => omega
      · have hne : (z != 0) = true := by simpa using hz0
        have HE3 : Hid (checkP p = (j, z)) := by show _ = _; rw [HZ.out, HE2.out, if_neg hz0]
        clear HE2 hz0
        go_wp2_with fail
        refine hck.mono ?_
        rintro e w2 ⟨rfl, t2⟩
        go_wp2_with fail
        go_ret2
        rw [HE3.out]
        exact ⟨rfl, K.trans t2⟩
    · exfalso
      refine HNE.out ?_
      rw [HE.out, List.drop_eq_nil_of_le (by omega)]
      rfl
end Go.Proofs.YtolljdomnohmdaaDoor
