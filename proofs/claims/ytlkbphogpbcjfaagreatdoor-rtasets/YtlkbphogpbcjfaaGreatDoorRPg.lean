/- Few, ToAll and the reference's ProgWaits, of a program. -/
import Derived.Test.YtlkbphogpbcjfaaGreatDoorTo
import Derived.Test.YtlkbphogpbcjfaaGreatDoorCop
import Derived.Test.YtlkbphogpbcjfaaGreatDoorPgA
namespace Go.Proofs.YtlkbphogpbcjfaaGreatDoor
open Go.RowKit

def fewGo : List OpD → Bool
  | [] => true
  | o :: r => if o.cases.length ≤ 20 then fewGo r else false
def fewP (p : List OpD) : Bool := if 60 < p.length then false else fewGo p
theorem few_all : ∀ (p : List OpD), fewGo p = true → ∀ o ∈ p, o.cases.length ≤ 20
  | [], _, o, ho => by cases ho
  | x :: r, h, o, ho => by
    rw [fewGo] at h
    split at h
    · rename_i hx
      rcases List.mem_cons.1 ho with rfl | ho
      · exact hx
      · exact few_all r h o ho
    · cases h

set_option maxHeartbeats 2000000 in
theorem pfew_any (a : Option Addr) (c : Nat) (p : List OpD) (w : World) (hA : AtP w a p) :
    Calls Tryz.prog 15 #[.slice a p.length c] w fun e w' => e = .returned (.bool (fewP p)) ∧ Kept w w' := by
  have HA : Hid (AtP w a p) := hA
  clear hA
  by_cases h60 : 60 < p.length
  · have b1 : (p.length : Int) > 60 := by omega
    have HZ : Hid (fewP p = false) := by show _ = _; unfold fewP; rw [if_pos h60]
    go_enter Tryz.func15, Tryz.ntmps15
    go_wp2_with fail
    go_ret
    rw [HZ.out]
    exact ⟨rfl, Kept.refl w⟩
  have b0 : ¬ (p.length : Int) > 60 := by omega
  have HF : Hid (fewP p = fewGo p) := by show _ = _; unfold fewP; rw [if_neg h60]
  go_enter Tryz.func15, Tryz.ntmps15
  go_wp2_with fail
  go_loopg [3] p.length (fun gk i wr => ∃ j : Nat, i = .int .i64 j ∧ j + gk = p.length ∧ Hid (fewGo p = fewGo (p.drop j)) ∧ Kept w wr)
  case atStart => exact ⟨0, rfl, by omega, (by show _ = _; rw [List.drop_zero]), Kept.refl w⟩
  case round =>
    obtain ⟨j, rfl, hj, HE, K⟩ := hrel
    by_cases hjp : j < p.length
    · obtain ⟨b, f, k, n, v, wt, l, ca, cc, rfl, hpj, g0, g1, g2, g3, g4, hcc, hat, hbl, hdr⟩ := (HA.out.kept K).get j hjp
      have b1 : (j : Int) < (p.length : Int) := by omega
      have b2 : (0 : Int) ≤ (j : Int) := by omega
      have hfe := few_any k n v wt ca l.length cc wr
      have HE2 : Hid (fewGo p = if l.length ≤ 20 then fewGo (p.drop (j + 1)) else false) := by show _ = _; rw [HE.out, hdr, fewGo]
      obtain ⟨g3', rfl⟩ : ∃ g, gk = g + 1 := ⟨gk - 1, by omega⟩
      clear hpj hat hdr HE
      by_cases hl : l.length ≤ 20
      · rw [decide_eq_true hl] at hfe
        have HZ : Hid (fewGo p = fewGo (p.drop (j + 1))) := by show _ = _; rw [HE2.out, if_pos hl]
        clear HE2 hl
        go_wp2_with fail
        refine hfe.mono ?_
        rintro e w2 ⟨rfl, t2⟩
        go_wp2_with fail
        go_roundg g3'
        case rel => exact ⟨j + 1, by go_num, by omega, HZ, K.trans t2⟩
        case measure => omega
      · rw [decide_eq_false hl] at hfe
        have HZ : Hid (fewP p = false) := by show _ = _; rw [HF.out, HE2.out, if_neg hl]
        clear HE2 hl
        go_wp2_with fail
        refine hfe.mono ?_
        rintro e w2 ⟨rfl, t2⟩
        go_wp2_with fail
        go_ret
        rw [HZ.out]
        exact ⟨rfl, K.trans t2⟩
    · have b1 : ¬ (j : Int) < (p.length : Int) := by omega
      have HZ : Hid (fewP p = true) := by show _ = _; rw [HF.out, HE.out, List.drop_eq_nil_of_le (by omega)]; rfl
      go_wp2_with fail
      go_ret
      rw [HZ.out]
      exact ⟨rfl, K⟩

set_option maxHeartbeats 4000000 in
theorem toAll_any (a : Option Addr) (c : Nat) (p : List OpD) (w : World) (hA : AtP w a p) (hp : p.length ≤ 100000) (hc : ∀ o ∈ p, o.cases.length ≤ 1000000) :
    Calls Tryz.prog 19 #[.slice a p.length c] w fun e w' => ∃ v, e = .returned v ∧ (∃ svs, ORow w.heap.size w' v p svs) ∧ Kept w w' := by
  have HA : Hid (AtP w a p) := hA
  have HC : Hid (∀ o ∈ p, o.cases.length ≤ 1000000) := hc
  clear hA hc
  have M0 : ∀ w', Hid (∃ svs, ORow w.heap.size w' (.slice none 0 0) (p.take 0) svs) := fun w' => ⟨[], ORow.nil _ _⟩
  go_enter Tryz.func19, Tryz.ntmps19
  go_wp2_with fail
  go_loopg [3, 4] p.length (fun gk x3 i wr => ∃ (j : Nat) (v : Value), v = x3 ∧ i = .int .i64 j ∧ j + gk = p.length ∧ Hid (∃ svs, ORow w.heap.size wr v (p.take j) svs) ∧ Kept w wr)
  case atStart => exact ⟨0, _, rfl, rfl, by omega, M0 w, Kept.refl w⟩
  case round =>
    obtain ⟨j, v3, hx3, rfl, hj, HM, K⟩ := hrel
    subst hx3
    by_cases hjp : j < p.length
    · obtain ⟨b, f, k, n, v, wt, l, ca, cc, rfl, hpj, g0, g1, g2, g3, g4, hcc, hat, hbl, hdr⟩ := (HA.out.kept K).get j hjp
      have b1 : (j : Int) < (p.length : Int) := by omega
      have b2 : (0 : Int) ≤ (j : Int) := by omega
      have hll : l.length ≤ 1000000 := HC.out _ (List.mem_of_getElem? hpj)
      have hto := to_any k n v wt ca l.length cc l wr hat hll
      have HTK : Hid (p.take (j + 1) = p.take j ++ [⟨k, n, v, wt, l⟩]) := by show _ = _; rw [List.take_add_one, hpj]; rfl
      obtain ⟨g3', rfl⟩ : ∃ g, gk = g + 1 := ⟨gk - 1, by omega⟩
      clear hpj hat hdr
      go_wp2_with fail
      refine hto.mono ?_
      rintro e w2 ⟨sv, rfl, hcr, t2⟩
      obtain ⟨svs, hM⟩ := HM.out
      have HM2 : Hid (ORow w.heap.size w2 v3 (p.take j) svs) := hM.kept t2
      have HCR : Hid (CRow 108 w.heap.size w2 sv l) := hcr.base K.size
      have HQ : Hid (∀ q, sv.ownBlock = some q → v3.ownBlock ≠ some q) := fun q hq e2 => by
        have h1 := (World.ownsRow.lt hcr q hq).1
        have h2 := (hM.lt q e2).2
        omega
      have HOWN : Hid (∀ i, v3.ownBlock = some i → w.heap.size ≤ i) := fun i hi => (hM.lt i hi).1
      have K2 := K.trans t2
      have hlen : (p.take j).length ≤ 1000000 := by rw [List.length_take]; omega
      clear hM hcr hto
      go_wp2_with (at_builtin; refine wpList_append_op _ (by rfl) _ _ rfl w.heap.size v3 (p.take j) svs k n v wt l sv w2 (by rfl) (by rfl) w2.heap.size (by rfl) (by rfl) HM2.out HCR.out HQ.out hlen K2.size ?_; intro g5 c5 w5 R5 t5 hg5; have K5 := t5.kept K2 HOWN.out)
      go_roundg g3'
      case rel =>
        refine ⟨j + 1, _, rfl, by go_num, by omega, ?_, K5⟩
        rw [HTK.out]
        rw [List.length_take] at R5
        exact ⟨_, R5⟩
      case measure => omega
    · have b1 : ¬ (j : Int) < (p.length : Int) := by omega
      go_wp2_with fail
      go_ret
      refine ⟨_, rfl, ?_, K⟩
      have h := HM.out
      rw [List.take_of_length_le (by omega)] at h
      exact h

end Go.Proofs.YtlkbphogpbcjfaaGreatDoor
