/- checkEach, checkOrder. -/
import Derived.Test.YtembbhbbmkijcaaDoorRow
import Derived.Test.YtembbhbbmkijcaaDoorCheck
import Derived.Test.YtembbhbbmkijcaaDoorTak2
namespace Go.Proofs.YtembbhbbmkijcaaDoor
open Go.RowKit

set_option maxHeartbeats 2000000 in
theorem each_any (a : Option Addr) (c : Nat) (p : List OpD) (w : World) (hr : Rdy w) (hA : AtP w a p) (hp : p.length ≤ 100000) (hc : ∀ o ∈ p, o.cases.length ≤ 1000000) :
    Calls Tryd.prog 49 #[.slice a p.length c] w fun e w' => e = .returned (.tuple #[.int .i64 (eachGo 0 p).1, .int .i64 (eachGo 0 p).2]) ∧ Kept w w' := by
  have HR : Hid (Rdy w) := hr
  have HA : Hid (AtP w a p) := hA
  have HC : Hid (∀ o ∈ p, o.cases.length ≤ 1000000) := hc
  clear hr hA hc
  go_enter Tryd.func49, Tryd.ntmps49
  go_wp2_with fail
  go_step3
  go_wp2_with fail
  go_step3
  go_wp2_with fail
  go_loopg [4, 5, 10] p.length (fun gk x4 x5 i wr => ∃ j : Nat, i = .int .i64 j ∧ x4 = .int .i64 0 ∧ x5 = .int .i64 0 ∧ j + gk = p.length ∧ Hid (eachGo 0 p = eachGo j (p.drop j)) ∧ Kept w wr)
  case atStart => exact ⟨0, rfl, rfl, rfl, by omega, (by show _ = _; rw [List.drop_zero]), Kept.refl w⟩
  case round =>
    obtain ⟨j, rfl, rfl, rfl, hj, HE, K⟩ := hrel
    by_cases hjp : j < p.length
    · obtain ⟨b, f, k, n, v, wt, l, ca, cc, rfl, hpj, g0, g1, g2, g3, g4, hcc, hat, hbl, hdr⟩ := (HA.out.kept K).get j hjp
      have b1 : (j : Int) < (p.length : Int) := by omega
      have b2 : (0 : Int) ≤ (j : Int) := by omega
      have hll : l.length ≤ 1000000 := HC.out _ (List.mem_of_getElem? hpj)
      have KB := K.alloc (.cells #[.int .i64 k, .int .i64 n, .int .i64 v, .int .i64 wt, .slice ca l.length cc] 31)
      have hck := check_any k n v wt ca l.length cc l _ (HR.out.kept KB) (hat.kept ((Kept.refl wr).alloc _)) hll hcc
      have HE2 : Hid (eachGo 0 p = if checkD ⟨k, n, v, wt, l⟩ = 0 then eachGo (j + 1) (p.drop (j + 1)) else (j, checkD ⟨k, n, v, wt, l⟩)) := by show _ = _; rw [HE.out, hdr, eachGo]
      obtain ⟨g3', rfl⟩ : ∃ g, gk = g + 1 := ⟨gk - 1, by omega⟩
      clear hpj hat hdr HE
      by_cases hz : checkD ⟨k, n, v, wt, l⟩ = 0
      · rw [hz] at hck
        have HE3 : Hid (eachGo 0 p = eachGo (j + 1) (p.drop (j + 1))) := by show _ = _; rw [HE2.out, if_pos hz]
        clear hz HE2
        go_wp2_with fail
        refine hck.mono ?_
        rintro e w2 ⟨rfl, t2⟩
        go_wp2_with fail
        go_roundg g3'
        case rel => exact ⟨j + 1, by go_num, rfl, rfl, by omega, HE3, KB.trans t2⟩
        case measure => omega
      · have hne : (checkD ⟨k, n, v, wt, l⟩ != 0) = true := by simp [hz]
        have HE3 : Hid (eachGo 0 p = (j, checkD ⟨k, n, v, wt, l⟩)) := by show _ = _; rw [HE2.out, if_neg hz]
        clear hz HE2
        go_wp2_with fail
        refine hck.mono ?_
        rintro e w2 ⟨rfl, t2⟩
        go_wp2_with fail
        try rw [Exit.noGoto_ret]
        go_ret2
        rw [HE3.out]
        exact ⟨rfl, KB.trans t2⟩
    · have b1 : ¬ (j : Int) < (p.length : Int) := by omega
      have HE3 : Hid (eachGo 0 p = (0, 0)) := by show _ = _; rw [HE.out, List.drop_eq_nil_of_le (by omega)]; rfl
      go_wp2_with fail
      try rw [Exit.noGoto_ret]
      go_ret2
      rw [HE3.out]
      exact ⟨rfl, K⟩

set_option maxHeartbeats 4000000 in
theorem order_any (a : Option Addr) (c : Nat) (p : List OpD) (w : World) (hr : Rdy w) (hA : AtP w a p) (hp : p.length ≤ 100000) (hc : ∀ o ∈ p, checkD o = 0) :
    Calls Tryd.prog 50 #[.slice a p.length c] w fun e w' => e = .returned (.tuple #[.int .i64 (ordGo 0 0 [] p).1, .int .i64 (ordGo 0 0 [] p).2]) ∧ Kept w w' := by
  have HR : Hid (Rdy w) := hr
  have HA : Hid (AtP w a p) := hA
  have HC : Hid (∀ o ∈ p, checkD o = 0) := hc
  have H0 : Hid (StP w.heap.size (w.alloc (.cells #[.int .u64 0, .slice none 0 0] 98)) w.heap.size (.slice none 0 0) 0 []) := ⟨box_new w.heap.size w 98 [.int .u64 0, .slice none 0 0] (Nat.le_refl _) (by simp), LRow.nil _ _, fun q hq => by simp [Value.ownBlock] at hq⟩
  clear hr hA hc
  go_enter Tryd.func50, Tryd.ntmps50
  go_wp2_with fail
  go_step3
  go_wp2_with fail
  go_step3
  go_wp2_with fail
  go_loopg [4, 5, 11] p.length (fun gk x4 x5 i wr => ∃ (j m : Nat) (lp : List Nat) (lv : Value), i = .int .i64 j ∧ x4 = .int .i64 0 ∧ x5 = .int .i64 0 ∧ j + gk = p.length ∧ m < 256 ∧ Hid (lp.length ≤ 3) ∧ Hid (ordGo 0 0 [] p = ordGo j m lp (p.drop j)) ∧ Hid (StP w.heap.size wr w.heap.size lv m lp) ∧ Kept w wr)
  case atStart => exact ⟨0, 0, [], _, rfl, rfl, rfl, by omega, by omega, (by show _ ≤ _; simp), (by show _ = _; rw [List.drop_zero]), H0, (Kept.refl w).alloc _⟩
  case round =>
    obtain ⟨j, m, lp, lv, rfl, rfl, rfl, hj, hm, HL, HE, HS, K⟩ := hrel
    by_cases hjp : j < p.length
    · obtain ⟨b, f, k, n, v, wt, l, ca, cc, rfl, hpj, g0, g1, g2, g3, g4, hcc, hat, hbl, hdr⟩ := (HA.out.kept K).get j hjp
      have b1 : (j : Int) < (p.length : Int) := by omega
      have b2 : (0 : Int) ≤ (j : Int) := by omega
      have HCK : Hid (checkD ⟨k, n, v, wt, l⟩ = 0) := HC.out _ (List.mem_of_getElem? hpj)
      have KB := K.alloc (.cells #[.int .i64 k, .int .i64 n, .int .i64 v, .int .i64 wt, .slice ca l.length cc] 31)
      have HSB : Hid (StP w.heap.size (wr.alloc (.cells #[.int .i64 k, .int .i64 n, .int .i64 v, .int .i64 wt, .slice ca l.length cc] 31)) w.heap.size lv m lp) := HS.out.kept ((Kept.refl wr).alloc _)
      have htk := stakes_any w.heap.size w.heap.size m lv lp ca cc ⟨k, n, v, wt, l⟩ _ HSB.out hm HL.out HCK.out (HR.out.kept KB)
      simp only at htk
      have HE2 : Hid (ordGo 0 0 [] p = ordGo j m lp (⟨k, n, v, wt, l⟩ :: p.drop (j + 1))) := by show _ = _; rw [HE.out, hdr]
      obtain ⟨g3', rfl⟩ : ∃ g, gk = g + 1 := ⟨gk - 1, by omega⟩
      clear hpj hat hdr HE
      go_wp2_with fail
      refine htk.mono ?_
      rintro e w2 ⟨t2, hpost⟩
      have K2 := t2.kept KB (fun i hi => hi)
      rcases hpost with ⟨hn, rfl⟩ | ⟨m', lp', lv', hsome, rfl, hst⟩
      · have HE3 : Hid (ordGo 0 0 [] p = (j, 11)) := by show _ = _; rw [HE2.out, ordGo, hn]
        clear hn HE2
        go_wp2_with fail
        try rw [Exit.noGoto_ret]
        go_ret2
        rw [HE3.out]
        exact ⟨rfl, K2⟩
      · have hsm := take_small hm HL.out HCK.out hsome
        have HE3 : Hid (ordGo 0 0 [] p = if p.drop (j + 1) = [] ∧ (m' ≠ 0 ∨ lp' ≠ []) then (j, 11) else ordGo (j + 1) m' lp' (p.drop (j + 1))) := by show _ = _; rw [HE2.out, ordGo, hsome]
        have HS2 : Hid (StP w.heap.size w2 w.heap.size lv' m' lp') := hst
        have HL2 : Hid (lp'.length ≤ 3) := hsm.2
        have hm2 : m' < 256 := hsm.1
        clear hsome HE2 hst hsm
        by_cases hlast : j + 1 = p.length
        · have e1 : ((j : Int) == (p.length : Int) - 1) = true := by simp; omega
          have hop := open_any w.heap.size w.heap.size m' lv' lp' w2 HS2.out
          have HD : Hid (p.drop (j + 1) = []) := List.drop_eq_nil_of_le (by omega)
          by_cases ho : m' ≠ 0 ∨ lp' ≠ []
          · have HE4 : Hid (ordGo 0 0 [] p = (j, 11)) := by show _ = _; rw [HE3.out, if_pos ⟨HD.out, ho⟩]
            rw [decide_eq_true ho] at hop
            clear HE3 ho
            go_wp2_with fail
            refine hop.mono ?_
            rintro e w3 ⟨rfl, hw3⟩
            subst w3
            go_wp2_with fail
            try rw [Exit.noGoto_ret]
            go_ret2
            rw [HE4.out]
            exact ⟨rfl, K2⟩
          · have HE4 : Hid (ordGo 0 0 [] p = ordGo (j + 1) m' lp' (p.drop (j + 1))) := by show _ = _; rw [HE3.out, if_neg (fun h => ho h.2)]
            rw [decide_eq_false ho] at hop
            clear HE3 ho
            go_wp2_with fail
            refine hop.mono ?_
            rintro e w3 ⟨rfl, hw3⟩
            subst w3
            go_wp2_with fail
            go_roundg g3'
            case rel => exact ⟨j + 1, m', lp', lv', by go_num, rfl, rfl, by omega, hm2, HL2, HE4, HS2, K2⟩
            case measure => omega
        · have e1 : ((j : Int) == (p.length : Int) - 1) = false := beq_eq_false_iff_ne.2 (by omega)
          have HE4 : Hid (ordGo 0 0 [] p = ordGo (j + 1) m' lp' (p.drop (j + 1))) := by
            show _ = _
            rw [HE3.out, if_neg (fun h => ?_)]
            have := congrArg List.length h.1
            simp at this
            omega
          clear HE3
          go_wp2_with fail
          go_roundg g3'
          case rel => exact ⟨j + 1, m', lp', lv', by go_num, rfl, rfl, by omega, hm2, HL2, HE4, HS2, K2⟩
          case measure => omega
    · have b1 : ¬ (j : Int) < (p.length : Int) := by omega
      have HE3 : Hid (ordGo 0 0 [] p = (0, 0)) := by show _ = _; rw [HE.out, List.drop_eq_nil_of_le (by omega)]; rfl
      go_wp2_with fail
      try rw [Exit.noGoto_ret]
      go_ret2
      rw [HE3.out]
      exact ⟨rfl, K⟩
end Go.Proofs.YtembbhbbmkijcaaDoor
