/- CheckSet of any set, no bound asked. -/
import Derived.Test.YtolljdomnohmdaaGreatDoorM18
namespace Go.Proofs.YtolljdomnohmdaaGreatDoor
open Go.RowKit

set_option maxHeartbeats 4000000 in
set_option maxRecDepth 10000 in
theorem rcheck_k7N (n v wt : Int) (a : Option Addr) (m c : Nat) (l : List CaseD) (w : World) (hA : AtC w a m l) :
    Calls Tryz.prog 79 #[.agg #[.int .i64 7, .int .i64 n, .int .i64 v, .int .i64 wt, .slice a m c]] w fun e w' => e = .returned (.int .i64 (checkD ⟨7, n, v, wt, l⟩)) ∧ Kept w w' := by
  have HA : Hid (AtC w a m l) := hA
  have HL : Hid (l.length = m) := hA.1
  clear hA
  rcases ht : takesB (shapeOf 7) n v wt m with _ | _
  · have HC : Hid (checkD ⟨7, n, v, wt, l⟩ = 1) := check_arg rfl (by rw [HL.out]; exact ht)
    have hway : (v != 0) = true ∨ (v = 0 ∧ n < 0) ∨ (v = 0 ∧ 0 ≤ n ∧ 0 < n) ∨ (v = 0 ∧ n = 0 ∧ wt < -1) ∨ (v = 0 ∧ n = 0 ∧ -1 ≤ wt ∧ 1000 < wt) := by
      by_cases hv : v = 0
      · right
        subst hv
        rw [Bool.eq_false_iff] at ht
        simp [takesB, shapeOf] at ht
        omega
      · left; simp [hv]
    clear ht
    rcases hway with h | ⟨rfl, h⟩ | ⟨rfl, h, h2⟩ | ⟨rfl, rfl, h⟩ | ⟨rfl, rfl, h, h2⟩
    · go_enter Tryz.func79, Tryz.ntmps79
      go_wp2_with fail
      go_ret
      rw [HC.out]
      exact ⟨rfl, (Kept.refl w).alloc _⟩
    · go_enter Tryz.func79, Tryz.ntmps79
      go_wp2_with fail
      go_ret
      rw [HC.out]
      exact ⟨rfl, (Kept.refl w).alloc _⟩
    · go_enter Tryz.func79, Tryz.ntmps79
      go_wp2_with fail
      go_ret
      rw [HC.out]
      exact ⟨rfl, (Kept.refl w).alloc _⟩
    · go_enter Tryz.func79, Tryz.ntmps79
      go_wp2_with fail
      go_ret
      rw [HC.out]
      exact ⟨rfl, (Kept.refl w).alloc _⟩
    · go_enter Tryz.func79, Tryz.ntmps79
      go_wp2_with fail
      go_ret
      rw [HC.out]
      exact ⟨rfl, (Kept.refl w).alloc _⟩
  · simp [takesB, shapeOf] at ht
    obtain ⟨⟨⟨_, _⟩, rfl⟩, h1, h2⟩ := ht
    obtain rfl : n = 0 := by omega
    by_cases hl : m = 0 ∨ 4 < m
    · have HC : Hid (checkD ⟨7, 0, 0, wt, l⟩ = 18) := check_many rfl (by rw [HL.out]; simp [takesB, shapeOf]; omega) rfl (by rw [HL.out]; exact hl)
      rcases hl with hl | hl
      · subst hl
        go_enter Tryz.func79, Tryz.ntmps79
        go_wp2_with fail
        go_ret
        rw [HC.out]
        exact ⟨rfl, (Kept.refl w).alloc _⟩
      · have h0 : ¬ (m : Int) < 1 := by omega
        have h4 : 4 < (m : Int) := by omega
        go_enter Tryz.func79, Tryz.ntmps79
        go_wp2_with fail
        go_ret
        rw [HC.out]
        exact ⟨rfl, (Kept.refl w).alloc _⟩
    · have HC : Hid (checkD ⟨7, 0, 0, wt, l⟩ = casesE [] l) := check_pick rfl (by rw [HL.out]; simp [takesB, shapeOf]; omega) (by rw [HL.out]; exact hl)
      have h0 : ¬ (m : Int) < 1 := by omega
      have h4 : ¬ 4 < (m : Int) := by omega
      have K1 : Kept w (w.alloc (.cells #[.int .i64 7, .int .i64 0, .int .i64 0, .int .i64 wt, .slice a m c] 77)) := (Kept.refl w).alloc _
      have GA : Hid ((w.alloc (.cells #[.int .i64 7, .int .i64 0, .int .i64 0, .int .i64 wt, .slice a m c] 77)).cell? ⟨w.heap.size, 4, none⟩ = some (.slice a m c)) := by show _ = _; rw [World.cell?_alloc_at _ _ _ _ rfl]; rfl
      go_enter Tryz.func79, Tryz.ntmps79
      go_wp2_with fail
      go_loopg [6] m (fun gk i wr => ∃ k : Nat, i = .int .i64 k ∧ k + gk = m ∧ Hid (casesE (l.take k) (l.drop k) = casesE [] l) ∧ Kept (w.alloc (.cells #[.int .i64 7, .int .i64 0, .int .i64 0, .int .i64 wt, .slice a m c] 77)) wr)
      case atStart => exact ⟨0, rfl, by omega, rfl, Kept.refl _⟩
      case round =>
       obtain ⟨k, rfl, hk, HI, T⟩ := hrel
       have ga := T.cell GA.out
       have la := cell_lt ga
       have T2 := K1.trans T
       by_cases hkm : k < m
       · obtain ⟨b, f, sd, ch, x, rfl, g0, g1, g2, hb, e1, e2, e3⟩ := (HA.out.kept T2).get k hkm
         have b1 : (k : Int) < (m : Int) := by omega
         have b2 : (0 : Int) ≤ (k : Int) := by omega
         have HE : Hid (casesE (l.take k) (⟨sd, ch, x⟩ :: l.drop (k + 1)) = casesE [] l) := by show _ = _; rw [← e3]; exact HI.out
         have HT : Hid (l.take (k + 1) = l.take k ++ [⟨sd, ch, x⟩]) := e2
         clear e1 e2 e3 HI
         obtain ⟨g1', rfl⟩ : ∃ g, gk = g + 1 := ⟨gk - 1, by omega⟩
         by_cases hbad : badC ⟨sd, ch, x⟩ = true
         · have HR : Hid (casesE [] l = 1) := by show _ = _; rw [← HE.out]; exact casesE_bad hbad
           simp only [badC, Bool.or_eq_true, decide_eq_true_eq, Bool.and_eq_true, Bool.not_eq_true'] at hbad
           have hway : ch < 0 ∨ (0 ≤ ch ∧ 8 ≤ ch) ∨ (0 ≤ ch ∧ ch < 8 ∧ sd = false ∧ (x == 0) = false) := by
             rcases hbad with (h | h) | ⟨h1, h2⟩
             · exact .inl h
             · exact .inr (.inl ⟨by omega, h⟩)
             · by_cases h3 : ch < 0
               · exact .inl h3
               · by_cases h4 : 8 ≤ ch
                 · exact .inr (.inl ⟨by omega, h4⟩)
                 · exact .inr (.inr ⟨by omega, by omega, h2, h1⟩)
           clear hbad
           rcases hway with h | ⟨h, h'⟩ | ⟨h, h', rfl, h3⟩
           · go_wp2_with fail
             go_ret
             rw [HC.out, HR.out]
             exact ⟨rfl, T2.alloc _⟩
           · go_wp2_with fail
             go_ret
             rw [HC.out, HR.out]
             exact ⟨rfl, T2.alloc _⟩
           · have h4 : (x != 0) = true := by simp [bne, h3]
             go_wp2_with fail
             go_ret
             rw [HC.out, HR.out]
             exact ⟨rfl, T2.alloc _⟩
         · have HB : Hid (badC ⟨sd, ch, x⟩ = false) := by show _ = _; simpa using hbad
           clear hbad
           have hway : sd = true ∨ (sd = false ∧ x = 0) := by
             cases hs : sd with
             | true => exact .inl rfl
             | false => exact .inr ⟨rfl, (badC_no HB.out).2.2 hs⟩
           have hch : 0 ≤ ch ∧ ch < 8 := by have := badC_no HB.out; exact ⟨this.1, this.2.1⟩
           obtain ⟨hc1, hc2⟩ := hch
           rcases hway with rfl | ⟨rfl, rfl⟩
           · have K2 := T.alloc (.cells #[.bool true, .int .i64 ch, .int .i64 x] 106)
             have T3 := T2.alloc (.cells #[.bool true, .int .i64 ch, .int .i64 x] 106)
             have GC : Hid ((wr.alloc (.cells #[.bool true, .int .i64 ch, .int .i64 x] 106)).cell? ⟨wr.heap.size, 1, none⟩ = some (.int .i64 ch)) := by show _ = _; rw [World.cell?_alloc_at _ _ _ _ rfl]; rfl
             have GD : Hid ((wr.alloc (.cells #[.bool true, .int .i64 ch, .int .i64 x] 106)).cell? ⟨w.heap.size, 4, none⟩ = some (.slice (some ⟨b, f, none⟩) m c)) := by show _ = _; rw [World.cell?_alloc_past _ _ _ la]; exact ga
             go_wp2_with fail
             go_loopg [8] k (fun g2 i wi => ∃ j : Nat, i = .int .i64 j ∧ j + g2 = k ∧ Hid (hasC (l.take j) ch = false) ∧ Kept (wr.alloc (.cells #[.bool true, .int .i64 ch, .int .i64 x] 106)) wi)
             case atStart => exact ⟨0, rfl, by omega, rfl, Kept.refl _⟩
             case round =>
               obtain ⟨j, rfl, hj, HN, Ti⟩ := hrel
               have T4 := T3.trans Ti
               have gc := Ti.cell GC.out
               have gl := cell_lt gc
               have gd := Ti.cell GD.out
               have gdl := cell_lt gd
               by_cases hjk : j < k
               · obtain ⟨b', f', sd', ch', v', hab, q0, q1, q2, hb', e1, e2, e3⟩ := (HA.out.kept T4).get j (by omega)
                 cases hab
                 have d1 : (j : Int) < (k : Int) := by omega
                 have d2 : (0 : Int) ≤ (j : Int) := by omega
                 have d3 : (j : Int) < (m : Int) := by omega
                 by_cases hcc : ch' = ch
                 · have HR : Hid (casesE [] l = 6) := by
                     show _ = _
                     rw [← HE.out]
                     exact casesE_twice HB.out (hasC_mem e1 hjk hcc)
                   have t : (ch' == ch) = true := by simp [hcc]
                   clear e1 e2 e3 hcc
                   go_wp2_with fail
                   go_quiet (fail)
                   go_wp2_with fail
                   go_ret
                   rw [HC.out, HR.out]
                   exact ⟨rfl, T4.drewN _⟩
                 · have HN2 : Hid (hasC (l.take (j + 1)) ch = false) := by
                     show _ = _
                     rw [e2, hasC_snoc, HN.out]
                     simpa using hcc
                   have t : (ch' == ch) = false := by simp [hcc]
                   clear e1 e2 e3 hcc
                   obtain ⟨g3, rfl⟩ : ∃ g, gk = g + 1 := ⟨gk - 1, by omega⟩
                   go_wp2_with fail
                   go_quiet (fail)
                   go_wp2_with fail
                   go_roundg g3
                   case rel => exact ⟨j + 1, by go_num, by omega, HN2, Ti.drewN _⟩
                   case measure => omega
               · have d1 : ¬ (j : Int) < (k : Int) := by omega
                 obtain rfl : j = k := by omega
                 have HX : Hid (casesE (l.take (j + 1)) (l.drop (j + 1)) = casesE [] l) := by
                   show _ = _
                   rw [← HE.out, HT.out]
                   exact (casesE_next HB.out HN.out).symm
                 go_wp2_with fail
                 go_roundg g1'
                 case rel => exact ⟨j + 1, by go_num, by omega, HX, K2.trans Ti⟩
                 case measure => omega

           · have K2 := T.alloc (.cells #[.bool false, .int .i64 ch, .int .i64 0] 106)
             have T3 := T2.alloc (.cells #[.bool false, .int .i64 ch, .int .i64 0] 106)
             have GC : Hid ((wr.alloc (.cells #[.bool false, .int .i64 ch, .int .i64 0] 106)).cell? ⟨wr.heap.size, 1, none⟩ = some (.int .i64 ch)) := by show _ = _; rw [World.cell?_alloc_at _ _ _ _ rfl]; rfl
             have GD : Hid ((wr.alloc (.cells #[.bool false, .int .i64 ch, .int .i64 0] 106)).cell? ⟨w.heap.size, 4, none⟩ = some (.slice (some ⟨b, f, none⟩) m c)) := by show _ = _; rw [World.cell?_alloc_past _ _ _ la]; exact ga
             go_wp2_with fail
             go_loopg [8] k (fun g2 i wi => ∃ j : Nat, i = .int .i64 j ∧ j + g2 = k ∧ Hid (hasC (l.take j) ch = false) ∧ Kept (wr.alloc (.cells #[.bool false, .int .i64 ch, .int .i64 0] 106)) wi)
             case atStart => exact ⟨0, rfl, by omega, rfl, Kept.refl _⟩
             case round =>
               obtain ⟨j, rfl, hj, HN, Ti⟩ := hrel
               have T4 := T3.trans Ti
               have gc := Ti.cell GC.out
               have gl := cell_lt gc
               have gd := Ti.cell GD.out
               have gdl := cell_lt gd
               by_cases hjk : j < k
               · obtain ⟨b', f', sd', ch', v', hab, q0, q1, q2, hb', e1, e2, e3⟩ := (HA.out.kept T4).get j (by omega)
                 cases hab
                 have d1 : (j : Int) < (k : Int) := by omega
                 have d2 : (0 : Int) ≤ (j : Int) := by omega
                 have d3 : (j : Int) < (m : Int) := by omega
                 by_cases hcc : ch' = ch
                 · have HR : Hid (casesE [] l = 6) := by
                     show _ = _
                     rw [← HE.out]
                     exact casesE_twice HB.out (hasC_mem e1 hjk hcc)
                   have t : (ch' == ch) = true := by simp [hcc]
                   clear e1 e2 e3 hcc
                   go_wp2_with fail
                   go_quiet (fail)
                   go_wp2_with fail
                   go_ret
                   rw [HC.out, HR.out]
                   exact ⟨rfl, T4.drewN _⟩
                 · have HN2 : Hid (hasC (l.take (j + 1)) ch = false) := by
                     show _ = _
                     rw [e2, hasC_snoc, HN.out]
                     simpa using hcc
                   have t : (ch' == ch) = false := by simp [hcc]
                   clear e1 e2 e3 hcc
                   obtain ⟨g3, rfl⟩ : ∃ g, gk = g + 1 := ⟨gk - 1, by omega⟩
                   go_wp2_with fail
                   go_quiet (fail)
                   go_wp2_with fail
                   go_roundg g3
                   case rel => exact ⟨j + 1, by go_num, by omega, HN2, Ti.drewN _⟩
                   case measure => omega
               · have d1 : ¬ (j : Int) < (k : Int) := by omega
                 obtain rfl : j = k := by omega
                 have HX : Hid (casesE (l.take (j + 1)) (l.drop (j + 1)) = casesE [] l) := by
                   show _ = _
                   rw [← HE.out, HT.out]
                   exact (casesE_next HB.out HN.out).symm
                 go_wp2_with fail
                 go_roundg g1'
                 case rel => exact ⟨j + 1, by go_num, by omega, HX, K2.trans Ti⟩
                 case measure => omega

       · have b1 : ¬ (k : Int) < (m : Int) := by omega
         have HR : Hid (casesE [] l = 0) := by
           show _ = _
           rw [← HI.out, List.drop_of_length_le (by rw [HL.out]; omega)]; rfl
         go_wp2_with fail
         go_ret
         rw [HC.out, HR.out]
         exact ⟨rfl, T2⟩

theorem rcheck_anyN (k n v wt : Int) (a : Option Addr) (m c : Nat) (l : List CaseD) (w : World) (hA : AtC w a m l) :
    Calls Tryz.prog 79 #[.agg #[.int .i64 k, .int .i64 n, .int .i64 v, .int .i64 wt, .slice a m c]] w fun e w' => e = .returned (.int .i64 (checkD ⟨k, n, v, wt, l⟩)) ∧ Kept w w' := by
  cases hk : isKindB k with
  | false => exact rcheck_none k n v wt a m c l w hk
  | true =>
    rcases kind_cases hk with rfl | rfl | rfl | rfl | rfl | rfl | rfl | rfl | rfl
    · exact rcheck_k1 n v wt a m c l w hA
    · exact rcheck_k2 n v wt a m c l w hA
    · exact rcheck_k3 n v wt a m c l w hA
    · exact rcheck_k4 n v wt a m c l w hA
    · exact rcheck_k5 n v wt a m c l w hA
    · exact rcheck_k6 n v wt a m c l w hA
    · exact rcheck_k7N n v wt a m c l w hA
    · exact rcheck_k8 n v wt a m c l w hA
    · exact rcheck_k9 n v wt a m c l w hA
set_option maxHeartbeats 16000000 in
set_option maxRecDepth 20000 in
theorem rloop_anyN (a : Option Addr) (c : Nat) (p : List OpD) (w : World) (hA : AtP w a p) (h48 : p.length ≤ 48) (hc : ∀ o ∈ p, checkD o = 0) :
    Calls Tryz.prog 59 #[.slice a p.length c] w fun e w' => e = .returned (.tuple #[.int .i64 (checkP p).1, .int .i64 (checkP p).2]) ∧ Kept w w' := by
  have HA : Hid (AtP w a p) := hA
  have HC : Hid (∀ o ∈ p, checkD o = 0) := hc
  have HG : Hid (rGo p.length 0 ⟨[], [], 0⟩ p = checkP p) := rgo_check h48 hc
  clear hA hc
  have b48 : ¬ (p.length : Int) > 48 := by omega
  go_enter Tryz.func59, Tryz.ntmps59
  go_wp2_with fail
  go_loopg [4] p.length (fun gk i wr => ∃ (j : Nat) (W : World), W = wr ∧ i = .int .i64 j ∧ j + gk = p.length ∧ Kept w W)
  case atStart => exact ⟨0, _, rfl, rfl, by omega, Kept.refl w⟩
  case round =>
    obtain ⟨j, W, hW, rfl, hj, K⟩ := hrel
    subst hW
    by_cases hjp : j < p.length
    · obtain ⟨b, f, k, n, v, wt, l, ca, cc, rfl, hpj, g0, g1, g2, g3, g4, hcc, hat, hbl, hdr⟩ := (HA.out.kept K).get j hjp
      have b1 : (j : Int) < (p.length : Int) := by omega
      have b2 : (0 : Int) ≤ (j : Int) := by omega
      have hck := rcheck_anyN k n v wt ca l.length cc l W hat
      rw [HC.out _ (List.mem_of_getElem? hpj)] at hck
      obtain ⟨g3', rfl⟩ : ∃ g, gk = g + 1 := ⟨gk - 1, by omega⟩
      clear hpj hat hdr
      go_wp2_with fail
      refine hck.mono ?_
      rintro e w2 ⟨rfl, t2⟩
      go_wp2_with fail
      go_roundg g3'
      case rel => exact ⟨j + 1, _, rfl, by go_num, by omega, K.trans t2⟩
      case measure => omega
    · have b1 : ¬ (j : Int) < (p.length : Int) := by omega
      have K1 := K
      have M0 : Hid (LSt w.heap.size W 0 ⟨[], [], 0⟩ none 0 (.slice none 0 0) []) := ⟨LAt.nil _ _ _, fun _ => rfl, by simp, FRow.nil _ _, rfl, (fun f hf => by cases hf), ⟨trivial, by simp, fun f hf => by cases hf⟩, ⟨[1], rfl, by simp, (fun f hf => by cases hf), by simp [tot]⟩⟩
      clear K hj hjp
      go_wp2_with fail
      go_loopg [6, 7, 8, 9] p.length (fun gk x6 x7 x8 i wq => ∃ (j : Nat) (s : StR) (a6 : Option Addr) (c6 : Nat) (a7 : Option Addr) (c7 : Nat) (rf : List Fr) (W : World), W = wq ∧ x6 = .slice a6 s.rl.length c6 ∧ x7 = .slice a7 rf.length c7 ∧ x8 = .int .i64 s.steps ∧ i = .int .i64 j ∧ j + gk = p.length ∧ Hid (LSt w.heap.size W j s a6 c6 (.slice a7 rf.length c7) rf) ∧ Hid (checkP p = rGo p.length j s (p.drop j)) ∧ Hid (j = 0 → s.st = [] ∧ s.rl = []) ∧ Kept w W)
      case atStart => exact ⟨0, ⟨[], [], 0⟩, none, 0, none, 0, [], _, rfl, rfl, rfl, rfl, rfl, by omega, M0, (by show _ = _; rw [List.drop_zero, HG.out]), (fun _ => ⟨rfl, rfl⟩), K1⟩
      case round =>
        clear M0 b1 K1
        obtain ⟨j, s, a6, c6, a7, c7, rf, W, hW, rfl, rfl, rfl, rfl, hj, HM, HE, HJ0, K⟩ := hrel
        subst hW
        obtain ⟨rl, st, steps⟩ := s
        have hnum := HM.out.nums (by omega)
        have HFM : Hid (rf.map (fun f => (f.h, f.N, f.was)) = st) := HM.out.fm
        have hrfl : rf.length = st.length := by have := congrArg List.length HFM.out; simpa using this
        have HRF : Hid (rf.length = st.length) := hrfl
        clear hrfl
        simp only at hnum ⊢
        by_cases hjp : j < p.length
        · obtain ⟨b, f, k, n, v, wt, l, ca, cc, rfl, hpj, g0, g1, g2, g3, g4, hcc, hat, hbl, hdr⟩ := (HA.out.kept K).get j hjp
          have b1 : (j : Int) < (p.length : Int) := by omega
          have b2 : (0 : Int) ≤ (j : Int) := by omega
          have HK : Hid (checkD ⟨k, n, v, wt, l⟩ = 0) := HC.out _ (List.mem_of_getElem? hpj)
          have HN : Hid (rStep ⟨rl, st, steps⟩ ⟨k, n, v, wt, l⟩ = none → checkP p = (j, 11)) := fun h => by rw [HE.out, hdr, rGo, h]
          have HS : Hid (∀ s', rStep ⟨rl, st, steps⟩ ⟨k, n, v, wt, l⟩ = some s' → checkP p = rGo p.length (j + 1) s' (p.drop (j + 1))) := fun s' h => by rw [HE.out, hdr, rGo, h]
          obtain ⟨gg, rfl⟩ : ∃ g, gk = g + 1 := ⟨gk - 1, by omega⟩
          clear hpj hat hdr HE
          by_cases k8 : k = 8
          · subst k8
            have KA : Kept W (W.alloc (.cells #[.int .i64 8, .int .i64 n, .int .i64 v, .int .i64 wt, .slice ca l.length cc] 77)) := (Kept.refl W).alloc _
            have HM8 : Hid (LSt w.heap.size (W.alloc (.cells #[.int .i64 8, .int .i64 n, .int .i64 v, .int .i64 wt, .slice ca l.length cc] 77)) j ⟨rl, st, steps⟩ a6 c6 (.slice a7 rf.length c7) rf) := HM.out.kept KA
            by_cases h3 : 3 ≤ st.length
            · have d3 : (rf.length : Int) ≥ 3 := by have := HRF.out; omega
              have HZ : Hid (checkP p = (j, 11)) := HN.out (by simp [rStep, h3])
              clear HN HS
              go_wp2_with fail
              go_ret2
              rw [HZ.out]
              exact ⟨rfl, K.trans KA⟩
            · have d3 : ¬ (rf.length : Int) ≥ 3 := by have := HRF.out; omega
              have HRS : Hid (rStep ⟨rl, st, steps⟩ ⟨8, n, v, wt, l⟩ = some ⟨rl, (rl, n, steps) :: st, 0⟩) := by show _ = _; simp [rStep, h3]
              have HZ : Hid (checkP p = rGo p.length (j + 1) ⟨rl, (rl, n, steps) :: st, 0⟩ (p.drop (j + 1))) := HS.out _ HRS.out
              have HB2 : Hid (Bnd (j + 1) ⟨rl, (rl, n, steps) :: st, 0⟩) := bnd_step HM.out.bd HM.out.ok.2.1 HK.out HRS.out
              have HO2 : Hid (StOk ⟨rl, (rl, n, steps) :: st, 0⟩) := (step_eq HM.out.ok HK.out).2 _ HRS.out
              have hsz : (W.alloc (.cells #[.int .i64 8, .int .i64 n, .int .i64 v, .int .i64 wt, .slice ca l.length cc] 77)).heap.size = W.heap.size + 1 := by simp
              have hln : rf.reverse.length ≤ 1000000 := by simp; omega
              have hrv : rf.reverse.length = rf.length := by simp
              clear HN HS
              go_wp2_with (at_builtin; refine wpList_append_fr _ (by rfl) _ _ rfl w.heap.size (.slice a7 rf.length c7) rf.reverse ⟨a6, c6, rl, n, steps⟩ (W.alloc (.cells #[.int .i64 8, .int .i64 n, .int .i64 v, .int .i64 wt, .slice ca l.length cc] 77)) _ rfl (by rfl) (by rfl) (W.heap.size + 1) hsz.symm (by rfl) HM8.out.fr hln (K.trans KA).size ?_; intro g5 c5 w5 R5 t5 hg5; have K5 : Kept w w5 := t5.kept (K.trans KA) (fun i hi => (World.ownsRow.lt HM8.out.fr i hi).1); have HR5 : Hid (FRow w.heap.size w5 (.slice (some ⟨g5, 0, none⟩) (rf.reverse.length + 1) c5) (rf.reverse ++ [⟨a6, c6, rl, n, steps⟩])) := R5; clear R5)
              go_roundg gg
              case rel =>
                refine ⟨j + 1, ⟨rl, (rl, n, steps) :: st, 0⟩, a6, c6, some ⟨g5, 0, none⟩, c5, ⟨a6, c6, rl, n, steps⟩ :: rf, _, rfl, rfl, ?_, rfl, by go_num, by omega, ⟨HM8.out.la.grow t5 hg5, HM8.out.l0, HM8.out.lc, ?_, ?_, ?_, HO2.out, HB2.out⟩, HZ, (fun h => by omega), K5⟩
                · simp
                · rw [List.reverse_cons]
                  have h := HR5.out
                  rw [hrv] at h
                  exact h
                · rw [List.map_cons, HFM.out]
                · intro f hf
                  rcases List.mem_cons.1 hf with rfl | hf
                  · exact ⟨HM8.out.la.grow t5 hg5, HM8.out.l0, HM8.out.lc⟩
                  · exact ⟨(HM8.out.fa f hf).1.grow t5 hg5, (HM8.out.fa f hf).2⟩
              case measure => omega
          by_cases k9 : k = 9
          · subst k9
            have KA : Kept W (W.alloc (.cells #[.int .i64 9, .int .i64 n, .int .i64 v, .int .i64 wt, .slice ca l.length cc] 77)) := (Kept.refl W).alloc _
            have HM9 : Hid (LSt w.heap.size (W.alloc (.cells #[.int .i64 9, .int .i64 n, .int .i64 v, .int .i64 wt, .slice ca l.length cc] 77)) j ⟨rl, st, steps⟩ a6 c6 (.slice a7 rf.length c7) rf) := HM.out.kept KA
            cases rf with
            | nil =>
              have hst0 : st = [] := by have := HRF.out; simp at this; exact List.eq_nil_of_length_eq_zero this.symm
              have HZ : Hid (checkP p = (j, 11)) := HN.out (by rw [hst0]; simp [rStep])
              clear HN HS
              go_wp2_with fail
              go_ret2
              rw [HZ.out]
              exact ⟨rfl, K.trans KA⟩
            | cons f0 rf' =>
              obtain ⟨fa, fc, fh, fN, fw⟩ := f0
              obtain ⟨st', hst'⟩ : ∃ st', st = (fh, fN, fw) :: st' := ⟨rf'.map (fun f => (f.h, f.N, f.was)), by rw [← HFM.out]; rfl⟩
              have HFR : Hid (FRow w.heap.size (W.alloc (.cells #[.int .i64 9, .int .i64 n, .int .i64 v, .int .i64 wt, .slice ca l.length cc] 77)) (.slice a7 (rf'.length + 1) c7) (rf'.reverse ++ [⟨fa, fc, fh, fN, fw⟩])) := by
                have h := HM9.out.fr
                rw [List.reverse_cons] at h
                exact h
              obtain ⟨g7, hg7⟩ : ∃ g, a7 = some ⟨g, 0, none⟩ := by
                rcases HFR.out.2 with ⟨_, h2⟩ | ⟨g, cap, cur, h2, _⟩
                · simp at h2
                · exact ⟨g, (Value.slice.inj h2).1⟩
              subst hg7
              have hfl : (rf'.reverse ++ [(⟨fa, fc, fh, fN, fw⟩ : Fr)]).length = rf'.length + 1 := by simp
              have HCL : Hid (∀ i, i < 3 → (W.alloc (.cells #[.int .i64 9, .int .i64 n, .int .i64 v, .int .i64 wt, .slice ca l.length cc] 77)).cell? ⟨g7, rf'.length * 3 + i, none⟩ = (frV ⟨fa, fc, fh, fN, fw⟩)[i]?) := fun i hi => by
                have hrow := HFR.out
                unfold FRow at hrow
                rw [hfl] at hrow
                rw [hrow.cellAt (rf'.length * 3 + i) (by omega), flatF_get _ rf'.length i ⟨fa, fc, fh, fN, fw⟩ (by rw [List.getElem?_append_right (by simp)]; simp) hi]
              have q0 : (W.alloc (.cells #[.int .i64 9, .int .i64 n, .int .i64 v, .int .i64 wt, .slice ca l.length cc] 77)).cell? ⟨g7, rf'.length * 3, none⟩ = some (.slice fa fh.length fc) := HCL.out 0 (by omega)
              have q1 : (W.alloc (.cells #[.int .i64 9, .int .i64 n, .int .i64 v, .int .i64 wt, .slice ca l.length cc] 77)).cell? ⟨g7, rf'.length * 3 + 1, none⟩ = some (.int .i64 fN) := HCL.out 1 (by omega)
              have q2 : (W.alloc (.cells #[.int .i64 9, .int .i64 n, .int .i64 v, .int .i64 wt, .slice ca l.length cc] 77)).cell? ⟨g7, rf'.length * 3 + 2, none⟩ = some (.int .i64 fw) := HCL.out 2 (by omega)
              have hfa := HM9.out.fa ⟨fa, fc, fh, fN, fw⟩ (by simp)
              have hr3 : (rf'.length : Int) ≤ 3 := by have := hnum.2.2.2; simp at this; omega
              have hr0 : (0 : Int) ≤ (rf'.length : Int) := by omega
              have i1 : ((rf'.length + 1 : Nat) : Int) - 1 = (rf'.length : Int) := by omega
              have i2 : (rf'.length : Int) < ((rf'.length + 1 : Nat) : Int) := by omega
              have i3 : (rf'.length : Int) + 1 - 1 = (rf'.length : Int) := by omega
              have i4 : ¬ (rf'.length : Int) + 1 = 0 := by omega
              have hal := alike_any fa a6 fc c6 fh.reverse rl.reverse (W.alloc (.cells #[.int .i64 9, .int .i64 n, .int .i64 v, .int .i64 wt, .slice ca l.length cc] 77)) hfa.1.at HM9.out.la.at (by
                have h3 := HM9.out.ok.2.2 (fh, fN, fw) (by simp only; rw [hst']; simp)
                have aux : ∀ r : List Int, DecR r → r.length ≤ 8 := fun r hd => by
                  have hh : LSt 0 (W.alloc (.cells #[.int .i64 9, .int .i64 n, .int .i64 v, .int .i64 wt, .slice ca l.length cc] 77)) 0 ⟨r, [], 0⟩ none r.length (.slice none 0 0) [] → r.length ≤ 8 := fun x => (x.nums (by omega)).2.2.1
                  by_cases hr0 : r.length ≤ 8
                  · exact hr0
                  · exfalso
                    have key : ∀ r : List Int, DecR r → ∀ n : Int, (∀ x ∈ r, x < n) → 0 ≤ n → (r.length : Int) ≤ n := by
                      intro r
                      induction r with
                      | nil => intro _ n _ hn; simpa using hn
                      | cons k r ih =>
                        intro hd n hx hn
                        have := ih hd.2.2.2 k hd.2.2.1 hd.1
                        have := hx k (by simp)
                        simp
                        omega
                    have aux2 : ∀ r : List Int, DecR r → ∀ x ∈ r, x ≤ 7 := by
                      intro r
                      induction r with
                      | nil => intro _ x hx; cases hx
                      | cons k r ih =>
                        intro hd x hx
                        rcases List.mem_cons.1 hx with rfl | hx
                        · exact hd.2.1
                        · exact ih hd.2.2.2 x hx
                    have := key r hd 8 (fun x hx => by have := aux2 r hd x hx; omega) (by omega)
                    omega
                have := aux fh h3
                simp
                omega) (by simp; omega)
              rw [List.length_reverse, List.length_reverse] at hal
              by_cases hfr : fh = rl
              rotate_left
              · have hde : decide (fh.reverse = rl.reverse) = false := decide_eq_false (fun e => hfr (by have := congrArg List.reverse e; simpa using this))
                rw [hde] at hal
                have HZ : Hid (checkP p = (j, 11)) := HN.out (by rw [hst']; simp [rStep, hfr])
                clear HN HS hde hfr
                go_wp2_with fail
                refine hal.mono ?_
                rintro e w2 ⟨rfl, t2⟩
                go_wp2_with fail
                go_ret2
                rw [HZ.out]
                exact ⟨rfl, (K.trans KA).trans t2⟩
              · rw [decide_eq_true (by rw [hfr])] at hal
                have HRS : Hid (rStep ⟨rl, st, steps⟩ ⟨9, n, v, wt, l⟩ = some ⟨rl, st', fw + fN * steps⟩) := by show _ = _; rw [hst']; simp [rStep, hfr]
                have HZ : Hid (checkP p = rGo p.length (j + 1) ⟨rl, st', fw + fN * steps⟩ (p.drop (j + 1))) := HS.out _ HRS.out
                have HB2 : Hid (Bnd (j + 1) ⟨rl, st', fw + fN * steps⟩) := bnd_step HM.out.bd HM.out.ok.2.1 HK.out HRS.out
                have HO2 : Hid (StOk ⟨rl, st', fw + fN * steps⟩) := (step_eq HM.out.ok HK.out).2 _ HRS.out
                have hbN : (1 ≤ fN ∧ fN ≤ 32 ∧ 0 ≤ fw) ∧ fw ≤ 1572864 := by
                  obtain ⟨ts, hm, h0, hf, ht⟩ := HM.out.bd
                  simp only at hm h0 hf ht
                  have hmem : (fh, fN, fw) ∈ st := by rw [hst']; simp
                  have hb := (tot_bd2 st steps ts hm h0 hf).2 _ hmem
                  simp only at hb
                  exact ⟨hf _ hmem, by omega⟩
                obtain ⟨P, hP⟩ : ∃ P, fN * steps = P := ⟨_, rfl⟩
                have hPb : 0 ≤ P ∧ P ≤ 50331648 := by
                  rw [← hP]
                  refine ⟨Int.mul_nonneg (by omega) (by omega), ?_⟩
                  have := Int.mul_le_mul hbN.1.2.1 hnum.2.1 (by omega) (by omega)
                  omega
                have hPw : ∀ q, q = P → IntKind.i64.wrap q = q := by
                  intro q hq
                  simp [IntKind.wrap, IntKind.bits, IntKind.signed]
                  omega
                rw [hP] at HZ HB2 HO2
                have c7b : (rf'.length : Int) ≤ (c7 : Int) := by
                  have hrow := HFR.out
                  rcases hrow.2 with ⟨h1, _⟩ | ⟨g, cap, cur, h2, _, _, h3, _⟩
                  · cases h1
                  · have := (Value.slice.inj h2).2.2
                    rw [hfl] at h3
                    omega
                have HFM2 : Hid (rf'.map (fun f => (f.h, f.N, f.was)) = st') := by
                  have h := HFM.out
                  rw [hst', List.map_cons] at h
                  exact (List.cons.inj h).2
                have HTK : Hid (∀ w', Kept (W.alloc (.cells #[.int .i64 9, .int .i64 n, .int .i64 v, .int .i64 wt, .slice ca l.length cc] 77)) w' → FRow w.heap.size w' (.slice (some ⟨g7, 0, none⟩) rf'.length c7) rf'.reverse) := fun w' t => by
                  have h := HFR.out.kept t
                  unfold FRow at h
                  rw [hfl] at h
                  have h2 := own_take (r := rf'.length) h (by omega)
                  unfold FRow
                  rw [List.length_reverse]
                  have he : (flatF (rf'.reverse ++ [⟨fa, fc, fh, fN, fw⟩])).take (rf'.length * 3) = flatF rf'.reverse := by
                    rw [show flatF (rf'.reverse ++ [⟨fa, fc, fh, fN, fw⟩]) = flatF rf'.reverse ++ frV ⟨fa, fc, fh, fN, fw⟩ by simp [flatF]]
                    exact List.take_left' (by rw [flatF_len, List.length_reverse])
                  rw [he] at h2
                  exact h2
                have HLA : Hid (LAt (W.alloc (.cells #[.int .i64 9, .int .i64 n, .int .i64 v, .int .i64 wt, .slice ca l.length cc] 77)) (.slice (some ⟨g7, 0, none⟩) rf'.length c7) a6 rl.reverse) := HM9.out.la.short
                have HFA : Hid (∀ f ∈ rf', LAt (W.alloc (.cells #[.int .i64 9, .int .i64 n, .int .i64 v, .int .i64 wt, .slice ca l.length cc] 77)) (.slice (some ⟨g7, 0, none⟩) rf'.length c7) f.a f.h.reverse ∧ (f.a = none → f.c = 0) ∧ f.h.length ≤ f.c) := fun f hf => ⟨(HM9.out.fa f (by simp [hf])).1.short, (HM9.out.fa f (by simp [hf])).2⟩
                have hl0 := HM.out.l0
                have HLC : Hid (rl.length ≤ c6) := HM.out.lc
                clear HN HS hfr HRS hst'
                go_wp2_with fail
                refine hal.mono ?_
                rintro e w2 ⟨rfl, t2⟩
                have z0 := t2.cell q0
                have z1 := t2.cell q1
                have z2 := t2.cell q2
                have KZ : Kept w2 (w2.alloc (.cells #[.slice fa fh.length fc, .int .i64 fN, .int .i64 fw] 137)) := (Kept.refl w2).alloc _
                have T2 := t2.trans KZ
                clear q0 q1 q2 hal
                go_wp2_with fail
                go_roundg gg
                case rel =>
                  refine ⟨j + 1, ⟨rl, st', fw + P⟩, a6, c6, some ⟨g7, 0, none⟩, c7, rf', _, rfl, rfl, rfl, ?_, by go_num, by omega, ⟨HLA.out.kept T2, hl0, HLC.out, HTK.out _ T2, HFM2.out, fun f hf => ⟨(HFA.out f hf).1.kept T2, (HFA.out f hf).2⟩, HO2.out, HB2.out⟩, HZ, (fun h => by omega), (K.trans KA).trans T2⟩
                  first | rfl | go_num
                case measure => omega
          by_cases k2 : k = 2
          · subst k2
            cases rl with
            | nil =>
              have KA : Kept W (W.alloc (.cells #[.int .i64 2, .int .i64 n, .int .i64 v, .int .i64 wt, .slice ca l.length cc] 77)) := (Kept.refl W).alloc _
              have HM2 : Hid (LSt w.heap.size (W.alloc (.cells #[.int .i64 2, .int .i64 n, .int .i64 v, .int .i64 wt, .slice ca l.length cc] 77)) j ⟨[], st, steps⟩ a6 c6 (.slice a7 rf.length c7) rf) := HM.out.kept KA
              have HRS : Hid (rStep ⟨[], st, steps⟩ ⟨2, n, v, wt, l⟩ = some ⟨n :: [], st, steps + 1⟩) := by show _ = _; simp [rStep]
              have HZ : Hid (checkP p = rGo p.length (j + 1) ⟨n :: [], st, steps + 1⟩ (p.drop (j + 1))) := HS.out _ HRS.out
              have HB2 : Hid (Bnd (j + 1) ⟨n :: [], st, steps + 1⟩) := bnd_step HM.out.bd HM.out.ok.2.1 HK.out HRS.out
              have HO2 : Hid (StOk ⟨n :: [], st, steps + 1⟩) := (step_eq HM.out.ok HK.out).2 _ HRS.out
              have hsz : (W.alloc (.cells #[.int .i64 2, .int .i64 n, .int .i64 v, .int .i64 wt, .slice ca l.length cc] 77)).heap.size = W.heap.size + 1 := by simp
              have HLN : Hid (0 = ([] : List Int).reverse.length) := by show _ = _; simp
              have hll : ([] : List Int).reverse.length ≤ 1000000 := by simp
              have HLT : Hid (∀ q, (Value.slice a7 rf.length c7).ownBlock = some q → q < W.heap.size + 1) := fun q hq => by
                have := (World.ownsRow.lt HM2.out.fr q hq).2
                omega
              clear HN HS
              go_wp2_with (at_builtin; first
                | (refine wpList_append_int nInt _ (by rfl) _ _ rfl (W.heap.size + 1) v4 ([] : List Int).reverse n w4 (by rfl) (by rfl) w4.heap.size (by rfl) (by rfl) HR4.out hll (show W.heap.size + 1 ≤ w4.heap.size from hsz ▸ t4s.size) ?_; intro g5 c5 w5 R5 gr5 hg5; have K5 : Kept (W.alloc (.cells #[.int .i64 2, .int .i64 n, .int .i64 v, .int .i64 wt, .slice ca l.length cc] 77)) w5 := Turns.kept (S := fun k => v4.ownBlock = some k) (((Turns.refl _ w4).alloc _).trans (Turns.grown gr5 (fun k e => e))) t4s (fun i hi => by rw [hsz]; exact (World.ownsRow.lt HR4.out i hi).1); have HR5 : Hid (IRow 3 (W.heap.size + 1) w5 (.slice (some ⟨g5, 0, none⟩) (([] : List Int).reverse.length + 1) c5) (([] : List Int).reverse ++ [n])) := R5; clear R5)
                | (refine wpList_copy_int _ (by rfl) _ _ rfl (W.alloc (.cells #[.int .i64 2, .int .i64 n, .int .i64 v, .int .i64 wt, .slice ca l.length cc] 77)) (by rfl) (W.heap.size + 1) hsz.symm (by rfl) a6 0 c6 ([] : List Int).reverse HLN.out (by rfl) HM2.out.l0 HM2.out.la.at hll ?_; intro v4 w4 R4 t4s; rw [hsz] at R4; have HR4 : Hid (IRow 3 (W.heap.size + 1) w4 v4 ([] : List Int).reverse) := R4; clear R4) | fail)
              go_roundg gg
              case rel =>
                have hR5 := HR5.out
                have hcp : (n :: [] : List Int).length ≤ c5 := by
                  obtain ⟨a9, c9, e9, h9⟩ := hR5.form
                  have := (Value.slice.inj e9).2.2
                  simp at h9
                  simp
                  omega
                refine ⟨j + 1, ⟨n :: [], st, steps + 1⟩, some ⟨g5, 0, none⟩, c5, a7, c7, rf, _, rfl, ?_, rfl, by first | rfl | go_num, by go_num, by omega, ⟨?_, (fun e => by cases e), hcp, HM2.out.fr.kept K5, HFM.out, fun f hf => ⟨(HM2.out.fa f hf).1.kept K5, (HM2.out.fa f hf).2⟩, HO2.out, HB2.out⟩, HZ, (fun h => by omega), (K.trans KA).trans K5⟩
                · simp
                · rw [List.reverse_cons]
                  exact LAt.fresh hR5 HLT.out
              case measure => omega
            | cons k0 r =>
              obtain ⟨b6, f6, ha6, hc6, _⟩ := HM.out.la r.length k0 (rev_last k0 r)
              subst ha6
              have kc := ((Kept.refl W).alloc (.cells #[.int .i64 2, .int .i64 n, .int .i64 v, .int .i64 wt, .slice ca l.length cc] 77)).cell hc6
              have hrl8 : (r.length : Int) ≤ 8 := by have := hnum.2.2.1; simp at this; omega
              have hrl0 : (0 : Int) ≤ (r.length : Int) := by omega
              have i1 : (r.length : Int) + 1 - 1 = (r.length : Int) := by omega
              have i2 : (r.length : Int) < (r.length : Int) + 1 := by omega
              have i3 : ¬ (r.length : Int) + 1 = 0 := by omega
              have i4 : (r.length : Int) + 1 > 0 := by omega
              have hdk : 0 ≤ k0 := HM.out.ok.1.1
              have hdk7 : k0 ≤ 7 := HM.out.ok.1.2.1
              by_cases hnk : n ≤ k0
              · have HZ : Hid (checkP p = (j, 11)) := HN.out (by simp [rStep, hnk])
                clear HN HS
                go_wp2_with fail
                go_ret2
                rw [HZ.out]
                exact ⟨rfl, K.trans ((Kept.refl W).alloc _)⟩
              · have KA : Kept W (W.alloc (.cells #[.int .i64 2, .int .i64 n, .int .i64 v, .int .i64 wt, .slice ca l.length cc] 77)) := (Kept.refl W).alloc _
                have HM2 : Hid (LSt w.heap.size (W.alloc (.cells #[.int .i64 2, .int .i64 n, .int .i64 v, .int .i64 wt, .slice ca l.length cc] 77)) j ⟨(k0 :: r), st, steps⟩ (some ⟨b6, f6, none⟩) c6 (.slice a7 rf.length c7) rf) := HM.out.kept KA
                have HRS : Hid (rStep ⟨(k0 :: r), st, steps⟩ ⟨2, n, v, wt, l⟩ = some ⟨n :: (k0 :: r), st, steps + 1⟩) := by show _ = _; simp [rStep, hnk]
                have HZ : Hid (checkP p = rGo p.length (j + 1) ⟨n :: (k0 :: r), st, steps + 1⟩ (p.drop (j + 1))) := HS.out _ HRS.out
                have HB2 : Hid (Bnd (j + 1) ⟨n :: (k0 :: r), st, steps + 1⟩) := bnd_step HM.out.bd HM.out.ok.2.1 HK.out HRS.out
                have HO2 : Hid (StOk ⟨n :: (k0 :: r), st, steps + 1⟩) := (step_eq HM.out.ok HK.out).2 _ HRS.out
                have hsz : (W.alloc (.cells #[.int .i64 2, .int .i64 n, .int .i64 v, .int .i64 wt, .slice ca l.length cc] 77)).heap.size = W.heap.size + 1 := by simp
                have HLN : Hid ((r.length + 1) = ((k0 :: r) : List Int).reverse.length) := by show _ = _; simp
                have hll : ((k0 :: r) : List Int).reverse.length ≤ 1000000 := by simp; omega
                have HLT : Hid (∀ q, (Value.slice a7 rf.length c7).ownBlock = some q → q < W.heap.size + 1) := fun q hq => by
                  have := (World.ownsRow.lt HM2.out.fr q hq).2
                  omega
                clear HN HS
                go_wp2_with (at_builtin; first
                  | (refine wpList_append_int nInt _ (by rfl) _ _ rfl (W.heap.size + 1) v4 ((k0 :: r) : List Int).reverse n w4 (by rfl) (by rfl) w4.heap.size (by rfl) (by rfl) HR4.out hll (show W.heap.size + 1 ≤ w4.heap.size from hsz ▸ t4s.size) ?_; intro g5 c5 w5 R5 gr5 hg5; have K5 : Kept (W.alloc (.cells #[.int .i64 2, .int .i64 n, .int .i64 v, .int .i64 wt, .slice ca l.length cc] 77)) w5 := Turns.kept (S := fun k => v4.ownBlock = some k) (((Turns.refl _ w4).alloc _).trans (Turns.grown gr5 (fun k e => e))) t4s (fun i hi => by rw [hsz]; exact (World.ownsRow.lt HR4.out i hi).1); have HR5 : Hid (IRow 3 (W.heap.size + 1) w5 (.slice (some ⟨g5, 0, none⟩) (((k0 :: r) : List Int).reverse.length + 1) c5) (((k0 :: r) : List Int).reverse ++ [n])) := R5; clear R5)
                  | (refine wpList_copy_int _ (by rfl) _ _ rfl (W.alloc (.cells #[.int .i64 2, .int .i64 n, .int .i64 v, .int .i64 wt, .slice ca l.length cc] 77)) (by rfl) (W.heap.size + 1) hsz.symm (by rfl) (some ⟨b6, f6, none⟩) (r.length + 1) c6 ((k0 :: r) : List Int).reverse HLN.out (by rfl) HM2.out.l0 HM2.out.la.at hll ?_; intro v4 w4 R4 t4s; rw [hsz] at R4; have HR4 : Hid (IRow 3 (W.heap.size + 1) w4 v4 ((k0 :: r) : List Int).reverse) := R4; clear R4) | fail)
                go_roundg gg
                case rel =>
                  have hR5 := HR5.out
                  have hcp : (n :: (k0 :: r) : List Int).length ≤ c5 := by
                    obtain ⟨a9, c9, e9, h9⟩ := hR5.form
                    have := (Value.slice.inj e9).2.2
                    simp at h9
                    simp
                    omega
                  refine ⟨j + 1, ⟨n :: (k0 :: r), st, steps + 1⟩, some ⟨g5, 0, none⟩, c5, a7, c7, rf, _, rfl, ?_, rfl, by first | rfl | go_num, by go_num, by omega, ⟨?_, (fun e => by cases e), hcp, HM2.out.fr.kept K5, HFM.out, fun f hf => ⟨(HM2.out.fa f hf).1.kept K5, (HM2.out.fa f hf).2⟩, HO2.out, HB2.out⟩, HZ, (fun h => by omega), (K.trans KA).trans K5⟩
                  · simp
                  · rw [List.reverse_cons]
                    exact LAt.fresh hR5 HLT.out
                case measure => omega
          by_cases k3 : k = 3
          · subst k3
            cases rl with
            | nil =>
              have HZ : Hid (checkP p = (j, 11)) := HN.out (by simp [rStep])
              clear HN HS
              go_wp2_with fail
              go_ret2
              rw [HZ.out]
              exact ⟨rfl, K.trans ((Kept.refl W).alloc _)⟩
            | cons k0 r =>
              obtain ⟨b6, f6, ha6, hc6, _⟩ := HM.out.la r.length k0 (rev_last k0 r)
              subst ha6
              have kc := ((Kept.refl W).alloc (.cells #[.int .i64 3, .int .i64 n, .int .i64 v, .int .i64 wt, .slice ca l.length cc] 77)).cell hc6
              have hrl8 : (r.length : Int) ≤ 8 := by have := hnum.2.2.1; simp at this; omega
              have hrl0 : (0 : Int) ≤ (r.length : Int) := by omega
              have i1 : (r.length : Int) + 1 - 1 = (r.length : Int) := by omega
              have i2 : (r.length : Int) < (r.length : Int) + 1 := by omega
              have i3 : ¬ (r.length : Int) + 1 = 0 := by omega
              have i4 : (r.length : Int) + 1 > 0 := by omega
              have hdk : 0 ≤ k0 := HM.out.ok.1.1
              have hdk7 : k0 ≤ 7 := HM.out.ok.1.2.1
              by_cases hnk : k0 = n
              rotate_left
              · have hne : (k0 != n) = true := by simpa using hnk
                have HZ : Hid (checkP p = (j, 11)) := HN.out (by simp [rStep, hnk])
                clear HN HS
                go_wp2_with fail
                go_ret2
                rw [HZ.out]
                exact ⟨rfl, K.trans ((Kept.refl W).alloc _)⟩
              · subst hnk
                have KA : Kept W (W.alloc (.cells #[.int .i64 3, .int .i64 k0, .int .i64 v, .int .i64 wt, .slice ca l.length cc] 77)) := (Kept.refl W).alloc _
                have HM2 : Hid (LSt w.heap.size (W.alloc (.cells #[.int .i64 3, .int .i64 k0, .int .i64 v, .int .i64 wt, .slice ca l.length cc] 77)) j ⟨k0 :: r, st, steps⟩ (some ⟨b6, f6, none⟩) c6 (.slice a7 rf.length c7) rf) := HM.out.kept KA
                have HRS : Hid (rStep ⟨k0 :: r, st, steps⟩ ⟨3, k0, v, wt, l⟩ = some ⟨r, st, steps + 1⟩) := by show _ = _; simp [rStep]
                have HZ : Hid (checkP p = rGo p.length (j + 1) ⟨r, st, steps + 1⟩ (p.drop (j + 1))) := HS.out _ HRS.out
                have HB2 : Hid (Bnd (j + 1) ⟨r, st, steps + 1⟩) := bnd_step HM.out.bd HM.out.ok.2.1 HK.out HRS.out
                have HO2 : Hid (StOk ⟨r, st, steps + 1⟩) := (step_eq HM.out.ok HK.out).2 _ HRS.out
                have hsz : (W.alloc (.cells #[.int .i64 3, .int .i64 k0, .int .i64 v, .int .i64 wt, .slice ca l.length cc] 77)).heap.size = W.heap.size + 1 := by simp
                have HLN : Hid (r.length = r.reverse.length) := by show _ = _; simp
                have hll : r.reverse.length ≤ 1000000 := by simp; omega
                have c6b : (r.length : Int) ≤ (c6 : Int) := by have := HM.out.lc; simp at this; omega
                have HAI : Hid (AtI (W.alloc (.cells #[.int .i64 3, .int .i64 k0, .int .i64 v, .int .i64 wt, .slice ca l.length cc] 77)) (some ⟨b6, f6, none⟩) r.reverse) := fun q x hq => HM2.out.la.at q x (by
                  show (k0 :: r).reverse[q]? = _
                  have hql := (List.getElem?_eq_some_iff.1 hq).1
                  rw [List.reverse_cons, List.getElem?_append_left hql]
                  exact hq)
                have HLT : Hid (∀ q, (Value.slice a7 rf.length c7).ownBlock = some q → q < W.heap.size + 1) := fun q hq => by
                  have := (World.ownsRow.lt HM2.out.fr q hq).2
                  omega
                clear HN HS
                go_wp2_with (at_builtin; refine wpList_copy_int _ (by rfl) _ _ rfl (W.alloc (.cells #[.int .i64 3, .int .i64 k0, .int .i64 v, .int .i64 wt, .slice ca l.length cc] 77)) (by rfl) (W.heap.size + 1) hsz.symm (by rfl) (some ⟨b6, f6, none⟩) r.length c6 r.reverse HLN.out (by rfl) (fun e => by cases e) HAI.out hll ?_; intro v4 w4 R4 t4s; rw [hsz] at R4; have HR4 : Hid (IRow 3 (W.heap.size + 1) w4 v4 r.reverse) := R4; clear R4)
                go_roundg gg
                case rel =>
                  have hR4 := HR4.out
                  obtain ⟨a4, c4, hv4, hc4, h40⟩ : ∃ a4 c4, v4 = .slice a4 r.reverse.length c4 ∧ r.reverse.length ≤ c4 ∧ (a4 = none → c4 = 0) := by
                    rcases hR4.2 with ⟨h1, h2⟩ | ⟨g, cap, cur, h1, _, _, h3, _⟩
                    · exact ⟨none, 0, by rw [h1, h2], by omega, fun _ => rfl⟩
                    · exact ⟨_, _, h1, h3, fun e => by cases e⟩
                  subst hv4
                  refine ⟨j + 1, ⟨r, st, steps + 1⟩, a4, c4, a7, c7, rf, _, rfl, ?_, rfl, by first | rfl | go_num, by go_num, by omega, ⟨LAt.fresh hR4 HLT.out, h40, by simp at hc4; exact hc4, HM2.out.fr.kept t4s, HFM.out, fun f hf => ⟨(HM2.out.fa f hf).1.kept t4s, (HM2.out.fa f hf).2⟩, HO2.out, HB2.out⟩, HZ, (fun h => by omega), (K.trans KA).trans t4s⟩
                  simp
                case measure => omega
          have KA : Kept W (W.alloc (.cells #[.int .i64 k, .int .i64 n, .int .i64 v, .int .i64 wt, .slice ca l.length cc] 77)) := (Kept.refl W).alloc _
          have HM1 : Hid (LSt w.heap.size (W.alloc (.cells #[.int .i64 k, .int .i64 n, .int .i64 v, .int .i64 wt, .slice ca l.length cc] 77)) j ⟨rl, st, steps⟩ a6 c6 (.slice a7 rf.length c7) rf) := HM.out.kept KA
          by_cases hkw : k = 4 ∨ k = 5 ∨ k = 7
          · have hwa := rwaits_any k n v wt ca l.length cc l (W.alloc (.cells #[.int .i64 k, .int .i64 n, .int .i64 v, .int .i64 wt, .slice ca l.length cc] 77))
            cases hq : waitsD ⟨k, n, v, wt, l⟩ with
            | false =>
              rw [hq] at hwa
              rcases hkw with rfl | rfl | rfl
              · have HRS : Hid (rStep ⟨rl, st, steps⟩ ⟨4, n, v, wt, l⟩ = some ⟨rl, st, steps + 1⟩) := by show _ = _; unfold rStep; simp only; rw [if_neg k8, if_neg k9, if_neg k2, if_neg k3, if_neg (by rw [hq]; simp)]
                have HZ : Hid (checkP p = rGo p.length (j + 1) ⟨rl, st, steps + 1⟩ (p.drop (j + 1))) := HS.out _ HRS.out
                have HB2 : Hid (Bnd (j + 1) ⟨rl, st, steps + 1⟩) := bnd_step HM.out.bd HM.out.ok.2.1 HK.out HRS.out
                have HO2 : Hid (StOk ⟨rl, st, steps + 1⟩) := (step_eq HM.out.ok HK.out).2 _ HRS.out
                clear HN HS
                go_wp2_with fail
                refine hwa.mono ?_
                rintro e w2 ⟨rfl, t2⟩
                go_wp2_with fail
                go_roundg gg
                case rel => exact ⟨j + 1, ⟨rl, st, steps + 1⟩, a6, c6, a7, c7, rf, _, rfl, rfl, rfl, by first | rfl | go_num, by go_num, by omega, ⟨HM1.out.la.kept t2, HM1.out.l0, HM1.out.lc, HM1.out.fr.kept t2, HFM.out, fun f hf => ⟨(HM1.out.fa f hf).1.kept t2, (HM1.out.fa f hf).2⟩, HO2.out, HB2.out⟩, HZ, (fun h => by omega), (K.trans KA).trans t2⟩
                case measure => omega
              · have HRS : Hid (rStep ⟨rl, st, steps⟩ ⟨5, n, v, wt, l⟩ = some ⟨rl, st, steps + 1⟩) := by show _ = _; unfold rStep; simp only; rw [if_neg k8, if_neg k9, if_neg k2, if_neg k3, if_neg (by rw [hq]; simp)]
                have HZ : Hid (checkP p = rGo p.length (j + 1) ⟨rl, st, steps + 1⟩ (p.drop (j + 1))) := HS.out _ HRS.out
                have HB2 : Hid (Bnd (j + 1) ⟨rl, st, steps + 1⟩) := bnd_step HM.out.bd HM.out.ok.2.1 HK.out HRS.out
                have HO2 : Hid (StOk ⟨rl, st, steps + 1⟩) := (step_eq HM.out.ok HK.out).2 _ HRS.out
                clear HN HS
                go_wp2_with fail
                refine hwa.mono ?_
                rintro e w2 ⟨rfl, t2⟩
                go_wp2_with fail
                go_roundg gg
                case rel => exact ⟨j + 1, ⟨rl, st, steps + 1⟩, a6, c6, a7, c7, rf, _, rfl, rfl, rfl, by first | rfl | go_num, by go_num, by omega, ⟨HM1.out.la.kept t2, HM1.out.l0, HM1.out.lc, HM1.out.fr.kept t2, HFM.out, fun f hf => ⟨(HM1.out.fa f hf).1.kept t2, (HM1.out.fa f hf).2⟩, HO2.out, HB2.out⟩, HZ, (fun h => by omega), (K.trans KA).trans t2⟩
                case measure => omega
              · have HRS : Hid (rStep ⟨rl, st, steps⟩ ⟨7, n, v, wt, l⟩ = some ⟨rl, st, steps + 1⟩) := by show _ = _; unfold rStep; simp only; rw [if_neg k8, if_neg k9, if_neg k2, if_neg k3, if_neg (by rw [hq]; simp)]
                have HZ : Hid (checkP p = rGo p.length (j + 1) ⟨rl, st, steps + 1⟩ (p.drop (j + 1))) := HS.out _ HRS.out
                have HB2 : Hid (Bnd (j + 1) ⟨rl, st, steps + 1⟩) := bnd_step HM.out.bd HM.out.ok.2.1 HK.out HRS.out
                have HO2 : Hid (StOk ⟨rl, st, steps + 1⟩) := (step_eq HM.out.ok HK.out).2 _ HRS.out
                clear HN HS
                go_wp2_with fail
                refine hwa.mono ?_
                rintro e w2 ⟨rfl, t2⟩
                go_wp2_with fail
                go_roundg gg
                case rel => exact ⟨j + 1, ⟨rl, st, steps + 1⟩, a6, c6, a7, c7, rf, _, rfl, rfl, rfl, by first | rfl | go_num, by go_num, by omega, ⟨HM1.out.la.kept t2, HM1.out.l0, HM1.out.lc, HM1.out.fr.kept t2, HFM.out, fun f hf => ⟨(HM1.out.fa f hf).1.kept t2, (HM1.out.fa f hf).2⟩, HO2.out, HB2.out⟩, HZ, (fun h => by omega), (K.trans KA).trans t2⟩
                case measure => omega
            | true =>
              rw [hq] at hwa
              by_cases hr0 : rl = []
              · subst hr0
                rcases hkw with rfl | rfl | rfl
                · have HRS : Hid (rStep ⟨[], st, steps⟩ ⟨4, n, v, wt, l⟩ = some ⟨[], st, steps + 1⟩) := by show _ = _; unfold rStep; simp only; rw [if_neg k8, if_neg k9, if_neg k2, if_neg k3, if_neg (by simp)]
                  have HZ : Hid (checkP p = rGo p.length (j + 1) ⟨[], st, steps + 1⟩ (p.drop (j + 1))) := HS.out _ HRS.out
                  have HB2 : Hid (Bnd (j + 1) ⟨[], st, steps + 1⟩) := bnd_step HM.out.bd HM.out.ok.2.1 HK.out HRS.out
                  have HO2 : Hid (StOk ⟨[], st, steps + 1⟩) := (step_eq HM.out.ok HK.out).2 _ HRS.out
                  clear HN HS
                  go_wp2_with fail
                  refine hwa.mono ?_
                  rintro e w2 ⟨rfl, t2⟩
                  go_wp2_with fail
                  go_roundg gg
                  case rel => exact ⟨j + 1, ⟨[], st, steps + 1⟩, a6, c6, a7, c7, rf, _, rfl, rfl, rfl, by first | rfl | go_num, by go_num, by omega, ⟨HM1.out.la.kept t2, HM1.out.l0, HM1.out.lc, HM1.out.fr.kept t2, HFM.out, fun f hf => ⟨(HM1.out.fa f hf).1.kept t2, (HM1.out.fa f hf).2⟩, HO2.out, HB2.out⟩, HZ, (fun h => by omega), (K.trans KA).trans t2⟩
                  case measure => omega
                · have HRS : Hid (rStep ⟨[], st, steps⟩ ⟨5, n, v, wt, l⟩ = some ⟨[], st, steps + 1⟩) := by show _ = _; unfold rStep; simp only; rw [if_neg k8, if_neg k9, if_neg k2, if_neg k3, if_neg (by simp)]
                  have HZ : Hid (checkP p = rGo p.length (j + 1) ⟨[], st, steps + 1⟩ (p.drop (j + 1))) := HS.out _ HRS.out
                  have HB2 : Hid (Bnd (j + 1) ⟨[], st, steps + 1⟩) := bnd_step HM.out.bd HM.out.ok.2.1 HK.out HRS.out
                  have HO2 : Hid (StOk ⟨[], st, steps + 1⟩) := (step_eq HM.out.ok HK.out).2 _ HRS.out
                  clear HN HS
                  go_wp2_with fail
                  refine hwa.mono ?_
                  rintro e w2 ⟨rfl, t2⟩
                  go_wp2_with fail
                  go_roundg gg
                  case rel => exact ⟨j + 1, ⟨[], st, steps + 1⟩, a6, c6, a7, c7, rf, _, rfl, rfl, rfl, by first | rfl | go_num, by go_num, by omega, ⟨HM1.out.la.kept t2, HM1.out.l0, HM1.out.lc, HM1.out.fr.kept t2, HFM.out, fun f hf => ⟨(HM1.out.fa f hf).1.kept t2, (HM1.out.fa f hf).2⟩, HO2.out, HB2.out⟩, HZ, (fun h => by omega), (K.trans KA).trans t2⟩
                  case measure => omega
                · have HRS : Hid (rStep ⟨[], st, steps⟩ ⟨7, n, v, wt, l⟩ = some ⟨[], st, steps + 1⟩) := by show _ = _; unfold rStep; simp only; rw [if_neg k8, if_neg k9, if_neg k2, if_neg k3, if_neg (by simp)]
                  have HZ : Hid (checkP p = rGo p.length (j + 1) ⟨[], st, steps + 1⟩ (p.drop (j + 1))) := HS.out _ HRS.out
                  have HB2 : Hid (Bnd (j + 1) ⟨[], st, steps + 1⟩) := bnd_step HM.out.bd HM.out.ok.2.1 HK.out HRS.out
                  have HO2 : Hid (StOk ⟨[], st, steps + 1⟩) := (step_eq HM.out.ok HK.out).2 _ HRS.out
                  clear HN HS
                  go_wp2_with fail
                  refine hwa.mono ?_
                  rintro e w2 ⟨rfl, t2⟩
                  go_wp2_with fail
                  go_roundg gg
                  case rel => exact ⟨j + 1, ⟨[], st, steps + 1⟩, a6, c6, a7, c7, rf, _, rfl, rfl, rfl, by first | rfl | go_num, by go_num, by omega, ⟨HM1.out.la.kept t2, HM1.out.l0, HM1.out.lc, HM1.out.fr.kept t2, HFM.out, fun f hf => ⟨(HM1.out.fa f hf).1.kept t2, (HM1.out.fa f hf).2⟩, HO2.out, HB2.out⟩, HZ, (fun h => by omega), (K.trans KA).trans t2⟩
                  case measure => omega
              · have hlen0 : (rl.length : Int) > 0 := by
                  have : 0 < rl.length := List.length_pos_iff.2 hr0
                  omega
                have hlen1 : 0 < rl.length := by omega
                rcases hkw with rfl | rfl | rfl
                · have HZ : Hid (checkP p = (j, 11)) := HN.out (by unfold rStep; simp only; rw [if_neg k8, if_neg k9, if_neg k2, if_neg k3, if_pos ⟨hq, hr0⟩])
                  clear HN HS
                  go_wp2_with fail
                  refine hwa.mono ?_
                  rintro e w2 ⟨rfl, t2⟩
                  go_wp2_with fail
                  go_ret2
                  rw [HZ.out]
                  exact ⟨rfl, (K.trans KA).trans t2⟩
                · have HZ : Hid (checkP p = (j, 11)) := HN.out (by unfold rStep; simp only; rw [if_neg k8, if_neg k9, if_neg k2, if_neg k3, if_pos ⟨hq, hr0⟩])
                  clear HN HS
                  go_wp2_with fail
                  refine hwa.mono ?_
                  rintro e w2 ⟨rfl, t2⟩
                  go_wp2_with fail
                  go_ret2
                  rw [HZ.out]
                  exact ⟨rfl, (K.trans KA).trans t2⟩
                · have HZ : Hid (checkP p = (j, 11)) := HN.out (by unfold rStep; simp only; rw [if_neg k8, if_neg k9, if_neg k2, if_neg k3, if_pos ⟨hq, hr0⟩])
                  clear HN HS
                  go_wp2_with fail
                  refine hwa.mono ?_
                  rintro e w2 ⟨rfl, t2⟩
                  go_wp2_with fail
                  go_ret2
                  rw [HZ.out]
                  exact ⟨rfl, (K.trans KA).trans t2⟩
          have hk4 : ¬ k = 4 := fun e => hkw (.inl e)
          have hk5 : ¬ k = 5 := fun e => hkw (.inr (.inl e))
          have hk7 : ¬ k = 7 := fun e => hkw (.inr (.inr e))
          have hwf : waitsD ⟨k, n, v, wt, l⟩ = false := by
            have hkk := (taken_of HK.out).kind
            rcases kind_cases hkk with h | h | h | h | h | h | h | h | h <;> simp only at h <;> first | (subst h; simp [waitsD, shapeOf]; done) | omega
          have HRS : Hid (rStep ⟨rl, st, steps⟩ ⟨k, n, v, wt, l⟩ = some ⟨rl, st, steps + 1⟩) := by show _ = _; unfold rStep; simp only; rw [if_neg k8, if_neg k9, if_neg k2, if_neg k3, if_neg (by rw [hwf]; simp)]
          have HZ : Hid (checkP p = rGo p.length (j + 1) ⟨rl, st, steps + 1⟩ (p.drop (j + 1))) := HS.out _ HRS.out
          have HB2 : Hid (Bnd (j + 1) ⟨rl, st, steps + 1⟩) := bnd_step HM.out.bd HM.out.ok.2.1 HK.out HRS.out
          have HO2 : Hid (StOk ⟨rl, st, steps + 1⟩) := (step_eq HM.out.ok HK.out).2 _ HRS.out
          clear HN HS
          go_wp2_with fail
          go_roundg gg
          case rel => exact ⟨j + 1, ⟨rl, st, steps + 1⟩, a6, c6, a7, c7, rf, _, rfl, rfl, rfl, by first | rfl | go_num, by go_num, by omega, ⟨HM1.out.la, HM1.out.l0, HM1.out.lc, HM1.out.fr, HFM.out, fun f hf => ⟨(HM1.out.fa f hf).1, (HM1.out.fa f hf).2⟩, HO2.out, HB2.out⟩, HZ, (fun h => by omega), K.trans KA⟩
          case measure => omega
        · have b1 : ¬ (j : Int) < (p.length : Int) := by omega
          have HZ : Hid (checkP p = if st ≠ [] ∨ rl ≠ [] then (p.length - 1, 11) else if 512 < steps then (0, 4) else (0, 0)) := by show _ = _; rw [HE.out, List.drop_eq_nil_of_le (by omega), rGo]
          by_cases hst : st = []
          rotate_left
          · have hr1 : (rf.length : Int) > 0 := by
              have := HRF.out
              have h0 : 0 < st.length := List.length_pos_iff.2 hst
              omega
            have hr2 : 0 < rf.length := by omega
            have hpl : ((p.length - 1 : Nat) : Int) = (p.length : Int) - 1 := by
              by_cases hp0 : p.length = 0
              · exact absurd (HJ0.out (by omega)).1 hst
              · omega
            have HZ2 : Hid (checkP p = (p.length - 1, 11)) := by show _ = _; rw [HZ.out, if_pos (.inl hst)]
            clear HZ
            go_wp2_with fail
            go_ret2
            rw [HZ2.out]
            simp only
            rw [hpl]
            exact ⟨rfl, K⟩
          obtain rfl : rf = [] := List.eq_nil_of_length_eq_zero (by have := HRF.out; rw [hst] at this; simpa using this)
          by_cases hrl : rl = []
          rotate_left
          · have hr2 : (rl.length : Int) > 0 := by
              have h0 : 0 < rl.length := List.length_pos_iff.2 hrl
              omega
            have hr3 : 0 < rl.length := by omega
            have hpl : ((p.length - 1 : Nat) : Int) = (p.length : Int) - 1 := by
              by_cases hp0 : p.length = 0
              · exact absurd (HJ0.out (by omega)).2 hrl
              · omega
            have HZ2 : Hid (checkP p = (p.length - 1, 11)) := by show _ = _; rw [HZ.out, if_pos (.inr hrl)]
            clear HZ
            go_wp2_with fail
            go_ret2
            rw [HZ2.out]
            simp only
            rw [hpl]
            exact ⟨rfl, K⟩
          subst hrl
          subst hst
          by_cases h5 : 512 < steps
          · have HZ2 : Hid (checkP p = (0, 4)) := by show _ = _; rw [HZ.out, if_neg (by simp), if_pos h5]
            clear HZ
            go_wp2_with fail
            go_ret2
            rw [HZ2.out]
            exact ⟨rfl, K⟩
          · have HZ2 : Hid (checkP p = (0, 0)) := by show _ = _; rw [HZ.out, if_neg (by simp), if_neg h5]
            clear HZ
            go_wp2_with fail
            go_ret2
            rw [HZ2.out]
            exact ⟨rfl, K⟩
set_option maxHeartbeats 4000000 in
set_option maxRecDepth 20000 in
theorem rcheckP_anyN (a : Option Addr) (c : Nat) (p : List OpD) (w : World) (hA : AtP w a p) :
    Calls Tryz.prog 59 #[.slice a p.length c] w fun e w' => e = .returned (.tuple #[.int .i64 (checkP p).1, .int .i64 (checkP p).2]) ∧ Kept w w' := by
  by_cases h48 : 48 < p.length
  · have b48 : (p.length : Int) > 48 := by omega
    have HZ : Hid (checkP p = (0, 18)) := by show _ = _; unfold checkP; rw [if_pos h48]
    clear hA
    go_enter Tryz.func59, Tryz.ntmps59
    go_wp2_with fail
    go_ret2
    rw [HZ.out]
    exact ⟨rfl, Kept.refl w⟩
  by_cases hea : (eachGo 0 p).2 = 0
  · exact rloop_anyN a c p w hA (by omega) (each_all p 0 hea)
  have HA : Hid (AtP w a p) := hA
  have HZ : Hid (checkP p = eachGo 0 p) := by show _ = _; unfold checkP; rw [if_neg h48, if_neg hea]
  have HNE : Hid ((eachGo 0 p).2 ≠ 0) := hea
  clear hA hea
  have b48 : ¬ (p.length : Int) > 48 := by omega
  go_enter Tryz.func59, Tryz.ntmps59
  go_wp2_with fail
  go_loopg [4] p.length (fun gk i wr => ∃ (j : Nat) (W : World), W = wr ∧ i = .int .i64 j ∧ j + gk = p.length ∧ Hid (eachGo 0 p = eachGo j (p.drop j)) ∧ Kept w W)
  case atStart => exact ⟨0, _, rfl, rfl, by omega, (by show _ = _; rw [List.drop_zero]), Kept.refl w⟩
  case round =>
    obtain ⟨j, W, hW, rfl, hj, HE, K⟩ := hrel
    subst hW
    by_cases hjp : j < p.length
    · obtain ⟨b, f, k, n, v, wt, l, ca, cc, rfl, hpj, g0, g1, g2, g3, g4, hcc, hat, hbl, hdr⟩ := (HA.out.kept K).get j hjp
      have b1 : (j : Int) < (p.length : Int) := by omega
      have b2 : (0 : Int) ≤ (j : Int) := by omega
      have hck := rcheck_anyN k n v wt ca l.length cc l W hat
      have HE2 : Hid (eachGo 0 p = if checkD ⟨k, n, v, wt, l⟩ = 0 then eachGo (j + 1) (p.drop (j + 1)) else (j, checkD ⟨k, n, v, wt, l⟩)) := by show _ = _; rw [HE.out, hdr, eachGo]
      obtain ⟨z, hz⟩ : ∃ z, checkD ⟨k, n, v, wt, l⟩ = z := ⟨_, rfl⟩
      rw [hz] at hck HE2
      obtain ⟨g3', rfl⟩ : ∃ g, gk = g + 1 := ⟨gk - 1, by omega⟩
      clear hpj hat hdr HE hz
      by_cases hz0 : z = 0
      · subst hz0
        have HE3 : Hid (eachGo 0 p = eachGo (j + 1) (p.drop (j + 1))) := by show _ = _; rw [HE2.out, if_pos rfl]
        clear HE2
        go_wp2_with fail
        refine hck.mono ?_
        rintro e w2 ⟨rfl, t2⟩
        go_wp2_with fail
        go_roundg g3'
        case rel => exact ⟨j + 1, _, rfl, by go_num, by omega, HE3, K.trans t2⟩
        case measure => omega
      · have hne : (z != 0) = true := by simpa using hz0
        have HE3 : Hid (checkP p = (j, z)) := by show _ = _; rw [HZ.out, HE2.out, if_neg hz0]
        clear HE2 hz0
        go_wp2_with fail
        refine hck.mono ?_
        rintro e w2 ⟨rfl, t2⟩
        go_wp2_with fail
        go_ret2
        rw [HE3.out]
        exact ⟨rfl, K.trans t2⟩
    · exfalso
      refine HNE.out ?_
      rw [HE.out, List.drop_eq_nil_of_le (by omega)]
      rfl
set_option maxHeartbeats 8000000 in
set_option maxRecDepth 10000 in
theorem rtask_anyN (L : Int) (ca ta : Option Addr) (cc tc nc : Nat) (ts : List TaskD) (i : Nat) (t : TaskD) (w : World) (hA : AtT w ta ts) (hl : ts.length ≤ 100000) (hi : ts[i]? = some t) :
    Calls Tryz.prog 34 #[.agg #[.int .i64 L, .slice ca nc cc, .slice ta ts.length tc], .int .i64 i] w fun e w' => e = .returned (.int .i64 (taskE L nc ts i t)) ∧ Kept w w' := by
  have hil : i < ts.length := (List.getElem?_eq_some_iff.1 hi).1
  obtain ⟨b, f, nm, pd, dl, bu, pr, pa, pc, rfl, hpj, g0, g1, g2, g3, g4, hpc, hat, hbl, _⟩ := hA.get i hil
  obtain rfl := Option.some.inj (hi.symm.trans hpj)
  have HA : Hid (AtT w (some ⟨b, f, none⟩) ts) := hA
  have HI : Hid (ts[i]? = some ⟨nm, pd, dl, bu, pr⟩) := hi
  have HP : Hid (AtP w pa pr) := hat
  have HPC : Hid (pr.length ≤ pc) := hpc
  have b1 : (i : Int) < (ts.length : Int) := by omega
  have b2 : (0 : Int) ≤ (i : Int) := by omega
  clear hA hat hi hpj hbl hpc
  have KA : Kept w (w.alloc (.cells #[.int .i64 L, .slice ca nc cc, .slice (some ⟨b, f, none⟩) ts.length tc] 25)) := (Kept.refl w).alloc _
  have ga0 := KA.cell g0
  have ga1 := KA.cell g1
  have ga2 := KA.cell g2
  have ga3 := KA.cell g3
  have ga4 := KA.cell g4
  clear g0 g1 g2 g3 g4
  have K2 : Kept w ((w.alloc (.cells #[.int .i64 L, .slice ca nc cc, .slice (some ⟨b, f, none⟩) ts.length tc] 25)).alloc (.cells #[.string (B nm), .int .i64 pd, .int .i64 dl, .int .i64 bu, .slice pa pr.length pc] 52)) := ((Kept.refl w).alloc _).alloc _
  have HB : Hid (Box w.heap.size ((w.alloc (.cells #[.int .i64 L, .slice ca nc cc, .slice (some ⟨b, f, none⟩) ts.length tc] 25)).alloc (.cells #[.string (B nm), .int .i64 pd, .int .i64 dl, .int .i64 bu, .slice pa pr.length pc] 52)) 25 w.heap.size [.int .i64 L, .slice ca nc cc, .slice (some ⟨b, f, none⟩) ts.length tc]) := (box_new w.heap.size w 25 [.int .i64 L, .slice ca nc cc, .slice (some ⟨b, f, none⟩) ts.length tc] (Nat.le_refl _) (by simp)).kept ((Kept.refl _).alloc _)
  have HT : Hid (Box w.heap.size ((w.alloc (.cells #[.int .i64 L, .slice ca nc cc, .slice (some ⟨b, f, none⟩) ts.length tc] 25)).alloc (.cells #[.string (B nm), .int .i64 pd, .int .i64 dl, .int .i64 bu, .slice pa pr.length pc] 52)) 52 (w.heap.size + 1) [.string (B nm), .int .i64 pd, .int .i64 dl, .int .i64 bu, .slice pa pr.length pc]) := by
    have h := box_new w.heap.size (w.alloc (.cells #[.int .i64 L, .slice ca nc cc, .slice (some ⟨b, f, none⟩) ts.length tc] 25)) 52 [.string (B nm), .int .i64 pd, .int .i64 dl, .int .i64 bu, .slice pa pr.length pc] (by simp) (by simp)
    rw [show (w.alloc (.cells #[.int .i64 L, .slice ca nc cc, .slice (some ⟨b, f, none⟩) ts.length tc] 25)).heap.size = w.heap.size + 1 by simp] at h
    exact h
  have hna := rname_any nm ((w.alloc (.cells #[.int .i64 L, .slice ca nc cc, .slice (some ⟨b, f, none⟩) ts.length tc] 25)).alloc (.cells #[.string (B nm), .int .i64 pd, .int .i64 dl, .int .i64 bu, .slice pa pr.length pc] 52))
  obtain ⟨nb, hnb⟩ : ∃ nb, nameB nm = nb := ⟨_, rfl⟩
  rw [hnb] at hna
  have HNB : Hid (nameB nm = nb) := hnb
  clear hnb
  go_enter Tryz.func34, Tryz.ntmps34
  go_wp2_with fail
  refine hna.mono ?_
  rintro e w3 ⟨rfl, hw3⟩
  subst w3
  clear KA ga0 ga1 ga2 ga3 ga4 hna
  generalize ((w.alloc (.cells #[.int .i64 L, .slice ca nc cc, .slice (some ⟨b, f, none⟩) ts.length tc] 25)).alloc (.cells #[.string (B nm), .int .i64 pd, .int .i64 dl, .int .i64 bu, .slice pa pr.length pc] 52)) = W2 at *
  cases nb with
  | false =>
    have HZ : Hid (taskE L nc ts i ⟨nm, pd, dl, bu, pr⟩ = 3) := by show _ = _; unfold taskE; rw [if_neg (by rw [HNB.out]; simp)]
    go_wp2_with fail
    go_ret
    rw [HZ.out]
    exact ⟨rfl, K2⟩
  | true =>
    have HZ : Hid (taskE L nc ts i ⟨nm, pd, dl, bu, pr⟩ = (if (findGo nm 0 ts).1 < i then 6 else if timesB ⟨nm, pd, dl, bu, pr⟩ = true then (if (checkP pr).2 = 0 then (if costD pr = 0 then 5 else if hasAllB L nc pr = true then 0 else 3) else (checkP pr).2) else 1)) := by show _ = _; unfold taskE; rw [if_pos HNB.out]
    clear HNB
    go_wp2_with fail
    go_loopg [6] i (fun gk x wr => ∃ (q : Nat) (W : World), W = wr ∧ x = .int .i64 q ∧ q + gk = i ∧ Hid (∀ q' t', q' < q → ts[q']? = some t' → t'.name ≠ nm) ∧ Kept w W ∧ Hid (Box w.heap.size W 25 w.heap.size [.int .i64 L, .slice ca nc cc, .slice (some ⟨b, f, none⟩) ts.length tc]) ∧ Hid (Box w.heap.size W 52 (w.heap.size + 1) [.string (B nm), .int .i64 pd, .int .i64 dl, .int .i64 bu, .slice pa pr.length pc]))
    case atStart => exact ⟨0, _, rfl, rfl, by omega, (fun q' t' h => by omega), K2, HB, HT⟩
    case round =>
      obtain ⟨q, W, hW, rfl, hq, HF, K, HBr, HTr⟩ := hrel
      subst hW
      have s2 : W.cell? ⟨w.heap.size, 2, none⟩ = some (.slice (some ⟨b, f, none⟩) ts.length tc) := HBr.out.cell 2 (by simp)
      have t0 : W.cell? ⟨w.heap.size + 1, 0, none⟩ = some (.string (B nm)) := HTr.out.cell 0 (by simp)
      by_cases hqi : q < i
      · obtain ⟨b', f', n1, pd1, dl1, bu1, pr1, pa1, pc1, e1, hpj, g0, _, _, _, _, _, _, _, _⟩ := (HA.out.kept K).get q (by omega)
        cases e1
        have b3 : (q : Int) < (i : Int) := by omega
        have b4 : (q : Int) < (ts.length : Int) := by omega
        have b5 : (0 : Int) ≤ (q : Int) := by omega
        have HPJ : Hid (ts[q]? = some ⟨n1, pd1, dl1, bu1, pr1⟩) := hpj
        obtain ⟨gi, rfl⟩ : ∃ g, gk = g + 1 := ⟨gk - 1, by omega⟩
        clear hpj
        by_cases hn : n1 = nm
        · have e1 : ((B n1).toList == (B nm).toList) = true := by rw [B_eq]; simpa using hn
          have HZ2 : Hid (taskE L nc ts i ⟨nm, pd, dl, bu, pr⟩ = 6) := by
            show _ = _
            rw [HZ.out, if_pos]
            have := find_some nm ts 0 q _ HPJ.out hn
            omega
          clear HZ HF HPJ hn
          go_wp2_with fail
          go_region_held3 (fun w' => w'.cell? ⟨w.heap.size, 2, none⟩ = some (.slice (some ⟨b, f, none⟩) ts.length tc) ∧ w'.cell? ⟨w.heap.size + 1, 0, none⟩ = some (.string (B nm)) ∧ w'.cell? ⟨b, f + q * 5, none⟩ = some (.string (B n1))) (go_keep) (fail)
          go_wp2_with fail
          go_ret
          rw [HZ2.out]
          exact ⟨rfl, K.drew⟩
        · have e1 : ((B n1).toList == (B nm).toList) = false := by rw [B_eq]; simpa using hn
          have HF2 : Hid (∀ q' t', q' < q + 1 → ts[q']? = some t' → t'.name ≠ nm) := by
            intro q' t' h1 h2
            by_cases e : q' = q
            · subst e
              rw [HPJ.out] at h2
              cases h2
              exact hn
            · exact HF.out q' t' (by omega) h2
          clear HF HPJ hn
          go_wp2_with fail
          go_region_held3 (fun w' => w'.cell? ⟨w.heap.size, 2, none⟩ = some (.slice (some ⟨b, f, none⟩) ts.length tc) ∧ w'.cell? ⟨w.heap.size + 1, 0, none⟩ = some (.string (B nm)) ∧ w'.cell? ⟨b, f + q * 5, none⟩ = some (.string (B n1))) (go_keep) (fail)
          go_wp2_with fail
          go_roundg gi
          case rel => exact ⟨q + 1, _, rfl, by go_num, by omega, HF2, K.drew, HBr.out.kept ((Kept.refl W).drew), HTr.out.kept ((Kept.refl W).drew)⟩
          case measure => omega
      · have b3 : ¬ (q : Int) < (i : Int) := by omega
        obtain rfl : q = i := by omega
        have HZ2 : Hid (taskE L nc ts q ⟨nm, pd, dl, bu, pr⟩ = (if timesB ⟨nm, pd, dl, bu, pr⟩ = true then (if (checkP pr).2 = 0 then (if costD pr = 0 then 5 else if hasAllB L nc pr = true then 0 else 3) else (checkP pr).2) else 1)) := by
          show _ = _
          rw [HZ.out, if_neg]
          rw [find_first nm ts 0 q _ HI.out rfl HF.out]
          simp
        have t1 : W.cell? ⟨w.heap.size + 1, 1, none⟩ = some (.int .i64 pd) := HTr.out.cell 1 (by simp)
        have t2 : W.cell? ⟨w.heap.size + 1, 2, none⟩ = some (.int .i64 dl) := HTr.out.cell 2 (by simp)
        have t3 : W.cell? ⟨w.heap.size + 1, 3, none⟩ = some (.int .i64 bu) := HTr.out.cell 3 (by simp)
        have t4 : W.cell? ⟨w.heap.size + 1, 4, none⟩ = some (.slice pa pr.length pc) := HTr.out.cell 4 (by simp)
        have BAD : Hid (¬ (pd ≤ 1099511627776 ∧ dl ≤ pd ∧ bu ≤ dl ∧ 1 ≤ bu) → taskE L nc ts q ⟨nm, pd, dl, bu, pr⟩ = 1) := by
          intro h
          rw [HZ2.out, if_neg]
          simp only [timesB, Bool.and_eq_true, decide_eq_true_eq]
          omega
        clear HZ HF HI
        by_cases c0 : pd < 1
        · have HZ3 : Hid (taskE L nc ts q ⟨nm, pd, dl, bu, pr⟩ = 1) := BAD.out (by omega)
          clear BAD HZ2
          go_wp2_with fail
          go_ret
          rw [HZ3.out]
          exact ⟨rfl, K⟩
        by_cases c1 : pd > 1099511627776
        · have HZ3 : Hid (taskE L nc ts q ⟨nm, pd, dl, bu, pr⟩ = 1) := BAD.out (by omega)
          clear BAD HZ2
          go_wp2_with fail
          go_ret
          rw [HZ3.out]
          exact ⟨rfl, K⟩
        by_cases c2 : dl < 1
        · have HZ3 : Hid (taskE L nc ts q ⟨nm, pd, dl, bu, pr⟩ = 1) := BAD.out (by omega)
          clear BAD HZ2
          go_wp2_with fail
          go_ret
          rw [HZ3.out]
          exact ⟨rfl, K⟩
        by_cases c3 : dl > pd
        · have HZ3 : Hid (taskE L nc ts q ⟨nm, pd, dl, bu, pr⟩ = 1) := BAD.out (by omega)
          clear BAD HZ2
          go_wp2_with fail
          go_ret
          rw [HZ3.out]
          exact ⟨rfl, K⟩
        by_cases c4 : bu < 1
        · have HZ3 : Hid (taskE L nc ts q ⟨nm, pd, dl, bu, pr⟩ = 1) := BAD.out (by omega)
          clear BAD HZ2
          go_wp2_with fail
          go_ret
          rw [HZ3.out]
          exact ⟨rfl, K⟩
        by_cases c5 : bu > dl
        · have HZ3 : Hid (taskE L nc ts q ⟨nm, pd, dl, bu, pr⟩ = 1) := BAD.out (by omega)
          clear BAD HZ2
          go_wp2_with fail
          go_ret
          rw [HZ3.out]
          exact ⟨rfl, K⟩
        have HZ3 : Hid (taskE L nc ts q ⟨nm, pd, dl, bu, pr⟩ = (if (checkP pr).2 = 0 then (if costD pr = 0 then 5 else if hasAllB L nc pr = true then 0 else 3) else (checkP pr).2)) := by
          show _ = _
          rw [HZ2.out, if_pos]
          simp only [timesB, Bool.and_eq_true, decide_eq_true_eq]
          omega
        clear BAD HZ2
        have hck := rcheckP_anyN pa pc pr W (HP.out.kept K)
        obtain ⟨q1, hq1⟩ : ∃ q, (checkP pr).1 = q := ⟨_, rfl⟩
        obtain ⟨q2, hq2⟩ : ∃ q, (checkP pr).2 = q := ⟨_, rfl⟩
        rw [hq1, hq2] at hck
        have HQ2 : Hid ((checkP pr).2 = q2) := hq2
        clear hq1 hq2
        go_wp2_with fail
        refine hck.mono ?_
        rintro e w6 ⟨rfl, T6⟩
        have K6 := K.trans T6
        have HB6 : Hid (Box w.heap.size w6 25 w.heap.size [.int .i64 L, .slice ca nc cc, .slice (some ⟨b, f, none⟩) ts.length tc]) := HBr.out.kept T6
        have HT6 : Hid (Box w.heap.size w6 52 (w.heap.size + 1) [.string (B nm), .int .i64 pd, .int .i64 dl, .int .i64 bu, .slice pa pr.length pc]) := HTr.out.kept T6
        clear s2 t0 t1 t2 t3 t4 HBr HTr hck T6 K c0 c1 c2 c3 c4 c5
        have t4 : w6.cell? ⟨w.heap.size + 1, 4, none⟩ = some (.slice pa pr.length pc) := HT6.out.cell 4 (by simp)
        by_cases hz : q2 = 0
        · subst hz
          have hCK : checkP pr = (0, 0) := checkP_0 HQ2.out
          have HZ4 : Hid (taskE L nc ts q ⟨nm, pd, dl, bu, pr⟩ = (if costD pr = 0 then 5 else if hasAllB L nc pr = true then 0 else 3)) := by show _ = _; rw [HZ3.out, if_pos HQ2.out]
          have hco := rcost_any pa pc pr w6 (HP.out.kept K6) HPC.out hCK
          have HCD : Hid (∀ o ∈ pr, checkD o = 0) := (taken_prog hCK).2.1
          have h48 : pr.length ≤ 48 := (taken_prog hCK).1
          obtain ⟨z, hzz⟩ : ∃ z, costD pr = z := ⟨_, rfl⟩
          rw [hzz] at hco HZ4
          clear HZ3 HQ2 hzz hCK
          go_wp2_with fail
          refine hco.mono ?_
          rintro e w7 ⟨rfl, T7⟩
          have K7 := K6.trans T7
          have HB7 : Hid (Box w.heap.size w7 25 w.heap.size [.int .i64 L, .slice ca nc cc, .slice (some ⟨b, f, none⟩) ts.length tc]) := HB6.out.kept T7
          have HT7 : Hid (Box w.heap.size w7 52 (w.heap.size + 1) [.string (B nm), .int .i64 pd, .int .i64 dl, .int .i64 bu, .slice pa pr.length pc]) := HT6.out.kept T7
          clear t4 HB6 HT6 hco T7 K6
          by_cases hz0 : z = 0
          · have HZ5 : Hid (taskE L nc ts q ⟨nm, pd, dl, bu, pr⟩ = 5) := by show _ = _; rw [HZ4.out, if_pos hz0]
            subst hz0
            clear HZ4
            go_wp2_with fail
            go_ret
            rw [HZ5.out]
            exact ⟨rfl, K7⟩
          · have hne : (z == 0) = false := by simpa using hz0
            have HZ5 : Hid (taskE L nc ts q ⟨nm, pd, dl, bu, pr⟩ = (if hasAllB L nc pr = true then 0 else 3)) := by show _ = _; rw [HZ4.out, if_neg hz0]
            clear HZ4 hz0
            go_wp2_with fail
            go_loopg [9] pr.length (fun gk x wr => ∃ (j : Nat) (W : World), W = wr ∧ x = .int .i64 j ∧ j + gk = pr.length ∧ Hid (hasAllB L nc pr = hasAllB L nc (pr.drop j)) ∧ Kept w W ∧ Hid (Box w.heap.size W 25 w.heap.size [.int .i64 L, .slice ca nc cc, .slice (some ⟨b, f, none⟩) ts.length tc]) ∧ Hid (Box w.heap.size W 52 (w.heap.size + 1) [.string (B nm), .int .i64 pd, .int .i64 dl, .int .i64 bu, .slice pa pr.length pc]))
            case atStart => exact ⟨0, _, rfl, rfl, by omega, (by show _ = _; rw [List.drop_zero]), K7, HB7, HT7⟩
            case round =>
              obtain ⟨j, W, hW, rfl, hj, HE, K, HBr, HTr⟩ := hrel
              subst hW
              have t4 : W.cell? ⟨w.heap.size + 1, 4, none⟩ = some (.slice pa pr.length pc) := HTr.out.cell 4 (by simp)
              by_cases hjp : j < pr.length
              · obtain ⟨b', f', k, n, v, wt, l, la, lc, rfl, hpj, g0, g1, g2, g3, g4, hlc, hat, hbl, hdr⟩ := (HP.out.kept K).get j hjp
                have b3 : (j : Int) < (pr.length : Int) := by omega
                have b4 : (0 : Int) ≤ (j : Int) := by omega
                have s0 : W.cell? ⟨w.heap.size, 0, none⟩ = some (.int .i64 L) := HBr.out.cell 0 (by simp)
                have s1 : W.cell? ⟨w.heap.size, 1, none⟩ = some (.slice ca nc cc) := HBr.out.cell 1 (by simp)
                have s2 : W.cell? ⟨w.heap.size, 2, none⟩ = some (.slice (some ⟨b, f, none⟩) ts.length tc) := HBr.out.cell 2 (by simp)
                have hmem := List.mem_of_getElem? hpj
                have hkn := rknown_any k n v wt la l lc L ca (some ⟨b, f, none⟩) nc cc ts.length tc W.drew (hat.kept ((Kept.refl W).drew)) (by have := taken_cases (HCD.out _ hmem); simp only at this; omega)
                rw [known_has (HCD.out _ hmem)] at hkn
                have HE2 : Hid (hasAllB L nc pr = if hasB L nc ⟨k, n, v, wt, l⟩ = true then hasAllB L nc (pr.drop (j + 1)) else false) := by show _ = _; rw [HE.out, hdr, hasAllB]
                obtain ⟨hb, hhb⟩ : ∃ hb, hasB L nc ⟨k, n, v, wt, l⟩ = hb := ⟨_, rfl⟩
                rw [hhb] at hkn HE2
                obtain ⟨gi, rfl⟩ : ∃ g, gk = g + 1 := ⟨gk - 1, by omega⟩
                clear hpj hat hdr HE hmem hhb hlc hbl
                cases hb with
                | true =>
                  have HZ6 : Hid (hasAllB L nc pr = hasAllB L nc (pr.drop (j + 1))) := by show _ = _; rw [HE2.out, if_pos rfl]
                  clear HE2
                  go_wp2_with fail
                  go_region_held3 (fun w' => w'.cell? ⟨w.heap.size + 1, 4, none⟩ = some (.slice (some ⟨b', f', none⟩) pr.length pc) ∧ w'.cell? ⟨b', f' + j * 5, none⟩ = some (.int .i64 k) ∧ w'.cell? ⟨b', f' + j * 5 + 1, none⟩ = some (.int .i64 n) ∧ w'.cell? ⟨b', f' + j * 5 + 2, none⟩ = some (.int .i64 v) ∧ w'.cell? ⟨b', f' + j * 5 + 3, none⟩ = some (.int .i64 wt) ∧ w'.cell? ⟨b', f' + j * 5 + 4, none⟩ = some (.slice la l.length lc) ∧ w'.cell? ⟨w.heap.size, 0, none⟩ = some (.int .i64 L) ∧ w'.cell? ⟨w.heap.size, 1, none⟩ = some (.slice ca nc cc) ∧ w'.cell? ⟨w.heap.size, 2, none⟩ = some (.slice (some ⟨b, f, none⟩) ts.length tc)) (go_keep) (first | (go_at_call 61; refine hkn.mono ?_; rintro e w8 ⟨rfl, t8⟩; have K8 := ((Kept.refl W).drew).trans t8; have y0 := K8.cell t4; have y1 := K8.cell g0; have y2 := K8.cell g1; have y3 := K8.cell g2; have y4 := K8.cell g3; have y5 := K8.cell g4; have y6 := K8.cell s0; have y7 := K8.cell s1; have y8 := K8.cell s2) | fail)
                  go_wp2_with fail
                  go_roundg gi
                  case rel => exact ⟨j + 1, _, rfl, by go_num, by omega, HZ6, K.trans K8, HBr.out.kept K8, HTr.out.kept K8⟩
                  case measure => omega
                | false =>
                  have HZ6 : Hid (taskE L nc ts q ⟨nm, pd, dl, bu, pr⟩ = 3) := by show _ = _; rw [HZ5.out, HE2.out]; simp
                  clear HE2
                  go_wp2_with fail
                  go_region_held3 (fun w' => w'.cell? ⟨w.heap.size + 1, 4, none⟩ = some (.slice (some ⟨b', f', none⟩) pr.length pc) ∧ w'.cell? ⟨b', f' + j * 5, none⟩ = some (.int .i64 k) ∧ w'.cell? ⟨b', f' + j * 5 + 1, none⟩ = some (.int .i64 n) ∧ w'.cell? ⟨b', f' + j * 5 + 2, none⟩ = some (.int .i64 v) ∧ w'.cell? ⟨b', f' + j * 5 + 3, none⟩ = some (.int .i64 wt) ∧ w'.cell? ⟨b', f' + j * 5 + 4, none⟩ = some (.slice la l.length lc) ∧ w'.cell? ⟨w.heap.size, 0, none⟩ = some (.int .i64 L) ∧ w'.cell? ⟨w.heap.size, 1, none⟩ = some (.slice ca nc cc) ∧ w'.cell? ⟨w.heap.size, 2, none⟩ = some (.slice (some ⟨b, f, none⟩) ts.length tc)) (go_keep) (first | (go_at_call 61; refine hkn.mono ?_; rintro e w8 ⟨rfl, t8⟩; have K8 := ((Kept.refl W).drew).trans t8; have y0 := K8.cell t4; have y1 := K8.cell g0; have y2 := K8.cell g1; have y3 := K8.cell g2; have y4 := K8.cell g3; have y5 := K8.cell g4; have y6 := K8.cell s0; have y7 := K8.cell s1; have y8 := K8.cell s2) | fail)
                  go_wp2_with fail
                  go_ret
                  rw [HZ6.out]
                  exact ⟨rfl, K.trans K8⟩
              · have b3 : ¬ (j : Int) < (pr.length : Int) := by omega
                have HZ6 : Hid (taskE L nc ts q ⟨nm, pd, dl, bu, pr⟩ = 0) := by show _ = _; rw [HZ5.out, HE.out, List.drop_eq_nil_of_le (by omega)]; rfl
                go_wp2_with fail
                go_ret
                rw [HZ6.out]
                exact ⟨rfl, K⟩
        · have hne : (q2 != 0) = true := by simpa using hz
          have HZ4 : Hid (taskE L nc ts q ⟨nm, pd, dl, bu, pr⟩ = q2) := by show _ = _; rw [HZ3.out, HQ2.out, if_neg hz]
          clear HZ3 HQ2
          go_wp2_with fail
          go_ret
          rw [HZ4.out]
          exact ⟨rfl, K6⟩
set_option maxHeartbeats 8000000 in
set_option maxRecDepth 10000 in
theorem rcset_anyN (L : Int) (ca ta : Option Addr) (cc tc : Nat) (cs : List ChanD) (ts : List TaskD) (w : World) (hH : AtH w ca cs) (hA : AtT w ta ts) :
    Calls Tryz.prog 15 #[.agg #[.int .i64 L, .slice ca cs.length cc, .slice ta ts.length tc]] w fun e w' => e = .returned (.tuple #[.int .i64 (checkS L cs ts).1, .int .i64 (checkS L cs ts).2]) ∧ Kept w w' := by
  have HH : Hid (AtH w ca cs) := hH
  have HA : Hid (AtT w ta ts) := hA
  clear hH hA
  have K0 := (Kept.refl w).alloc (.cells #[.int .i64 L, .slice ca cs.length cc, .slice ta ts.length tc] 25)
  have HB : Hid (Box w.heap.size (w.alloc (.cells #[.int .i64 L, .slice ca cs.length cc, .slice ta ts.length tc] 25)) 25 w.heap.size [.int .i64 L, .slice ca cs.length cc, .slice ta ts.length tc]) := box_new w.heap.size w 25 [.int .i64 L, .slice ca cs.length cc, .slice ta ts.length tc] (Nat.le_refl _) (by simp)
  by_cases c0 : L < 0
  · have HZ : Hid (checkS L cs ts = (0, 1)) := by show _ = _; unfold checkS; rw [if_pos (by omega)]
    go_enter Tryz.func15, Tryz.ntmps15
    go_wp2_with fail
    go_ret2
    rw [HZ.out]
    exact ⟨rfl, K0⟩
  by_cases c1 : L > 8
  · have HZ : Hid (checkS L cs ts = (0, 1)) := by show _ = _; unfold checkS; rw [if_pos (by omega)]
    go_enter Tryz.func15, Tryz.ntmps15
    go_wp2_with fail
    go_ret2
    rw [HZ.out]
    exact ⟨rfl, K0⟩
  by_cases c2 : (cs.length : Int) > 8
  · have HZ : Hid (checkS L cs ts = (0, 18)) := by show _ = _; unfold checkS; rw [if_neg (by omega), if_pos (by omega)]
    go_enter Tryz.func15, Tryz.ntmps15
    go_wp2_with fail
    go_ret2
    rw [HZ.out]
    exact ⟨rfl, K0⟩
  by_cases c3 : (ts.length : Int) < 1
  · have HZ : Hid (checkS L cs ts = (0, 18)) := by show _ = _; unfold checkS; rw [if_neg (by omega), if_pos (by omega)]
    go_enter Tryz.func15, Tryz.ntmps15
    go_wp2_with fail
    go_ret2
    rw [HZ.out]
    exact ⟨rfl, K0⟩
  by_cases c4 : (ts.length : Int) > 12
  · have HZ : Hid (checkS L cs ts = (0, 18)) := by show _ = _; unfold checkS; rw [if_neg (by omega), if_pos (by omega)]
    go_enter Tryz.func15, Tryz.ntmps15
    go_wp2_with fail
    go_ret2
    rw [HZ.out]
    exact ⟨rfl, K0⟩
  have HZ : Hid (checkS L cs ts = if chansE ts.length cs = 0 then tasksGo L cs.length ts 0 ts else (0, chansE ts.length cs)) := by show _ = _; unfold checkS; rw [if_neg (by omega), if_neg (by omega)]
  go_enter Tryz.func15, Tryz.ntmps15
  go_wp2_with fail
  have hl : ts.length ≤ 100000 := by omega
  have hcl : cs.length ≤ 100000 := by omega
  clear c0 c1 c2 c3 c4
  go_loopg [4] cs.length (fun gk i wr => ∃ (j : Nat) (W : World), W = wr ∧ i = .int .i64 j ∧ j + gk = cs.length ∧ Hid (chansE ts.length cs = chansE ts.length (cs.drop j)) ∧ Kept w W ∧ Hid (Box w.heap.size W 25 w.heap.size [.int .i64 L, .slice ca cs.length cc, .slice ta ts.length tc]))
  case atStart => exact ⟨0, _, rfl, rfl, by omega, (by show _ = _; rw [List.drop_zero]), K0, HB⟩
  case round =>
    obtain ⟨j, W, hW, rfl, hj, HE, K, HBr⟩ := hrel
    subst hW
    have s1 : W.cell? ⟨w.heap.size, 1, none⟩ = some (.slice ca cs.length cc) := HBr.out.cell 1 (by simp)
    by_cases hjp : j < cs.length
    · obtain ⟨b, f, r, s, rfl, hpj, g0, g1, hdr⟩ := (HH.out.kept K).get j hjp
      have b1 : (j : Int) < (cs.length : Int) := by omega
      have b2 : (0 : Int) ≤ (j : Int) := by omega
      have KB := K.alloc (.cells #[.int .i64 r, .int .i64 s] 72)
      have KA := (Kept.refl W).alloc (.cells #[.int .i64 r, .int .i64 s] 72)
      have HBn : Hid (Box w.heap.size (W.alloc (.cells #[.int .i64 r, .int .i64 s] 72)) 25 w.heap.size [.int .i64 L, .slice (some ⟨b, f, none⟩) cs.length cc, .slice ta ts.length tc]) := HBr.out.kept KA
      have s2 : (W.alloc (.cells #[.int .i64 r, .int .i64 s] 72)).cell? ⟨w.heap.size, 2, none⟩ = some (.slice ta ts.length tc) := HBn.out.cell 2 (by simp)
      have HE2 : Hid (chansE ts.length cs = if chanB ts.length ⟨r, s⟩ = true then chansE ts.length (cs.drop (j + 1)) else 1) := by show _ = _; rw [HE.out, hdr, chansE]
      obtain ⟨gi, rfl⟩ : ∃ g, gk = g + 1 := ⟨gk - 1, by omega⟩
      clear hpj hdr HE
      have BAD : Hid ((¬ (0 ≤ r ∧ r ≤ 16 ∧ -1 ≤ s ∧ s < (ts.length : Int))) → checkS L cs ts = (0, 1)) := by
        intro h
        have h2 : chansE ts.length cs = 1 := by
          rw [HE2.out, if_neg]
          simp only [chanB, Bool.and_eq_true, decide_eq_true_eq]
          rintro ⟨⟨⟨h1, h2⟩, h3⟩, h4⟩
          exact h ⟨h1, h2, h3, h4⟩
        rw [HZ.out, h2]
        rfl
      by_cases h1 : r < 0
      · have HZ2 : Hid (checkS L cs ts = (0, 1)) := BAD.out (by omega)
        clear BAD HE2
        go_wp2_with fail
        go_ret2
        rw [HZ2.out]
        exact ⟨rfl, KB⟩
      by_cases h2 : r > 16
      · have HZ2 : Hid (checkS L cs ts = (0, 1)) := BAD.out (by omega)
        clear BAD HE2
        go_wp2_with fail
        go_ret2
        rw [HZ2.out]
        exact ⟨rfl, KB⟩
      by_cases h3 : s < -1
      · have HZ2 : Hid (checkS L cs ts = (0, 1)) := BAD.out (by omega)
        clear BAD HE2
        go_wp2_with fail
        go_ret2
        rw [HZ2.out]
        exact ⟨rfl, KB⟩
      by_cases h4 : s ≥ (ts.length : Int)
      · have HZ2 : Hid (checkS L cs ts = (0, 1)) := BAD.out (by omega)
        clear BAD HE2
        go_wp2_with fail
        go_ret2
        rw [HZ2.out]
        exact ⟨rfl, KB⟩
      have HZ2 : Hid (chansE ts.length cs = chansE ts.length (cs.drop (j + 1))) := by
        show _ = _
        rw [HE2.out, if_pos]
        simp only [chanB, Bool.and_eq_true, decide_eq_true_eq]
        omega
      clear BAD HE2
      go_wp2_with fail
      go_roundg gi
      case rel => exact ⟨j + 1, _, rfl, by go_num, by omega, HZ2, KB, HBn⟩
      case measure => omega
    · have b1 : ¬ (j : Int) < (cs.length : Int) := by omega
      have HZ2 : Hid (checkS L cs ts = tasksGo L cs.length ts 0 ts) := by
        show _ = _
        rw [HZ.out, if_pos]
        rw [HE.out, List.drop_eq_nil_of_le (by omega)]
        rfl
      clear HZ HE
      go_wp2_with fail
      go_loopg [6] ts.length (fun gk i wr => ∃ (j : Nat) (W : World), W = wr ∧ i = .int .i64 j ∧ j + gk = ts.length ∧ Hid (tasksGo L cs.length ts 0 ts = tasksGo L cs.length ts j (ts.drop j)) ∧ Kept w W ∧ Hid (Box w.heap.size W 25 w.heap.size [.int .i64 L, .slice ca cs.length cc, .slice ta ts.length tc]))
      case atStart => exact ⟨0, _, rfl, rfl, by omega, (by show _ = _; rw [List.drop_zero]), K, HBr⟩
      case round =>
        obtain ⟨q, W2, hW, rfl, hq, HE, KQ, HBq⟩ := hrel
        subst hW
        have u0 : W2.cell? ⟨w.heap.size, 0, none⟩ = some (.int .i64 L) := HBq.out.cell 0 (by simp)
        have u1 : W2.cell? ⟨w.heap.size, 1, none⟩ = some (.slice ca cs.length cc) := HBq.out.cell 1 (by simp)
        have u2 : W2.cell? ⟨w.heap.size, 2, none⟩ = some (.slice ta ts.length tc) := HBq.out.cell 2 (by simp)
        by_cases hqt : q < ts.length
        · have b3 : (q : Int) < (ts.length : Int) := by omega
          have b4 : (0 : Int) ≤ (q : Int) := by omega
          obtain ⟨t, ht⟩ : ∃ t, ts[q]? = some t := ⟨_, List.getElem?_eq_getElem hqt⟩
          have hdr : ts.drop q = t :: ts.drop (q + 1) := by
            rw [List.drop_eq_getElem_cons hqt]
            rw [List.getElem?_eq_getElem hqt] at ht
            rw [Option.some.inj ht]
          have hta := rtask_anyN L ca ta cc tc cs.length ts q t W2 (HA.out.kept KQ) hl ht
          obtain ⟨z, hz⟩ : ∃ z, taskE L cs.length ts q t = z := ⟨_, rfl⟩
          have HE2 : Hid (tasksGo L cs.length ts 0 ts = if z = 0 then tasksGo L cs.length ts (q + 1) (ts.drop (q + 1)) else (q, z)) := by show _ = _; rw [HE.out, hdr, tasksGo, hz]
          rw [hz] at hta
          obtain ⟨gi, rfl⟩ : ∃ g, gk = g + 1 := ⟨gk - 1, by omega⟩
          clear ht hdr HE hz
          by_cases hz0 : z = 0
          · subst hz0
            have HE3 : Hid (tasksGo L cs.length ts 0 ts = tasksGo L cs.length ts (q + 1) (ts.drop (q + 1))) := by show _ = _; rw [HE2.out, if_pos rfl]
            clear HE2
            go_wp2_with fail
            refine hta.mono ?_
            rintro e w2 ⟨rfl, t2⟩
            go_wp2_with fail
            go_roundg gi
            case rel => exact ⟨q + 1, _, rfl, by go_num, by omega, HE3, KQ.trans t2, HBq.out.kept t2⟩
            case measure => omega
          · have hne : (z != 0) = true := by simpa using hz0
            have HE3 : Hid (checkS L cs ts = (q, z)) := by show _ = _; rw [HZ2.out, HE2.out, if_neg hz0]
            clear HE2 hz0
            go_wp2_with fail
            refine hta.mono ?_
            rintro e w2 ⟨rfl, t2⟩
            go_wp2_with fail
            go_ret2
            rw [HE3.out]
            exact ⟨rfl, KQ.trans t2⟩
        · have b3 : ¬ (q : Int) < (ts.length : Int) := by omega
          have HE3 : Hid (checkS L cs ts = (0, 0)) := by show _ = _; rw [HZ2.out, HE.out, List.drop_eq_nil_of_le (by omega)]; rfl
          go_wp2_with fail
          go_ret2
          rw [HE3.out]
          exact ⟨rfl, KQ⟩
end Go.Proofs.YtolljdomnohmdaaGreatDoor
