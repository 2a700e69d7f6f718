/- The reference's Find, SetWaits, Need. Sets that are alike: channels, programs, tasks; of the reference and of the program. The reference's SameProg, SameSet. -/
import Derived.Test.YtolljdomnohmdaaDoorRSx
import Derived.Test.YtolljdomnohmdaaDoorRPg
import Derived.Test.YtolljdomnohmdaaDoorStA
namespace Go.Proofs.YtolljdomnohmdaaDoor
open Go.RowKit

set_option maxHeartbeats 4000000 in
theorem rfind_any (L : Int) (ca ta : Option Addr) (cc tc nc : Nat) (ts : List TaskD) (nm : List UInt8) (w : World) (hA : AtT w ta ts) (hl : ts.length ≤ 100000) :
    Calls Tryd.prog 33 #[.agg #[.int .i64 L, .slice ca nc cc, .slice ta ts.length tc], .string (B nm)] w fun e w' => e = .returned (.tuple #[.int .i64 (findGo nm 0 ts).1, .bool (findGo nm 0 ts).2]) ∧ Kept w w' := by
  have HA : Hid (AtT w ta ts) := hA
  clear hA
  have K0 := (Kept.refl w).alloc (.cells #[.int .i64 L, .slice ca nc cc, .slice ta ts.length tc] 53)
  have HB : Hid (Box w.heap.size (w.alloc (.cells #[.int .i64 L, .slice ca nc cc, .slice ta ts.length tc] 53)) 53 w.heap.size [.int .i64 L, .slice ca nc cc, .slice ta ts.length tc]) := box_new w.heap.size w 53 [.int .i64 L, .slice ca nc cc, .slice ta ts.length tc] (Nat.le_refl _) (by simp)
  go_enter Tryd.func33, Tryd.ntmps33
  go_wp2_with fail
  go_loopg [6] ts.length (fun gk i wr => ∃ (j : Nat) (W : World), W = wr ∧ i = .int .i64 j ∧ j + gk = ts.length ∧ Hid (findGo nm 0 ts = findGo nm j (ts.drop j)) ∧ Kept w W ∧ Hid (Box w.heap.size W 53 w.heap.size [.int .i64 L, .slice ca nc cc, .slice ta ts.length tc]))
  case atStart => exact ⟨0, _, rfl, rfl, by omega, (by show _ = _; rw [List.drop_zero]), K0, HB⟩
  case round =>
    obtain ⟨j, W, hW, rfl, hj, HE, K, HBr⟩ := hrel
    subst hW
    have u2 : W.cell? ⟨w.heap.size, 2, none⟩ = some (.slice ta ts.length tc) := HBr.out.cell 2 (by simp)
    by_cases hjp : j < ts.length
    · obtain ⟨b, f, n1, pd, dl, bu, pr, pa, pc, rfl, hpj, g0, g1, g2, g3, g4, hpc, hat, hbl, hdr⟩ := (HA.out.kept K).get j hjp
      have b1 : (j : Int) < (ts.length : Int) := by omega
      have b2 : (0 : Int) ≤ (j : Int) := by omega
      have HE2 : Hid (findGo nm 0 ts = if n1 = nm then (j, true) else findGo nm (j + 1) (ts.drop (j + 1))) := by show _ = _; rw [HE.out, hdr, findGo]
      obtain ⟨gi, rfl⟩ : ∃ g, gk = g + 1 := ⟨gk - 1, by omega⟩
      clear hpj hat hdr HE g1 g2 g3 g4
      by_cases hn : n1 = nm
      · have e1 : ((B n1).toList == (B nm).toList) = true := by rw [B_eq]; simpa using hn
        have HZ : Hid (findGo nm 0 ts = (j, true)) := by show _ = _; rw [HE2.out, if_pos hn]
        clear HE2 hn
        go_wp2_with fail
        go_ret2
        rw [HZ.out]
        exact ⟨rfl, K⟩
      · have e1 : ((B n1).toList == (B nm).toList) = false := by rw [B_eq]; simpa using hn
        have HZ : Hid (findGo nm 0 ts = findGo nm (j + 1) (ts.drop (j + 1))) := by show _ = _; rw [HE2.out, if_neg hn]
        clear HE2 hn
        go_wp2_with fail
        go_roundg gi
        case rel => exact ⟨j + 1, _, rfl, by go_num, by omega, HZ, K, HBr⟩
        case measure => omega
    · have b1 : ¬ (j : Int) < (ts.length : Int) := by omega
      have HZ : Hid (findGo nm 0 ts = (0, false)) := by show _ = _; rw [HE.out, List.drop_eq_nil_of_le (by omega)]; rfl
      go_wp2_with fail
      go_ret2
      rw [HZ.out]
      exact ⟨rfl, K⟩
set_option maxHeartbeats 4000000 in
theorem rswaits_any (L : Int) (ca ta : Option Addr) (cc tc nc : Nat) (ts : List TaskD) (w : World) (hA : AtT w ta ts) (hok : TsOk ts) (hl : ts.length ≤ 100000) :
    Calls Tryd.prog 37 #[.agg #[.int .i64 L, .slice ca nc cc, .slice ta ts.length tc]] w fun e w' => e = .returned (.bool (anyT ts)) ∧ Kept w w' := by
  have HA : Hid (AtT w ta ts) := hA
  have HO : Hid (TsOk ts) := hok
  clear hA hok
  have K0 := (Kept.refl w).alloc (.cells #[.int .i64 L, .slice ca nc cc, .slice ta ts.length tc] 53)
  have HB : Hid (Box w.heap.size (w.alloc (.cells #[.int .i64 L, .slice ca nc cc, .slice ta ts.length tc] 53)) 53 w.heap.size [.int .i64 L, .slice ca nc cc, .slice ta ts.length tc]) := box_new w.heap.size w 53 [.int .i64 L, .slice ca nc cc, .slice ta ts.length tc] (Nat.le_refl _) (by simp)
  go_enter Tryd.func37, Tryd.ntmps37
  go_wp2_with fail
  go_loopg [3] ts.length (fun gk i wr => ∃ (j : Nat) (W : World), W = wr ∧ i = .int .i64 j ∧ j + gk = ts.length ∧ Hid (anyT ts = anyT (ts.drop j)) ∧ Kept w W ∧ Hid (Box w.heap.size W 53 w.heap.size [.int .i64 L, .slice ca nc cc, .slice ta ts.length tc]))
  case atStart => exact ⟨0, _, rfl, rfl, by omega, (by show _ = _; rw [List.drop_zero]), K0, HB⟩
  case round =>
    obtain ⟨j, W, hW, rfl, hj, HE, K, HBr⟩ := hrel
    subst hW
    have u2 : W.cell? ⟨w.heap.size, 2, none⟩ = some (.slice ta ts.length tc) := HBr.out.cell 2 (by simp)
    by_cases hjp : j < ts.length
    · obtain ⟨b, f, n1, pd, dl, bu, pr, pa, pc, rfl, hpj, g0, g1, g2, g3, g4, hpc, hat, hbl, hdr⟩ := (HA.out.kept K).get j hjp
      obtain ⟨_, hp1, hc1⟩ := HO.out _ (List.mem_of_getElem? hpj)
      simp only at hp1 hc1
      have b1 : (j : Int) < (ts.length : Int) := by omega
      have b2 : (0 : Int) ≤ (j : Int) := by omega
      have hpw := rpwaits_any pa pc pr W hat (by omega)
      have HE2 : Hid (anyT ts = if anyW pr = true then true else anyT (ts.drop (j + 1))) := by show _ = _; rw [HE.out, hdr, anyT]
      obtain ⟨z, hz⟩ : ∃ z, anyW pr = z := ⟨_, rfl⟩
      rw [hz] at hpw HE2
      obtain ⟨gi, rfl⟩ : ∃ g, gk = g + 1 := ⟨gk - 1, by omega⟩
      clear hpj hat hdr HE g0 g1 g2 g3 hz hc1
      cases z with
      | true =>
        have HZ : Hid (anyT ts = true) := by show _ = _; rw [HE2.out, if_pos rfl]
        clear HE2
        go_wp2_with fail
        refine hpw.mono ?_
        rintro e w2 ⟨rfl, t2⟩
        go_wp2_with fail
        go_ret
        rw [HZ.out]
        exact ⟨rfl, K.trans t2⟩
      | false =>
        have HZ : Hid (anyT ts = anyT (ts.drop (j + 1))) := by show _ = _; rw [HE2.out, if_neg (by simp)]
        clear HE2
        go_wp2_with fail
        refine hpw.mono ?_
        rintro e w2 ⟨rfl, t2⟩
        go_wp2_with fail
        go_roundg gi
        case rel => exact ⟨j + 1, _, rfl, by go_num, by omega, HZ, K.trans t2, HBr.out.kept t2⟩
        case measure => omega
    · have b1 : ¬ (j : Int) < (ts.length : Int) := by omega
      have HZ : Hid (anyT ts = false) := by show _ = _; rw [HE.out, List.drop_eq_nil_of_le (by omega)]; rfl
      go_wp2_with fail
      go_ret
      rw [HZ.out]
      exact ⟨rfl, K⟩
theorem rneed_any (nm : List UInt8) (pd dl bu : Int) (pr : List OpD) (pa : Option Addr) (pc : Nat) (w : World) (hA : AtP w pa pr) (hcap : pr.length ≤ pc) (hk : checkP pr = (0, 0)) :
    Calls Tryd.prog 39 #[.agg #[.string (B nm), .int .i64 pd, .int .i64 dl, .int .i64 bu, .slice pa pr.length pc]] w fun e w' => e = .returned (.int .i64 (min (costD pr) bu)) ∧ Kept w w' := by
  have K0 := (Kept.refl w).alloc (.cells #[.string (B nm), .int .i64 pd, .int .i64 dl, .int .i64 bu, .slice pa pr.length pc] 73)
  have HB : Hid (Box w.heap.size (w.alloc (.cells #[.string (B nm), .int .i64 pd, .int .i64 dl, .int .i64 bu, .slice pa pr.length pc] 73)) 73 w.heap.size [.string (B nm), .int .i64 pd, .int .i64 dl, .int .i64 bu, .slice pa pr.length pc]) := box_new w.heap.size w 73 [.string (B nm), .int .i64 pd, .int .i64 dl, .int .i64 bu, .slice pa pr.length pc] (Nat.le_refl _) (by simp)
  have hco := rcost_any pa pc pr _ (hA.kept K0) hcap hk
  obtain ⟨z, hz⟩ : ∃ z, costD pr = z := ⟨_, rfl⟩
  rw [hz] at hco
  rw [hz]
  go_enter Tryd.func39, Tryd.ntmps39
  go_wp2_with fail
  refine hco.mono ?_
  rintro e w2 ⟨rfl, t2⟩
  have s3 : w2.cell? ⟨w.heap.size, 3, none⟩ = some (.int .i64 bu) := (HB.out.kept t2).cell 3 (by simp)
  by_cases h : bu < z
  · have HM : Hid (min z bu = bu) := by show _ = _; omega
    go_wp2_with fail
    go_ret
    rw [HM.out]
    exact ⟨rfl, K0.trans t2⟩
  · have HM : Hid (min z bu = z) := by show _ = _; omega
    go_wp2_with fail
    go_ret
    rw [HM.out]
    exact ⟨rfl, K0.trans t2⟩
end Go.Proofs.YtolljdomnohmdaaDoor
namespace Go.Proofs.YtolljdomnohmdaaDoor
open Go.RowKit

def sameH (a b : ChanD) : Bool := (a.room == b.room) && (a.server == b.server)
def sameCs : List ChanD → List ChanD → Bool
  | [], [] => true
  | a :: p, b :: q => if sameH a b = true then sameCs p q else false
  | _, _ => false
theorem sameCs_len : ∀ (p q : List ChanD), p.length ≠ q.length → sameCs p q = false
  | [], [], h => absurd rfl h
  | [], _ :: _, _ => rfl
  | _ :: _, [], _ => rfl
  | a :: r, b :: t, h => by
    rw [sameCs]
    split
    · exact sameCs_len r t (by simpa using h)
    · rfl
theorem neq98 (r s r' s' : Int) (w : World) : (binOp .neq 98 (.agg #[.int .i64 r, .int .i64 s]) (.agg #[.int .i64 r', .int .i64 s'])).run Tryd.prog w = .ok (.bool (!sameH ⟨r, s⟩ ⟨r', s'⟩)) w := by
  rw [run_neq_struct, run_equalIn_agg w 9999 98 _ _ (by simp [Program.fieldsOf, Tryd.underlying98]) (by kernel_rfl)]
  simp [Program.fieldsOf, Tryd.underlying98, Op.eqFields, go_sem]
  by_cases h1 : r = r' <;> by_cases h2 : s = s' <;> simp [sameH, h1, h2]
theorem grd98 (op : BinOp) (a b : Operand) (xs ys : Array Value) (w : World) : (eqGuard op 98 a b (.agg xs) (.agg ys)).run Tryd.prog w = .ok () w := run_eqGuard_agg w op 98 a b xs ys (by kernel_rfl)
theorem neq99 (r s r' s' : Int) (w : World) : (binOp .neq 99 (.agg #[.int .i64 r, .int .i64 s]) (.agg #[.int .i64 r', .int .i64 s'])).run Tryd.prog w = .ok (.bool (!sameH ⟨r, s⟩ ⟨r', s'⟩)) w := by
  rw [run_neq_struct, run_equalIn_agg w 9999 99 _ _ (by simp [Program.fieldsOf, Tryd.underlying99]) (by kernel_rfl)]
  simp [Program.fieldsOf, Tryd.underlying99, Op.eqFields, go_sem]
  by_cases h1 : r = r' <;> by_cases h2 : s = s' <;> simp [sameH, h1, h2]
theorem grd99 (op : BinOp) (a b : Operand) (xs ys : Array Value) (w : World) : (eqGuard op 99 a b (.agg xs) (.agg ys)).run Tryd.prog w = .ok () w := run_eqGuard_agg w op 99 a b xs ys (by kernel_rfl)
set_option maxHeartbeats 1000000 in
theorem eqch_any (a a' : Option Addr) (c c' : Nat) (l l' : List ChanD) (w : World) (hA : AtH w a l) (hA' : AtH w a' l') (hm : l.length ≤ 1000000) :
    Calls Tryd.prog 60 #[.slice a l.length c, .slice a' l'.length c'] w fun e w' => e = .returned (.bool (sameCs l l')) ∧ Kept w w' := by
  have HA : Hid (AtH w a l) := hA
  have HA' : Hid (AtH w a' l') := hA'
  clear hA hA'
  by_cases hmm : l.length = l'.length
  · obtain ⟨m, hml⟩ : ∃ m, l.length = m := ⟨_, rfl⟩
    have HL : Hid (l.length = m ∧ l'.length = m) := ⟨hml, by omega⟩
    rw [← hmm, hml]
    rw [hml] at hm
    clear hmm hml
    go_enter Tryd.func60, Tryd.ntmps60
    go_wp2_with fail
    go_loopg [13] m (fun gk i wr => ∃ k : Nat, i = .int .i64 k ∧ k + gk = m ∧ Hid (sameCs (l.drop k) (l'.drop k) = sameCs l l') ∧ Kept w wr)
    case atStart => exact ⟨0, rfl, by omega, rfl, Kept.refl _⟩
    case round =>
      obtain ⟨k, rfl, hk, HI, T⟩ := hrel
      by_cases hkm : k < m
      · obtain ⟨b, f, r, s, rfl, _, g0, g1, e3⟩ := (HA.out.kept T).get k (by rw [HL.out.1]; exact hkm)
        obtain ⟨b', f', r', s', rfl, _, g0', g1', e3'⟩ := (HA'.out.kept T).get k (by rw [HL.out.2]; exact hkm)
        have b1 : (k : Int) < (m : Int) := by omega
        have b2 : (0 : Int) ≤ (k : Int) := by omega
        have HE : Hid (sameCs l l' = if sameH ⟨r, s⟩ ⟨r', s'⟩ = true then sameCs (l.drop (k + 1)) (l'.drop (k + 1)) else false) := by show _ = _; rw [← HI.out, e3, e3']; rfl
        clear e3 e3' HI
        have hne := fun wx => neq99 r s r' s' wx
        have hgd := grd99
        cases hs : sameH ⟨r, s⟩ ⟨r', s'⟩ with
        | true =>
          simp only [hs, Bool.not_true] at hne
          have HX : Hid (sameCs (l.drop (k + 1)) (l'.drop (k + 1)) = sameCs l l') := by show _ = _; rw [HE.out, hs, if_pos rfl]
          obtain ⟨g3, rfl⟩ : ∃ g, gk = g + 1 := ⟨gk - 1, by omega⟩
          clear hs
          go_wp2_with fail
          go_quiet (fail)
          go_wp2_with fail
          go_roundg g3
          case rel => exact ⟨k + 1, by go_num, by omega, HX, T.drewN _⟩
          case measure => omega
        | false =>
          simp only [hs, Bool.not_false] at hne
          have HZ : Hid (sameCs l l' = false) := by show _ = _; rw [HE.out, hs, if_neg (by simp)]
          clear hs
          go_wp2_with fail
          go_quiet (fail)
          go_wp2_with fail
          go_ret
          rw [HZ.out]
          exact ⟨rfl, T.drewN _⟩
      · have b1 : ¬ (k : Int) < (m : Int) := by omega
        have HZ : Hid (sameCs l l' = true) := by show _ = _; rw [← HI.out, List.drop_eq_nil_of_le (by rw [HL.out.1]; omega), List.drop_eq_nil_of_le (by rw [HL.out.2]; omega)]; rfl
        go_wp2_with fail
        go_ret
        rw [HZ.out]
        exact ⟨rfl, T⟩
  · have hne : ((l.length : Int) != (l'.length : Int)) = true := by simp; omega
    have HZ : Hid (sameCs l l' = false) := sameCs_len l l' hmm
    go_enter Tryd.func60, Tryd.ntmps60
    go_wp2_with fail
    go_ret
    rw [HZ.out]
    exact ⟨rfl, Kept.refl _⟩
def sameS (L : Int) (cs : List ChanD) (ts : List TaskD) (L' : Int) (cs' : List ChanD) (ts' : List TaskD) : Bool := (L == L') && sameCs cs cs' && sameTs ts ts'
set_option maxHeartbeats 2000000 in
theorem psame_any (L L' : Int) (ca ca' ta ta' : Option Addr) (cc cc' tc tc' : Nat) (cs cs' : List ChanD) (ts ts' : List TaskD) (w : World) (hH : AtH w ca cs) (hH' : AtH w ca' cs') (hA : AtT w ta ts) (hB : AtT w ta' ts') (hl : ts.length ≤ 100000) (hcl : cs.length ≤ 1000000) (hok : TsOk ts) :
    Calls Tryd.prog 34 #[.agg #[.int .i64 L, .slice ca cs.length cc, .slice ta ts.length tc], .agg #[.int .i64 L', .slice ca' cs'.length cc', .slice ta' ts'.length tc']] w fun e w' => e = .returned (.bool (sameS L cs ts L' cs' ts')) ∧ Kept w w' := by
  have K2 := ((Kept.refl w).alloc (.cells #[.int .i64 L, .slice ca cs.length cc, .slice ta ts.length tc] 58)).alloc (.cells #[.int .i64 L', .slice ca' cs'.length cc', .slice ta' ts'.length tc'] 58)
  by_cases hL : L = L'
  · subst hL
    have e1 : (L == L) = true := beq_self_eq_true L
    have HB1 : Hid (Box w.heap.size ((w.alloc (.cells #[.int .i64 L, .slice ca cs.length cc, .slice ta ts.length tc] 58)).alloc (.cells #[.int .i64 L, .slice ca' cs'.length cc', .slice ta' ts'.length tc'] 58)) 58 w.heap.size [.int .i64 L, .slice ca cs.length cc, .slice ta ts.length tc]) := (box_new w.heap.size w 58 [.int .i64 L, .slice ca cs.length cc, .slice ta ts.length tc] (Nat.le_refl _) (by simp)).kept ((Kept.refl _).alloc _)
    have HB2 : Hid (Box w.heap.size ((w.alloc (.cells #[.int .i64 L, .slice ca cs.length cc, .slice ta ts.length tc] 58)).alloc (.cells #[.int .i64 L, .slice ca' cs'.length cc', .slice ta' ts'.length tc'] 58)) 58 (w.heap.size + 1) [.int .i64 L, .slice ca' cs'.length cc', .slice ta' ts'.length tc']) := by
      have h := box_new w.heap.size (w.alloc (.cells #[.int .i64 L, .slice ca cs.length cc, .slice ta ts.length tc] 58)) 58 [.int .i64 L, .slice ca' cs'.length cc', .slice ta' ts'.length tc'] (by simp) (by simp)
      rw [show (w.alloc (.cells #[.int .i64 L, .slice ca cs.length cc, .slice ta ts.length tc] 58)).heap.size = w.heap.size + 1 by simp] at h
      exact h
    have HET : Hid (∀ w', Kept w w' → Calls Tryd.prog 61 #[.slice ta ts.length tc, .slice ta' ts'.length tc', .func (.func 62) #[] #[]] w' fun e w'' => e = .returned (.bool (sameTs ts ts')) ∧ Kept w' w'') := fun w' t => eqtasks_any ta ta' tc tc' ts ts' w' (hA.kept t) (hB.kept t) hl hok
    have hec := eqch_any ca ca' cc cc' cs cs' _ (hH.kept K2) (hH'.kept K2) hcl
    obtain ⟨zc, hzc⟩ : ∃ z, sameCs cs cs' = z := ⟨_, rfl⟩
    rw [hzc] at hec
    have HS : Hid (sameS L cs ts L cs' ts' = (zc && sameTs ts ts')) := by show _ = _; unfold sameS; rw [e1, hzc, Bool.true_and]
    clear hA hB hok hH hH' hzc
    go_enter Tryd.func34, Tryd.ntmps34
    go_wp2_with fail
    refine hec.mono ?_
    rintro e w3 ⟨rfl, t3⟩
    have K3 := K2.trans t3
    cases zc with
    | false =>
      go_wp2_with fail
      go_ret
      rw [HS.out]
      exact ⟨rfl, K3⟩
    | true =>
      have u2 : w3.cell? ⟨w.heap.size, 2, none⟩ = some (.slice ta ts.length tc) := (HB1.out.kept t3).cell 2 (by simp)
      have v2 : w3.cell? ⟨w.heap.size + 1, 2, none⟩ = some (.slice ta' ts'.length tc') := (HB2.out.kept t3).cell 2 (by simp)
      have h4 := HET.out w3 K3
      obtain ⟨zt, hzt⟩ : ∃ z, sameTs ts ts' = z := ⟨_, rfl⟩
      rw [hzt] at h4 HS
      clear hzt hec
      go_wp2_with fail
      refine h4.mono ?_
      rintro e w4 ⟨rfl, t4⟩
      cases zt with
      | true =>
        go_wp2_with fail
        go_ret
        rw [HS.out]
        exact ⟨rfl, K3.trans t4⟩
      | false =>
        go_wp2_with fail
        go_ret
        rw [HS.out]
        exact ⟨rfl, K3.trans t4⟩
  · have e1 : (L == L') = false := beq_eq_false_iff_ne.2 hL
    have HS : Hid (sameS L cs ts L' cs' ts' = false) := by show _ = _; unfold sameS; rw [e1]; rfl
    clear hA hB hok hH hH'
    go_enter Tryd.func34, Tryd.ntmps34
    go_wp2_with fail
    go_ret
    rw [HS.out]
    exact ⟨rfl, K2⟩
end Go.Proofs.YtolljdomnohmdaaDoor
namespace Go.Proofs.YtolljdomnohmdaaDoor
open Go.RowKit

/-- A call that tells v in every later world. -/
structure RunB (f : FuncId) (args : Array Value) (w : World) (v : Value) : Prop where
  run : ∀ wx, Kept w wx → Calls Tryd.prog f args wx fun e w' => e = .returned v ∧ Kept wx w'
set_option maxHeartbeats 4000000 in
set_option maxRecDepth 10000 in
theorem rsameP_any (a b : Option Addr) (c d : Nat) (p q : List OpD) (w : World) (hA : AtP w a p) (hB : AtP w b q) (hp : p.length ≤ 100000) (hc : ∀ o ∈ p, o.cases.length ≤ 1000000) :
    Calls Tryd.prog 24 #[.slice a p.length c, .slice b q.length d] w fun e w' => e = .returned (.bool (sameP p q)) ∧ Kept w w' := by
  have HA : Hid (AtP w a p) := hA
  have HB : Hid (AtP w b q) := hB
  have HC : Hid (∀ o ∈ p, o.cases.length ≤ 1000000) := hc
  clear hA hB hc
  by_cases hpq : p.length = q.length
  · obtain ⟨m, hml⟩ : ∃ m, p.length = m := ⟨_, rfl⟩
    have HL : Hid (p.length = m ∧ q.length = m) := ⟨hml, by omega⟩
    rw [← hpq, hml]
    rw [hml] at hp
    clear hpq hml
    go_enter Tryd.func24, Tryd.ntmps24
    go_wp2_with fail
    go_loopg [5] m (fun gk i wr => ∃ (k : Nat) (W : World), W = wr ∧ i = .int .i64 k ∧ k + gk = m ∧ Hid (sameP (p.drop k) (q.drop k) = sameP p q) ∧ Kept w W)
    case atStart => exact ⟨0, _, rfl, rfl, by omega, rfl, Kept.refl _⟩
    case round =>
      obtain ⟨j, W, hW, rfl, hk, HI, K⟩ := hrel
      subst hW
      by_cases hkm : j < m
      · obtain ⟨b1, f1, k, n, v, wt, l, la, lc, rfl, hpj, g0, g1, g2, g3, g4, _, hat, _, e3⟩ := (HA.out.kept K).get j (by rw [HL.out.1]; exact hkm)
        obtain ⟨b2, f2, k', n', v', wt', l', la', lc', rfl, _, g0', g1', g2', g3', g4', _, hat', _, e3'⟩ := (HB.out.kept K).get j (by rw [HL.out.2]; exact hkm)
        have c1 : (j : Int) < (m : Int) := by omega
        have c2 : (0 : Int) ≤ (j : Int) := by omega
        have HE : Hid (sameP p q = if sameD ⟨k, n, v, wt, l⟩ ⟨k', n', v', wt', l'⟩ = true then sameP (p.drop (j + 1)) (q.drop (j + 1)) else false) := by show _ = _; rw [← HI.out, e3, e3']; rfl
        obtain ⟨z, hz⟩ : ∃ z, sameD ⟨k, n, v, wt, l⟩ ⟨k', n', v', wt', l'⟩ = z := ⟨_, rfl⟩
        have HSM : Hid (RunB 53 #[.agg #[.int .i64 k, .int .i64 n, .int .i64 v, .int .i64 wt, .slice la l.length lc], .agg #[.int .i64 k', .int .i64 n', .int .i64 v', .int .i64 wt', .slice la' l'.length lc']] W (.bool z)) := ⟨fun wx kx => by
          have h := rsame_any k n v wt k' n' v' wt' la la' l.length l'.length lc lc' l l' wx (hat.kept kx) (hat'.kept kx) (HC.out _ (List.mem_of_getElem? hpj))
          rw [hz] at h
          exact h⟩
        rw [hz] at HE
        have KD : Kept W W.drew := (Kept.refl W).drew
        obtain ⟨gi, rfl⟩ : ∃ g, gk = g + 1 := ⟨gk - 1, by omega⟩
        clear e3 e3' HI hz hpj hat hat'
        cases z with
        | true =>
          have HX : Hid (sameP (p.drop (j + 1)) (q.drop (j + 1)) = sameP p q) := by show _ = _; rw [HE.out, if_pos rfl]
          clear HE
          go_wp2_with fail
          go_region_held3 (fun w' => w'.cell? ⟨b1, f1 + j * 5, none⟩ = some (.int .i64 k) ∧ w'.cell? ⟨b1, f1 + j * 5 + 1, none⟩ = some (.int .i64 n) ∧ w'.cell? ⟨b1, f1 + j * 5 + 2, none⟩ = some (.int .i64 v) ∧ w'.cell? ⟨b1, f1 + j * 5 + 3, none⟩ = some (.int .i64 wt) ∧ w'.cell? ⟨b1, f1 + j * 5 + 4, none⟩ = some (.slice la l.length lc) ∧ w'.cell? ⟨b2, f2 + j * 5, none⟩ = some (.int .i64 k') ∧ w'.cell? ⟨b2, f2 + j * 5 + 1, none⟩ = some (.int .i64 n') ∧ w'.cell? ⟨b2, f2 + j * 5 + 2, none⟩ = some (.int .i64 v') ∧ w'.cell? ⟨b2, f2 + j * 5 + 3, none⟩ = some (.int .i64 wt') ∧ w'.cell? ⟨b2, f2 + j * 5 + 4, none⟩ = some (.slice la' l'.length lc')) (go_keep) (first | (go_at_call 53; refine (HSM.out.run _ KD).mono ?_; rintro e w8 ⟨rfl, t8⟩; have K8 := ((Kept.refl W).drew).trans t8; have y0 := K8.cell g0; have y1 := K8.cell g1; have y2 := K8.cell g2; have y3 := K8.cell g3; have y4 := K8.cell g4; have y5 := K8.cell g0'; have y6 := K8.cell g1'; have y7 := K8.cell g2'; have y8 := K8.cell g3'; have y9 := K8.cell g4') | fail)
          go_wp2_with fail
          go_roundg gi
          case rel => exact ⟨j + 1, _, rfl, by go_num, by omega, HX, K.trans K8⟩
          case measure => omega
        | false =>
          have HX : Hid (sameP p q = false) := by show _ = _; rw [HE.out, if_neg (by simp)]
          clear HE
          go_wp2_with fail
          go_region_held3 (fun w' => w'.cell? ⟨b1, f1 + j * 5, none⟩ = some (.int .i64 k) ∧ w'.cell? ⟨b1, f1 + j * 5 + 1, none⟩ = some (.int .i64 n) ∧ w'.cell? ⟨b1, f1 + j * 5 + 2, none⟩ = some (.int .i64 v) ∧ w'.cell? ⟨b1, f1 + j * 5 + 3, none⟩ = some (.int .i64 wt) ∧ w'.cell? ⟨b1, f1 + j * 5 + 4, none⟩ = some (.slice la l.length lc) ∧ w'.cell? ⟨b2, f2 + j * 5, none⟩ = some (.int .i64 k') ∧ w'.cell? ⟨b2, f2 + j * 5 + 1, none⟩ = some (.int .i64 n') ∧ w'.cell? ⟨b2, f2 + j * 5 + 2, none⟩ = some (.int .i64 v') ∧ w'.cell? ⟨b2, f2 + j * 5 + 3, none⟩ = some (.int .i64 wt') ∧ w'.cell? ⟨b2, f2 + j * 5 + 4, none⟩ = some (.slice la' l'.length lc')) (go_keep) (first | (go_at_call 53; refine (HSM.out.run _ KD).mono ?_; rintro e w8 ⟨rfl, t8⟩; have K8 := ((Kept.refl W).drew).trans t8; have y0 := K8.cell g0; have y1 := K8.cell g1; have y2 := K8.cell g2; have y3 := K8.cell g3; have y4 := K8.cell g4; have y5 := K8.cell g0'; have y6 := K8.cell g1'; have y7 := K8.cell g2'; have y8 := K8.cell g3'; have y9 := K8.cell g4') | fail)
          go_wp2_with fail
          go_ret
          rw [HX.out]
          exact ⟨rfl, K.trans K8⟩
      · have c1 : ¬ (j : Int) < (m : Int) := by omega
        have HR : Hid (sameP p q = true) := by
          show _ = _
          rw [← HI.out, List.drop_of_length_le (by rw [HL.out.1]; omega), List.drop_of_length_le (by rw [HL.out.2]; omega)]; rfl
        go_wp2_with fail
        go_ret
        rw [HR.out]
        exact ⟨rfl, K⟩
  · have h1 : ((p.length : Int) != (q.length : Int)) = true := by simp; omega
    have HR : Hid (sameP p q = false) := sameP_len p q hpq
    go_enter Tryd.func24, Tryd.ntmps24
    go_wp2_with fail
    go_ret
    rw [HR.out]
    exact ⟨rfl, Kept.refl _⟩
theorem sameT_iff (a b : TaskD) : sameT a b = true ↔ a.name = b.name ∧ a.period = b.period ∧ a.deadline = b.deadline ∧ a.budget = b.budget ∧ sameP a.prog b.prog = true := by
  unfold sameT
  simp only [Bool.and_eq_true, decide_eq_true_eq, and_assoc]
set_option maxHeartbeats 8000000 in
set_option maxRecDepth 10000 in
theorem rsset_any (L L' : Int) (ca ca' ta ta' : Option Addr) (cc cc' tc tc' : Nat) (cs cs' : List ChanD) (ts ts' : List TaskD) (w : World) (hH : AtH w ca cs) (hH' : AtH w ca' cs') (hA : AtT w ta ts) (hB : AtT w ta' ts') (hl : ts.length ≤ 100000) (hcl : cs.length ≤ 100000) (hok : TsOk ts) :
    Calls Tryd.prog 35 #[.agg #[.int .i64 L, .slice ca cs.length cc, .slice ta ts.length tc], .agg #[.int .i64 L', .slice ca' cs'.length cc', .slice ta' ts'.length tc']] w fun e w' => e = .returned (.bool (sameS L cs ts L' cs' ts')) ∧ Kept w w' := by
  have HH : Hid (AtH w ca cs) := hH
  have HH' : Hid (AtH w ca' cs') := hH'
  have HA : Hid (AtT w ta ts) := hA
  have HA' : Hid (AtT w ta' ts') := hB
  have HO : Hid (TsOk ts) := hok
  clear hH hH' hA hB hok
  have K2 : Kept w ((w.alloc (.cells #[.int .i64 L, .slice ca cs.length cc, .slice ta ts.length tc] 53)).alloc (.cells #[.int .i64 L', .slice ca' cs'.length cc', .slice ta' ts'.length tc'] 53)) := ((Kept.refl w).alloc _).alloc _
  by_cases hL : L = L'
  · by_cases hcs : cs.length = cs'.length
    · by_cases hts : ts.length = ts'.length
      · subst hL
        have HLC : Hid (cs.length = cs'.length) := hcs
        have HLT : Hid (ts.length = ts'.length) := hts
        rw [← hcs, ← hts]
        have K2 : Kept w ((w.alloc (.cells #[.int .i64 L, .slice ca cs.length cc, .slice ta ts.length tc] 53)).alloc (.cells #[.int .i64 L, .slice ca' cs.length cc', .slice ta' ts.length tc'] 53)) := ((Kept.refl w).alloc _).alloc _
        clear hcs hts
        have HB1 : Hid (Box w.heap.size ((w.alloc (.cells #[.int .i64 L, .slice ca cs.length cc, .slice ta ts.length tc] 53)).alloc (.cells #[.int .i64 L, .slice ca' cs.length cc', .slice ta' ts.length tc'] 53)) 53 w.heap.size [.int .i64 L, .slice ca cs.length cc, .slice ta ts.length tc]) := (box_new w.heap.size w 53 [.int .i64 L, .slice ca cs.length cc, .slice ta ts.length tc] (Nat.le_refl _) (by simp)).kept ((Kept.refl _).alloc _)
        have HB2 : Hid (Box w.heap.size ((w.alloc (.cells #[.int .i64 L, .slice ca cs.length cc, .slice ta ts.length tc] 53)).alloc (.cells #[.int .i64 L, .slice ca' cs.length cc', .slice ta' ts.length tc'] 53)) 53 (w.heap.size + 1) [.int .i64 L, .slice ca' cs.length cc', .slice ta' ts.length tc']) := by
          have h := box_new w.heap.size (w.alloc (.cells #[.int .i64 L, .slice ca cs.length cc, .slice ta ts.length tc] 53)) 53 [.int .i64 L, .slice ca' cs.length cc', .slice ta' ts.length tc'] (by simp) (by simp)
          rw [show (w.alloc (.cells #[.int .i64 L, .slice ca cs.length cc, .slice ta ts.length tc] 53)).heap.size = w.heap.size + 1 by simp] at h
          exact h
        have HS : Hid (sameS L cs ts L cs' ts' = (sameCs cs cs' && sameTs ts ts')) := by show _ = _; unfold sameS; rw [beq_self_eq_true, Bool.true_and]
        go_enter Tryd.func35, Tryd.ntmps35
        go_wp2_with fail
        generalize ((w.alloc (.cells #[.int .i64 L, .slice ca cs.length cc, .slice ta ts.length tc] 53)).alloc (.cells #[.int .i64 L, .slice ca' cs.length cc', .slice ta' ts.length tc'] 53)) = W2 at *
        go_loopg [5] cs.length (fun gk i wr => ∃ (j : Nat) (W : World), W = wr ∧ i = .int .i64 j ∧ j + gk = cs.length ∧ Hid (sameCs (cs.drop j) (cs'.drop j) = sameCs cs cs') ∧ Kept w W ∧ Hid (Box w.heap.size W 53 w.heap.size [.int .i64 L, .slice ca cs.length cc, .slice ta ts.length tc]) ∧ Hid (Box w.heap.size W 53 (w.heap.size + 1) [.int .i64 L, .slice ca' cs.length cc', .slice ta' ts.length tc']))
        case atStart => exact ⟨0, _, rfl, rfl, by omega, rfl, K2, HB1, HB2⟩
        case round =>
          obtain ⟨j, W, hW, rfl, hj, HI, K, HBr, HBs⟩ := hrel
          subst hW
          have s1 : W.cell? ⟨w.heap.size, 1, none⟩ = some (.slice ca cs.length cc) := HBr.out.cell 1 (by simp)
          have r1 : W.cell? ⟨w.heap.size + 1, 1, none⟩ = some (.slice ca' cs.length cc') := HBs.out.cell 1 (by simp)
          by_cases hjp : j < cs.length
          · obtain ⟨b, f, r, s, rfl, _, g0, g1, e3⟩ := (HH.out.kept K).get j hjp
            obtain ⟨b', f', r', s', rfl, _, g0', g1', e3'⟩ := (HH'.out.kept K).get j (by rw [← HLC.out]; exact hjp)
            have b1 : (j : Int) < (cs.length : Int) := by omega
            have b2 : (0 : Int) ≤ (j : Int) := by omega
            have b3 : (j : Int) < (cs'.length : Int) := by have := HLC.out; omega
            have HE : Hid (sameCs cs cs' = if sameH ⟨r, s⟩ ⟨r', s'⟩ = true then sameCs (cs.drop (j + 1)) (cs'.drop (j + 1)) else false) := by show _ = _; rw [← HI.out, e3, e3']; rfl
            clear e3 e3' HI
            have hne := fun wx => neq98 r s r' s' wx
            have hgd := grd98
            obtain ⟨gi, rfl⟩ : ∃ g, gk = g + 1 := ⟨gk - 1, by omega⟩
            cases hs : sameH ⟨r, s⟩ ⟨r', s'⟩ with
            | true =>
              simp only [hs, Bool.not_true] at hne
              have HX : Hid (sameCs (cs.drop (j + 1)) (cs'.drop (j + 1)) = sameCs cs cs') := by show _ = _; rw [HE.out, hs, if_pos rfl]
              clear hs HE
              go_wp2_with fail
              go_quiet (fail)
              go_wp2_with fail
              go_roundg gi
              case rel => exact ⟨j + 1, _, rfl, by go_num, by omega, HX, K.drewN _, HBr.out.kept ((Kept.refl W).drewN _), HBs.out.kept ((Kept.refl W).drewN _)⟩
              case measure => omega
            | false =>
              simp only [hs, Bool.not_false] at hne
              have HZ : Hid (sameS L cs ts L cs' ts' = false) := by show _ = _; rw [HS.out, HE.out, hs, if_neg (by simp)]; rfl
              clear hs HE
              go_wp2_with fail
              go_quiet (fail)
              go_wp2_with fail
              go_ret
              rw [HZ.out]
              exact ⟨rfl, K.drewN _⟩
          · have b1 : ¬ (j : Int) < (cs.length : Int) := by omega
            have HS2 : Hid (sameS L cs ts L cs' ts' = sameTs ts ts') := by
              show _ = _
              rw [HS.out, ← HI.out, List.drop_of_length_le (by omega), List.drop_of_length_le (by have := HLC.out; omega)]
              rfl
            clear HS HI
            go_wp2_with fail
            go_loopg [6] ts.length (fun gk i wr => ∃ (j : Nat) (W : World), W = wr ∧ i = .int .i64 j ∧ j + gk = ts.length ∧ Hid (sameTs (ts.drop j) (ts'.drop j) = sameTs ts ts') ∧ Kept w W ∧ Hid (Box w.heap.size W 53 w.heap.size [.int .i64 L, .slice ca cs.length cc, .slice ta ts.length tc]) ∧ Hid (Box w.heap.size W 53 (w.heap.size + 1) [.int .i64 L, .slice ca' cs.length cc', .slice ta' ts.length tc']))
            case atStart => exact ⟨0, _, rfl, rfl, by omega, rfl, K, HBr, HBs⟩
            case round =>
              obtain ⟨q, W3, hW, rfl, hq, HI, KQ, HBq, HBt⟩ := hrel
              subst hW
              have s2 : W3.cell? ⟨w.heap.size, 2, none⟩ = some (.slice ta ts.length tc) := HBq.out.cell 2 (by simp)
              by_cases hqt : q < ts.length
              · obtain ⟨b, f, nm, pd, dl, bu, pr, pa, pc, rfl, hpj, g0, g1, g2, g3, g4, _, hat, _, e3⟩ := (HA.out.kept KQ).get q hqt
                obtain ⟨b', f', nm', pd', dl', bu', pr', pa', pc', rfl, _, g0', g1', g2', g3', g4', _, hat', _, e3'⟩ := (HA'.out.kept KQ).get q (by rw [← HLT.out]; exact hqt)
                obtain ⟨_, ho2, ho3⟩ := HO.out _ (List.mem_of_getElem? hpj)
                simp only at ho2 ho3
                have b1 : (q : Int) < (ts.length : Int) := by omega
                have b2 : (0 : Int) ≤ (q : Int) := by omega
                have b3 : (q : Int) < (ts'.length : Int) := by have := HLT.out; omega
                have KA := (Kept.refl W3).alloc (.cells #[.string (B nm), .int .i64 pd, .int .i64 dl, .int .i64 bu, .slice pa pr.length pc] 73)
                have KAB := KA.alloc (.cells #[.string (B nm'), .int .i64 pd', .int .i64 dl', .int .i64 bu', .slice pa' pr'.length pc'] 73)
                have z2 : (W3.alloc (.cells #[.string (B nm), .int .i64 pd, .int .i64 dl, .int .i64 bu, .slice pa pr.length pc] 73)).cell? ⟨w.heap.size + 1, 2, none⟩ = some (.slice (some ⟨b', f', none⟩) ts.length tc') := (HBt.out.kept KA).cell 2 (by simp)
                have x0 := KA.cell g0'
                have x1 := KA.cell g1'
                have x2 := KA.cell g2'
                have x3 := KA.cell g3'
                have x4 := KA.cell g4'
                have HSP : Hid (RunB 24 #[.slice pa pr.length pc, .slice pa' pr'.length pc'] ((W3.alloc (.cells #[.string (B nm), .int .i64 pd, .int .i64 dl, .int .i64 bu, .slice pa pr.length pc] 73)).alloc (.cells #[.string (B nm'), .int .i64 pd', .int .i64 dl', .int .i64 bu', .slice pa' pr'.length pc'] 73)) (.bool (sameP pr pr'))) := ⟨fun wx kx => rsameP_any pa pa' pc pc' pr pr' wx (hat.kept (KAB.trans kx)) (hat'.kept (KAB.trans kx)) ho2 ho3⟩
                have HE : Hid (sameTs ts ts' = if sameT ⟨nm, pd, dl, bu, pr⟩ ⟨nm', pd', dl', bu', pr'⟩ = true then sameTs (ts.drop (q + 1)) (ts'.drop (q + 1)) else false) := by show _ = _; rw [← HI.out, e3, e3']; rfl
                have HTI : Hid (sameT ⟨nm, pd, dl, bu, pr⟩ ⟨nm', pd', dl', bu', pr'⟩ = true ↔ nm = nm' ∧ pd = pd' ∧ dl = dl' ∧ bu = bu' ∧ sameP pr pr' = true) := sameT_iff _ _
                have BAD : Hid (¬ (nm = nm' ∧ pd = pd' ∧ dl = dl' ∧ bu = bu' ∧ sameP pr pr' = true) → sameS L cs ts L cs' ts' = false) := by
                  intro h
                  rw [HS2.out, HE.out, if_neg (fun e => h (HTI.out.1 e))]
                have KW := KQ.trans KAB
                obtain ⟨gi, rfl⟩ : ∃ g, gk = g + 1 := ⟨gk - 1, by omega⟩
                clear hpj hat hat' e3 e3' HI
                by_cases c0 : ¬ nm = nm'
                · have e10 : ((B nm).toList == (B nm').toList) = false := by rw [B_eq]; simp [c0]
                  have HZ : Hid (sameS L cs ts L cs' ts' = false) := BAD.out (fun h => c0 h.1)
                  clear BAD HE HTI HSP
                  go_wp2_with fail
                  go_ret
                  rw [HZ.out]
                  exact ⟨rfl, KW⟩
                replace c0 := Classical.not_not.1 c0
                have e10 : ((B nm).toList == (B nm').toList) = true := by rw [B_eq]; simp [c0]
                by_cases c1 : ¬ pd = pd'
                · have e11 : (pd != pd') = true := by simp [c1]
                  have HZ : Hid (sameS L cs ts L cs' ts' = false) := BAD.out (fun h => c1 h.2.1)
                  clear BAD HE HTI HSP c0
                  go_wp2_with fail
                  go_ret
                  rw [HZ.out]
                  exact ⟨rfl, KW⟩
                replace c1 := Classical.not_not.1 c1
                have e11 : (pd != pd') = false := by simp [c1]
                by_cases c2 : ¬ dl = dl'
                · have e12 : (dl != dl') = true := by simp [c2]
                  have HZ : Hid (sameS L cs ts L cs' ts' = false) := BAD.out (fun h => c2 h.2.2.1)
                  clear BAD HE HTI HSP c0 c1
                  go_wp2_with fail
                  go_ret
                  rw [HZ.out]
                  exact ⟨rfl, KW⟩
                replace c2 := Classical.not_not.1 c2
                have e12 : (dl != dl') = false := by simp [c2]
                by_cases c3 : ¬ bu = bu'
                · have e13 : (bu != bu') = true := by simp [c3]
                  have HZ : Hid (sameS L cs ts L cs' ts' = false) := BAD.out (fun h => c3 h.2.2.2.1)
                  clear BAD HE HTI HSP c0 c1 c2
                  go_wp2_with fail
                  go_ret
                  rw [HZ.out]
                  exact ⟨rfl, KW⟩
                replace c3 := Classical.not_not.1 c3
                have e13 : (bu != bu') = false := by simp [c3]
                obtain ⟨z, hz⟩ : ∃ z, sameP pr pr' = z := ⟨_, rfl⟩
                rw [hz] at HSP
                cases z with
                | false =>
                  have HZ : Hid (sameS L cs ts L cs' ts' = false) := BAD.out (fun h => by rw [hz] at h; simp at h)
                  clear BAD HE HTI hz c0 c1 c2 c3
                  go_wp2_with fail
                  refine (HSP.out.run _ (Kept.refl _)).mono ?_
                  rintro e w9 ⟨rfl, t9⟩
                  go_wp2_with fail
                  go_ret
                  rw [HZ.out]
                  exact ⟨rfl, KW.trans t9⟩
                | true =>
                  have HX : Hid (sameTs (ts.drop (q + 1)) (ts'.drop (q + 1)) = sameTs ts ts') := by show _ = _; rw [HE.out, if_pos (HTI.out.2 ⟨c0, c1, c2, c3, hz⟩)]
                  clear BAD HE HTI hz c0 c1 c2 c3
                  go_wp2_with fail
                  refine (HSP.out.run _ (Kept.refl _)).mono ?_
                  rintro e w9 ⟨rfl, t9⟩
                  have T9 := KAB.trans t9
                  go_wp2_with fail
                  go_roundg gi
                  case rel => exact ⟨q + 1, _, rfl, by go_num, by omega, HX, KW.trans t9, HBq.out.kept T9, HBt.out.kept T9⟩
                  case measure => omega
              · have b1 : ¬ (q : Int) < (ts.length : Int) := by omega
                have HZ : Hid (sameS L cs ts L cs' ts' = true) := by
                  show _ = _
                  rw [HS2.out, ← HI.out, List.drop_of_length_le (by omega), List.drop_of_length_le (by have := HLT.out; omega)]
                  rfl
                go_wp2_with fail
                go_ret
                rw [HZ.out]
                exact ⟨rfl, KQ⟩
      · have e1 : (L != L') = false := by simp [hL]
        have e2 : ((cs.length : Int) != (cs'.length : Int)) = false := by simp [hcs]
        have e3 : ((ts.length : Int) != (ts'.length : Int)) = true := bne_iff_ne.2 (by omega)
        have HZ : Hid (sameS L cs ts L' cs' ts' = false) := by show _ = _; unfold sameS; rw [sameTs_len ts ts' hts, Bool.and_false]
        clear hL hcs hts
        go_enter Tryd.func35, Tryd.ntmps35
        go_wp2_with fail
        go_ret
        rw [HZ.out]
        exact ⟨rfl, K2⟩
    · have e1 : (L != L') = false := by simp [hL]
      have e2 : ((cs.length : Int) != (cs'.length : Int)) = true := bne_iff_ne.2 (by omega)
      have HZ : Hid (sameS L cs ts L' cs' ts' = false) := by show _ = _; unfold sameS; rw [sameCs_len cs cs' hcs, Bool.and_false, Bool.false_and]
      clear hL hcs
      go_enter Tryd.func35, Tryd.ntmps35
      go_wp2_with fail
      go_ret
      rw [HZ.out]
      exact ⟨rfl, K2⟩
  · have e1 : (L != L') = true := by simp [hL]
    have HZ : Hid (sameS L cs ts L' cs' ts' = false) := by show _ = _; unfold sameS; rw [beq_eq_false_iff_ne.2 hL]; rfl
    clear hL
    go_enter Tryd.func35, Tryd.ntmps35
    go_wp2_with fail
    go_ret
    rw [HZ.out]
    exact ⟨rfl, K2⟩
end Go.Proofs.YtolljdomnohmdaaDoor
