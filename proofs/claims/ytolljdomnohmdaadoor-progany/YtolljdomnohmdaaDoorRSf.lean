/- Sets that are alike: channels, programs, tasks; of the reference and of the program. -/
import Derived.Test.YtolljdomnohmdaaDoorRSe
import Derived.Test.YtolljdomnohmdaaDoorSetE
namespace Go.Proofs.YtolljdomnohmdaaDoor
open Go.RowKit

def sameH (a b : ChanD) : Bool := (a.room == b.room) && (a.server == b.server)
def sameCs : List ChanD → List ChanD → Bool
  | [], [] => true
  | a :: p, b :: q => if sameH a b = true then sameCs p q else false
  | _, _ => false
theorem sameCs_len : ∀ (p q : List ChanD), p.length ≠ q.length → sameCs p q = false
  | [], [], h => absurd rfl h
  | [], _ :: _, _ => rfl
  | _ :: _, [], _ => rfl
  | a :: r, b :: t, h => by
    rw [sameCs]
    split
    · exact sameCs_len r t (by simpa using h)
    · rfl
theorem neq98 (r s r' s' : Int) (w : World) : (binOp .neq 98 (.agg #[.int .i64 r, .int .i64 s]) (.agg #[.int .i64 r', .int .i64 s'])).run Tryd.prog w = .ok (.bool (!sameH ⟨r, s⟩ ⟨r', s'⟩)) w := by
  rw [run_neq_struct, run_equalIn_agg w 9999 98 _ _ (by simp [Program.fieldsOf, Tryd.underlying98]) (by kernel_rfl)]
  simp [Program.fieldsOf, Tryd.underlying98, Op.eqFields, go_sem]
  by_cases h1 : r = r' <;> by_cases h2 : s = s' <;> simp [sameH, h1, h2]
theorem grd98 (op : BinOp) (a b : Operand) (xs ys : Array Value) (w : World) : (eqGuard op 98 a b (.agg xs) (.agg ys)).run Tryd.prog w = .ok () w := run_eqGuard_agg w op 98 a b xs ys (by kernel_rfl)
theorem neq99 (r s r' s' : Int) (w : World) : (binOp .neq 99 (.agg #[.int .i64 r, .int .i64 s]) (.agg #[.int .i64 r', .int .i64 s'])).run Tryd.prog w = .ok (.bool (!sameH ⟨r, s⟩ ⟨r', s'⟩)) w := by
  rw [run_neq_struct, run_equalIn_agg w 9999 99 _ _ (by simp [Program.fieldsOf, Tryd.underlying99]) (by kernel_rfl)]
  simp [Program.fieldsOf, Tryd.underlying99, Op.eqFields, go_sem]
  by_cases h1 : r = r' <;> by_cases h2 : s = s' <;> simp [sameH, h1, h2]
theorem grd99 (op : BinOp) (a b : Operand) (xs ys : Array Value) (w : World) : (eqGuard op 99 a b (.agg xs) (.agg ys)).run Tryd.prog w = .ok () w := run_eqGuard_agg w op 99 a b xs ys (by kernel_rfl)
set_option maxHeartbeats 1000000 in
theorem eqch_any (a a' : Option Addr) (c c' : Nat) (l l' : List ChanD) (w : World) (hA : AtH w a l) (hA' : AtH w a' l') (hm : l.length ≤ 1000000) :
    Calls Tryd.prog 60 #[.slice a l.length c, .slice a' l'.length c'] w fun e w' => e = .returned (.bool (sameCs l l')) ∧ Kept w w' := by
  have HA : Hid (AtH w a l) := hA
  have HA' : Hid (AtH w a' l') := hA'
  clear hA hA'
  by_cases hmm : l.length = l'.length
  · obtain ⟨m, hml⟩ : ∃ m, l.length = m := ⟨_, rfl⟩
    have HL : Hid (l.length = m ∧ l'.length = m) := ⟨hml, by omega⟩
    rw [← hmm, hml]
    rw [hml] at hm
    clear hmm hml
    go_enter Tryd.func60, Tryd.ntmps60
    go_wp2_with fail
    go_loopg [13] m (fun gk i wr => ∃ k : Nat, i = .int .i64 k ∧ k + gk = m ∧ Hid (sameCs (l.drop k) (l'.drop k) = sameCs l l') ∧ Kept w wr)
    case atStart => exact ⟨0, rfl, by omega, rfl, Kept.refl _⟩
    case round =>
      obtain ⟨k, rfl, hk, HI, T⟩ := hrel
      by_cases hkm : k < m
      · obtain ⟨b, f, r, s, rfl, _, g0, g1, e3⟩ := (HA.out.kept T).get k (by rw [HL.out.1]; exact hkm)
        obtain ⟨b', f', r', s', rfl, _, g0', g1', e3'⟩ := (HA'.out.kept T).get k (by rw [HL.out.2]; exact hkm)
        have b1 : (k : Int) < (m : Int) := by omega
        have b2 : (0 : Int) ≤ (k : Int) := by omega
        have HE : Hid (sameCs l l' = if sameH ⟨r, s⟩ ⟨r', s'⟩ = true then sameCs (l.drop (k + 1)) (l'.drop (k + 1)) else false) := by show _ = _; rw [← HI.out, e3, e3']; rfl
        clear e3 e3' HI
        have hne := fun wx => neq99 r s r' s' wx
        have hgd := grd99
        cases hs : sameH ⟨r, s⟩ ⟨r', s'⟩ with
        | true =>
          simp only [hs, Bool.not_true] at hne
          have HX : Hid (sameCs (l.drop (k + 1)) (l'.drop (k + 1)) = sameCs l l') := by show _ = _; rw [HE.out, hs, if_pos rfl]
          obtain ⟨g3, rfl⟩ : ∃ g, gk = g + 1 := ⟨gk - 1, by omega⟩
          clear hs
          go_wp2_with fail
          go_quiet (fail)
          go_wp2_with fail
          go_roundg g3
          case rel => exact ⟨k + 1, by go_num, by omega, HX, T.drewN _⟩
          case measure => omega
        | false =>
          simp only [hs, Bool.not_false] at hne
          have HZ : Hid (sameCs l l' = false) := by show _ = _; rw [HE.out, hs, if_neg (by simp)]
          clear hs
          go_wp2_with fail
          go_quiet (fail)
          go_wp2_with fail
          go_ret
          rw [HZ.out]
          exact ⟨rfl, T.drewN _⟩
      · have b1 : ¬ (k : Int) < (m : Int) := by omega
        have HZ : Hid (sameCs l l' = true) := by show _ = _; rw [← HI.out, List.drop_eq_nil_of_le (by rw [HL.out.1]; omega), List.drop_eq_nil_of_le (by rw [HL.out.2]; omega)]; rfl
        go_wp2_with fail
        go_ret
        rw [HZ.out]
        exact ⟨rfl, T⟩
  · have hne : ((l.length : Int) != (l'.length : Int)) = true := by simp; omega
    have HZ : Hid (sameCs l l' = false) := sameCs_len l l' hmm
    go_enter Tryd.func60, Tryd.ntmps60
    go_wp2_with fail
    go_ret
    rw [HZ.out]
    exact ⟨rfl, Kept.refl _⟩
def sameS (L : Int) (cs : List ChanD) (ts : List TaskD) (L' : Int) (cs' : List ChanD) (ts' : List TaskD) : Bool := (L == L') && sameCs cs cs' && sameTs ts ts'
set_option maxHeartbeats 2000000 in
theorem psame_any (L L' : Int) (ca ca' ta ta' : Option Addr) (cc cc' tc tc' : Nat) (cs cs' : List ChanD) (ts ts' : List TaskD) (w : World) (hH : AtH w ca cs) (hH' : AtH w ca' cs') (hA : AtT w ta ts) (hB : AtT w ta' ts') (hl : ts.length ≤ 100000) (hcl : cs.length ≤ 1000000) (hok : TsOk ts) :
    Calls Tryd.prog 34 #[.agg #[.int .i64 L, .slice ca cs.length cc, .slice ta ts.length tc], .agg #[.int .i64 L', .slice ca' cs'.length cc', .slice ta' ts'.length tc']] w fun e w' => e = .returned (.bool (sameS L cs ts L' cs' ts')) ∧ Kept w w' := by
  have K2 := ((Kept.refl w).alloc (.cells #[.int .i64 L, .slice ca cs.length cc, .slice ta ts.length tc] 58)).alloc (.cells #[.int .i64 L', .slice ca' cs'.length cc', .slice ta' ts'.length tc'] 58)
  by_cases hL : L = L'
  · subst hL
    have e1 : (L == L) = true := beq_self_eq_true L
    have HB1 : Hid (Box w.heap.size ((w.alloc (.cells #[.int .i64 L, .slice ca cs.length cc, .slice ta ts.length tc] 58)).alloc (.cells #[.int .i64 L, .slice ca' cs'.length cc', .slice ta' ts'.length tc'] 58)) 58 w.heap.size [.int .i64 L, .slice ca cs.length cc, .slice ta ts.length tc]) := (box_new w.heap.size w 58 [.int .i64 L, .slice ca cs.length cc, .slice ta ts.length tc] (Nat.le_refl _) (by simp)).kept ((Kept.refl _).alloc _)
    have HB2 : Hid (Box w.heap.size ((w.alloc (.cells #[.int .i64 L, .slice ca cs.length cc, .slice ta ts.length tc] 58)).alloc (.cells #[.int .i64 L, .slice ca' cs'.length cc', .slice ta' ts'.length tc'] 58)) 58 (w.heap.size + 1) [.int .i64 L, .slice ca' cs'.length cc', .slice ta' ts'.length tc']) := by
      have h := box_new w.heap.size (w.alloc (.cells #[.int .i64 L, .slice ca cs.length cc, .slice ta ts.length tc] 58)) 58 [.int .i64 L, .slice ca' cs'.length cc', .slice ta' ts'.length tc'] (by simp) (by simp)
      rw [show (w.alloc (.cells #[.int .i64 L, .slice ca cs.length cc, .slice ta ts.length tc] 58)).heap.size = w.heap.size + 1 by simp] at h
      exact h
    have HET : Hid (∀ w', Kept w w' → Calls Tryd.prog 61 #[.slice ta ts.length tc, .slice ta' ts'.length tc', .func (.func 62) #[] #[]] w' fun e w'' => e = .returned (.bool (sameTs ts ts')) ∧ Kept w' w'') := fun w' t => eqtasks_any ta ta' tc tc' ts ts' w' (hA.kept t) (hB.kept t) hl hok
    have hec := eqch_any ca ca' cc cc' cs cs' _ (hH.kept K2) (hH'.kept K2) hcl
    obtain ⟨zc, hzc⟩ : ∃ z, sameCs cs cs' = z := ⟨_, rfl⟩
    rw [hzc] at hec
    have HS : Hid (sameS L cs ts L cs' ts' = (zc && sameTs ts ts')) := by show _ = _; unfold sameS; rw [e1, hzc, Bool.true_and]
    clear hA hB hok hH hH' hzc
    go_enter Tryd.func34, Tryd.ntmps34
    go_wp2_with fail
    refine hec.mono ?_
    rintro e w3 ⟨rfl, t3⟩
    have K3 := K2.trans t3
    cases zc with
    | false =>
      go_wp2_with fail
      go_ret
      rw [HS.out]
      exact ⟨rfl, K3⟩
    | true =>
      have u2 : w3.cell? ⟨w.heap.size, 2, none⟩ = some (.slice ta ts.length tc) := (HB1.out.kept t3).cell 2 (by simp)
      have v2 : w3.cell? ⟨w.heap.size + 1, 2, none⟩ = some (.slice ta' ts'.length tc') := (HB2.out.kept t3).cell 2 (by simp)
      have h4 := HET.out w3 K3
      obtain ⟨zt, hzt⟩ : ∃ z, sameTs ts ts' = z := ⟨_, rfl⟩
      rw [hzt] at h4 HS
      clear hzt hec
      go_wp2_with fail
      refine h4.mono ?_
      rintro e w4 ⟨rfl, t4⟩
      cases zt with
      | true =>
        go_wp2_with fail
        go_ret
        rw [HS.out]
        exact ⟨rfl, K3.trans t4⟩
      | false =>
        go_wp2_with fail
        go_ret
        rw [HS.out]
        exact ⟨rfl, K3.trans t4⟩
  · have e1 : (L == L') = false := beq_eq_false_iff_ne.2 hL
    have HS : Hid (sameS L cs ts L' cs' ts' = false) := by show _ = _; unfold sameS; rw [e1]; rfl
    clear hA hB hok hH hH'
    go_enter Tryd.func34, Tryd.ntmps34
    go_wp2_with fail
    go_ret
    rw [HS.out]
    exact ⟨rfl, K2⟩
end Go.Proofs.YtolljdomnohmdaaDoor
