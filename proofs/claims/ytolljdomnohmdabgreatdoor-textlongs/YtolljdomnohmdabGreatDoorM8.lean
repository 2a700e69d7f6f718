/- Same, of the program and of the reference. -/
import Derived.Deep.LoopGhost
import Derived.Laws.StructEq
import Derived.Test.YtolljdomnohmdabGreatDoorCas
import Derived.Test.YtolljdomnohmdabGreatDoorM3
namespace Go.Proofs.YtolljdomnohmdabGreatDoor
open Go.RowKit

theorem sameL_len : ∀ {x y : List CaseD}, x.length ≠ y.length → sameL x y = false
  | [], [], h => absurd rfl h
  | [], _ :: _, _ => rfl
  | _ :: _, [], _ => rfl
  | a :: r, b :: t, h => by rw [sameL, sameL_len (x := r) (y := t) (by simpa using h), Bool.and_false]

theorem neq46 (s s' : Bool) (c c' v v' : Int) (w : World) : (binOp .neq 57 (.agg #[.bool s, .int .i64 c, .int .i64 v]) (.agg #[.bool s', .int .i64 c', .int .i64 v'])).run Tryz.prog w = .ok (.bool (!sameC ⟨s, c, v⟩ ⟨s', c', v'⟩)) w := by
  rw [run_neq_struct, run_equalIn_agg w 9999 57 _ _ (by simp [Program.fieldsOf, Tryz.underlying57]) (by kernel_rfl)]
  simp [Program.fieldsOf, Tryz.underlying57, Op.eqFields, go_sem]
  by_cases h1 : s = s' <;> by_cases h2 : c = c' <;> by_cases h3 : v = v' <;> simp [sameC, h1, h2, h3]
theorem grd46 (op : BinOp) (a b : Operand) (xs ys : Array Value) (w : World) : (eqGuard op 57 a b (.agg xs) (.agg ys)).run Tryz.prog w = .ok () w := run_eqGuard_agg w op 57 a b xs ys (by kernel_rfl)
theorem neq50 (s s' : Bool) (c c' v v' : Int) (w : World) : (binOp .neq 108 (.agg #[.bool s, .int .i64 c, .int .i64 v]) (.agg #[.bool s', .int .i64 c', .int .i64 v'])).run Tryz.prog w = .ok (.bool (!sameC ⟨s, c, v⟩ ⟨s', c', v'⟩)) w := by
  rw [run_neq_struct, run_equalIn_agg w 9999 108 _ _ (by simp [Program.fieldsOf, Tryz.underlying108]) (by kernel_rfl)]
  simp [Program.fieldsOf, Tryz.underlying108, Op.eqFields, go_sem]
  by_cases h1 : s = s' <;> by_cases h2 : c = c' <;> by_cases h3 : v = v' <;> simp [sameC, h1, h2, h3]
theorem grd50 (op : BinOp) (a b : Operand) (xs ys : Array Value) (w : World) : (eqGuard op 108 a b (.agg xs) (.agg ys)).run Tryz.prog w = .ok () w := run_eqGuard_agg w op 108 a b xs ys (by kernel_rfl)

end Go.Proofs.YtolljdomnohmdabGreatDoor
namespace Go.Proofs.YtolljdomnohmdabGreatDoor
open Go.RowKit

set_option maxHeartbeats 2000000 in
theorem rsame_any (k n v wt k' n' v' wt' : Int) (a a' : Option Addr) (m m' c c' : Nat) (l l' : List CaseD) (w : World) (hA : AtC w a m l) (hA' : AtC w a' m' l') (hm : m ≤ 1000000) :
    Calls Tryz.prog 39 #[.agg #[.int .i64 k, .int .i64 n, .int .i64 v, .int .i64 wt, .slice a m c], .agg #[.int .i64 k', .int .i64 n', .int .i64 v', .int .i64 wt', .slice a' m' c']] w fun e w' => e = .returned (.bool (sameD ⟨k, n, v, wt, l⟩ ⟨k', n', v', wt', l'⟩)) ∧ Kept w w' := by
  by_cases hq_k : k = k'
  rotate_left
  · have t1 : (k != k') = true := by simp [hq_k]
    have HR : Hid (sameD ⟨k, n, v, wt, l⟩ ⟨k', n', v', wt', l'⟩ = false) := by show _ = _; simp [sameD, hq_k]
    clear hA hA' hq_k
    go_enter Tryz.func39, Tryz.ntmps39
    go_wp2_with fail
    go_ret
    rw [HR.out]
    exact ⟨rfl, ((Kept.refl w).alloc _).alloc _⟩
  subst hq_k
  by_cases hq_n : n = n'
  rotate_left
  · have t1 : (n != n') = true := by simp [hq_n]
    have HR : Hid (sameD ⟨k, n, v, wt, l⟩ ⟨k, n', v', wt', l'⟩ = false) := by show _ = _; simp [sameD, hq_n]
    clear hA hA' hq_n
    go_enter Tryz.func39, Tryz.ntmps39
    go_wp2_with fail
    go_ret
    rw [HR.out]
    exact ⟨rfl, ((Kept.refl w).alloc _).alloc _⟩
  subst hq_n
  by_cases hq_v : v = v'
  rotate_left
  · have t1 : (v != v') = true := by simp [hq_v]
    have HR : Hid (sameD ⟨k, n, v, wt, l⟩ ⟨k, n, v', wt', l'⟩ = false) := by show _ = _; simp [sameD, hq_v]
    clear hA hA' hq_v
    go_enter Tryz.func39, Tryz.ntmps39
    go_wp2_with fail
    go_ret
    rw [HR.out]
    exact ⟨rfl, ((Kept.refl w).alloc _).alloc _⟩
  subst hq_v
  by_cases hq_wt : wt = wt'
  rotate_left
  · have t1 : (wt != wt') = true := by simp [hq_wt]
    have HR : Hid (sameD ⟨k, n, v, wt, l⟩ ⟨k, n, v, wt', l'⟩ = false) := by show _ = _; simp [sameD, hq_wt]
    clear hA hA' hq_wt
    go_enter Tryz.func39, Tryz.ntmps39
    go_wp2_with fail
    go_ret
    rw [HR.out]
    exact ⟨rfl, ((Kept.refl w).alloc _).alloc _⟩
  subst hq_wt
  by_cases hmm : m = m'
  · subst hmm
    have HR0 : Hid (sameD ⟨k, n, v, wt, l⟩ ⟨k, n, v, wt, l'⟩ = sameL l l') := by show _ = _; simp [sameD]
    have HA : Hid (AtC w a m l) := hA
    have HA' : Hid (AtC w a' m l') := hA'
    have HL : Hid (l.length = m ∧ l'.length = m) := ⟨hA.1, hA'.1⟩
    have K1 : Kept w ((w.alloc (.cells #[.int .i64 k, .int .i64 n, .int .i64 v, .int .i64 wt, .slice a m c] 102)).alloc (.cells #[.int .i64 k, .int .i64 n, .int .i64 v, .int .i64 wt, .slice a' m c'] 102)) := ((Kept.refl w).alloc _).alloc _
    have GA : Hid (((w.alloc (.cells #[.int .i64 k, .int .i64 n, .int .i64 v, .int .i64 wt, .slice a m c] 102)).alloc (.cells #[.int .i64 k, .int .i64 n, .int .i64 v, .int .i64 wt, .slice a' m c'] 102)).cell? ⟨w.heap.size, 4, none⟩ = some (.slice a m c)) := by show _ = _; rw [World.cell?_alloc2_first]; rfl
    have GB : Hid (((w.alloc (.cells #[.int .i64 k, .int .i64 n, .int .i64 v, .int .i64 wt, .slice a m c] 102)).alloc (.cells #[.int .i64 k, .int .i64 n, .int .i64 v, .int .i64 wt, .slice a' m c'] 102)).cell? ⟨w.heap.size + 1, 4, none⟩ = some (.slice a' m c')) := by show _ = _; rw [World.cell?_alloc2_new]; rfl
    clear hA hA'
    go_enter Tryz.func39, Tryz.ntmps39
    go_wp2_with fail
    go_loopg [5] m (fun gk i wr => ∃ j : Nat, i = .int .i64 j ∧ j + gk = m ∧ Hid (sameL (l.drop j) (l'.drop j) = sameL l l') ∧ Kept ((w.alloc (.cells #[.int .i64 k, .int .i64 n, .int .i64 v, .int .i64 wt, .slice a m c] 102)).alloc (.cells #[.int .i64 k, .int .i64 n, .int .i64 v, .int .i64 wt, .slice a' m c'] 102)) wr)
    case atStart => exact ⟨0, rfl, by omega, rfl, Kept.refl _⟩
    case round =>
      obtain ⟨j, rfl, hj, HI, T⟩ := hrel
      have ga := T.cell GA.out
      have gb := T.cell GB.out
      have la := cell_lt ga
      have lb := cell_lt gb
      have T2 := K1.trans T
      by_cases hjm : j < m
      · obtain ⟨b, f, sd, ch, x, rfl, g0, g1, g2, hb, _, _, e3⟩ := (HA.out.kept T2).get j hjm
        obtain ⟨b', f', sd', ch', x', rfl, g0', g1', g2', hb', _, _, e3'⟩ := (HA'.out.kept T2).get j hjm
        have b1 : (j : Int) < (m : Int) := by omega
        have b2 : (0 : Int) ≤ (j : Int) := by omega
        have HE : Hid (sameL l l' = (sameC ⟨sd, ch, x⟩ ⟨sd', ch', x'⟩ && sameL (l.drop (j + 1)) (l'.drop (j + 1)))) := by show _ = _; rw [← HI.out, e3, e3']; rfl
        clear e3 e3' HI
        have hne := fun wx => neq50 sd sd' ch ch' x x' wx
        have hgd := grd50
        cases hs : sameC ⟨sd, ch, x⟩ ⟨sd', ch', x'⟩ with
        | true =>
          simp only [hs, Bool.not_true] at hne
          have HX : Hid (sameL (l.drop (j + 1)) (l'.drop (j + 1)) = sameL l l') := by show _ = _; rw [HE.out, hs, Bool.true_and]
          obtain ⟨g3, rfl⟩ : ∃ g, gk = g + 1 := ⟨gk - 1, by omega⟩
          clear hs
          go_wp2_with fail
          go_quiet (fail)
          go_wp2_with fail
          go_roundg g3
          case rel => exact ⟨j + 1, by go_num, by omega, HX, T.drewN _⟩
          case measure => omega
        | false =>
          simp only [hs, Bool.not_false] at hne
          have HX : Hid (sameL l l' = false) := by show _ = _; rw [HE.out, hs, Bool.false_and]
          clear hs
          go_wp2_with fail
          go_quiet (fail)
          go_wp2_with fail
          go_ret
          rw [HR0.out, HX.out]
          exact ⟨rfl, T2.drewN _⟩
      · have b1 : ¬ (j : Int) < (m : Int) := by omega
        have HR : Hid (sameL l l' = true) := by
          show _ = _
          rw [← HI.out, List.drop_of_length_le (by rw [HL.out.1]; omega), List.drop_of_length_le (by rw [HL.out.2]; omega)]; rfl
        go_wp2_with fail
        go_ret
        rw [HR0.out, HR.out]
        exact ⟨rfl, T2⟩
  · have t1 : ((m : Int) != (m' : Int)) = true := by simp; omega
    have HR : Hid (sameD ⟨k, n, v, wt, l⟩ ⟨k, n, v, wt, l'⟩ = false) := by show _ = _; simp [sameD, sameL_len (x := l) (y := l') (by rw [hA.1, hA'.1]; exact hmm)]
    clear hA hA' hmm
    go_enter Tryz.func39, Tryz.ntmps39
    go_wp2_with fail
    go_ret
    rw [HR.out]
    exact ⟨rfl, ((Kept.refl w).alloc _).alloc _⟩

end Go.Proofs.YtolljdomnohmdabGreatDoor
