/- The reference's Find, SetWaits, Need. Sets that are alike: channels, programs, tasks; of the reference and of the program. The reference's SameProg, SameSet. -/
import Derived.Test.YtolljdomnohmdaaGreatDoorM2
import Derived.Test.YtolljdomnohmdaaGreatDoorCas
import Derived.Test.YtolljdomnohmdaaGreatDoorCheck
import Derived.Test.YtolljdomnohmdaaGreatDoorM3
import Derived.Test.YtolljdomnohmdaaGreatDoorM4
import Derived.Test.YtolljdomnohmdaaGreatDoorM0
import Derived.Test.YtolljdomnohmdaaGreatDoorM5
import Derived.Test.YtolljdomnohmdaaGreatDoorOpO
import Derived.Test.YtolljdomnohmdaaGreatDoorM1
import Derived.Test.YtolljdomnohmdaaGreatDoorOpT
import Derived.Test.YtolljdomnohmdaaGreatDoorPar
import Derived.Test.YtolljdomnohmdaaGreatDoorM6
import Derived.Test.YtolljdomnohmdaaGreatDoorM8
import Derived.Test.YtolljdomnohmdaaGreatDoorTxt
import Derived.Test.YtolljdomnohmdaaGreatDoorRWrd
import Derived.Test.YtolljdomnohmdaaGreatDoorRead
import Derived.Test.YtolljdomnohmdaaGreatDoorM9
import Derived.Test.YtolljdomnohmdaaGreatDoorTrn
import Derived.Test.YtolljdomnohmdaaGreatDoorM18
import Derived.Test.YtolljdomnohmdaaGreatDoorM14
import Derived.Test.YtolljdomnohmdaaGreatDoorQStA
namespace Go.Proofs.YtolljdomnohmdaaGreatDoor
open Go.RowKit

end Go.Proofs.YtolljdomnohmdaaGreatDoor
namespace Go.Proofs.YtolljdomnohmdaaGreatDoor
open Go.RowKit

def sameH (a b : ChanD) : Bool := (a.room == b.room) && (a.server == b.server)
def sameCs : List ChanD → List ChanD → Bool
  | [], [] => true
  | a :: p, b :: q => if sameH a b = true then sameCs p q else false
  | _, _ => false
theorem sameCs_len : ∀ (p q : List ChanD), p.length ≠ q.length → sameCs p q = false
  | [], [], h => absurd rfl h
  | [], _ :: _, _ => rfl
  | _ :: _, [], _ => rfl
  | a :: r, b :: t, h => by
    rw [sameCs]
    split
    · exact sameCs_len r t (by simpa using h)
    · rfl
theorem neq98 (r s r' s' : Int) (w : World) : (binOp .neq 72 (.agg #[.int .i64 r, .int .i64 s]) (.agg #[.int .i64 r', .int .i64 s'])).run Tryz.prog w = .ok (.bool (!sameH ⟨r, s⟩ ⟨r', s'⟩)) w := by
  rw [run_neq_struct, run_equalIn_agg w 9999 72 _ _ (by simp [Program.fieldsOf, Tryz.underlying72]) (by kernel_rfl)]
  simp [Program.fieldsOf, Tryz.underlying72, Op.eqFields, go_sem]
  by_cases h1 : r = r' <;> by_cases h2 : s = s' <;> simp [sameH, h1, h2]
theorem grd98 (op : BinOp) (a b : Operand) (xs ys : Array Value) (w : World) : (eqGuard op 72 a b (.agg xs) (.agg ys)).run Tryz.prog w = .ok () w := run_eqGuard_agg w op 72 a b xs ys (by kernel_rfl)
theorem neq99 (r s r' s' : Int) (w : World) : (binOp .neq 62 (.agg #[.int .i64 r, .int .i64 s]) (.agg #[.int .i64 r', .int .i64 s'])).run Tryz.prog w = .ok (.bool (!sameH ⟨r, s⟩ ⟨r', s'⟩)) w := by
  rw [run_neq_struct, run_equalIn_agg w 9999 62 _ _ (by simp [Program.fieldsOf, Tryz.underlying62]) (by kernel_rfl)]
  simp [Program.fieldsOf, Tryz.underlying62, Op.eqFields, go_sem]
  by_cases h1 : r = r' <;> by_cases h2 : s = s' <;> simp [sameH, h1, h2]
theorem grd99 (op : BinOp) (a b : Operand) (xs ys : Array Value) (w : World) : (eqGuard op 62 a b (.agg xs) (.agg ys)).run Tryz.prog w = .ok () w := run_eqGuard_agg w op 62 a b xs ys (by kernel_rfl)
def sameS (L : Int) (cs : List ChanD) (ts : List TaskD) (L' : Int) (cs' : List ChanD) (ts' : List TaskD) : Bool := (L == L') && sameCs cs cs' && sameTs ts ts'
end Go.Proofs.YtolljdomnohmdaaGreatDoor
namespace Go.Proofs.YtolljdomnohmdaaGreatDoor
open Go.RowKit

/-- A call that tells v in every later world. -/
structure RunB (f : FuncId) (args : Array Value) (w : World) (v : Value) : Prop where
  run : ∀ wx, Kept w wx → Calls Tryz.prog f args wx fun e w' => e = .returned v ∧ Kept wx w'
set_option maxHeartbeats 4000000 in
set_option maxRecDepth 10000 in
theorem rsameP_any (a b : Option Addr) (c d : Nat) (p q : List OpD) (w : World) (hA : AtP w a p) (hB : AtP w b q) (hp : p.length ≤ 100000) (hc : ∀ o ∈ p, o.cases.length ≤ 1000000) :
    Calls Tryz.prog 30 #[.slice a p.length c, .slice b q.length d] w fun e w' => e = .returned (.bool (sameP p q)) ∧ Kept w w' := by
  have HA : Hid (AtP w a p) := hA
  have HB : Hid (AtP w b q) := hB
  have HC : Hid (∀ o ∈ p, o.cases.length ≤ 1000000) := hc
  clear hA hB hc
  by_cases hpq : p.length = q.length
  · obtain ⟨m, hml⟩ : ∃ m, p.length = m := ⟨_, rfl⟩
    have HL : Hid (p.length = m ∧ q.length = m) := ⟨hml, by omega⟩
    rw [← hpq, hml]
    rw [hml] at hp
    clear hpq hml
    go_enter Tryz.func30, Tryz.ntmps30
    go_wp2_with fail
    go_loopg [5] m (fun gk i wr => ∃ (k : Nat) (W : World), W = wr ∧ i = .int .i64 k ∧ k + gk = m ∧ Hid (sameP (p.drop k) (q.drop k) = sameP p q) ∧ Kept w W)
    case atStart => exact ⟨0, _, rfl, rfl, by omega, rfl, Kept.refl _⟩
    case round =>
      obtain ⟨j, W, hW, rfl, hk, HI, K⟩ := hrel
      subst hW
      by_cases hkm : j < m
      · obtain ⟨b1, f1, k, n, v, wt, l, la, lc, rfl, hpj, g0, g1, g2, g3, g4, _, hat, _, e3⟩ := (HA.out.kept K).get j (by rw [HL.out.1]; exact hkm)
        obtain ⟨b2, f2, k', n', v', wt', l', la', lc', rfl, _, g0', g1', g2', g3', g4', _, hat', _, e3'⟩ := (HB.out.kept K).get j (by rw [HL.out.2]; exact hkm)
        have c1 : (j : Int) < (m : Int) := by omega
        have c2 : (0 : Int) ≤ (j : Int) := by omega
        have HE : Hid (sameP p q = if sameD ⟨k, n, v, wt, l⟩ ⟨k', n', v', wt', l'⟩ = true then sameP (p.drop (j + 1)) (q.drop (j + 1)) else false) := by show _ = _; rw [← HI.out, e3, e3']; rfl
        obtain ⟨z, hz⟩ : ∃ z, sameD ⟨k, n, v, wt, l⟩ ⟨k', n', v', wt', l'⟩ = z := ⟨_, rfl⟩
        have HSM : Hid (RunB 50 #[.agg #[.int .i64 k, .int .i64 n, .int .i64 v, .int .i64 wt, .slice la l.length lc], .agg #[.int .i64 k', .int .i64 n', .int .i64 v', .int .i64 wt', .slice la' l'.length lc']] W (.bool z)) := ⟨fun wx kx => by
          have h := rsame_any k n v wt k' n' v' wt' la la' l.length l'.length lc lc' l l' wx (hat.kept kx) (hat'.kept kx) (HC.out _ (List.mem_of_getElem? hpj))
          rw [hz] at h
          exact h⟩
        rw [hz] at HE
        have KD : Kept W W.drew := (Kept.refl W).drew
        obtain ⟨gi, rfl⟩ : ∃ g, gk = g + 1 := ⟨gk - 1, by omega⟩
        clear e3 e3' HI hz hpj hat hat'
        cases z with
        | true =>
          have HX : Hid (sameP (p.drop (j + 1)) (q.drop (j + 1)) = sameP p q) := by show _ = _; rw [HE.out, if_pos rfl]
          clear HE
          go_wp2_with fail
          go_region_held3 (fun w' => w'.cell? ⟨b1, f1 + j * 5, none⟩ = some (.int .i64 k) ∧ w'.cell? ⟨b1, f1 + j * 5 + 1, none⟩ = some (.int .i64 n) ∧ w'.cell? ⟨b1, f1 + j * 5 + 2, none⟩ = some (.int .i64 v) ∧ w'.cell? ⟨b1, f1 + j * 5 + 3, none⟩ = some (.int .i64 wt) ∧ w'.cell? ⟨b1, f1 + j * 5 + 4, none⟩ = some (.slice la l.length lc) ∧ w'.cell? ⟨b2, f2 + j * 5, none⟩ = some (.int .i64 k') ∧ w'.cell? ⟨b2, f2 + j * 5 + 1, none⟩ = some (.int .i64 n') ∧ w'.cell? ⟨b2, f2 + j * 5 + 2, none⟩ = some (.int .i64 v') ∧ w'.cell? ⟨b2, f2 + j * 5 + 3, none⟩ = some (.int .i64 wt') ∧ w'.cell? ⟨b2, f2 + j * 5 + 4, none⟩ = some (.slice la' l'.length lc')) (go_keep) (first | (go_at_call 50; refine (HSM.out.run _ KD).mono ?_; rintro e w8 ⟨rfl, t8⟩; have K8 := ((Kept.refl W).drew).trans t8; have y0 := K8.cell g0; have y1 := K8.cell g1; have y2 := K8.cell g2; have y3 := K8.cell g3; have y4 := K8.cell g4; have y5 := K8.cell g0'; have y6 := K8.cell g1'; have y7 := K8.cell g2'; have y8 := K8.cell g3'; have y9 := K8.cell g4') | fail)
          go_wp2_with fail
          go_roundg gi
          case rel => exact ⟨j + 1, _, rfl, by go_num, by omega, HX, K.trans K8⟩
          case measure => omega
        | false =>
          have HX : Hid (sameP p q = false) := by show _ = _; rw [HE.out, if_neg (by simp)]
          clear HE
          go_wp2_with fail
          go_region_held3 (fun w' => w'.cell? ⟨b1, f1 + j * 5, none⟩ = some (.int .i64 k) ∧ w'.cell? ⟨b1, f1 + j * 5 + 1, none⟩ = some (.int .i64 n) ∧ w'.cell? ⟨b1, f1 + j * 5 + 2, none⟩ = some (.int .i64 v) ∧ w'.cell? ⟨b1, f1 + j * 5 + 3, none⟩ = some (.int .i64 wt) ∧ w'.cell? ⟨b1, f1 + j * 5 + 4, none⟩ = some (.slice la l.length lc) ∧ w'.cell? ⟨b2, f2 + j * 5, none⟩ = some (.int .i64 k') ∧ w'.cell? ⟨b2, f2 + j * 5 + 1, none⟩ = some (.int .i64 n') ∧ w'.cell? ⟨b2, f2 + j * 5 + 2, none⟩ = some (.int .i64 v') ∧ w'.cell? ⟨b2, f2 + j * 5 + 3, none⟩ = some (.int .i64 wt') ∧ w'.cell? ⟨b2, f2 + j * 5 + 4, none⟩ = some (.slice la' l'.length lc')) (go_keep) (first | (go_at_call 50; refine (HSM.out.run _ KD).mono ?_; rintro e w8 ⟨rfl, t8⟩; have K8 := ((Kept.refl W).drew).trans t8; have y0 := K8.cell g0; have y1 := K8.cell g1; have y2 := K8.cell g2; have y3 := K8.cell g3; have y4 := K8.cell g4; have y5 := K8.cell g0'; have y6 := K8.cell g1'; have y7 := K8.cell g2'; have y8 := K8.cell g3'; have y9 := K8.cell g4') | fail)
          go_wp2_with fail
          go_ret
          rw [HX.out]
          exact ⟨rfl, K.trans K8⟩
      · have c1 : ¬ (j : Int) < (m : Int) := by omega
        have HR : Hid (sameP p q = true) := by
          show _ = _
          rw [← HI.out, List.drop_of_length_le (by rw [HL.out.1]; omega), List.drop_of_length_le (by rw [HL.out.2]; omega)]; rfl
        go_wp2_with fail
        go_ret
        rw [HR.out]
        exact ⟨rfl, K⟩
  · have h1 : ((p.length : Int) != (q.length : Int)) = true := by simp; omega
    have HR : Hid (sameP p q = false) := sameP_len p q hpq
    go_enter Tryz.func30, Tryz.ntmps30
    go_wp2_with fail
    go_ret
    rw [HR.out]
    exact ⟨rfl, Kept.refl _⟩
theorem sameT_iff (a b : TaskD) : sameT a b = true ↔ a.name = b.name ∧ a.period = b.period ∧ a.deadline = b.deadline ∧ a.budget = b.budget ∧ sameP a.prog b.prog = true := by
  unfold sameT
  simp only [Bool.and_eq_true, decide_eq_true_eq, and_assoc]
set_option maxHeartbeats 8000000 in
set_option maxRecDepth 10000 in
theorem rsset_any (L L' : Int) (ca ca' ta ta' : Option Addr) (cc cc' tc tc' : Nat) (cs cs' : List ChanD) (ts ts' : List TaskD) (w : World) (hH : AtH w ca cs) (hH' : AtH w ca' cs') (hA : AtT w ta ts) (hB : AtT w ta' ts') (hl : ts.length ≤ 100000) (hcl : cs.length ≤ 100000) (hok : TsOk ts) :
    Calls Tryz.prog 12 #[.agg #[.int .i64 L, .slice ca cs.length cc, .slice ta ts.length tc], .agg #[.int .i64 L', .slice ca' cs'.length cc', .slice ta' ts'.length tc']] w fun e w' => e = .returned (.bool (sameS L cs ts L' cs' ts')) ∧ Kept w w' := by
  have HH : Hid (AtH w ca cs) := hH
  have HH' : Hid (AtH w ca' cs') := hH'
  have HA : Hid (AtT w ta ts) := hA
  have HA' : Hid (AtT w ta' ts') := hB
  have HO : Hid (TsOk ts) := hok
  clear hH hH' hA hB hok
  have K2 : Kept w ((w.alloc (.cells #[.int .i64 L, .slice ca cs.length cc, .slice ta ts.length tc] 25)).alloc (.cells #[.int .i64 L', .slice ca' cs'.length cc', .slice ta' ts'.length tc'] 25)) := ((Kept.refl w).alloc _).alloc _
  by_cases hL : L = L'
  · by_cases hcs : cs.length = cs'.length
    · by_cases hts : ts.length = ts'.length
      · subst hL
        have HLC : Hid (cs.length = cs'.length) := hcs
        have HLT : Hid (ts.length = ts'.length) := hts
        rw [← hcs, ← hts]
        have K2 : Kept w ((w.alloc (.cells #[.int .i64 L, .slice ca cs.length cc, .slice ta ts.length tc] 25)).alloc (.cells #[.int .i64 L, .slice ca' cs.length cc', .slice ta' ts.length tc'] 25)) := ((Kept.refl w).alloc _).alloc _
        clear hcs hts
        have HB1 : Hid (Box w.heap.size ((w.alloc (.cells #[.int .i64 L, .slice ca cs.length cc, .slice ta ts.length tc] 25)).alloc (.cells #[.int .i64 L, .slice ca' cs.length cc', .slice ta' ts.length tc'] 25)) 25 w.heap.size [.int .i64 L, .slice ca cs.length cc, .slice ta ts.length tc]) := (box_new w.heap.size w 25 [.int .i64 L, .slice ca cs.length cc, .slice ta ts.length tc] (Nat.le_refl _) (by simp)).kept ((Kept.refl _).alloc _)
        have HB2 : Hid (Box w.heap.size ((w.alloc (.cells #[.int .i64 L, .slice ca cs.length cc, .slice ta ts.length tc] 25)).alloc (.cells #[.int .i64 L, .slice ca' cs.length cc', .slice ta' ts.length tc'] 25)) 25 (w.heap.size + 1) [.int .i64 L, .slice ca' cs.length cc', .slice ta' ts.length tc']) := by
          have h := box_new w.heap.size (w.alloc (.cells #[.int .i64 L, .slice ca cs.length cc, .slice ta ts.length tc] 25)) 25 [.int .i64 L, .slice ca' cs.length cc', .slice ta' ts.length tc'] (by simp) (by simp)
          rw [show (w.alloc (.cells #[.int .i64 L, .slice ca cs.length cc, .slice ta ts.length tc] 25)).heap.size = w.heap.size + 1 by simp] at h
          exact h
        have HS : Hid (sameS L cs ts L cs' ts' = (sameCs cs cs' && sameTs ts ts')) := by show _ = _; unfold sameS; rw [beq_self_eq_true, Bool.true_and]
        go_enter Tryz.func12, Tryz.ntmps12
        go_wp2_with fail
        generalize ((w.alloc (.cells #[.int .i64 L, .slice ca cs.length cc, .slice ta ts.length tc] 25)).alloc (.cells #[.int .i64 L, .slice ca' cs.length cc', .slice ta' ts.length tc'] 25)) = W2 at *
        go_loopg [5] cs.length (fun gk i wr => ∃ (j : Nat) (W : World), W = wr ∧ i = .int .i64 j ∧ j + gk = cs.length ∧ Hid (sameCs (cs.drop j) (cs'.drop j) = sameCs cs cs') ∧ Kept w W ∧ Hid (Box w.heap.size W 25 w.heap.size [.int .i64 L, .slice ca cs.length cc, .slice ta ts.length tc]) ∧ Hid (Box w.heap.size W 25 (w.heap.size + 1) [.int .i64 L, .slice ca' cs.length cc', .slice ta' ts.length tc']))
        case atStart => exact ⟨0, _, rfl, rfl, by omega, rfl, K2, HB1, HB2⟩
        case round =>
          obtain ⟨j, W, hW, rfl, hj, HI, K, HBr, HBs⟩ := hrel
          subst hW
          have s1 : W.cell? ⟨w.heap.size, 1, none⟩ = some (.slice ca cs.length cc) := HBr.out.cell 1 (by simp)
          have r1 : W.cell? ⟨w.heap.size + 1, 1, none⟩ = some (.slice ca' cs.length cc') := HBs.out.cell 1 (by simp)
          by_cases hjp : j < cs.length
          · obtain ⟨b, f, r, s, rfl, _, g0, g1, e3⟩ := (HH.out.kept K).get j hjp
            obtain ⟨b', f', r', s', rfl, _, g0', g1', e3'⟩ := (HH'.out.kept K).get j (by rw [← HLC.out]; exact hjp)
            have b1 : (j : Int) < (cs.length : Int) := by omega
            have b2 : (0 : Int) ≤ (j : Int) := by omega
            have b3 : (j : Int) < (cs'.length : Int) := by have := HLC.out; omega
            have HE : Hid (sameCs cs cs' = if sameH ⟨r, s⟩ ⟨r', s'⟩ = true then sameCs (cs.drop (j + 1)) (cs'.drop (j + 1)) else false) := by show _ = _; rw [← HI.out, e3, e3']; rfl
            clear e3 e3' HI
            have hne := fun wx => neq98 r s r' s' wx
            have hgd := grd98
            obtain ⟨gi, rfl⟩ : ∃ g, gk = g + 1 := ⟨gk - 1, by omega⟩
            cases hs : sameH ⟨r, s⟩ ⟨r', s'⟩ with
            | true =>
              simp only [hs, Bool.not_true] at hne
              have HX : Hid (sameCs (cs.drop (j + 1)) (cs'.drop (j + 1)) = sameCs cs cs') := by show _ = _; rw [HE.out, hs, if_pos rfl]
              clear hs HE
              go_wp2_with fail
              go_quiet (fail)
              go_wp2_with fail
              go_roundg gi
              case rel => exact ⟨j + 1, _, rfl, by go_num, by omega, HX, K.drewN _, HBr.out.kept ((Kept.refl W).drewN _), HBs.out.kept ((Kept.refl W).drewN _)⟩
              case measure => omega
            | false =>
              simp only [hs, Bool.not_false] at hne
              have HZ : Hid (sameS L cs ts L cs' ts' = false) := by show _ = _; rw [HS.out, HE.out, hs, if_neg (by simp)]; rfl
              clear hs HE
              go_wp2_with fail
              go_quiet (fail)
              go_wp2_with fail
              go_ret
              rw [HZ.out]
              exact ⟨rfl, K.drewN _⟩
          · have b1 : ¬ (j : Int) < (cs.length : Int) := by omega
            have HS2 : Hid (sameS L cs ts L cs' ts' = sameTs ts ts') := by
              show _ = _
              rw [HS.out, ← HI.out, List.drop_of_length_le (by omega), List.drop_of_length_le (by have := HLC.out; omega)]
              rfl
            clear HS HI
            go_wp2_with fail
            go_loopg [6] ts.length (fun gk i wr => ∃ (j : Nat) (W : World), W = wr ∧ i = .int .i64 j ∧ j + gk = ts.length ∧ Hid (sameTs (ts.drop j) (ts'.drop j) = sameTs ts ts') ∧ Kept w W ∧ Hid (Box w.heap.size W 25 w.heap.size [.int .i64 L, .slice ca cs.length cc, .slice ta ts.length tc]) ∧ Hid (Box w.heap.size W 25 (w.heap.size + 1) [.int .i64 L, .slice ca' cs.length cc', .slice ta' ts.length tc']))
            case atStart => exact ⟨0, _, rfl, rfl, by omega, rfl, K, HBr, HBs⟩
            case round =>
              obtain ⟨q, W3, hW, rfl, hq, HI, KQ, HBq, HBt⟩ := hrel
              subst hW
              have s2 : W3.cell? ⟨w.heap.size, 2, none⟩ = some (.slice ta ts.length tc) := HBq.out.cell 2 (by simp)
              by_cases hqt : q < ts.length
              · obtain ⟨b, f, nm, pd, dl, bu, pr, pa, pc, rfl, hpj, g0, g1, g2, g3, g4, _, hat, _, e3⟩ := (HA.out.kept KQ).get q hqt
                obtain ⟨b', f', nm', pd', dl', bu', pr', pa', pc', rfl, _, g0', g1', g2', g3', g4', _, hat', _, e3'⟩ := (HA'.out.kept KQ).get q (by rw [← HLT.out]; exact hqt)
                obtain ⟨_, ho2, ho3⟩ := HO.out _ (List.mem_of_getElem? hpj)
                simp only at ho2 ho3
                have b1 : (q : Int) < (ts.length : Int) := by omega
                have b2 : (0 : Int) ≤ (q : Int) := by omega
                have b3 : (q : Int) < (ts'.length : Int) := by have := HLT.out; omega
                have KA := (Kept.refl W3).alloc (.cells #[.string (B nm), .int .i64 pd, .int .i64 dl, .int .i64 bu, .slice pa pr.length pc] 52)
                have KAB := KA.alloc (.cells #[.string (B nm'), .int .i64 pd', .int .i64 dl', .int .i64 bu', .slice pa' pr'.length pc'] 52)
                have z2 : (W3.alloc (.cells #[.string (B nm), .int .i64 pd, .int .i64 dl, .int .i64 bu, .slice pa pr.length pc] 52)).cell? ⟨w.heap.size + 1, 2, none⟩ = some (.slice (some ⟨b', f', none⟩) ts.length tc') := (HBt.out.kept KA).cell 2 (by simp)
                have x0 := KA.cell g0'
                have x1 := KA.cell g1'
                have x2 := KA.cell g2'
                have x3 := KA.cell g3'
                have x4 := KA.cell g4'
                have HSP : Hid (RunB 30 #[.slice pa pr.length pc, .slice pa' pr'.length pc'] ((W3.alloc (.cells #[.string (B nm), .int .i64 pd, .int .i64 dl, .int .i64 bu, .slice pa pr.length pc] 52)).alloc (.cells #[.string (B nm'), .int .i64 pd', .int .i64 dl', .int .i64 bu', .slice pa' pr'.length pc'] 52)) (.bool (sameP pr pr'))) := ⟨fun wx kx => rsameP_any pa pa' pc pc' pr pr' wx (hat.kept (KAB.trans kx)) (hat'.kept (KAB.trans kx)) ho2 ho3⟩
                have HE : Hid (sameTs ts ts' = if sameT ⟨nm, pd, dl, bu, pr⟩ ⟨nm', pd', dl', bu', pr'⟩ = true then sameTs (ts.drop (q + 1)) (ts'.drop (q + 1)) else false) := by show _ = _; rw [← HI.out, e3, e3']; rfl
                have HTI : Hid (sameT ⟨nm, pd, dl, bu, pr⟩ ⟨nm', pd', dl', bu', pr'⟩ = true ↔ nm = nm' ∧ pd = pd' ∧ dl = dl' ∧ bu = bu' ∧ sameP pr pr' = true) := sameT_iff _ _
                have BAD : Hid (¬ (nm = nm' ∧ pd = pd' ∧ dl = dl' ∧ bu = bu' ∧ sameP pr pr' = true) → sameS L cs ts L cs' ts' = false) := by
                  intro h
                  rw [HS2.out, HE.out, if_neg (fun e => h (HTI.out.1 e))]
                have KW := KQ.trans KAB
                obtain ⟨gi, rfl⟩ : ∃ g, gk = g + 1 := ⟨gk - 1, by omega⟩
                clear hpj hat hat' e3 e3' HI
                by_cases c0 : ¬ nm = nm'
                · have e10 : ((B nm).toList == (B nm').toList) = false := by rw [B_eq]; simp [c0]
                  have HZ : Hid (sameS L cs ts L cs' ts' = false) := BAD.out (fun h => c0 h.1)
                  clear BAD HE HTI HSP
                  go_wp2_with fail
                  go_ret
                  rw [HZ.out]
                  exact ⟨rfl, KW⟩
                replace c0 := Classical.not_not.1 c0
                have e10 : ((B nm).toList == (B nm').toList) = true := by rw [B_eq]; simp [c0]
                by_cases c1 : ¬ pd = pd'
                · have e11 : (pd != pd') = true := by simp [c1]
                  have HZ : Hid (sameS L cs ts L cs' ts' = false) := BAD.out (fun h => c1 h.2.1)
                  clear BAD HE HTI HSP c0
                  go_wp2_with fail
                  go_ret
                  rw [HZ.out]
                  exact ⟨rfl, KW⟩
                replace c1 := Classical.not_not.1 c1
                have e11 : (pd != pd') = false := by simp [c1]
                by_cases c2 : ¬ dl = dl'
                · have e12 : (dl != dl') = true := by simp [c2]
                  have HZ : Hid (sameS L cs ts L cs' ts' = false) := BAD.out (fun h => c2 h.2.2.1)
                  clear BAD HE HTI HSP c0 c1
                  go_wp2_with fail
                  go_ret
                  rw [HZ.out]
                  exact ⟨rfl, KW⟩
                replace c2 := Classical.not_not.1 c2
                have e12 : (dl != dl') = false := by simp [c2]
                by_cases c3 : ¬ bu = bu'
                · have e13 : (bu != bu') = true := by simp [c3]
                  have HZ : Hid (sameS L cs ts L cs' ts' = false) := BAD.out (fun h => c3 h.2.2.2.1)
                  clear BAD HE HTI HSP c0 c1 c2
                  go_wp2_with fail
                  go_ret
                  rw [HZ.out]
                  exact ⟨rfl, KW⟩
                replace c3 := Classical.not_not.1 c3
                have e13 : (bu != bu') = false := by simp [c3]
                obtain ⟨z, hz⟩ : ∃ z, sameP pr pr' = z := ⟨_, rfl⟩
                rw [hz] at HSP
                cases z with
                | false =>
                  have HZ : Hid (sameS L cs ts L cs' ts' = false) := BAD.out (fun h => by rw [hz] at h; simp at h)
                  clear BAD HE HTI hz c0 c1 c2 c3
                  go_wp2_with fail
                  refine (HSP.out.run _ (Kept.refl _)).mono ?_
                  rintro e w9 ⟨rfl, t9⟩
                  go_wp2_with fail
                  go_ret
                  rw [HZ.out]
                  exact ⟨rfl, KW.trans t9⟩
                | true =>
                  have HX : Hid (sameTs (ts.drop (q + 1)) (ts'.drop (q + 1)) = sameTs ts ts') := by show _ = _; rw [HE.out, if_pos (HTI.out.2 ⟨c0, c1, c2, c3, hz⟩)]
                  clear BAD HE HTI hz c0 c1 c2 c3
                  go_wp2_with fail
                  refine (HSP.out.run _ (Kept.refl _)).mono ?_
                  rintro e w9 ⟨rfl, t9⟩
                  have T9 := KAB.trans t9
                  go_wp2_with fail
                  go_roundg gi
                  case rel => exact ⟨q + 1, _, rfl, by go_num, by omega, HX, KW.trans t9, HBq.out.kept T9, HBt.out.kept T9⟩
                  case measure => omega
              · have b1 : ¬ (q : Int) < (ts.length : Int) := by omega
                have HZ : Hid (sameS L cs ts L cs' ts' = true) := by
                  show _ = _
                  rw [HS2.out, ← HI.out, List.drop_of_length_le (by omega), List.drop_of_length_le (by have := HLT.out; omega)]
                  rfl
                go_wp2_with fail
                go_ret
                rw [HZ.out]
                exact ⟨rfl, KQ⟩
      · have e1 : (L != L') = false := by simp [hL]
        have e2 : ((cs.length : Int) != (cs'.length : Int)) = false := by simp [hcs]
        have e3 : ((ts.length : Int) != (ts'.length : Int)) = true := bne_iff_ne.2 (by omega)
        have HZ : Hid (sameS L cs ts L' cs' ts' = false) := by show _ = _; unfold sameS; rw [sameTs_len ts ts' hts, Bool.and_false]
        clear hL hcs hts
        go_enter Tryz.func12, Tryz.ntmps12
        go_wp2_with fail
        go_ret
        rw [HZ.out]
        exact ⟨rfl, K2⟩
    · have e1 : (L != L') = false := by simp [hL]
      have e2 : ((cs.length : Int) != (cs'.length : Int)) = true := bne_iff_ne.2 (by omega)
      have HZ : Hid (sameS L cs ts L' cs' ts' = false) := by show _ = _; unfold sameS; rw [sameCs_len cs cs' hcs, Bool.and_false, Bool.false_and]
      clear hL hcs
      go_enter Tryz.func12, Tryz.ntmps12
      go_wp2_with fail
      go_ret
      rw [HZ.out]
      exact ⟨rfl, K2⟩
  · have e1 : (L != L') = true := by simp [hL]
    have HZ : Hid (sameS L cs ts L' cs' ts' = false) := by show _ = _; unfold sameS; rw [beq_eq_false_iff_ne.2 hL]; rfl
    clear hL
    go_enter Tryz.func12, Tryz.ntmps12
    go_wp2_with fail
    go_ret
    rw [HZ.out]
    exact ⟨rfl, K2⟩
end Go.Proofs.YtolljdomnohmdaaGreatDoor
