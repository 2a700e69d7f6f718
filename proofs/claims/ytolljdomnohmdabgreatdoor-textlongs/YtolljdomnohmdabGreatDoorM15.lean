/- Two ops, two programs, two sets: alike? -/
import Derived.Deep.LoopGhost
import Derived.Laws.StructEq
import Derived.ProofKit
import Derived.OpenShut
import Derived.ShutString
import Derived.ChangeOld
import Derived.ChangeArms
import Derived.WideShapes
import Derived.Below
import Derived.Deep.Slices
import Derived.Deep.SlicePairs
import Derived.Test.YtolljdomnohmdabGreatDoorM14
import Derived.Test.YtolljdomnohmdabGreatDoorM2
import Derived.Test.YtolljdomnohmdabGreatDoorCas
import Derived.Test.YtolljdomnohmdabGreatDoorCheck
import Derived.Test.YtolljdomnohmdabGreatDoorM3
import Derived.Test.YtolljdomnohmdabGreatDoorM4
import Derived.Test.YtolljdomnohmdabGreatDoorM0
import Derived.Test.YtolljdomnohmdabGreatDoorM1
import Derived.Test.YtolljdomnohmdabGreatDoorOpT
import Derived.Test.YtolljdomnohmdabGreatDoorPar
import Derived.Test.YtolljdomnohmdabGreatDoorM7
import Derived.Test.YtolljdomnohmdabGreatDoorTxt
import Derived.Test.YtolljdomnohmdabGreatDoorRWrd
import Derived.Test.YtolljdomnohmdabGreatDoorM5
import Derived.Test.YtolljdomnohmdabGreatDoorRead
import Derived.Test.YtolljdomnohmdabGreatDoorM8
import Derived.Test.YtolljdomnohmdabGreatDoorTrn
import Derived.Test.YtolljdomnohmdabGreatDoorQStA
import Derived.Test.YtolljdomnohmdabGreatDoorQOfA
namespace Go.Proofs.YtolljdomnohmdabGreatDoor
open Go.RowKit

set_option maxHeartbeats 1000000 in
theorem equal_any (a a' : Option Addr) (m m' c c' : Nat) (l l' : List CaseD) (w : World) (hA : AtC w a m l) (hA' : AtC w a' m' l') (hm : m ≤ 1000000) :
    Calls Tryz.prog 15 #[.slice a m c, .slice a' m' c'] w fun e w' => e = .returned (.bool (sameL l l')) ∧ Kept w w' := by
  have HA : Hid (AtC w a m l) := hA
  have HA' : Hid (AtC w a' m' l') := hA'
  by_cases hmm : m = m'
  · subst hmm
    have HL : Hid (l.length = m ∧ l'.length = m) := ⟨hA.1, hA'.1⟩
    clear hA hA'
    go_enter Tryz.func15, Tryz.ntmps15
    go_wp2_with fail
    go_loopg [13] m (fun gk i wr => ∃ k : Nat, i = .int .i64 k ∧ k + gk = m ∧ Hid (sameL (l.drop k) (l'.drop k) = sameL l l') ∧ Kept w wr)
    case atStart => exact ⟨0, rfl, by omega, rfl, Kept.refl _⟩
    case round =>
      obtain ⟨k, rfl, hk, HI, T⟩ := hrel
      by_cases hkm : k < m
      · obtain ⟨b, f, sd, ch, v, rfl, g0, g1, g2, hb, _, _, e3⟩ := (HA.out.kept T).get k hkm
        obtain ⟨b', f', sd', ch', v', rfl, g0', g1', g2', hb', _, _, e3'⟩ := (HA'.out.kept T).get k hkm
        have b1 : (k : Int) < (m : Int) := by omega
        have b2 : (0 : Int) ≤ (k : Int) := by omega
        have HE : Hid (sameL l l' = (sameC ⟨sd, ch, v⟩ ⟨sd', ch', v'⟩ && sameL (l.drop (k + 1)) (l'.drop (k + 1)))) := by show _ = _; rw [← HI.out, e3, e3']; rfl
        clear e3 e3' HI
        have hne := fun wx => neq46 sd sd' ch ch' v v' wx
        have hgd := grd46
        cases hs : sameC ⟨sd, ch, v⟩ ⟨sd', ch', v'⟩ with
        | true =>
          simp only [hs, Bool.not_true] at hne
          have HX : Hid (sameL (l.drop (k + 1)) (l'.drop (k + 1)) = sameL l l') := by show _ = _; rw [HE.out, hs, Bool.true_and]
          obtain ⟨g3, rfl⟩ : ∃ g, gk = g + 1 := ⟨gk - 1, by omega⟩
          clear hs
          go_wp2_with fail
          go_quiet (fail)
          go_wp2_with fail
          go_roundg g3
          case rel => exact ⟨k + 1, by go_num, by omega, HX, T.drewN _⟩
          case measure => omega
        | false =>
          simp only [hs, Bool.not_false] at hne
          have HX : Hid (sameL l l' = false) := by show _ = _; rw [HE.out, hs, Bool.false_and]
          clear hs
          go_wp2_with fail
          go_quiet (fail)
          go_wp2_with fail
          go_ret
          rw [HX.out]
          exact ⟨rfl, T.drewN _⟩
      · have b1 : ¬ (k : Int) < (m : Int) := by omega
        have HR : Hid (sameL l l' = true) := by
          show _ = _
          rw [← HI.out, List.drop_of_length_le (by rw [HL.out.1]; omega), List.drop_of_length_le (by rw [HL.out.2]; omega)]; rfl
        go_wp2_with fail
        go_ret
        rw [HR.out]
        exact ⟨rfl, T⟩
  · have h1 : ((m : Int) != (m' : Int)) = true := by simp; omega
    have HR : Hid (sameL l l' = false) := sameL_len (by rw [hA.1, hA'.1]; exact hmm)
    clear hA hA'
    go_enter Tryz.func15, Tryz.ntmps15
    go_wp2_with fail
    go_ret
    rw [HR.out]
    exact ⟨rfl, Kept.refl _⟩
end Go.Proofs.YtolljdomnohmdabGreatDoor
namespace Go.Proofs.YtolljdomnohmdabGreatDoor
open Go.RowKit

set_option maxHeartbeats 1000000 in
theorem same_any (k n v wt k' n' v' wt' : Int) (a a' : Option Addr) (m m' c c' : Nat) (l l' : List CaseD) (w : World) (hA : AtC w a m l) (hA' : AtC w a' m' l') (hm : m ≤ 1000000) :
    Calls Tryz.prog 6 #[.agg #[.int .i64 k, .int .i64 n, .int .i64 v, .int .i64 wt, .slice a m c], .agg #[.int .i64 k', .int .i64 n', .int .i64 v', .int .i64 wt', .slice a' m' c']] w fun e w' => e = .returned (.bool (sameD ⟨k, n, v, wt, l⟩ ⟨k', n', v', wt', l'⟩)) ∧ Kept w w' := by
  by_cases hq_k : k = k'
  rotate_left
  · have t1 : (k == k') = false := by simp [hq_k]
    have HR : Hid (sameD ⟨k, n, v, wt, l⟩ ⟨k', n', v', wt', l'⟩ = false) := by show _ = _; simp [sameD, hq_k]
    clear hA hA' hq_k
    go_enter Tryz.func6, Tryz.ntmps6
    go_wp2_with fail
    go_ret
    rw [HR.out]
    exact ⟨rfl, ((Kept.refl w).alloc _).alloc _⟩
  subst hq_k
  by_cases hq_n : n = n'
  rotate_left
  · have t1 : (n == n') = false := by simp [hq_n]
    have HR : Hid (sameD ⟨k, n, v, wt, l⟩ ⟨k, n', v', wt', l'⟩ = false) := by show _ = _; simp [sameD, hq_n]
    clear hA hA' hq_n
    go_enter Tryz.func6, Tryz.ntmps6
    go_wp2_with fail
    go_ret
    rw [HR.out]
    exact ⟨rfl, ((Kept.refl w).alloc _).alloc _⟩
  subst hq_n
  by_cases hq_v : v = v'
  rotate_left
  · have t1 : (v == v') = false := by simp [hq_v]
    have HR : Hid (sameD ⟨k, n, v, wt, l⟩ ⟨k, n, v', wt', l'⟩ = false) := by show _ = _; simp [sameD, hq_v]
    clear hA hA' hq_v
    go_enter Tryz.func6, Tryz.ntmps6
    go_wp2_with fail
    go_ret
    rw [HR.out]
    exact ⟨rfl, ((Kept.refl w).alloc _).alloc _⟩
  subst hq_v
  by_cases hq_wt : wt = wt'
  rotate_left
  · have t1 : (wt == wt') = false := by simp [hq_wt]
    have HR : Hid (sameD ⟨k, n, v, wt, l⟩ ⟨k, n, v, wt', l'⟩ = false) := by show _ = _; simp [sameD, hq_wt]
    clear hA hA' hq_wt
    go_enter Tryz.func6, Tryz.ntmps6
    go_wp2_with fail
    go_ret
    rw [HR.out]
    exact ⟨rfl, ((Kept.refl w).alloc _).alloc _⟩
  subst hq_wt
  have HR : Hid (sameD ⟨k, n, v, wt, l⟩ ⟨k, n, v, wt, l'⟩ = sameL l l') := by show _ = _; simp [sameD]
  go_enter Tryz.func6, Tryz.ntmps6
  have K1 : Kept w ((w.alloc (.cells #[.int .i64 k, .int .i64 n, .int .i64 v, .int .i64 wt, .slice a m c] 37)).alloc (.cells #[.int .i64 k, .int .i64 n, .int .i64 v, .int .i64 wt, .slice a' m' c'] 37)) := ((Kept.refl w).alloc _).alloc _
  go_wp2_with fail
  refine (equal_any a a' m m' c c' l l' _ (hA.kept K1) (hA'.kept K1) hm).mono ?_
  rintro e w1 ⟨rfl, t1⟩
  go_wp2_with fail
  go_ret
  rw [HR.out]
  exact ⟨rfl, K1.trans t1⟩

end Go.Proofs.YtolljdomnohmdabGreatDoor
namespace Go.Proofs.YtolljdomnohmdabGreatDoor
open Go.RowKit

end Go.Proofs.YtolljdomnohmdabGreatDoor
namespace Go.Proofs.YtolljdomnohmdabGreatDoor
open Go.RowKit

end Go.Proofs.YtolljdomnohmdabGreatDoor
namespace Go.Proofs.YtolljdomnohmdabGreatDoor
open Go.RowKit

end Go.Proofs.YtolljdomnohmdabGreatDoor
namespace Go.Proofs.YtolljdomnohmdabGreatDoor
open Go.RowKit

end Go.Proofs.YtolljdomnohmdabGreatDoor
namespace Go.Proofs.YtolljdomnohmdabGreatDoor
open Go.RowKit

set_option maxHeartbeats 4000000 in
theorem eqops_any (a b : Option Addr) (c d : Nat) (p q : List OpD) (w : World) (hA : AtP w a p) (hB : AtP w b q) (hp : p.length ≤ 100000) (hc : ∀ o ∈ p, o.cases.length ≤ 1000000) :
    Calls Tryz.prog 32 #[.slice a p.length c, .slice b q.length d, .func (.func 6) #[] #[]] w fun e w' => e = .returned (.bool (sameP p q)) ∧ Kept w w' := by
  have HA : Hid (AtP w a p) := hA
  have HB : Hid (AtP w b q) := hB
  have HC : Hid (∀ o ∈ p, o.cases.length ≤ 1000000) := hc
  clear hA hB hc
  by_cases hlm : p.length = q.length
  rotate_left
  · have hne : ((p.length : Int) != (q.length : Int)) = true := by simp; omega
    have HZ : Hid (sameP p q = false) := sameP_len p q hlm
    go_enter Tryz.func32, Tryz.ntmps32
    go_wp2_with fail
    go_ret
    rw [HZ.out]
    exact ⟨rfl, Kept.refl w⟩
  have HLM : Hid (p.length = q.length) := hlm
  rw [← hlm]
  clear hlm
  go_enter Tryz.func32, Tryz.ntmps32
  go_wp2_with fail
  go_loopg [17] p.length (fun gk i wr => ∃ j : Nat, i = .int .i64 j ∧ j + gk = p.length ∧ Hid (sameP p q = sameP (p.drop j) (q.drop j)) ∧ Kept w wr)
  case atStart => exact ⟨0, rfl, by omega, (by show _ = _; rw [List.drop_zero, List.drop_zero]), Kept.refl w⟩
  case round =>
    obtain ⟨j, rfl, hj, HE, K⟩ := hrel
    by_cases hjp : j < p.length
    · obtain ⟨b1, f1, k, n, v, wt, l, ca, cc, rfl, hpj, g0, g1, g2, g3, g4, hcc, hat, hbl, hdr⟩ := (HA.out.kept K).get j hjp
      obtain ⟨b2, f2, k', n', v', wt', l', ca', cc', rfl, hqj, g0', g1', g2', g3', g4', hcc', hat', hbl', hdr'⟩ := (HB.out.kept K).get j (by rw [← HLM.out]; exact hjp)
      have i1 : (j : Int) < (p.length : Int) := by omega
      have i2 : (0 : Int) ≤ (j : Int) := by omega
      have hll : l.length ≤ 1000000 := HC.out _ (List.mem_of_getElem? hpj)
      have KA := (Kept.refl wr).alloc (.cells #[.int .i64 k, .int .i64 n, .int .i64 v, .int .i64 wt, .slice ca l.length cc] 37)
      have KB := KA.alloc (.cells #[.int .i64 k', .int .i64 n', .int .i64 v', .int .i64 wt', .slice ca' l'.length cc'] 37)
      have y0 := KA.cell g0'
      have y1 := KA.cell g1'
      have y2 := KA.cell g2'
      have y3 := KA.cell g3'
      have y4 := KA.cell g4'
      have hsa := same_any k n v wt k' n' v' wt' ca ca' l.length l'.length cc cc' l l' _ (hat.kept KB) (hat'.kept KB) hll
      have HE2 : Hid (sameP p q = if sameD ⟨k, n, v, wt, l⟩ ⟨k', n', v', wt', l'⟩ = true then sameP (p.drop (j + 1)) (q.drop (j + 1)) else false) := by show _ = _; rw [HE.out, hdr, hdr', sameP]
      obtain ⟨gg, rfl⟩ : ∃ g, gk = g + 1 := ⟨gk - 1, by omega⟩
      clear hpj hat hdr hqj hat' hdr' HE
      cases hq : sameD ⟨k, n, v, wt, l⟩ ⟨k', n', v', wt', l'⟩ with
      | true =>
        rw [hq] at hsa
        have HZ : Hid (sameP p q = sameP (p.drop (j + 1)) (q.drop (j + 1))) := by show _ = _; rw [HE2.out, if_pos hq]
        clear HE2 hq
        go_wp2_with fail
        refine hsa.mono ?_
        rintro e w2 ⟨rfl, t2⟩
        go_wp2_with fail
        go_roundg gg
        case rel => exact ⟨j + 1, by go_num, by omega, HZ, (K.trans KB).trans t2⟩
        case measure => omega
      | false =>
        rw [hq] at hsa
        have HZ : Hid (sameP p q = false) := by show _ = _; rw [HE2.out, if_neg (by rw [hq]; simp)]
        clear HE2 hq
        go_wp2_with fail
        refine hsa.mono ?_
        rintro e w2 ⟨rfl, t2⟩
        go_wp2_with fail
        go_ret
        rw [HZ.out]
        exact ⟨rfl, (K.trans KB).trans t2⟩
    · have i1 : ¬ (j : Int) < (p.length : Int) := by omega
      have HZ : Hid (sameP p q = true) := by show _ = _; rw [HE.out, List.drop_eq_nil_of_le (by omega), List.drop_eq_nil_of_le (by have := HLM.out; omega)]; rfl
      go_wp2_with fail
      go_ret
      rw [HZ.out]
      exact ⟨rfl, K⟩

set_option maxHeartbeats 4000000 in
theorem sameTask_any (nm nm' : List UInt8) (pd dl bu pd' dl' bu' : Int) (pr pr' : List OpD) (pa pa' : Option Addr) (pc pc' : Nat) (w : World) (hA : AtP w pa pr) (hB : AtP w pa' pr') (hp : pr.length ≤ 100000) (hc : ∀ o ∈ pr, o.cases.length ≤ 1000000) :
    Calls Tryz.prog 18 #[.agg #[.string (B nm), .int .i64 pd, .int .i64 dl, .int .i64 bu, .slice pa pr.length pc], .agg #[.string (B nm'), .int .i64 pd', .int .i64 dl', .int .i64 bu', .slice pa' pr'.length pc']] w fun e w' => e = .returned (.bool (sameT ⟨nm, pd, dl, bu, pr⟩ ⟨nm', pd', dl', bu', pr'⟩)) ∧ Kept w w' := by
  have K2 := ((Kept.refl w).alloc (.cells #[.string (B nm), .int .i64 pd, .int .i64 dl, .int .i64 bu, .slice pa pr.length pc] 33)).alloc (.cells #[.string (B nm'), .int .i64 pd', .int .i64 dl', .int .i64 bu', .slice pa' pr'.length pc'] 33)
  have HT : Hid (sameT ⟨nm, pd, dl, bu, pr⟩ ⟨nm', pd', dl', bu', pr'⟩ = (decide (nm = nm') && decide (pd = pd') && decide (dl = dl') && decide (bu = bu') && sameP pr pr')) := rfl
  have heq := eqops_any pa pa' pc pc' pr pr' _ (hA.kept K2) (hB.kept K2) hp hc
  by_cases h1 : nm = nm'
  rotate_left
  · have e1 : ((B nm).toList == (B nm').toList) = false := by rw [B_eq]; simpa using h1
    have HZ : Hid (sameT ⟨nm, pd, dl, bu, pr⟩ ⟨nm', pd', dl', bu', pr'⟩ = false) := by show _ = _; rw [HT.out]; simp [h1]
    clear HT heq h1 hc hA hB
    go_enter Tryz.func18, Tryz.ntmps18
    go_wp2_with fail
    go_ret
    rw [HZ.out]
    exact ⟨rfl, K2⟩
  subst h1
  by_cases h_pd : pd = pd'
  rotate_left
  · have e_pd : (pd == pd') = false := by simpa using h_pd
    have HZ : Hid (sameT ⟨nm, pd, dl, bu, pr⟩ ⟨nm, pd', dl', bu', pr'⟩ = false) := by show _ = _; rw [HT.out]; simp [h_pd]
    clear HT heq hc hA hB h_pd
    go_enter Tryz.func18, Tryz.ntmps18
    go_wp2_with fail
    go_ret
    rw [HZ.out]
    exact ⟨rfl, K2⟩
  subst h_pd
  by_cases h_dl : dl = dl'
  rotate_left
  · have e_dl : (dl == dl') = false := by simpa using h_dl
    have HZ : Hid (sameT ⟨nm, pd, dl, bu, pr⟩ ⟨nm, pd, dl', bu', pr'⟩ = false) := by show _ = _; rw [HT.out]; simp [h_dl]
    clear HT heq hc hA hB h_dl
    go_enter Tryz.func18, Tryz.ntmps18
    go_wp2_with fail
    go_ret
    rw [HZ.out]
    exact ⟨rfl, K2⟩
  subst h_dl
  by_cases h_bu : bu = bu'
  rotate_left
  · have e_bu : (bu == bu') = false := by simpa using h_bu
    have HZ : Hid (sameT ⟨nm, pd, dl, bu, pr⟩ ⟨nm, pd, dl, bu', pr'⟩ = false) := by show _ = _; rw [HT.out]; simp [h_bu]
    clear HT heq hc hA hB h_bu
    go_enter Tryz.func18, Tryz.ntmps18
    go_wp2_with fail
    go_ret
    rw [HZ.out]
    exact ⟨rfl, K2⟩
  subst h_bu
  cases hq : sameP pr pr' with
  | true =>
    rw [hq] at heq
    have HZ : Hid (sameT ⟨nm, pd, dl, bu, pr⟩ ⟨nm, pd, dl, bu, pr'⟩ = true) := by show _ = _; rw [HT.out]; simp [hq]
    clear HT hq hc hA hB
    go_enter Tryz.func18, Tryz.ntmps18
    go_wp2_with fail
    refine heq.mono ?_
    rintro e w2 ⟨rfl, t2⟩
    go_wp2_with fail
    go_ret
    rw [HZ.out]
    exact ⟨rfl, K2.trans t2⟩
  | false =>
    rw [hq] at heq
    have HZ : Hid (sameT ⟨nm, pd, dl, bu, pr⟩ ⟨nm, pd, dl, bu, pr'⟩ = false) := by show _ = _; rw [HT.out]; simp [hq]
    clear HT hq hc hA hB
    go_enter Tryz.func18, Tryz.ntmps18
    go_wp2_with fail
    refine heq.mono ?_
    rintro e w2 ⟨rfl, t2⟩
    go_wp2_with fail
    go_ret
    rw [HZ.out]
    exact ⟨rfl, K2.trans t2⟩

set_option maxHeartbeats 4000000 in
theorem eqtasks_any (a b : Option Addr) (c d : Nat) (p q : List TaskD) (w : World) (hA : AtT w a p) (hB : AtT w b q) (hp : p.length ≤ 100000) (hc : TsOk p) :
    Calls Tryz.prog 17 #[.slice a p.length c, .slice b q.length d, .func (.func 18) #[] #[]] w fun e w' => e = .returned (.bool (sameTs p q)) ∧ Kept w w' := by
  have HA : Hid (AtT w a p) := hA
  have HB : Hid (AtT w b q) := hB
  have HC : Hid (TsOk p) := hc
  clear hA hB hc
  by_cases hlm : p.length = q.length
  rotate_left
  · have hne : ((p.length : Int) != (q.length : Int)) = true := by simp; omega
    have HZ : Hid (sameTs p q = false) := sameTs_len p q hlm
    go_enter Tryz.func17, Tryz.ntmps17
    go_wp2_with fail
    go_ret
    rw [HZ.out]
    exact ⟨rfl, Kept.refl w⟩
  have HLM : Hid (p.length = q.length) := hlm
  rw [← hlm]
  clear hlm
  go_enter Tryz.func17, Tryz.ntmps17
  go_wp2_with fail
  go_loopg [17] p.length (fun gk i wr => ∃ j : Nat, i = .int .i64 j ∧ j + gk = p.length ∧ Hid (sameTs p q = sameTs (p.drop j) (q.drop j)) ∧ Kept w wr)
  case atStart => exact ⟨0, rfl, by omega, (by show _ = _; rw [List.drop_zero, List.drop_zero]), Kept.refl w⟩
  case round =>
    obtain ⟨j, rfl, hj, HE, K⟩ := hrel
    by_cases hjp : j < p.length
    · obtain ⟨b1, f1, nm, pd, dl, bu, pr, pa, pc, rfl, hpj, g0, g1, g2, g3, g4, hcc, hat, hbl, hdr⟩ := (HA.out.kept K).get j hjp
      obtain ⟨b2, f2, nm', pd', dl', bu', pr', pa', pc', rfl, hqj, g0', g1', g2', g3', g4', hcc', hat', hbl', hdr'⟩ := (HB.out.kept K).get j (by rw [← HLM.out]; exact hjp)
      have i1 : (j : Int) < (p.length : Int) := by omega
      have i2 : (0 : Int) ≤ (j : Int) := by omega
      have hok1 := HC.out _ (List.mem_of_getElem? hpj)
      have KA := (Kept.refl wr).alloc (.cells #[.string (B nm), .int .i64 pd, .int .i64 dl, .int .i64 bu, .slice pa pr.length pc] 33)
      have KB := KA.alloc (.cells #[.string (B nm'), .int .i64 pd', .int .i64 dl', .int .i64 bu', .slice pa' pr'.length pc'] 33)
      have y0 := KA.cell g0'
      have y1 := KA.cell g1'
      have y2 := KA.cell g2'
      have y3 := KA.cell g3'
      have y4 := KA.cell g4'
      have hsa := sameTask_any nm nm' pd dl bu pd' dl' bu' pr pr' pa pa' pc pc' _ (hat.kept KB) (hat'.kept KB) hok1.2.1 hok1.2.2
      have HE2 : Hid (sameTs p q = if sameT ⟨nm, pd, dl, bu, pr⟩ ⟨nm', pd', dl', bu', pr'⟩ = true then sameTs (p.drop (j + 1)) (q.drop (j + 1)) else false) := by show _ = _; rw [HE.out, hdr, hdr', sameTs]
      obtain ⟨gg, rfl⟩ : ∃ g, gk = g + 1 := ⟨gk - 1, by omega⟩
      clear hpj hat hdr hqj hat' hdr' HE hok1
      cases hq : sameT ⟨nm, pd, dl, bu, pr⟩ ⟨nm', pd', dl', bu', pr'⟩ with
      | true =>
        rw [hq] at hsa
        have HZ : Hid (sameTs p q = sameTs (p.drop (j + 1)) (q.drop (j + 1))) := by show _ = _; rw [HE2.out, if_pos hq]
        clear HE2 hq
        go_wp2_with fail
        refine hsa.mono ?_
        rintro e w2 ⟨rfl, t2⟩
        go_wp2_with fail
        go_roundg gg
        case rel => exact ⟨j + 1, by go_num, by omega, HZ, (K.trans KB).trans t2⟩
        case measure => omega
      | false =>
        rw [hq] at hsa
        have HZ : Hid (sameTs p q = false) := by show _ = _; rw [HE2.out, if_neg (by rw [hq]; simp)]
        clear HE2 hq
        go_wp2_with fail
        refine hsa.mono ?_
        rintro e w2 ⟨rfl, t2⟩
        go_wp2_with fail
        go_ret
        rw [HZ.out]
        exact ⟨rfl, (K.trans KB).trans t2⟩
    · have i1 : ¬ (j : Int) < (p.length : Int) := by omega
      have HZ : Hid (sameTs p q = true) := by show _ = _; rw [HE.out, List.drop_eq_nil_of_le (by omega), List.drop_eq_nil_of_le (by have := HLM.out; omega)]; rfl
      go_wp2_with fail
      go_ret
      rw [HZ.out]
      exact ⟨rfl, K⟩

theorem eqch0_any (a b : Option Addr) (c d : Nat) (w : World) :
    Calls Tryz.prog 16 #[.slice a 0 c, .slice b 0 d] w fun e w' => e = .returned (.bool true) ∧ Kept w w' := by
  go_enter Tryz.func16, Tryz.ntmps16
  go_wp2_with fail
  go_loopg [13] 0 (fun gk i wr => gk = 0 ∧ i = .int .i64 0 ∧ Kept w wr)
  case atStart => exact ⟨rfl, rfl, Kept.refl w⟩
  case round =>
    obtain ⟨rfl, rfl, K⟩ := hrel
    go_wp2_with fail
    go_ret
    exact ⟨rfl, K⟩

set_option maxHeartbeats 2000000 in
theorem ssame_any (L : Int) (ca ca' ta ta' : Option Addr) (cc cc' tc tc' : Nat) (ts ts' : List TaskD) (w : World) (hA : AtT w ta ts) (hB : AtT w ta' ts') (hl : ts.length ≤ 100000) (hok : TsOk ts) :
    Calls Tryz.prog 7 #[.agg #[.int .i64 L, .slice ca 0 cc, .slice ta ts.length tc], .agg #[.int .i64 L, .slice ca' 0 cc', .slice ta' ts'.length tc']] w fun e w' => e = .returned (.bool (sameTs ts ts')) ∧ Kept w w' := by
  have K2 := ((Kept.refl w).alloc (.cells #[.int .i64 L, .slice ca 0 cc, .slice ta ts.length tc] 27)).alloc (.cells #[.int .i64 L, .slice ca' 0 cc', .slice ta' ts'.length tc'] 27)
  have HB1 : Hid (Box w.heap.size ((w.alloc (.cells #[.int .i64 L, .slice ca 0 cc, .slice ta ts.length tc] 27)).alloc (.cells #[.int .i64 L, .slice ca' 0 cc', .slice ta' ts'.length tc'] 27)) 27 w.heap.size [.int .i64 L, .slice ca 0 cc, .slice ta ts.length tc]) := (box_new w.heap.size w 27 [.int .i64 L, .slice ca 0 cc, .slice ta ts.length tc] (Nat.le_refl _) (by simp)).kept ((Kept.refl _).alloc _)
  have HB2 : Hid (Box w.heap.size ((w.alloc (.cells #[.int .i64 L, .slice ca 0 cc, .slice ta ts.length tc] 27)).alloc (.cells #[.int .i64 L, .slice ca' 0 cc', .slice ta' ts'.length tc'] 27)) 27 (w.heap.size + 1) [.int .i64 L, .slice ca' 0 cc', .slice ta' ts'.length tc']) := by
    have h := box_new w.heap.size (w.alloc (.cells #[.int .i64 L, .slice ca 0 cc, .slice ta ts.length tc] 27)) 27 [.int .i64 L, .slice ca' 0 cc', .slice ta' ts'.length tc'] (by simp) (by simp)
    rw [show (w.alloc (.cells #[.int .i64 L, .slice ca 0 cc, .slice ta ts.length tc] 27)).heap.size = w.heap.size + 1 by simp] at h
    exact h
  have HET : Hid (∀ w', Kept w w' → Calls Tryz.prog 17 #[.slice ta ts.length tc, .slice ta' ts'.length tc', .func (.func 18) #[] #[]] w' fun e w'' => e = .returned (.bool (sameTs ts ts')) ∧ Kept w' w'') := fun w' t => eqtasks_any ta ta' tc tc' ts ts' w' (hA.kept t) (hB.kept t) hl hok
  clear hA hB hok
  go_enter Tryz.func7, Tryz.ntmps7
  go_wp2_with fail
  refine (eqch0_any ca ca' cc cc' _).mono ?_
  rintro e w3 ⟨rfl, t3⟩
  have u2 : w3.cell? ⟨w.heap.size, 2, none⟩ = some (.slice ta ts.length tc) := (HB1.out.kept t3).cell 2 (by simp)
  have v2 : w3.cell? ⟨w.heap.size + 1, 2, none⟩ = some (.slice ta' ts'.length tc') := (HB2.out.kept t3).cell 2 (by simp)
  have K3 := K2.trans t3
  cases hq : sameTs ts ts' with
  | true =>
    have h4 := HET.out w3 K3
    rw [hq] at h4
    go_wp2_with fail
    refine h4.mono ?_
    rintro e w4 ⟨rfl, t4⟩
    go_wp2_with fail
    go_ret
    rw [hq]
    exact ⟨rfl, K3.trans t4⟩
  | false =>
    have h4 := HET.out w3 K3
    rw [hq] at h4
    go_wp2_with fail
    refine h4.mono ?_
    rintro e w4 ⟨rfl, t4⟩
    go_wp2_with fail
    go_ret
    rw [hq]
    exact ⟨rfl, K3.trans t4⟩
end Go.Proofs.YtolljdomnohmdabGreatDoor
namespace Go.Proofs.YtolljdomnohmdabGreatDoor
open Go.RowKit

end Go.Proofs.YtolljdomnohmdabGreatDoor
namespace Go.Proofs.YtolljdomnohmdabGreatDoor
open Go.RowKit

set_option maxHeartbeats 1000000 in
theorem eqch_any (a a' : Option Addr) (c c' : Nat) (l l' : List ChanD) (w : World) (hA : AtH w a l) (hA' : AtH w a' l') (hm : l.length ≤ 1000000) :
    Calls Tryz.prog 16 #[.slice a l.length c, .slice a' l'.length c'] w fun e w' => e = .returned (.bool (sameCs l l')) ∧ Kept w w' := by
  have HA : Hid (AtH w a l) := hA
  have HA' : Hid (AtH w a' l') := hA'
  clear hA hA'
  by_cases hmm : l.length = l'.length
  · obtain ⟨m, hml⟩ : ∃ m, l.length = m := ⟨_, rfl⟩
    have HL : Hid (l.length = m ∧ l'.length = m) := ⟨hml, by omega⟩
    rw [← hmm, hml]
    rw [hml] at hm
    clear hmm hml
    go_enter Tryz.func16, Tryz.ntmps16
    go_wp2_with fail
    go_loopg [13] m (fun gk i wr => ∃ k : Nat, i = .int .i64 k ∧ k + gk = m ∧ Hid (sameCs (l.drop k) (l'.drop k) = sameCs l l') ∧ Kept w wr)
    case atStart => exact ⟨0, rfl, by omega, rfl, Kept.refl _⟩
    case round =>
      obtain ⟨k, rfl, hk, HI, T⟩ := hrel
      by_cases hkm : k < m
      · obtain ⟨b, f, r, s, rfl, _, g0, g1, e3⟩ := (HA.out.kept T).get k (by rw [HL.out.1]; exact hkm)
        obtain ⟨b', f', r', s', rfl, _, g0', g1', e3'⟩ := (HA'.out.kept T).get k (by rw [HL.out.2]; exact hkm)
        have b1 : (k : Int) < (m : Int) := by omega
        have b2 : (0 : Int) ≤ (k : Int) := by omega
        have HE : Hid (sameCs l l' = if sameH ⟨r, s⟩ ⟨r', s'⟩ = true then sameCs (l.drop (k + 1)) (l'.drop (k + 1)) else false) := by show _ = _; rw [← HI.out, e3, e3']; rfl
        clear e3 e3' HI
        have hne := fun wx => neq99 r s r' s' wx
        have hgd := grd99
        cases hs : sameH ⟨r, s⟩ ⟨r', s'⟩ with
        | true =>
          simp only [hs, Bool.not_true] at hne
          have HX : Hid (sameCs (l.drop (k + 1)) (l'.drop (k + 1)) = sameCs l l') := by show _ = _; rw [HE.out, hs, if_pos rfl]
          obtain ⟨g3, rfl⟩ : ∃ g, gk = g + 1 := ⟨gk - 1, by omega⟩
          clear hs
          go_wp2_with fail
          go_quiet (fail)
          go_wp2_with fail
          go_roundg g3
          case rel => exact ⟨k + 1, by go_num, by omega, HX, T.drewN _⟩
          case measure => omega
        | false =>
          simp only [hs, Bool.not_false] at hne
          have HZ : Hid (sameCs l l' = false) := by show _ = _; rw [HE.out, hs, if_neg (by simp)]
          clear hs
          go_wp2_with fail
          go_quiet (fail)
          go_wp2_with fail
          go_ret
          rw [HZ.out]
          exact ⟨rfl, T.drewN _⟩
      · have b1 : ¬ (k : Int) < (m : Int) := by omega
        have HZ : Hid (sameCs l l' = true) := by show _ = _; rw [← HI.out, List.drop_eq_nil_of_le (by rw [HL.out.1]; omega), List.drop_eq_nil_of_le (by rw [HL.out.2]; omega)]; rfl
        go_wp2_with fail
        go_ret
        rw [HZ.out]
        exact ⟨rfl, T⟩
  · have hne : ((l.length : Int) != (l'.length : Int)) = true := by simp; omega
    have HZ : Hid (sameCs l l' = false) := sameCs_len l l' hmm
    go_enter Tryz.func16, Tryz.ntmps16
    go_wp2_with fail
    go_ret
    rw [HZ.out]
    exact ⟨rfl, Kept.refl _⟩
set_option maxHeartbeats 2000000 in
theorem psame_any (L L' : Int) (ca ca' ta ta' : Option Addr) (cc cc' tc tc' : Nat) (cs cs' : List ChanD) (ts ts' : List TaskD) (w : World) (hH : AtH w ca cs) (hH' : AtH w ca' cs') (hA : AtT w ta ts) (hB : AtT w ta' ts') (hl : ts.length ≤ 100000) (hcl : cs.length ≤ 1000000) (hok : TsOk ts) :
    Calls Tryz.prog 7 #[.agg #[.int .i64 L, .slice ca cs.length cc, .slice ta ts.length tc], .agg #[.int .i64 L', .slice ca' cs'.length cc', .slice ta' ts'.length tc']] w fun e w' => e = .returned (.bool (sameS L cs ts L' cs' ts')) ∧ Kept w w' := by
  have K2 := ((Kept.refl w).alloc (.cells #[.int .i64 L, .slice ca cs.length cc, .slice ta ts.length tc] 27)).alloc (.cells #[.int .i64 L', .slice ca' cs'.length cc', .slice ta' ts'.length tc'] 27)
  by_cases hL : L = L'
  · subst hL
    have e1 : (L == L) = true := beq_self_eq_true L
    have HB1 : Hid (Box w.heap.size ((w.alloc (.cells #[.int .i64 L, .slice ca cs.length cc, .slice ta ts.length tc] 27)).alloc (.cells #[.int .i64 L, .slice ca' cs'.length cc', .slice ta' ts'.length tc'] 27)) 27 w.heap.size [.int .i64 L, .slice ca cs.length cc, .slice ta ts.length tc]) := (box_new w.heap.size w 27 [.int .i64 L, .slice ca cs.length cc, .slice ta ts.length tc] (Nat.le_refl _) (by simp)).kept ((Kept.refl _).alloc _)
    have HB2 : Hid (Box w.heap.size ((w.alloc (.cells #[.int .i64 L, .slice ca cs.length cc, .slice ta ts.length tc] 27)).alloc (.cells #[.int .i64 L, .slice ca' cs'.length cc', .slice ta' ts'.length tc'] 27)) 27 (w.heap.size + 1) [.int .i64 L, .slice ca' cs'.length cc', .slice ta' ts'.length tc']) := by
      have h := box_new w.heap.size (w.alloc (.cells #[.int .i64 L, .slice ca cs.length cc, .slice ta ts.length tc] 27)) 27 [.int .i64 L, .slice ca' cs'.length cc', .slice ta' ts'.length tc'] (by simp) (by simp)
      rw [show (w.alloc (.cells #[.int .i64 L, .slice ca cs.length cc, .slice ta ts.length tc] 27)).heap.size = w.heap.size + 1 by simp] at h
      exact h
    have HET : Hid (∀ w', Kept w w' → Calls Tryz.prog 17 #[.slice ta ts.length tc, .slice ta' ts'.length tc', .func (.func 18) #[] #[]] w' fun e w'' => e = .returned (.bool (sameTs ts ts')) ∧ Kept w' w'') := fun w' t => eqtasks_any ta ta' tc tc' ts ts' w' (hA.kept t) (hB.kept t) hl hok
    have hec := eqch_any ca ca' cc cc' cs cs' _ (hH.kept K2) (hH'.kept K2) hcl
    obtain ⟨zc, hzc⟩ : ∃ z, sameCs cs cs' = z := ⟨_, rfl⟩
    rw [hzc] at hec
    have HS : Hid (sameS L cs ts L cs' ts' = (zc && sameTs ts ts')) := by show _ = _; unfold sameS; rw [e1, hzc, Bool.true_and]
    clear hA hB hok hH hH' hzc
    go_enter Tryz.func7, Tryz.ntmps7
    go_wp2_with fail
    refine hec.mono ?_
    rintro e w3 ⟨rfl, t3⟩
    have K3 := K2.trans t3
    cases zc with
    | false =>
      go_wp2_with fail
      go_ret
      rw [HS.out]
      exact ⟨rfl, K3⟩
    | true =>
      have u2 : w3.cell? ⟨w.heap.size, 2, none⟩ = some (.slice ta ts.length tc) := (HB1.out.kept t3).cell 2 (by simp)
      have v2 : w3.cell? ⟨w.heap.size + 1, 2, none⟩ = some (.slice ta' ts'.length tc') := (HB2.out.kept t3).cell 2 (by simp)
      have h4 := HET.out w3 K3
      obtain ⟨zt, hzt⟩ : ∃ z, sameTs ts ts' = z := ⟨_, rfl⟩
      rw [hzt] at h4 HS
      clear hzt hec
      go_wp2_with fail
      refine h4.mono ?_
      rintro e w4 ⟨rfl, t4⟩
      cases zt with
      | true =>
        go_wp2_with fail
        go_ret
        rw [HS.out]
        exact ⟨rfl, K3.trans t4⟩
      | false =>
        go_wp2_with fail
        go_ret
        rw [HS.out]
        exact ⟨rfl, K3.trans t4⟩
  · have e1 : (L == L') = false := beq_eq_false_iff_ne.2 hL
    have HS : Hid (sameS L cs ts L' cs' ts' = false) := by show _ = _; unfold sameS; rw [e1]; rfl
    clear hA hB hok hH hH'
    go_enter Tryz.func7, Tryz.ntmps7
    go_wp2_with fail
    go_ret
    rw [HS.out]
    exact ⟨rfl, K2⟩
end Go.Proofs.YtolljdomnohmdabGreatDoor
namespace Go.Proofs.YtolljdomnohmdabGreatDoor
open Go.RowKit

end Go.Proofs.YtolljdomnohmdabGreatDoor
namespace Go.Proofs.YtolljdomnohmdabGreatDoor
open Go.RowKit

namespace OfS
def HRow (Bd : Nat) (w : World) (v : Value) (cs : List ChanD) : Prop := w.ownsRow Bd 71 2 v cs.length (flatH cs)
theorem HRow.kept {Bd : Nat} {w w' : World} {v : Value} {l : List ChanD} (h : HRow Bd w v l) (t : Kept w w') : HRow Bd w' v l := own_kept h t
theorem HRow.turns {S : Nat → Prop} {Bd : Nat} {w w' : World} {v : Value} {l : List ChanD} (h : HRow Bd w v l) (t : Turns S w w') (hv : ∀ q, v.ownBlock = some q → ¬ S q) : HRow Bd w' v l := owns_turns h t hv
theorem HRow.view {Bd : Nat} {w : World} {v : Value} {cs : List ChanD} (h : HRow Bd w v cs) : ∃ a c, v = .slice a cs.length c ∧ AtH w a cs ∧ (∀ b f, a = some ⟨b, f, none⟩ → Bd ≤ b ∧ v.ownBlock = some b) := by
  rcases h.2 with ⟨h1, h2⟩ | ⟨g, cap, cur, h1, hb, _⟩
  · refine ⟨none, 0, by rw [h1, h2], ?_, fun b f e => by cases e⟩
    rw [List.eq_nil_of_length_eq_zero h2]
    exact AtH.nil _ _
  · refine ⟨some ⟨g, 0, none⟩, cap, h1, ?_, fun b f e => by cases e; exact ⟨hb, by rw [h1]; rfl⟩⟩
    subst h1
    intro j c hj
    have hj2 := (List.getElem?_eq_some_iff.1 hj).1
    unfold HRow at h
    refine ⟨g, 0, rfl, ?_, ?_⟩
    · rw [Nat.zero_add, show j * 2 = j * 2 + 0 from rfl, h.cellAt (j * 2 + 0) (by omega), flatH_get cs j 0 c hj (by omega)]
      rfl
    · rw [Nat.zero_add, h.cellAt (j * 2 + 1) (by omega), flatH_get cs j 1 c hj (by omega)]
      rfl
/-- A row of tasks that the call owns, each with a program that stays as it is while the row grows. -/
structure TRow (Bd ob : Nat) (w : World) (v : Value) (ts : List TaskD) (pvs : List Value) : Prop where
  len : pvs.length = ts.length
  row : w.ownsRow Bd 74 5 v ts.length (flatT ts pvs)
  pg : ∀ (j : Nat) (t : TaskD) (pv : Value), ts[j]? = some t → pvs[j]? = some pv → ∃ pa pc, pv = .slice pa t.prog.length pc ∧ t.prog.length ≤ pc ∧ (pa = none → pc = 0) ∧ ∀ w', Turns (ownB v ob) w w' → AtP w' pa t.prog
theorem TRow.nil (Bd ob : Nat) (w : World) : TRow Bd ob w (.slice none 0 0) [] [] := ⟨rfl, World.ownsRow_nil _ _ _ _, fun j t pv h => by simp at h⟩
theorem TRow.kept {Bd ob : Nat} {w w' : World} {v : Value} {ts : List TaskD} {pvs : List Value} (h : TRow Bd ob w v ts pvs) (k : Kept w w') : TRow Bd ob w' v ts pvs :=
  ⟨h.len, own_kept h.row k, fun j t pv h1 h2 => by
    obtain ⟨pa, pc, e1, e2, e3, e4⟩ := h.pg j t pv h1 h2
    exact ⟨pa, pc, e1, e2, e3, fun w2 t2 => e4 w2 ((k.turns.mono (fun _ _ f => f.elim)).trans t2)⟩⟩
theorem TRow.other {Bd ob : Nat} {w w' : World} {v : Value} {ts : List TaskD} {pvs : List Value} (h : TRow Bd ob w v ts pvs) (k : Turns (fun i => i = ob) w w') (hv : v.ownBlock ≠ some ob) : TRow Bd ob w' v ts pvs :=
  ⟨h.len, owns_turns h.row k (fun q hq e => hv (by rw [hq, e])), fun j t pv h1 h2 => by
    obtain ⟨pa, pc, e1, e2, e3, e4⟩ := h.pg j t pv h1 h2
    exact ⟨pa, pc, e1, e2, e3, fun w2 t2 => e4 w2 ((k.mono (fun _ _ f => .inr (.inl f))).trans t2)⟩⟩
theorem TRow.res {Bd ob : Nat} {w w' : World} {v : Value} {ts : List TaskD} {pvs : List Value} (h : TRow Bd ob w v ts pvs) (k : Turns (fun i => i + 1 = ob) w w') (hv : ∀ q, v.ownBlock = some q → q + 1 ≠ ob) : TRow Bd ob w' v ts pvs :=
  ⟨h.len, owns_turns h.row k (fun q hq e => hv q hq e), fun j t pv h1 h2 => by
    obtain ⟨pa, pc, e1, e2, e3, e4⟩ := h.pg j t pv h1 h2
    exact ⟨pa, pc, e1, e2, e3, fun w2 t2 => e4 w2 ((k.mono (fun _ _ f => .inr (.inr f))).trans t2)⟩⟩
theorem TRow.view {Bd ob : Nat} {w : World} {v : Value} {ts : List TaskD} {pvs : List Value} (h : TRow Bd ob w v ts pvs) : ∃ a c, v = .slice a ts.length c ∧ AtT w a ts ∧ (∀ b f, a = some ⟨b, f, none⟩ → Bd ≤ b ∧ f = 0) := by
  have hrow := h.row
  rcases hrow.2 with ⟨h1, h2⟩ | ⟨g, cap, cur, h1, hb, _⟩
  · refine ⟨none, 0, by rw [h1, h2], ?_, fun b f e => by cases e⟩
    rw [List.eq_nil_of_length_eq_zero h2]
    exact AtT.nil _ _
  · refine ⟨some ⟨g, 0, none⟩, cap, h1, ?_, fun b f e => by cases e; exact ⟨hb, rfl⟩⟩
    intro j t hj
    have hj2 := (List.getElem?_eq_some_iff.1 hj).1
    obtain ⟨pv, hpv⟩ : ∃ pv, pvs[j]? = some pv := ⟨_, List.getElem?_eq_getElem (by rw [h.len]; exact hj2)⟩
    obtain ⟨pa, pc, e1, e2, e3, e4⟩ := h.pg j t pv hj hpv
    rw [h1] at hrow
    refine ⟨g, 0, rfl, ?_⟩
    have hc : ∀ i, i < 5 → w.cell? ⟨g, 0 + j * 5 + i, none⟩ = (tkW t pv)[i]? := by
      intro i hi
      rw [Nat.zero_add, hrow.cellAt (j * 5 + i) (by omega), flatT_get ts pvs j i t pv hj hpv hi]
    refine ⟨hc 0 (by omega), hc 1 (by omega), hc 2 (by omega), hc 3 (by omega), pa, pc, ?_, e2, e4 w (Turns.refl _ _)⟩
    rw [hc 4 (by omega), ← e1]
    rfl
theorem orow_turns {S : Nat → Prop} {B : Nat} {w w' : World} {v : Value} {p : List OpD} {svs : List Value} (h : QRow B w v p svs) (t : Turns S w w') (hS : ∀ k, S k → k < B) : QRow B w' v p svs :=
  ⟨h.len, owns_turns h.row t (fun q hq e => by have h1 := (World.ownsRow.lt h.row q hq).1; have h2 := hS q e; omega), fun j o sv h1 h2 =>
    ⟨owns_turns (h.cs j o sv h1 h2).1 t (fun q hq e => by have h3 := (World.ownsRow.lt (h.cs j o sv h1 h2).1 q hq).1; have h4 := hS q e; omega), (h.cs j o sv h1 h2).2⟩⟩
theorem infoH : (Tryz.prog.info? 71).map (fun i => (i.zero, i.size, i.bytes)) = some (some (.agg #[.int .i64 0, .int .i64 0]), 2, 16) := by kernel_rfl
theorem infoTk : (Tryz.prog.info? 74).map (fun i => (i.zero, i.size, i.bytes)) = some (some (.agg #[.string ⟨#[]⟩, .int .i64 0, .int .i64 0, .int .i64 0, .slice none 0 0]), 5, 64) := by kernel_rfl
/-- One channel behind a row of channels, at one operation of a region. -/
theorem step_append_chan (w : World) {ops : Array Oper} {o : Oper} {a : Act} {K : Act → World → Prop} {Q : Exit → Act → World → Prop} {E : Prop} (hgd : o.guard = none) (s x : Operand)
    (ho : o.op = .call { callee := .builtin .append, args := #[s, x], argTypes := #[44, 44] })
    (Bd : Nat) (v1 : Value) (es : List ChanD) (e : ChanD) (cells : Array Value) (hcells : cells = (hkV e).toArray) (W : World) (hw1 : w = W.alloc (.cells cells 71)) (hs : a.eval s = v1) (nb : Nat) (hnb : nb = W.heap.size) (hx : a.eval x = .slice (some ⟨nb, 0, none⟩) 1 1)
    (h1 : HRow Bd W v1 es) (hl : es.length ≤ 1000000) (hB : Bd ≤ W.heap.size)
    (h : ∀ g cap w', HRow Bd w' (.slice (some ⟨g, 0, none⟩) (es.length + 1) cap) (es ++ [e]) → Turns (fun k => v1.ownBlock = some k) W w' → (v1.ownBlock = some g ∨ W.heap.size < g) → K (a.put o.dst (.slice (some ⟨g, 0, none⟩) (es.length + 1) cap)) w') :
    if Region.wanted o (yielded ops a.tmps) = true then Oper.wp Tryz.prog o a w K Q else E := by
  have hw : Region.wanted o (yielded ops a.tmps) = true := by simp [Region.wanted, hgd]
  rw [if_pos hw]
  subst hw1
  subst hnb
  obtain ⟨i, hi, hz0, hz1, hz2⟩ := info_parts infoH
  have hcc : ∀ j u, (hkV e)[j]? = some u → (W.alloc (.cells cells 71)).cell? (Addr.add ⟨W.heap.size, 0, none⟩ j) = some u := by
    intro j u hu
    rw [Addr.add_lit, Nat.zero_add, World.cell?_alloc_at _ _ _ _ rfl, hcells]
    simpa using hu
  have h1' : (W.alloc (.cells cells 71)).ownsRow Bd 71 2 v1 es.length (flatH es) := World.ownsRow.alloc h1 _
  have hB' := le_alloc (.cells cells 71) hB
  obtain ⟨v', w', hr, k1, k2, k3, k4⟩ := run_append_own_at (P := Tryz.prog) (W.alloc (.cells cells 71)) Bd 44 o.type 71 i _ 2 16 Tryz.underlying44 hi hz0 hz1 hz2 rfl (by omega) _ es.length (flatH es) h1' ⟨W.heap.size, 0, none⟩ 1 1 (hkV e) (by simp [hkV]) hcc (fun u hu => by simp [hkV] at hu; rcases hu with rfl | rfl <;> rfl) (by unfold maxLen; omega) (by omega) hB'
  obtain ⟨g, cap, rfl⟩ := own_form k1 (fun e => by have := k3.1 e; have := this.2; omega)
  have t : Turns (fun k => v1.ownBlock = some k) W w' := ((Turns.refl _ W).alloc _).trans (Turns.grown k2 (fun k e => e))
  have hg : v1.ownBlock = some g ∨ W.heap.size < g := by
    rcases k4 with k4 | k4
    · exact .inl k4.symm
    · right; simp [Value.ownBlock] at k4; omega
  unfold Oper.wp
  simp [execOp, ho, resolve, invoke, builtin, hs, hx, hr, Result.andThen]
  refine h g cap w' ?_ t hg
  unfold HRow
  rw [List.length_append, show flatH (es ++ [e]) = flatH es ++ hkV e by simp [flatH]]
  exact k1
/-- One task behind a row of tasks, at one operation of a region. -/
theorem step_append_tk (w : World) {ops : Array Oper} {o : Oper} {a : Act} {K : Act → World → Prop} {Q : Exit → Act → World → Prop} {E : Prop} (hgd : o.guard = none) (s x : Operand)
    (ho : o.op = .call { callee := .builtin .append, args := #[s, x], argTypes := #[45, 45] })
    (Bd ob : Nat) (v1 : Value) (ts : List TaskD) (pvs : List Value) (t : TaskD) (pa : Option Addr) (pc : Nat) (cells : Array Value) (hcells : cells = (tkW t (.slice pa t.prog.length pc)).toArray) (W : World) (hw1 : w = W.alloc (.cells cells 74)) (hs : a.eval s = v1) (nb : Nat) (hnb : nb = W.heap.size) (hx : a.eval x = .slice (some ⟨nb, 0, none⟩) 1 1)
    (h1 : TRow Bd ob W v1 ts pvs) (hp1 : t.prog.length ≤ pc) (hp2 : pa = none → pc = 0) (hp3 : ∀ w', Turns (ownB v1 ob) W w' → AtP w' pa t.prog) (hl : ts.length ≤ 1000000) (hB : Bd ≤ W.heap.size)
    (h : ∀ g cap w', TRow Bd ob w' (.slice (some ⟨g, 0, none⟩) (ts.length + 1) cap) (ts ++ [t]) (pvs ++ [.slice pa t.prog.length pc]) → Turns (fun k => v1.ownBlock = some k) W w' → (v1.ownBlock = some g ∨ W.heap.size < g) → K (a.put o.dst (.slice (some ⟨g, 0, none⟩) (ts.length + 1) cap)) w') :
    if Region.wanted o (yielded ops a.tmps) = true then Oper.wp Tryz.prog o a w K Q else E := by
  have hw : Region.wanted o (yielded ops a.tmps) = true := by simp [Region.wanted, hgd]
  rw [if_pos hw]
  subst hw1
  subst hnb
  obtain ⟨i, hi, hz0, hz1, hz2⟩ := info_parts infoTk
  have hcc : ∀ j u, (tkW t (.slice pa t.prog.length pc))[j]? = some u → (W.alloc (.cells cells 74)).cell? (Addr.add ⟨W.heap.size, 0, none⟩ j) = some u := by
    intro j u hu
    rw [Addr.add_lit, Nat.zero_add, World.cell?_alloc_at _ _ _ _ rfl, hcells]
    simpa using hu
  have h1' : (W.alloc (.cells cells 74)).ownsRow Bd 74 5 v1 ts.length (flatT ts pvs) := World.ownsRow.alloc h1.row _
  have hB' := le_alloc (.cells cells 74) hB
  obtain ⟨v', w', hr, k1, k2, k3, k4⟩ := run_append_own_at (P := Tryz.prog) (W.alloc (.cells cells 74)) Bd 45 o.type 74 i _ 5 64 Tryz.underlying45 hi hz0 hz1 hz2 rfl (by omega) _ ts.length (flatT ts pvs) h1' ⟨W.heap.size, 0, none⟩ 1 1 (tkW t (.slice pa t.prog.length pc)) (by simp [tkW]) hcc (fun u hu => by simp [tkW] at hu; rcases hu with rfl | rfl | rfl | rfl | rfl <;> rfl) (by unfold maxLen; omega) (by omega) hB'
  obtain ⟨g, cap, rfl⟩ := own_form k1 (fun e => by have := k3.1 e; have := this.2; omega)
  have tt : Turns (fun k => v1.ownBlock = some k) W w' := ((Turns.refl _ W).alloc _).trans (Turns.grown k2 (fun k e => e))
  have hg : v1.ownBlock = some g ∨ W.heap.size < g := by
    rcases k4 with k4 | k4
    · exact .inl k4.symm
    · right; simp [Value.ownBlock] at k4; omega
  have hg2 : v1.ownBlock = some g ∨ W.heap.size ≤ g := hg.imp (fun e => e) (fun e => by omega)
  unfold Oper.wp
  simp [execOp, ho, resolve, invoke, builtin, hs, hx, hr, Result.andThen]
  refine h g cap w' ⟨by rw [List.length_append, List.length_append, h1.len]; rfl, ?_, ?_⟩ tt hg
  · rw [List.length_append, flatT_append _ _ _ _ h1.len]
    exact k1
  · intro j u pv e1 e2
    by_cases hj : j < ts.length
    · rw [List.getElem?_append_left hj] at e1
      rw [List.getElem?_append_left (by rw [h1.len]; exact hj)] at e2
      obtain ⟨qa, qc, f1, f2, f3, f4⟩ := h1.pg j u pv e1 e2
      exact ⟨qa, qc, f1, f2, f3, stay_next f4 tt hg2⟩
    · have hj2 : j = ts.length := by
        have := (List.getElem?_eq_some_iff.1 e1).1
        simp at this
        omega
      subst hj2
      rw [List.getElem?_append_right (Nat.le_refl _), Nat.sub_self] at e1
      rw [List.getElem?_append_right (by rw [h1.len]; exact Nat.le_refl _), h1.len, Nat.sub_self] at e2
      simp at e1 e2
      subst e1 e2
      exact ⟨pa, pc, rfl, hp1, hp2, stay_next hp3 tt hg2⟩
end OfS
end Go.Proofs.YtolljdomnohmdabGreatDoor
