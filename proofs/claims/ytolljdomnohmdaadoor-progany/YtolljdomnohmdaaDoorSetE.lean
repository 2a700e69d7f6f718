/- Same, of sets without channels. -/
import Derived.Test.YtolljdomnohmdaaDoorSetD
namespace Go.Proofs.YtolljdomnohmdaaDoor
open Go.RowKit

theorem sameP_len : ∀ (p q : List OpD), p.length ≠ q.length → sameP p q = false
  | [], [], h => absurd rfl h
  | [], _ :: _, _ => rfl
  | _ :: _, [], _ => rfl
  | a :: p, b :: q, h => by
    rw [sameP, sameP_len p q (by simpa using h)]
    split <;> rfl
theorem sameTs_len : ∀ (p q : List TaskD), p.length ≠ q.length → sameTs p q = false
  | [], [], h => absurd rfl h
  | [], _ :: _, _ => rfl
  | _ :: _, [], _ => rfl
  | a :: p, b :: q, h => by
    rw [sameTs, sameTs_len p q (by simpa using h)]
    split <;> rfl

set_option maxHeartbeats 4000000 in
theorem eqops_any (a b : Option Addr) (c d : Nat) (p q : List OpD) (w : World) (hA : AtP w a p) (hB : AtP w b q) (hp : p.length ≤ 100000) (hc : ∀ o ∈ p, o.cases.length ≤ 1000000) :
    Calls Tryd.prog 74 #[.slice a p.length c, .slice b q.length d, .func (.func 75) #[] #[]] w fun e w' => e = .returned (.bool (sameP p q)) ∧ Kept w w' := by
  have HA : Hid (AtP w a p) := hA
  have HB : Hid (AtP w b q) := hB
  have HC : Hid (∀ o ∈ p, o.cases.length ≤ 1000000) := hc
  clear hA hB hc
  by_cases hlm : p.length = q.length
  rotate_left
  · have hne : ((p.length : Int) != (q.length : Int)) = true := by simp; omega
    have HZ : Hid (sameP p q = false) := sameP_len p q hlm
    go_enter Tryd.func74, Tryd.ntmps74
    go_wp2_with fail
    go_ret
    rw [HZ.out]
    exact ⟨rfl, Kept.refl w⟩
  have HLM : Hid (p.length = q.length) := hlm
  rw [← hlm]
  clear hlm
  go_enter Tryd.func74, Tryd.ntmps74
  go_wp2_with fail
  go_loopg [17] p.length (fun gk i wr => ∃ j : Nat, i = .int .i64 j ∧ j + gk = p.length ∧ Hid (sameP p q = sameP (p.drop j) (q.drop j)) ∧ Kept w wr)
  case atStart => exact ⟨0, rfl, by omega, (by show _ = _; rw [List.drop_zero, List.drop_zero]), Kept.refl w⟩
  case round =>
    obtain ⟨j, rfl, hj, HE, K⟩ := hrel
    by_cases hjp : j < p.length
    · obtain ⟨b1, f1, k, n, v, wt, l, ca, cc, rfl, hpj, g0, g1, g2, g3, g4, hcc, hat, hbl, hdr⟩ := (HA.out.kept K).get j hjp
      obtain ⟨b2, f2, k', n', v', wt', l', ca', cc', rfl, hqj, g0', g1', g2', g3', g4', hcc', hat', hbl', hdr'⟩ := (HB.out.kept K).get j (by rw [← HLM.out]; exact hjp)
      have i1 : (j : Int) < (p.length : Int) := by omega
      have i2 : (0 : Int) ≤ (j : Int) := by omega
      have hll : l.length ≤ 1000000 := HC.out _ (List.mem_of_getElem? hpj)
      have KA := (Kept.refl wr).alloc (.cells #[.int .i64 k, .int .i64 n, .int .i64 v, .int .i64 wt, .slice ca l.length cc] 77)
      have KB := KA.alloc (.cells #[.int .i64 k', .int .i64 n', .int .i64 v', .int .i64 wt', .slice ca' l'.length cc'] 77)
      have y0 := KA.cell g0'
      have y1 := KA.cell g1'
      have y2 := KA.cell g2'
      have y3 := KA.cell g3'
      have y4 := KA.cell g4'
      have hsa := same_any k n v wt k' n' v' wt' ca ca' l.length l'.length cc cc' l l' _ (hat.kept KB) (hat'.kept KB) hll
      have HE2 : Hid (sameP p q = if sameD ⟨k, n, v, wt, l⟩ ⟨k', n', v', wt', l'⟩ = true then sameP (p.drop (j + 1)) (q.drop (j + 1)) else false) := by show _ = _; rw [HE.out, hdr, hdr', sameP]
      obtain ⟨gg, rfl⟩ : ∃ g, gk = g + 1 := ⟨gk - 1, by omega⟩
      clear hpj hat hdr hqj hat' hdr' HE
      cases hq : sameD ⟨k, n, v, wt, l⟩ ⟨k', n', v', wt', l'⟩ with
      | true =>
        rw [hq] at hsa
        have HZ : Hid (sameP p q = sameP (p.drop (j + 1)) (q.drop (j + 1))) := by show _ = _; rw [HE2.out, if_pos hq]
        clear HE2 hq
        go_wp2_with fail
        refine hsa.mono ?_
        rintro e w2 ⟨rfl, t2⟩
        go_wp2_with fail
        go_roundg gg
        case rel => exact ⟨j + 1, by go_num, by omega, HZ, (K.trans KB).trans t2⟩
        case measure => omega
      | false =>
        rw [hq] at hsa
        have HZ : Hid (sameP p q = false) := by show _ = _; rw [HE2.out, if_neg (by rw [hq]; simp)]
        clear HE2 hq
        go_wp2_with fail
        refine hsa.mono ?_
        rintro e w2 ⟨rfl, t2⟩
        go_wp2_with fail
        go_ret
        rw [HZ.out]
        exact ⟨rfl, (K.trans KB).trans t2⟩
    · have i1 : ¬ (j : Int) < (p.length : Int) := by omega
      have HZ : Hid (sameP p q = true) := by show _ = _; rw [HE.out, List.drop_eq_nil_of_le (by omega), List.drop_eq_nil_of_le (by have := HLM.out; omega)]; rfl
      go_wp2_with fail
      go_ret
      rw [HZ.out]
      exact ⟨rfl, K⟩

set_option maxHeartbeats 4000000 in
theorem sameTask_any (nm nm' : List UInt8) (pd dl bu pd' dl' bu' : Int) (pr pr' : List OpD) (pa pa' : Option Addr) (pc pc' : Nat) (w : World) (hA : AtP w pa pr) (hB : AtP w pa' pr') (hp : pr.length ≤ 100000) (hc : ∀ o ∈ pr, o.cases.length ≤ 1000000) :
    Calls Tryd.prog 62 #[.agg #[.string (B nm), .int .i64 pd, .int .i64 dl, .int .i64 bu, .slice pa pr.length pc], .agg #[.string (B nm'), .int .i64 pd', .int .i64 dl', .int .i64 bu', .slice pa' pr'.length pc']] w fun e w' => e = .returned (.bool (sameT ⟨nm, pd, dl, bu, pr⟩ ⟨nm', pd', dl', bu', pr'⟩)) ∧ Kept w w' := by
  have K2 := ((Kept.refl w).alloc (.cells #[.string (B nm), .int .i64 pd, .int .i64 dl, .int .i64 bu, .slice pa pr.length pc] 70)).alloc (.cells #[.string (B nm'), .int .i64 pd', .int .i64 dl', .int .i64 bu', .slice pa' pr'.length pc'] 70)
  have HT : Hid (sameT ⟨nm, pd, dl, bu, pr⟩ ⟨nm', pd', dl', bu', pr'⟩ = (decide (nm = nm') && decide (pd = pd') && decide (dl = dl') && decide (bu = bu') && sameP pr pr')) := rfl
  have heq := eqops_any pa pa' pc pc' pr pr' _ (hA.kept K2) (hB.kept K2) hp hc
  by_cases h1 : nm = nm'
  rotate_left
  · have e1 : ((B nm).toList == (B nm').toList) = false := by rw [B_eq]; simpa using h1
    have HZ : Hid (sameT ⟨nm, pd, dl, bu, pr⟩ ⟨nm', pd', dl', bu', pr'⟩ = false) := by show _ = _; rw [HT.out]; simp [h1]
    clear HT heq h1 hc hA hB
    go_enter Tryd.func62, Tryd.ntmps62
    go_wp2_with fail
    go_ret
    rw [HZ.out]
    exact ⟨rfl, K2⟩
  subst h1
  by_cases h_pd : pd = pd'
  rotate_left
  · have e_pd : (pd == pd') = false := by simpa using h_pd
    have HZ : Hid (sameT ⟨nm, pd, dl, bu, pr⟩ ⟨nm, pd', dl', bu', pr'⟩ = false) := by show _ = _; rw [HT.out]; simp [h_pd]
    clear HT heq hc hA hB h_pd
    go_enter Tryd.func62, Tryd.ntmps62
    go_wp2_with fail
    go_ret
    rw [HZ.out]
    exact ⟨rfl, K2⟩
  subst h_pd
  by_cases h_dl : dl = dl'
  rotate_left
  · have e_dl : (dl == dl') = false := by simpa using h_dl
    have HZ : Hid (sameT ⟨nm, pd, dl, bu, pr⟩ ⟨nm, pd, dl', bu', pr'⟩ = false) := by show _ = _; rw [HT.out]; simp [h_dl]
    clear HT heq hc hA hB h_dl
    go_enter Tryd.func62, Tryd.ntmps62
    go_wp2_with fail
    go_ret
    rw [HZ.out]
    exact ⟨rfl, K2⟩
  subst h_dl
  by_cases h_bu : bu = bu'
  rotate_left
  · have e_bu : (bu == bu') = false := by simpa using h_bu
    have HZ : Hid (sameT ⟨nm, pd, dl, bu, pr⟩ ⟨nm, pd, dl, bu', pr'⟩ = false) := by show _ = _; rw [HT.out]; simp [h_bu]
    clear HT heq hc hA hB h_bu
    go_enter Tryd.func62, Tryd.ntmps62
    go_wp2_with fail
    go_ret
    rw [HZ.out]
    exact ⟨rfl, K2⟩
  subst h_bu
  cases hq : sameP pr pr' with
  | true =>
    rw [hq] at heq
    have HZ : Hid (sameT ⟨nm, pd, dl, bu, pr⟩ ⟨nm, pd, dl, bu, pr'⟩ = true) := by show _ = _; rw [HT.out]; simp [hq]
    clear HT hq hc hA hB
    go_enter Tryd.func62, Tryd.ntmps62
    go_wp2_with fail
    refine heq.mono ?_
    rintro e w2 ⟨rfl, t2⟩
    go_wp2_with fail
    go_ret
    rw [HZ.out]
    exact ⟨rfl, K2.trans t2⟩
  | false =>
    rw [hq] at heq
    have HZ : Hid (sameT ⟨nm, pd, dl, bu, pr⟩ ⟨nm, pd, dl, bu, pr'⟩ = false) := by show _ = _; rw [HT.out]; simp [hq]
    clear HT hq hc hA hB
    go_enter Tryd.func62, Tryd.ntmps62
    go_wp2_with fail
    refine heq.mono ?_
    rintro e w2 ⟨rfl, t2⟩
    go_wp2_with fail
    go_ret
    rw [HZ.out]
    exact ⟨rfl, K2.trans t2⟩

set_option maxHeartbeats 4000000 in
theorem eqtasks_any (a b : Option Addr) (c d : Nat) (p q : List TaskD) (w : World) (hA : AtT w a p) (hB : AtT w b q) (hp : p.length ≤ 100000) (hc : TsOk p) :
    Calls Tryd.prog 61 #[.slice a p.length c, .slice b q.length d, .func (.func 62) #[] #[]] w fun e w' => e = .returned (.bool (sameTs p q)) ∧ Kept w w' := by
  have HA : Hid (AtT w a p) := hA
  have HB : Hid (AtT w b q) := hB
  have HC : Hid (TsOk p) := hc
  clear hA hB hc
  by_cases hlm : p.length = q.length
  rotate_left
  · have hne : ((p.length : Int) != (q.length : Int)) = true := by simp; omega
    have HZ : Hid (sameTs p q = false) := sameTs_len p q hlm
    go_enter Tryd.func61, Tryd.ntmps61
    go_wp2_with fail
    go_ret
    rw [HZ.out]
    exact ⟨rfl, Kept.refl w⟩
  have HLM : Hid (p.length = q.length) := hlm
  rw [← hlm]
  clear hlm
  go_enter Tryd.func61, Tryd.ntmps61
  go_wp2_with fail
  go_loopg [17] p.length (fun gk i wr => ∃ j : Nat, i = .int .i64 j ∧ j + gk = p.length ∧ Hid (sameTs p q = sameTs (p.drop j) (q.drop j)) ∧ Kept w wr)
  case atStart => exact ⟨0, rfl, by omega, (by show _ = _; rw [List.drop_zero, List.drop_zero]), Kept.refl w⟩
  case round =>
    obtain ⟨j, rfl, hj, HE, K⟩ := hrel
    by_cases hjp : j < p.length
    · obtain ⟨b1, f1, nm, pd, dl, bu, pr, pa, pc, rfl, hpj, g0, g1, g2, g3, g4, hcc, hat, hbl, hdr⟩ := (HA.out.kept K).get j hjp
      obtain ⟨b2, f2, nm', pd', dl', bu', pr', pa', pc', rfl, hqj, g0', g1', g2', g3', g4', hcc', hat', hbl', hdr'⟩ := (HB.out.kept K).get j (by rw [← HLM.out]; exact hjp)
      have i1 : (j : Int) < (p.length : Int) := by omega
      have i2 : (0 : Int) ≤ (j : Int) := by omega
      have hok1 := HC.out _ (List.mem_of_getElem? hpj)
      have KA := (Kept.refl wr).alloc (.cells #[.string (B nm), .int .i64 pd, .int .i64 dl, .int .i64 bu, .slice pa pr.length pc] 70)
      have KB := KA.alloc (.cells #[.string (B nm'), .int .i64 pd', .int .i64 dl', .int .i64 bu', .slice pa' pr'.length pc'] 70)
      have y0 := KA.cell g0'
      have y1 := KA.cell g1'
      have y2 := KA.cell g2'
      have y3 := KA.cell g3'
      have y4 := KA.cell g4'
      have hsa := sameTask_any nm nm' pd dl bu pd' dl' bu' pr pr' pa pa' pc pc' _ (hat.kept KB) (hat'.kept KB) hok1.2.1 hok1.2.2
      have HE2 : Hid (sameTs p q = if sameT ⟨nm, pd, dl, bu, pr⟩ ⟨nm', pd', dl', bu', pr'⟩ = true then sameTs (p.drop (j + 1)) (q.drop (j + 1)) else false) := by show _ = _; rw [HE.out, hdr, hdr', sameTs]
      obtain ⟨gg, rfl⟩ : ∃ g, gk = g + 1 := ⟨gk - 1, by omega⟩
      clear hpj hat hdr hqj hat' hdr' HE hok1
      cases hq : sameT ⟨nm, pd, dl, bu, pr⟩ ⟨nm', pd', dl', bu', pr'⟩ with
      | true =>
        rw [hq] at hsa
        have HZ : Hid (sameTs p q = sameTs (p.drop (j + 1)) (q.drop (j + 1))) := by show _ = _; rw [HE2.out, if_pos hq]
        clear HE2 hq
        go_wp2_with fail
        refine hsa.mono ?_
        rintro e w2 ⟨rfl, t2⟩
        go_wp2_with fail
        go_roundg gg
        case rel => exact ⟨j + 1, by go_num, by omega, HZ, (K.trans KB).trans t2⟩
        case measure => omega
      | false =>
        rw [hq] at hsa
        have HZ : Hid (sameTs p q = false) := by show _ = _; rw [HE2.out, if_neg (by rw [hq]; simp)]
        clear HE2 hq
        go_wp2_with fail
        refine hsa.mono ?_
        rintro e w2 ⟨rfl, t2⟩
        go_wp2_with fail
        go_ret
        rw [HZ.out]
        exact ⟨rfl, (K.trans KB).trans t2⟩
    · have i1 : ¬ (j : Int) < (p.length : Int) := by omega
      have HZ : Hid (sameTs p q = true) := by show _ = _; rw [HE.out, List.drop_eq_nil_of_le (by omega), List.drop_eq_nil_of_le (by have := HLM.out; omega)]; rfl
      go_wp2_with fail
      go_ret
      rw [HZ.out]
      exact ⟨rfl, K⟩

theorem eqch0_any (a b : Option Addr) (c d : Nat) (w : World) :
    Calls Tryd.prog 60 #[.slice a 0 c, .slice b 0 d] w fun e w' => e = .returned (.bool true) ∧ Kept w w' := by
  go_enter Tryd.func60, Tryd.ntmps60
  go_wp2_with fail
  go_loopg [13] 0 (fun gk i wr => gk = 0 ∧ i = .int .i64 0 ∧ Kept w wr)
  case atStart => exact ⟨rfl, rfl, Kept.refl w⟩
  case round =>
    obtain ⟨rfl, rfl, K⟩ := hrel
    go_wp2_with fail
    go_ret
    exact ⟨rfl, K⟩

set_option maxHeartbeats 2000000 in
theorem ssame_any (L : Int) (ca ca' ta ta' : Option Addr) (cc cc' tc tc' : Nat) (ts ts' : List TaskD) (w : World) (hA : AtT w ta ts) (hB : AtT w ta' ts') (hl : ts.length ≤ 100000) (hok : TsOk ts) :
    Calls Tryd.prog 34 #[.agg #[.int .i64 L, .slice ca 0 cc, .slice ta ts.length tc], .agg #[.int .i64 L, .slice ca' 0 cc', .slice ta' ts'.length tc']] w fun e w' => e = .returned (.bool (sameTs ts ts')) ∧ Kept w w' := by
  have K2 := ((Kept.refl w).alloc (.cells #[.int .i64 L, .slice ca 0 cc, .slice ta ts.length tc] 58)).alloc (.cells #[.int .i64 L, .slice ca' 0 cc', .slice ta' ts'.length tc'] 58)
  have HB1 : Hid (Box w.heap.size ((w.alloc (.cells #[.int .i64 L, .slice ca 0 cc, .slice ta ts.length tc] 58)).alloc (.cells #[.int .i64 L, .slice ca' 0 cc', .slice ta' ts'.length tc'] 58)) 58 w.heap.size [.int .i64 L, .slice ca 0 cc, .slice ta ts.length tc]) := (box_new w.heap.size w 58 [.int .i64 L, .slice ca 0 cc, .slice ta ts.length tc] (Nat.le_refl _) (by simp)).kept ((Kept.refl _).alloc _)
  have HB2 : Hid (Box w.heap.size ((w.alloc (.cells #[.int .i64 L, .slice ca 0 cc, .slice ta ts.length tc] 58)).alloc (.cells #[.int .i64 L, .slice ca' 0 cc', .slice ta' ts'.length tc'] 58)) 58 (w.heap.size + 1) [.int .i64 L, .slice ca' 0 cc', .slice ta' ts'.length tc']) := by
    have h := box_new w.heap.size (w.alloc (.cells #[.int .i64 L, .slice ca 0 cc, .slice ta ts.length tc] 58)) 58 [.int .i64 L, .slice ca' 0 cc', .slice ta' ts'.length tc'] (by simp) (by simp)
    rw [show (w.alloc (.cells #[.int .i64 L, .slice ca 0 cc, .slice ta ts.length tc] 58)).heap.size = w.heap.size + 1 by simp] at h
    exact h
  have HET : Hid (∀ w', Kept w w' → Calls Tryd.prog 61 #[.slice ta ts.length tc, .slice ta' ts'.length tc', .func (.func 62) #[] #[]] w' fun e w'' => e = .returned (.bool (sameTs ts ts')) ∧ Kept w' w'') := fun w' t => eqtasks_any ta ta' tc tc' ts ts' w' (hA.kept t) (hB.kept t) hl hok
  clear hA hB hok
  go_enter Tryd.func34, Tryd.ntmps34
  go_wp2_with fail
  refine (eqch0_any ca ca' cc cc' _).mono ?_
  rintro e w3 ⟨rfl, t3⟩
  have u2 : w3.cell? ⟨w.heap.size, 2, none⟩ = some (.slice ta ts.length tc) := (HB1.out.kept t3).cell 2 (by simp)
  have v2 : w3.cell? ⟨w.heap.size + 1, 2, none⟩ = some (.slice ta' ts'.length tc') := (HB2.out.kept t3).cell 2 (by simp)
  have K3 := K2.trans t3
  cases hq : sameTs ts ts' with
  | true =>
    have h4 := HET.out w3 K3
    rw [hq] at h4
    go_wp2_with fail
    refine h4.mono ?_
    rintro e w4 ⟨rfl, t4⟩
    go_wp2_with fail
    go_ret
    rw [hq]
    exact ⟨rfl, K3.trans t4⟩
  | false =>
    have h4 := HET.out w3 K3
    rw [hq] at h4
    go_wp2_with fail
    refine h4.mono ?_
    rintro e w4 ⟨rfl, t4⟩
    go_wp2_with fail
    go_ret
    rw [hq]
    exact ⟨rfl, K3.trans t4⟩
end Go.Proofs.YtolljdomnohmdaaDoor
