/- checkEach, checkOrder. times: how often each op is done. times, walked. Steps, Cost, Check. -/
import Derived.Test.YtlkbphogpbcjfaaGreatDoorQCk
import Derived.Test.YtlkbphogpbcjfaaGreatDoorQTk
import Derived.Test.YtlkbphogpbcjfaaGreatDoorQbase
import Derived.OwnWalk
namespace Go.Proofs.YtlkbphogpbcjfaaGreatDoor
open Go.RowKit

set_option maxHeartbeats 2000000 in
theorem each_any (a : Option Addr) (c : Nat) (p : List OpD) (w : World) (hr : Rdy w) (hA : AtP w a p) (hp : p.length ≤ 100000) (hc : ∀ o ∈ p, o.cases.length ≤ 1000000) :
    Calls Tryz.prog 89 #[.slice a p.length c] w fun e w' => e = .returned (.tuple #[.int .i64 (eachGo 0 p).1, .int .i64 (eachGo 0 p).2]) ∧ Kept w w' := by
  have HR : Hid (Rdy w) := hr
  have HA : Hid (AtP w a p) := hA
  have HC : Hid (∀ o ∈ p, o.cases.length ≤ 1000000) := hc
  clear hr hA hc
  go_enter Tryz.func89, Tryz.ntmps89
  go_wp2_with fail
  go_step3
  go_wp2_with fail
  go_step3
  go_wp2_with fail
  go_loopg [4, 5, 10] p.length (fun gk x4 x5 i wr => ∃ j : Nat, i = .int .i64 j ∧ x4 = .int .i64 0 ∧ x5 = .int .i64 0 ∧ j + gk = p.length ∧ Hid (eachGo 0 p = eachGo j (p.drop j)) ∧ Kept w wr)
  case atStart => exact ⟨0, rfl, rfl, rfl, by omega, (by show _ = _; rw [List.drop_zero]), Kept.refl w⟩
  case round =>
    obtain ⟨j, rfl, rfl, rfl, hj, HE, K⟩ := hrel
    by_cases hjp : j < p.length
    · obtain ⟨b, f, k, n, v, wt, l, ca, cc, rfl, hpj, g0, g1, g2, g3, g4, hcc, hat, hbl, hdr⟩ := (HA.out.kept K).get j hjp
      have b1 : (j : Int) < (p.length : Int) := by omega
      have b2 : (0 : Int) ≤ (j : Int) := by omega
      have hll : l.length ≤ 1000000 := HC.out _ (List.mem_of_getElem? hpj)
      have KB := K.alloc (.cells #[.int .i64 k, .int .i64 n, .int .i64 v, .int .i64 wt, .slice ca l.length cc] 77)
      have hck := check_any k n v wt ca l.length cc l _ (HR.out.kept KB) (hat.kept ((Kept.refl wr).alloc _)) hll hcc
      have HE2 : Hid (eachGo 0 p = if checkD ⟨k, n, v, wt, l⟩ = 0 then eachGo (j + 1) (p.drop (j + 1)) else (j, checkD ⟨k, n, v, wt, l⟩)) := by show _ = _; rw [HE.out, hdr, eachGo]
      obtain ⟨g3', rfl⟩ : ∃ g, gk = g + 1 := ⟨gk - 1, by omega⟩
      clear hpj hat hdr HE
      by_cases hz : checkD ⟨k, n, v, wt, l⟩ = 0
      · rw [hz] at hck
        have HE3 : Hid (eachGo 0 p = eachGo (j + 1) (p.drop (j + 1))) := by show _ = _; rw [HE2.out, if_pos hz]
        clear hz HE2
        go_wp2_with fail
        refine hck.mono ?_
        rintro e w2 ⟨rfl, t2⟩
        go_wp2_with fail
        go_roundg g3'
        case rel => exact ⟨j + 1, by go_num, rfl, rfl, by omega, HE3, KB.trans t2⟩
        case measure => omega
      · have hne : (checkD ⟨k, n, v, wt, l⟩ != 0) = true := by simp [hz]
        have HE3 : Hid (eachGo 0 p = (j, checkD ⟨k, n, v, wt, l⟩)) := by show _ = _; rw [HE2.out, if_neg hz]
        clear hz HE2
        go_wp2_with fail
        refine hck.mono ?_
        rintro e w2 ⟨rfl, t2⟩
        go_wp2_with fail
        try rw [Exit.noGoto_ret]
        go_ret2
        rw [HE3.out]
        exact ⟨rfl, KB.trans t2⟩
    · have b1 : ¬ (j : Int) < (p.length : Int) := by omega
      have HE3 : Hid (eachGo 0 p = (0, 0)) := by show _ = _; rw [HE.out, List.drop_eq_nil_of_le (by omega)]; rfl
      go_wp2_with fail
      try rw [Exit.noGoto_ret]
      go_ret2
      rw [HE3.out]
      exact ⟨rfl, K⟩

set_option maxHeartbeats 4000000 in
theorem order_any (a : Option Addr) (c : Nat) (p : List OpD) (w : World) (hr : Rdy w) (hA : AtP w a p) (hp : p.length ≤ 100000) (hc : ∀ o ∈ p, checkD o = 0) :
    Calls Tryz.prog 90 #[.slice a p.length c] w fun e w' => e = .returned (.tuple #[.int .i64 (ordGo 0 0 [] p).1, .int .i64 (ordGo 0 0 [] p).2]) ∧ Kept w w' := by
  have HR : Hid (Rdy w) := hr
  have HA : Hid (AtP w a p) := hA
  have HC : Hid (∀ o ∈ p, checkD o = 0) := hc
  have H0 : Hid (StP w.heap.size (w.alloc (.cells #[.int .u64 0, .slice none 0 0] 160)) w.heap.size (.slice none 0 0) 0 []) := ⟨box_new w.heap.size w 160 [.int .u64 0, .slice none 0 0] (Nat.le_refl _) (by simp), LRow.nil _ _, fun q hq => by simp [Value.ownBlock] at hq⟩
  clear hr hA hc
  go_enter Tryz.func90, Tryz.ntmps90
  go_wp2_with fail
  go_step3
  go_wp2_with fail
  go_step3
  go_wp2_with fail
  go_loopg [4, 5, 11] p.length (fun gk x4 x5 i wr => ∃ (j m : Nat) (lp : List Nat) (lv : Value), i = .int .i64 j ∧ x4 = .int .i64 0 ∧ x5 = .int .i64 0 ∧ j + gk = p.length ∧ m < 256 ∧ Hid (lp.length ≤ 3) ∧ Hid (ordGo 0 0 [] p = ordGo j m lp (p.drop j)) ∧ Hid (StP w.heap.size wr w.heap.size lv m lp) ∧ Kept w wr)
  case atStart => exact ⟨0, 0, [], _, rfl, rfl, rfl, by omega, by omega, (by show _ ≤ _; simp), (by show _ = _; rw [List.drop_zero]), H0, (Kept.refl w).alloc _⟩
  case round =>
    obtain ⟨j, m, lp, lv, rfl, rfl, rfl, hj, hm, HL, HE, HS, K⟩ := hrel
    by_cases hjp : j < p.length
    · obtain ⟨b, f, k, n, v, wt, l, ca, cc, rfl, hpj, g0, g1, g2, g3, g4, hcc, hat, hbl, hdr⟩ := (HA.out.kept K).get j hjp
      have b1 : (j : Int) < (p.length : Int) := by omega
      have b2 : (0 : Int) ≤ (j : Int) := by omega
      have HCK : Hid (checkD ⟨k, n, v, wt, l⟩ = 0) := HC.out _ (List.mem_of_getElem? hpj)
      have KB := K.alloc (.cells #[.int .i64 k, .int .i64 n, .int .i64 v, .int .i64 wt, .slice ca l.length cc] 77)
      have HSB : Hid (StP w.heap.size (wr.alloc (.cells #[.int .i64 k, .int .i64 n, .int .i64 v, .int .i64 wt, .slice ca l.length cc] 77)) w.heap.size lv m lp) := HS.out.kept ((Kept.refl wr).alloc _)
      have htk := stakes_any w.heap.size w.heap.size m lv lp ca cc ⟨k, n, v, wt, l⟩ _ HSB.out hm HL.out HCK.out (HR.out.kept KB)
      simp only at htk
      have HE2 : Hid (ordGo 0 0 [] p = ordGo j m lp (⟨k, n, v, wt, l⟩ :: p.drop (j + 1))) := by show _ = _; rw [HE.out, hdr]
      obtain ⟨g3', rfl⟩ : ∃ g, gk = g + 1 := ⟨gk - 1, by omega⟩
      clear hpj hat hdr HE
      go_wp2_with fail
      refine htk.mono ?_
      rintro e w2 ⟨t2, hpost⟩
      have K2 := t2.kept KB (fun i hi => hi)
      rcases hpost with ⟨hn, rfl⟩ | ⟨m', lp', lv', hsome, rfl, hst⟩
      · have HE3 : Hid (ordGo 0 0 [] p = (j, 11)) := by show _ = _; rw [HE2.out, ordGo, hn]
        clear hn HE2
        go_wp2_with fail
        try rw [Exit.noGoto_ret]
        go_ret2
        rw [HE3.out]
        exact ⟨rfl, K2⟩
      · have hsm := take_small hm HL.out HCK.out hsome
        have HE3 : Hid (ordGo 0 0 [] p = if p.drop (j + 1) = [] ∧ (m' ≠ 0 ∨ lp' ≠ []) then (j, 11) else ordGo (j + 1) m' lp' (p.drop (j + 1))) := by show _ = _; rw [HE2.out, ordGo, hsome]
        have HS2 : Hid (StP w.heap.size w2 w.heap.size lv' m' lp') := hst
        have HL2 : Hid (lp'.length ≤ 3) := hsm.2
        have hm2 : m' < 256 := hsm.1
        clear hsome HE2 hst hsm
        by_cases hlast : j + 1 = p.length
        · have e1 : ((j : Int) == (p.length : Int) - 1) = true := by simp; omega
          have hop := open_any w.heap.size w.heap.size m' lv' lp' w2 HS2.out
          have HD : Hid (p.drop (j + 1) = []) := List.drop_eq_nil_of_le (by omega)
          by_cases ho : m' ≠ 0 ∨ lp' ≠ []
          · have HE4 : Hid (ordGo 0 0 [] p = (j, 11)) := by show _ = _; rw [HE3.out, if_pos ⟨HD.out, ho⟩]
            rw [decide_eq_true ho] at hop
            clear HE3 ho
            go_wp2_with fail
            refine hop.mono ?_
            rintro e w3 ⟨rfl, hw3⟩
            subst w3
            go_wp2_with fail
            try rw [Exit.noGoto_ret]
            go_ret2
            rw [HE4.out]
            exact ⟨rfl, K2⟩
          · have HE4 : Hid (ordGo 0 0 [] p = ordGo (j + 1) m' lp' (p.drop (j + 1))) := by show _ = _; rw [HE3.out, if_neg (fun h => ho h.2)]
            rw [decide_eq_false ho] at hop
            clear HE3 ho
            go_wp2_with fail
            refine hop.mono ?_
            rintro e w3 ⟨rfl, hw3⟩
            subst w3
            go_wp2_with fail
            go_roundg g3'
            case rel => exact ⟨j + 1, m', lp', lv', by go_num, rfl, rfl, by omega, hm2, HL2, HE4, HS2, K2⟩
            case measure => omega
        · have e1 : ((j : Int) == (p.length : Int) - 1) = false := beq_eq_false_iff_ne.2 (by omega)
          have HE4 : Hid (ordGo 0 0 [] p = ordGo (j + 1) m' lp' (p.drop (j + 1))) := by
            show _ = _
            rw [HE3.out, if_neg (fun h => ?_)]
            have := congrArg List.length h.1
            simp at this
            omega
          clear HE3
          go_wp2_with fail
          go_roundg g3'
          case rel => exact ⟨j + 1, m', lp', lv', by go_num, rfl, rfl, by omega, hm2, HL2, HE4, HS2, K2⟩
          case measure => omega
    · have b1 : ¬ (j : Int) < (p.length : Int) := by omega
      have HE3 : Hid (ordGo 0 0 [] p = (0, 0)) := by show _ = _; rw [HE.out, List.drop_eq_nil_of_le (by omega)]; rfl
      go_wp2_with fail
      try rw [Exit.noGoto_ret]
      go_ret2
      rw [HE3.out]
      exact ⟨rfl, K⟩
end Go.Proofs.YtlkbphogpbcjfaaGreatDoor
namespace Go.Proofs.YtlkbphogpbcjfaaGreatDoor
open Go.RowKit

theorem n64 : NumOf 60 2 := ⟨Tryz.underlying60, by kernel_rfl⟩
end Go.Proofs.YtlkbphogpbcjfaaGreatDoor
namespace Go.Proofs.YtlkbphogpbcjfaaGreatDoor
open Go.RowKit

theorem info2 : ∃ i, Tryz.prog.info? 2 = some i ∧ i.zero = some (.int .i64 0) ∧ i.size = 1 ∧ i.bytes = 8 := by
  obtain ⟨i, hi, hz0, hz1, hz2⟩ := info_parts n64.inf
  exact ⟨i, hi, hz0, hz1, hz2⟩
set_option maxHeartbeats 4000000 in
set_option maxRecDepth 10000 in
theorem times_any (a : Option Addr) (c : Nat) (p : List OpD) (w : World) (hA : AtP w a p) (hp : p.length ≤ 100000) (hc : ∀ o ∈ p, checkD o = 0) (hrun : runM 0 [] p = some (0, [])) :
    Calls Tryz.prog 46 #[.slice a p.length c] w fun e w' => ∃ v, e = .returned v ∧ IRow 2 w.heap.size w' v (timesGo [1] p) ∧ Kept w w' := by
  have HA : Hid (AtP w a p) := hA
  have HC : Hid (∀ o ∈ p, checkD o = 0) := hc
  have HRUN : Hid (runM 0 [] p = some (0, [])) := hrun
  obtain ⟨T, hT⟩ : ∃ T, timesGo [1] p = T := ⟨_, rfl⟩
  have hTl : T.length = p.length := by rw [← hT, times_len]
  have HT0 : Hid (T.drop 0 = timesGo [1] (p.drop 0)) := by show _ = _; rw [List.drop_zero, List.drop_zero, hT]
  rw [hT]
  obtain ⟨i2, hi2, hi20, hi21, hi28⟩ := info2
  clear hA hc hrun hT
  go_enter Tryz.func46, Tryz.ntmps46
  go_wp2_with (refine wpList_make_full _ rfl _ _ 60 rfl w.heap.size 2 i2 _ 1 Tryz.underlying60 hi2 hi20 hi21 _ _ _ _ p.length rfl rfl rfl rfl (by rw [hi28]; omega) (by unfold maxLen; omega) (Nat.le_refl _) ?_; intro w1 ow1 gr1)
  have hs1 := (World.ownsRow.lt ow1 w.heap.size rfl).2
  have M0 : Hid (Tm w (w1.alloc (.cells #[.int .i64 1] 2)) T 0 (.slice (some ⟨w1.heap.size, 0, none⟩) 1 1) [1]) := tm_start w w1 p.length T hTl ow1 gr1 hs1
  clear ow1 gr1 hs1
  go_loopg [4, 14] p.length (fun gk v4 i wr => ∃ (j m : Nat) (lp : List Nat) (st : List Int), i = .int .i64 j ∧ j + gk = p.length ∧ Hid (runM m lp (p.drop j) = some (0, [])) ∧ Hid (lp.length ≤ 3) ∧ Hid (st.length = lp.length + 1) ∧ Hid (Bds st) ∧ Hid (T.drop j = timesGo st (p.drop j)) ∧ Hid (Tm w wr T j v4 st))
  case atStart => exact ⟨0, 0, [], [1], rfl, by omega, (by show _ = _; rw [List.drop_zero]; exact HRUN.out), (by show _ ≤ _; simp), (by show _ = _; simp), (by show Bds _; simp [Bds]), HT0, M0⟩
  case round =>
    obtain ⟨j, m, lp, st, rfl, hj, HU, HL, HSL, HB, HT, HM⟩ := hrel
    by_cases hjp : j < p.length
    · obtain ⟨b, f, k, n, v, wt, l, ca, cc, rfl, hpj, g0, g1, g2, g3, g4, hcc, hat, hbl, hdr⟩ := (HA.out.kept HM.out.kept).get j hjp
      have b1 : (j : Int) < (p.length : Int) := by omega
      have b2 : (0 : Int) ≤ (j : Int) := by omega
      have HCK : Hid (checkD ⟨k, n, v, wt, l⟩ = 0) := HC.out _ (List.mem_of_getElem? hpj)
      obtain ⟨m1, lp1, htk, hru⟩ := run_cons (by rw [← hdr]; exact HU.out)
      have HU2 : Hid (runM m1 lp1 (p.drop (j + 1)) = some (0, [])) := hru
      have HT2 : Hid (T.drop j = timesGo st (⟨k, n, v, wt, l⟩ :: p.drop (j + 1))) := by show _ = _; rw [HT.out, hdr]
      obtain ⟨g3', rfl⟩ : ∃ g, gk = g + 1 := ⟨gk - 1, by omega⟩
      clear hpj hat hdr HT HU hru
      have hs4 : st.length ≤ 4 := by have h1 := HSL.out; have h2 := HL.out; omega
      have hs1 : 1 ≤ st.length := by have h1 := HSL.out; omega
      rcases st with _ | ⟨x, r⟩
      · simp at hs1
      · have hxb := bds_top HB.out (by simp at hs4; omega)
        rcases r with _ | ⟨y1, _ | ⟨y2, _ | ⟨y3, _ | ⟨y4, r⟩⟩⟩⟩
        · have hrl : ([x] : List Int).reverse.length = 1 := by simp
          obtain ⟨g, cp, hv4, hcp, hg1, hg2⟩ := HM.out.rnd.some (by rw [hrl]; omega)
          rw [hrl] at hv4 hcp
          subst hv4
          have cx : wr.cell? ⟨g, 0, none⟩ = some (.int .i64 x) := by
            have h := HM.out.rnd
            exact IRow.cell (c := cp) (l := ([x] : List Int).reverse) (by rw [hrl]; exact h) 0 x (by simp)
          have hsw := (World.ownsRow.lt HM.out.all w.heap.size rfl).2
          have hgw : ¬ wr.heap.size = g := by omega
          by_cases h8 : k = 8
          · subst h8
            obtain ⟨hl3, hx1⟩ := take_loop rfl htk
            cases hx1
            obtain ⟨hn1, hn2⟩ := loop_n HCK.out
            have HB2 : Hid (Bds (x * n :: [x])) := bds_push HB.out hn1 hn2
            obtain ⟨y, hy⟩ : ∃ y, x * n = y := ⟨_, rfl⟩
            have hyb : 1 ≤ y ∧ y ≤ 1048576 := by
              obtain ⟨q1, q2, _⟩ := HB2.out
              have : x * n ≤ 32768 * 32 := Int.mul_le_mul hxb.2 hn2 (by omega) (by omega)
              rw [← hy]
              exact ⟨q1, by omega⟩
            have HT3 : Hid (T.drop j = 0 :: timesGo (y :: [x]) (p.drop (j + 1))) := by show _ = _; rw [HT2.out, timesGo, if_pos rfl, ← hy]; rfl
            have HT4 : Hid (T.drop (j + 1) = timesGo (y :: [x]) (p.drop (j + 1))) := drop_next HT3.out
            have KA := ((Kept.refl wr).alloc (.cells #[.int .i64 8, .int .i64 n, .int .i64 v, .int .i64 wt, .slice ca l.length cc] 77)).drew
            have hle1 : ([x] : List Int).reverse.length ≤ 1000000 := by rw [hrl]; omega
            have hle2 : w.heap.size ≤ (wr.alloc (.cells #[.int .i64 8, .int .i64 n, .int .i64 v, .int .i64 wt, .slice ca l.length cc] 77)).drew.heap.size := by have := KA.size; omega
            have H0 : Hid ((m :: lp).length ≤ 3 ∧ (y :: [x]).length = (m :: lp).length + 1) := by
              have h2 : 1 = lp.length + 1 := HSL.out
              show lp.length + 1 ≤ 3 ∧ 1 + 1 = lp.length + 1 + 1
              omega
            rw [hy] at HB2
            have HWM : Hid (IntKind.i64.wrap y = y) := by show _ = _; simp [IntKind.wrap, IntKind.bits, IntKind.signed]; omega
            clear htk HT2
            go_wp2_with fail
            refine wp_region_S (by kernel_rfl) 10 (fun w' => w'.cell? ⟨wr.heap.size, 1, none⟩ = some (.int .i64 n)) ?_
            have hS0 : (wr.alloc (.cells #[.int .i64 8, .int .i64 n, .int .i64 v, .int .i64 wt, .slice ca l.length cc] 77)).drew.cell? ⟨wr.heap.size, 1, none⟩ = some (.int .i64 n) := (box_new 0 wr 77 [.int .i64 8, .int .i64 n, .int .i64 v, .int .i64 wt, .slice ca l.length cc] (Nat.zero_le _) (by simp)).cell 1 (by simp)
            refine wpAnyS_take (i := 0) (v := .slice (some ⟨g, 0, none⟩) 1 cp) rfl (by kernel_rfl) (by kernel_rfl) (by kernel_rfl) (by kernel_rfl) (fun _ _ _ h => h) hS0 rfl (fun wx hx => by go_simp) ?_
            refine wpAnyS_take (i := 1) (v := .slice (some ⟨g, 0, none⟩) 1 cp) rfl (by kernel_rfl) (by kernel_rfl) (by kernel_rfl) (by kernel_rfl) (fun _ _ _ h => h) hS0 rfl (fun wx hx => by go_simp) ?_
            refine wpAnyS_take (i := 2) (v := .int .i64 0) rfl (by kernel_rfl) (by kernel_rfl) (by kernel_rfl) (by kernel_rfl) (fun _ _ _ h => h) hS0 rfl (fun wx hx => by go_simp) ?_
            refine wpAnyS_take (i := 3) (v := .pointer (some ⟨g, 0, none⟩)) rfl (by kernel_rfl) (by kernel_rfl) (by kernel_rfl) (by kernel_rfl) (fun _ _ _ h => h) hS0 rfl (fun wx hx => by go_simp) ?_
            refine wpAnyS_take (i := 5) (v := .pointer (some ⟨wr.heap.size, 1, none⟩)) rfl (by kernel_rfl) (by kernel_rfl) (by kernel_rfl) (by kernel_rfl) (fun _ _ _ h => h) hS0 rfl (fun wx hx => by go_simp) ?_
            refine wpAnyS_take (i := 6) (v := .int .i64 n) rfl (by kernel_rfl) (by kernel_rfl) (by kernel_rfl) (by kernel_rfl) (fun _ _ _ h => h) hS0 rfl (fun wx hx => by go_simp) ?_
            refine wpAnyS_one (i := 4) rfl (by kernel_rfl) (fun K hK => ?_)
            go_simp
            refine hK _ _ (fun _ => hS0) ?_
            clear hK K
            refine wpAnyS_one (i := 7) rfl (by kernel_rfl) (fun K hK => ?_)
            go_simp
            rw [HWM.out]
            refine hK _ _ (fun _ => hS0) ?_
            clear hK K
            refine wpAnyS_one (i := 8) rfl (by kernel_rfl) (fun K hK => ?_)
            go_simp
            have hS1 : ((wr.alloc (.cells #[.int .i64 8, .int .i64 n, .int .i64 v, .int .i64 wt, .slice ca l.length cc] 77)).drew.alloc (.cells #[.int .i64 y] 2)).cell? ⟨wr.heap.size, 1, none⟩ = some (.int .i64 n) := ((Kept.refl _).alloc _).cell hS0
            refine hK _ _ (fun _ => hS1) ?_
            clear hK K
            refine wpAnyS_one (i := 9) rfl (by kernel_rfl) (fun K hK => ?_)
            refine step_append_int n64 _ (by rfl) _ _ (by rfl) w.heap.size (.slice (some ⟨g, 0, none⟩) 1 cp) ([x] : List Int).reverse y (wr.alloc (.cells #[.int .i64 8, .int .i64 n, .int .i64 v, .int .i64 wt, .slice ca l.length cc] 77)).drew (by rfl) (by rfl) (wr.heap.size + 1) (by show _ = (wr.alloc _).heap.size; simp) (by rfl) (HM.out.rnd.kept KA) hle1 hle2 ?_
            intro g5 c5 w5 R5 gr5 at5
            have hS5 : w5.cell? ⟨wr.heap.size, 1, none⟩ = some (.int .i64 n) := by
              have t5 : Turns (fun k => k = g) ((wr.alloc (.cells #[.int .i64 8, .int .i64 n, .int .i64 v, .int .i64 wt, .slice ca l.length cc] 77)).drew.alloc (.cells #[.int .i64 y] 2)) w5 := Turns.grown gr5 (fun k e => by simp [Value.ownBlock] at e; exact e.symm)
              exact t5.cell hS1 (cell_lt hS1) hgw
            have M5 := HM.out.push gr5 at5 R5
            rw [hrl] at M5 ⊢
            have HM5 : Hid (Tm w w5 T (j + 1) (.slice (some ⟨g5, 0, none⟩) (1 + 1) c5) (y :: [x])) := M5.skip HT3.out
            clear M5 R5 gr5 at5
            refine hK _ _ (fun _ => hS5) ?_
            clear hK K
            refine wpAnyS_one (i := 10) rfl (by kernel_rfl) (fun K hK => ?_)
            go_simp
            refine hK _ _ (fun h => absurd rfl h) ?_
            clear hK K
            refine wpAnyS_done (by kernel_rfl) ?_ _
            go_wp2_with fail
            go_roundg g3'
            case rel => exact ⟨j + 1, m, m :: lp, y :: [x], by go_num, by omega, HU2, H0.out.1, H0.out.2, HB2, HT4, HM5⟩
            case measure => omega
          · have k8 : (k == 8) = false := beq_eq_false_iff_ne.2 h8
            have KA := ((Kept.refl wr).alloc (.cells #[.int .i64 k, .int .i64 n, .int .i64 v, .int .i64 wt, .slice ca l.length cc] 77))
            by_cases h9 : k = 9
            · subst h9
              obtain ⟨r', hlp, hx1⟩ := take_end rfl htk
              have e1 := (Prod.mk.inj hx1).1
              have e2 := (Prod.mk.inj hx1).2
              clear hx1
              have h2 := HSL.out
              rw [hlp] at h2
              simp at h2
            · have k9 : (k != 9) = true := by simp [h9]
              obtain ⟨ht1, hx1⟩ := take_plain h8 h9 htk
              simp only at hx1
              subst hx1
              have HT3 : Hid (T.drop j = x :: timesGo [x] (p.drop (j + 1))) := by show _ = _; rw [HT2.out, timesGo, if_neg h8, if_neg h9]; rfl
              have HT4 : Hid (T.drop (j + 1) = timesGo [x] (p.drop (j + 1))) := drop_next HT3.out
              have HM5 : Hid (Tm w ((wr.setCell ⟨w.heap.size, j, none⟩ (.int .i64 x)).alloc (.cells #[.int .i64 k, .int .i64 n, .int .i64 v, .int .i64 wt, .slice ca l.length cc] 77)) T (j + 1) (.slice (some ⟨g, 0, none⟩) 1 cp) [x]) := (HM.out.put HT3.out).keep ((Kept.refl _).alloc _)
              have hall := HM.out.all
              have cz : wr.cell? ⟨w.heap.size, j, none⟩ = some (.int .i64 0) := by
                unfold IRow at hall
                rw [fill_len T j (by omega)] at hall
                rw [hall.cellAt j (by omega), List.getElem?_map, fill_get (by omega)]
                rfl
              have fz : wr.frozen? ⟨w.heap.size, j, none⟩ = false := by
                unfold IRow at hall
                rw [fill_len T j (by omega)] at hall
                exact hall.frozenAt j
              clear htk HT2 hall ht1
              have b7 : (j : Int) < (T.length : Int) := by omega
              go_wp2_with fail
              go_roundg g3'
              case rel => exact ⟨j + 1, m1, lp1, [x], by go_num, by omega, HU2, HL, HSL, HB, HT4, HM5⟩
              case measure => omega
        · have hrl : ([x, y1] : List Int).reverse.length = 2 := by simp
          obtain ⟨g, cp, hv4, hcp, hg1, hg2⟩ := HM.out.rnd.some (by rw [hrl]; omega)
          rw [hrl] at hv4 hcp
          subst hv4
          have cx : wr.cell? ⟨g, 1, none⟩ = some (.int .i64 x) := by
            have h := HM.out.rnd
            exact IRow.cell (c := cp) (l := ([x, y1] : List Int).reverse) (by rw [hrl]; exact h) 1 x (by simp)
          have hsw := (World.ownsRow.lt HM.out.all w.heap.size rfl).2
          have hgw : ¬ wr.heap.size = g := by omega
          by_cases h8 : k = 8
          · subst h8
            obtain ⟨hl3, hx1⟩ := take_loop rfl htk
            cases hx1
            obtain ⟨hn1, hn2⟩ := loop_n HCK.out
            have HB2 : Hid (Bds (x * n :: [x, y1])) := bds_push HB.out hn1 hn2
            obtain ⟨y, hy⟩ : ∃ y, x * n = y := ⟨_, rfl⟩
            have hyb : 1 ≤ y ∧ y ≤ 1048576 := by
              obtain ⟨q1, q2, _⟩ := HB2.out
              have : x * n ≤ 32768 * 32 := Int.mul_le_mul hxb.2 hn2 (by omega) (by omega)
              rw [← hy]
              exact ⟨q1, by omega⟩
            have HT3 : Hid (T.drop j = 0 :: timesGo (y :: [x, y1]) (p.drop (j + 1))) := by show _ = _; rw [HT2.out, timesGo, if_pos rfl, ← hy]; rfl
            have HT4 : Hid (T.drop (j + 1) = timesGo (y :: [x, y1]) (p.drop (j + 1))) := drop_next HT3.out
            have KA := ((Kept.refl wr).alloc (.cells #[.int .i64 8, .int .i64 n, .int .i64 v, .int .i64 wt, .slice ca l.length cc] 77)).drew
            have hle1 : ([x, y1] : List Int).reverse.length ≤ 1000000 := by rw [hrl]; omega
            have hle2 : w.heap.size ≤ (wr.alloc (.cells #[.int .i64 8, .int .i64 n, .int .i64 v, .int .i64 wt, .slice ca l.length cc] 77)).drew.heap.size := by have := KA.size; omega
            have H1 : Hid ((m :: lp).length ≤ 3 ∧ (y :: [x, y1]).length = (m :: lp).length + 1) := by
              have h2 : 2 = lp.length + 1 := HSL.out
              show lp.length + 1 ≤ 3 ∧ 2 + 1 = lp.length + 1 + 1
              omega
            rw [hy] at HB2
            have HWM : Hid (IntKind.i64.wrap y = y) := by show _ = _; simp [IntKind.wrap, IntKind.bits, IntKind.signed]; omega
            clear htk HT2
            go_wp2_with fail
            refine wp_region_S (by kernel_rfl) 10 (fun w' => w'.cell? ⟨wr.heap.size, 1, none⟩ = some (.int .i64 n)) ?_
            have hS0 : (wr.alloc (.cells #[.int .i64 8, .int .i64 n, .int .i64 v, .int .i64 wt, .slice ca l.length cc] 77)).drew.cell? ⟨wr.heap.size, 1, none⟩ = some (.int .i64 n) := (box_new 0 wr 77 [.int .i64 8, .int .i64 n, .int .i64 v, .int .i64 wt, .slice ca l.length cc] (Nat.zero_le _) (by simp)).cell 1 (by simp)
            refine wpAnyS_take (i := 0) (v := .slice (some ⟨g, 0, none⟩) 2 cp) rfl (by kernel_rfl) (by kernel_rfl) (by kernel_rfl) (by kernel_rfl) (fun _ _ _ h => h) hS0 rfl (fun wx hx => by go_simp) ?_
            refine wpAnyS_take (i := 1) (v := .slice (some ⟨g, 0, none⟩) 2 cp) rfl (by kernel_rfl) (by kernel_rfl) (by kernel_rfl) (by kernel_rfl) (fun _ _ _ h => h) hS0 rfl (fun wx hx => by go_simp) ?_
            refine wpAnyS_take (i := 2) (v := .int .i64 1) rfl (by kernel_rfl) (by kernel_rfl) (by kernel_rfl) (by kernel_rfl) (fun _ _ _ h => h) hS0 rfl (fun wx hx => by go_simp) ?_
            refine wpAnyS_take (i := 3) (v := .pointer (some ⟨g, 1, none⟩)) rfl (by kernel_rfl) (by kernel_rfl) (by kernel_rfl) (by kernel_rfl) (fun _ _ _ h => h) hS0 rfl (fun wx hx => by go_simp) ?_
            refine wpAnyS_take (i := 5) (v := .pointer (some ⟨wr.heap.size, 1, none⟩)) rfl (by kernel_rfl) (by kernel_rfl) (by kernel_rfl) (by kernel_rfl) (fun _ _ _ h => h) hS0 rfl (fun wx hx => by go_simp) ?_
            refine wpAnyS_take (i := 6) (v := .int .i64 n) rfl (by kernel_rfl) (by kernel_rfl) (by kernel_rfl) (by kernel_rfl) (fun _ _ _ h => h) hS0 rfl (fun wx hx => by go_simp) ?_
            refine wpAnyS_one (i := 4) rfl (by kernel_rfl) (fun K hK => ?_)
            go_simp
            refine hK _ _ (fun _ => hS0) ?_
            clear hK K
            refine wpAnyS_one (i := 7) rfl (by kernel_rfl) (fun K hK => ?_)
            go_simp
            rw [HWM.out]
            refine hK _ _ (fun _ => hS0) ?_
            clear hK K
            refine wpAnyS_one (i := 8) rfl (by kernel_rfl) (fun K hK => ?_)
            go_simp
            have hS1 : ((wr.alloc (.cells #[.int .i64 8, .int .i64 n, .int .i64 v, .int .i64 wt, .slice ca l.length cc] 77)).drew.alloc (.cells #[.int .i64 y] 2)).cell? ⟨wr.heap.size, 1, none⟩ = some (.int .i64 n) := ((Kept.refl _).alloc _).cell hS0
            refine hK _ _ (fun _ => hS1) ?_
            clear hK K
            refine wpAnyS_one (i := 9) rfl (by kernel_rfl) (fun K hK => ?_)
            refine step_append_int n64 _ (by rfl) _ _ (by rfl) w.heap.size (.slice (some ⟨g, 0, none⟩) 2 cp) ([x, y1] : List Int).reverse y (wr.alloc (.cells #[.int .i64 8, .int .i64 n, .int .i64 v, .int .i64 wt, .slice ca l.length cc] 77)).drew (by rfl) (by rfl) (wr.heap.size + 1) (by show _ = (wr.alloc _).heap.size; simp) (by rfl) (HM.out.rnd.kept KA) hle1 hle2 ?_
            intro g5 c5 w5 R5 gr5 at5
            have hS5 : w5.cell? ⟨wr.heap.size, 1, none⟩ = some (.int .i64 n) := by
              have t5 : Turns (fun k => k = g) ((wr.alloc (.cells #[.int .i64 8, .int .i64 n, .int .i64 v, .int .i64 wt, .slice ca l.length cc] 77)).drew.alloc (.cells #[.int .i64 y] 2)) w5 := Turns.grown gr5 (fun k e => by simp [Value.ownBlock] at e; exact e.symm)
              exact t5.cell hS1 (cell_lt hS1) hgw
            have M5 := HM.out.push gr5 at5 R5
            rw [hrl] at M5 ⊢
            have HM5 : Hid (Tm w w5 T (j + 1) (.slice (some ⟨g5, 0, none⟩) (2 + 1) c5) (y :: [x, y1])) := M5.skip HT3.out
            clear M5 R5 gr5 at5
            refine hK _ _ (fun _ => hS5) ?_
            clear hK K
            refine wpAnyS_one (i := 10) rfl (by kernel_rfl) (fun K hK => ?_)
            go_simp
            refine hK _ _ (fun h => absurd rfl h) ?_
            clear hK K
            refine wpAnyS_done (by kernel_rfl) ?_ _
            go_wp2_with fail
            go_roundg g3'
            case rel => exact ⟨j + 1, m, m :: lp, y :: [x, y1], by go_num, by omega, HU2, H1.out.1, H1.out.2, HB2, HT4, HM5⟩
            case measure => omega
          · have k8 : (k == 8) = false := beq_eq_false_iff_ne.2 h8
            have KA := ((Kept.refl wr).alloc (.cells #[.int .i64 k, .int .i64 n, .int .i64 v, .int .i64 wt, .slice ca l.length cc] 77))
            by_cases h9 : k = 9
            · subst h9
              obtain ⟨r', hlp, hx1⟩ := take_end rfl htk
              have e1 := (Prod.mk.inj hx1).1
              have e2 := (Prod.mk.inj hx1).2
              clear hx1
              have HT3 : Hid (T.drop j = 0 :: timesGo [y1] (p.drop (j + 1))) := by
                show _ = _
                rw [HT2.out, timesGo, if_neg (by simp), if_pos rfl, if_pos (by simp)]
                rfl
              have HT4 : Hid (T.drop (j + 1) = timesGo [y1] (p.drop (j + 1))) := drop_next HT3.out
              have HM5 : Hid (Tm w (wr.alloc (.cells #[.int .i64 9, .int .i64 n, .int .i64 v, .int .i64 wt, .slice ca l.length cc] 77)) T (j + 1) (.slice (some ⟨g, 0, none⟩) 1 cp) [y1]) := Tm.cut (x := x) (r := [y1]) ((HM.out.keep KA).skip HT3.out)
              have HB2 : Hid (Bds [y1]) := HB.out.2.2
              have HLE : Hid (lp1.length ≤ 3 ∧ ([y1] : List Int).length = lp1.length + 1) := by
                have h1 : 2 = lp.length + 1 := HSL.out
                rw [hlp, ← e2, List.length_cons] at h1
                show lp1.length ≤ 3 ∧ 1 = lp1.length + 1
                omega
              have b6 : (1 : Int) ≤ (cp : Int) := by omega
              clear htk HT2 hlp HB e1 e2
              go_wp2_with fail
              go_roundg g3'
              case rel => exact ⟨j + 1, m1, lp1, [y1], by go_num, by omega, HU2, HLE.out.1, HLE.out.2, HB2, HT4, HM5⟩
              case measure => omega
            · have k9 : (k != 9) = true := by simp [h9]
              obtain ⟨ht1, hx1⟩ := take_plain h8 h9 htk
              simp only at hx1
              subst hx1
              have HT3 : Hid (T.drop j = x :: timesGo [x, y1] (p.drop (j + 1))) := by show _ = _; rw [HT2.out, timesGo, if_neg h8, if_neg h9]; rfl
              have HT4 : Hid (T.drop (j + 1) = timesGo [x, y1] (p.drop (j + 1))) := drop_next HT3.out
              have HM5 : Hid (Tm w ((wr.setCell ⟨w.heap.size, j, none⟩ (.int .i64 x)).alloc (.cells #[.int .i64 k, .int .i64 n, .int .i64 v, .int .i64 wt, .slice ca l.length cc] 77)) T (j + 1) (.slice (some ⟨g, 0, none⟩) 2 cp) [x, y1]) := (HM.out.put HT3.out).keep ((Kept.refl _).alloc _)
              have hall := HM.out.all
              have cz : wr.cell? ⟨w.heap.size, j, none⟩ = some (.int .i64 0) := by
                unfold IRow at hall
                rw [fill_len T j (by omega)] at hall
                rw [hall.cellAt j (by omega), List.getElem?_map, fill_get (by omega)]
                rfl
              have fz : wr.frozen? ⟨w.heap.size, j, none⟩ = false := by
                unfold IRow at hall
                rw [fill_len T j (by omega)] at hall
                exact hall.frozenAt j
              clear htk HT2 hall ht1
              have b7 : (j : Int) < (T.length : Int) := by omega
              go_wp2_with fail
              go_roundg g3'
              case rel => exact ⟨j + 1, m1, lp1, [x, y1], by go_num, by omega, HU2, HL, HSL, HB, HT4, HM5⟩
              case measure => omega
        · have hrl : ([x, y1, y2] : List Int).reverse.length = 3 := by simp
          obtain ⟨g, cp, hv4, hcp, hg1, hg2⟩ := HM.out.rnd.some (by rw [hrl]; omega)
          rw [hrl] at hv4 hcp
          subst hv4
          have cx : wr.cell? ⟨g, 2, none⟩ = some (.int .i64 x) := by
            have h := HM.out.rnd
            exact IRow.cell (c := cp) (l := ([x, y1, y2] : List Int).reverse) (by rw [hrl]; exact h) 2 x (by simp)
          have hsw := (World.ownsRow.lt HM.out.all w.heap.size rfl).2
          have hgw : ¬ wr.heap.size = g := by omega
          by_cases h8 : k = 8
          · subst h8
            obtain ⟨hl3, hx1⟩ := take_loop rfl htk
            cases hx1
            obtain ⟨hn1, hn2⟩ := loop_n HCK.out
            have HB2 : Hid (Bds (x * n :: [x, y1, y2])) := bds_push HB.out hn1 hn2
            obtain ⟨y, hy⟩ : ∃ y, x * n = y := ⟨_, rfl⟩
            have hyb : 1 ≤ y ∧ y ≤ 1048576 := by
              obtain ⟨q1, q2, _⟩ := HB2.out
              have : x * n ≤ 32768 * 32 := Int.mul_le_mul hxb.2 hn2 (by omega) (by omega)
              rw [← hy]
              exact ⟨q1, by omega⟩
            have HT3 : Hid (T.drop j = 0 :: timesGo (y :: [x, y1, y2]) (p.drop (j + 1))) := by show _ = _; rw [HT2.out, timesGo, if_pos rfl, ← hy]; rfl
            have HT4 : Hid (T.drop (j + 1) = timesGo (y :: [x, y1, y2]) (p.drop (j + 1))) := drop_next HT3.out
            have KA := ((Kept.refl wr).alloc (.cells #[.int .i64 8, .int .i64 n, .int .i64 v, .int .i64 wt, .slice ca l.length cc] 77)).drew
            have hle1 : ([x, y1, y2] : List Int).reverse.length ≤ 1000000 := by rw [hrl]; omega
            have hle2 : w.heap.size ≤ (wr.alloc (.cells #[.int .i64 8, .int .i64 n, .int .i64 v, .int .i64 wt, .slice ca l.length cc] 77)).drew.heap.size := by have := KA.size; omega
            have H2 : Hid ((m :: lp).length ≤ 3 ∧ (y :: [x, y1, y2]).length = (m :: lp).length + 1) := by
              have h2 : 3 = lp.length + 1 := HSL.out
              show lp.length + 1 ≤ 3 ∧ 3 + 1 = lp.length + 1 + 1
              omega
            rw [hy] at HB2
            have HWM : Hid (IntKind.i64.wrap y = y) := by show _ = _; simp [IntKind.wrap, IntKind.bits, IntKind.signed]; omega
            clear htk HT2
            go_wp2_with fail
            refine wp_region_S (by kernel_rfl) 10 (fun w' => w'.cell? ⟨wr.heap.size, 1, none⟩ = some (.int .i64 n)) ?_
            have hS0 : (wr.alloc (.cells #[.int .i64 8, .int .i64 n, .int .i64 v, .int .i64 wt, .slice ca l.length cc] 77)).drew.cell? ⟨wr.heap.size, 1, none⟩ = some (.int .i64 n) := (box_new 0 wr 77 [.int .i64 8, .int .i64 n, .int .i64 v, .int .i64 wt, .slice ca l.length cc] (Nat.zero_le _) (by simp)).cell 1 (by simp)
            refine wpAnyS_take (i := 0) (v := .slice (some ⟨g, 0, none⟩) 3 cp) rfl (by kernel_rfl) (by kernel_rfl) (by kernel_rfl) (by kernel_rfl) (fun _ _ _ h => h) hS0 rfl (fun wx hx => by go_simp) ?_
            refine wpAnyS_take (i := 1) (v := .slice (some ⟨g, 0, none⟩) 3 cp) rfl (by kernel_rfl) (by kernel_rfl) (by kernel_rfl) (by kernel_rfl) (fun _ _ _ h => h) hS0 rfl (fun wx hx => by go_simp) ?_
            refine wpAnyS_take (i := 2) (v := .int .i64 2) rfl (by kernel_rfl) (by kernel_rfl) (by kernel_rfl) (by kernel_rfl) (fun _ _ _ h => h) hS0 rfl (fun wx hx => by go_simp) ?_
            refine wpAnyS_take (i := 3) (v := .pointer (some ⟨g, 2, none⟩)) rfl (by kernel_rfl) (by kernel_rfl) (by kernel_rfl) (by kernel_rfl) (fun _ _ _ h => h) hS0 rfl (fun wx hx => by go_simp) ?_
            refine wpAnyS_take (i := 5) (v := .pointer (some ⟨wr.heap.size, 1, none⟩)) rfl (by kernel_rfl) (by kernel_rfl) (by kernel_rfl) (by kernel_rfl) (fun _ _ _ h => h) hS0 rfl (fun wx hx => by go_simp) ?_
            refine wpAnyS_take (i := 6) (v := .int .i64 n) rfl (by kernel_rfl) (by kernel_rfl) (by kernel_rfl) (by kernel_rfl) (fun _ _ _ h => h) hS0 rfl (fun wx hx => by go_simp) ?_
            refine wpAnyS_one (i := 4) rfl (by kernel_rfl) (fun K hK => ?_)
            go_simp
            refine hK _ _ (fun _ => hS0) ?_
            clear hK K
            refine wpAnyS_one (i := 7) rfl (by kernel_rfl) (fun K hK => ?_)
            go_simp
            rw [HWM.out]
            refine hK _ _ (fun _ => hS0) ?_
            clear hK K
            refine wpAnyS_one (i := 8) rfl (by kernel_rfl) (fun K hK => ?_)
            go_simp
            have hS1 : ((wr.alloc (.cells #[.int .i64 8, .int .i64 n, .int .i64 v, .int .i64 wt, .slice ca l.length cc] 77)).drew.alloc (.cells #[.int .i64 y] 2)).cell? ⟨wr.heap.size, 1, none⟩ = some (.int .i64 n) := ((Kept.refl _).alloc _).cell hS0
            refine hK _ _ (fun _ => hS1) ?_
            clear hK K
            refine wpAnyS_one (i := 9) rfl (by kernel_rfl) (fun K hK => ?_)
            refine step_append_int n64 _ (by rfl) _ _ (by rfl) w.heap.size (.slice (some ⟨g, 0, none⟩) 3 cp) ([x, y1, y2] : List Int).reverse y (wr.alloc (.cells #[.int .i64 8, .int .i64 n, .int .i64 v, .int .i64 wt, .slice ca l.length cc] 77)).drew (by rfl) (by rfl) (wr.heap.size + 1) (by show _ = (wr.alloc _).heap.size; simp) (by rfl) (HM.out.rnd.kept KA) hle1 hle2 ?_
            intro g5 c5 w5 R5 gr5 at5
            have hS5 : w5.cell? ⟨wr.heap.size, 1, none⟩ = some (.int .i64 n) := by
              have t5 : Turns (fun k => k = g) ((wr.alloc (.cells #[.int .i64 8, .int .i64 n, .int .i64 v, .int .i64 wt, .slice ca l.length cc] 77)).drew.alloc (.cells #[.int .i64 y] 2)) w5 := Turns.grown gr5 (fun k e => by simp [Value.ownBlock] at e; exact e.symm)
              exact t5.cell hS1 (cell_lt hS1) hgw
            have M5 := HM.out.push gr5 at5 R5
            rw [hrl] at M5 ⊢
            have HM5 : Hid (Tm w w5 T (j + 1) (.slice (some ⟨g5, 0, none⟩) (3 + 1) c5) (y :: [x, y1, y2])) := M5.skip HT3.out
            clear M5 R5 gr5 at5
            refine hK _ _ (fun _ => hS5) ?_
            clear hK K
            refine wpAnyS_one (i := 10) rfl (by kernel_rfl) (fun K hK => ?_)
            go_simp
            refine hK _ _ (fun h => absurd rfl h) ?_
            clear hK K
            refine wpAnyS_done (by kernel_rfl) ?_ _
            go_wp2_with fail
            go_roundg g3'
            case rel => exact ⟨j + 1, m, m :: lp, y :: [x, y1, y2], by go_num, by omega, HU2, H2.out.1, H2.out.2, HB2, HT4, HM5⟩
            case measure => omega
          · have k8 : (k == 8) = false := beq_eq_false_iff_ne.2 h8
            have KA := ((Kept.refl wr).alloc (.cells #[.int .i64 k, .int .i64 n, .int .i64 v, .int .i64 wt, .slice ca l.length cc] 77))
            by_cases h9 : k = 9
            · subst h9
              obtain ⟨r', hlp, hx1⟩ := take_end rfl htk
              have e1 := (Prod.mk.inj hx1).1
              have e2 := (Prod.mk.inj hx1).2
              clear hx1
              have HT3 : Hid (T.drop j = 0 :: timesGo [y1, y2] (p.drop (j + 1))) := by
                show _ = _
                rw [HT2.out, timesGo, if_neg (by simp), if_pos rfl, if_pos (by simp)]
                rfl
              have HT4 : Hid (T.drop (j + 1) = timesGo [y1, y2] (p.drop (j + 1))) := drop_next HT3.out
              have HM5 : Hid (Tm w (wr.alloc (.cells #[.int .i64 9, .int .i64 n, .int .i64 v, .int .i64 wt, .slice ca l.length cc] 77)) T (j + 1) (.slice (some ⟨g, 0, none⟩) 2 cp) [y1, y2]) := Tm.cut (x := x) (r := [y1, y2]) ((HM.out.keep KA).skip HT3.out)
              have HB2 : Hid (Bds [y1, y2]) := HB.out.2.2
              have HLE : Hid (lp1.length ≤ 3 ∧ ([y1, y2] : List Int).length = lp1.length + 1) := by
                have h1 : 3 = lp.length + 1 := HSL.out
                rw [hlp, ← e2, List.length_cons] at h1
                show lp1.length ≤ 3 ∧ 2 = lp1.length + 1
                omega
              have b6 : (2 : Int) ≤ (cp : Int) := by omega
              clear htk HT2 hlp HB e1 e2
              go_wp2_with fail
              go_roundg g3'
              case rel => exact ⟨j + 1, m1, lp1, [y1, y2], by go_num, by omega, HU2, HLE.out.1, HLE.out.2, HB2, HT4, HM5⟩
              case measure => omega
            · have k9 : (k != 9) = true := by simp [h9]
              obtain ⟨ht1, hx1⟩ := take_plain h8 h9 htk
              simp only at hx1
              subst hx1
              have HT3 : Hid (T.drop j = x :: timesGo [x, y1, y2] (p.drop (j + 1))) := by show _ = _; rw [HT2.out, timesGo, if_neg h8, if_neg h9]; rfl
              have HT4 : Hid (T.drop (j + 1) = timesGo [x, y1, y2] (p.drop (j + 1))) := drop_next HT3.out
              have HM5 : Hid (Tm w ((wr.setCell ⟨w.heap.size, j, none⟩ (.int .i64 x)).alloc (.cells #[.int .i64 k, .int .i64 n, .int .i64 v, .int .i64 wt, .slice ca l.length cc] 77)) T (j + 1) (.slice (some ⟨g, 0, none⟩) 3 cp) [x, y1, y2]) := (HM.out.put HT3.out).keep ((Kept.refl _).alloc _)
              have hall := HM.out.all
              have cz : wr.cell? ⟨w.heap.size, j, none⟩ = some (.int .i64 0) := by
                unfold IRow at hall
                rw [fill_len T j (by omega)] at hall
                rw [hall.cellAt j (by omega), List.getElem?_map, fill_get (by omega)]
                rfl
              have fz : wr.frozen? ⟨w.heap.size, j, none⟩ = false := by
                unfold IRow at hall
                rw [fill_len T j (by omega)] at hall
                exact hall.frozenAt j
              clear htk HT2 hall ht1
              have b7 : (j : Int) < (T.length : Int) := by omega
              go_wp2_with fail
              go_roundg g3'
              case rel => exact ⟨j + 1, m1, lp1, [x, y1, y2], by go_num, by omega, HU2, HL, HSL, HB, HT4, HM5⟩
              case measure => omega
        · have hrl : ([x, y1, y2, y3] : List Int).reverse.length = 4 := by simp
          obtain ⟨g, cp, hv4, hcp, hg1, hg2⟩ := HM.out.rnd.some (by rw [hrl]; omega)
          rw [hrl] at hv4 hcp
          subst hv4
          have cx : wr.cell? ⟨g, 3, none⟩ = some (.int .i64 x) := by
            have h := HM.out.rnd
            exact IRow.cell (c := cp) (l := ([x, y1, y2, y3] : List Int).reverse) (by rw [hrl]; exact h) 3 x (by simp)
          have hsw := (World.ownsRow.lt HM.out.all w.heap.size rfl).2
          have hgw : ¬ wr.heap.size = g := by omega
          by_cases h8 : k = 8
          · subst h8
            obtain ⟨hl3, hx1⟩ := take_loop rfl htk
            have h2 := HSL.out
            simp only [List.length_cons, List.length_nil] at h2
            omega
          · have k8 : (k == 8) = false := beq_eq_false_iff_ne.2 h8
            have KA := ((Kept.refl wr).alloc (.cells #[.int .i64 k, .int .i64 n, .int .i64 v, .int .i64 wt, .slice ca l.length cc] 77))
            by_cases h9 : k = 9
            · subst h9
              obtain ⟨r', hlp, hx1⟩ := take_end rfl htk
              have e1 := (Prod.mk.inj hx1).1
              have e2 := (Prod.mk.inj hx1).2
              clear hx1
              have HT3 : Hid (T.drop j = 0 :: timesGo [y1, y2, y3] (p.drop (j + 1))) := by
                show _ = _
                rw [HT2.out, timesGo, if_neg (by simp), if_pos rfl, if_pos (by simp)]
                rfl
              have HT4 : Hid (T.drop (j + 1) = timesGo [y1, y2, y3] (p.drop (j + 1))) := drop_next HT3.out
              have HM5 : Hid (Tm w (wr.alloc (.cells #[.int .i64 9, .int .i64 n, .int .i64 v, .int .i64 wt, .slice ca l.length cc] 77)) T (j + 1) (.slice (some ⟨g, 0, none⟩) 3 cp) [y1, y2, y3]) := Tm.cut (x := x) (r := [y1, y2, y3]) ((HM.out.keep KA).skip HT3.out)
              have HB2 : Hid (Bds [y1, y2, y3]) := HB.out.2.2
              have HLE : Hid (lp1.length ≤ 3 ∧ ([y1, y2, y3] : List Int).length = lp1.length + 1) := by
                have h1 : 4 = lp.length + 1 := HSL.out
                rw [hlp, ← e2, List.length_cons] at h1
                show lp1.length ≤ 3 ∧ 3 = lp1.length + 1
                omega
              have b6 : (3 : Int) ≤ (cp : Int) := by omega
              clear htk HT2 hlp HB e1 e2
              go_wp2_with fail
              go_roundg g3'
              case rel => exact ⟨j + 1, m1, lp1, [y1, y2, y3], by go_num, by omega, HU2, HLE.out.1, HLE.out.2, HB2, HT4, HM5⟩
              case measure => omega
            · have k9 : (k != 9) = true := by simp [h9]
              obtain ⟨ht1, hx1⟩ := take_plain h8 h9 htk
              simp only at hx1
              subst hx1
              have HT3 : Hid (T.drop j = x :: timesGo [x, y1, y2, y3] (p.drop (j + 1))) := by show _ = _; rw [HT2.out, timesGo, if_neg h8, if_neg h9]; rfl
              have HT4 : Hid (T.drop (j + 1) = timesGo [x, y1, y2, y3] (p.drop (j + 1))) := drop_next HT3.out
              have HM5 : Hid (Tm w ((wr.setCell ⟨w.heap.size, j, none⟩ (.int .i64 x)).alloc (.cells #[.int .i64 k, .int .i64 n, .int .i64 v, .int .i64 wt, .slice ca l.length cc] 77)) T (j + 1) (.slice (some ⟨g, 0, none⟩) 4 cp) [x, y1, y2, y3]) := (HM.out.put HT3.out).keep ((Kept.refl _).alloc _)
              have hall := HM.out.all
              have cz : wr.cell? ⟨w.heap.size, j, none⟩ = some (.int .i64 0) := by
                unfold IRow at hall
                rw [fill_len T j (by omega)] at hall
                rw [hall.cellAt j (by omega), List.getElem?_map, fill_get (by omega)]
                rfl
              have fz : wr.frozen? ⟨w.heap.size, j, none⟩ = false := by
                unfold IRow at hall
                rw [fill_len T j (by omega)] at hall
                exact hall.frozenAt j
              clear htk HT2 hall ht1
              have b7 : (j : Int) < (T.length : Int) := by omega
              go_wp2_with fail
              go_roundg g3'
              case rel => exact ⟨j + 1, m1, lp1, [x, y1, y2, y3], by go_num, by omega, HU2, HL, HSL, HB, HT4, HM5⟩
              case measure => omega
        · simp at hs4
    · have b1 : ¬ (j : Int) < (p.length : Int) := by omega
      go_wp2_with fail
      go_ret
      refine ⟨_, rfl, ?_, HM.out.kept⟩
      have h := HM.out.all
      have e : fillTo T j = T := by unfold fillTo; rw [List.take_of_length_le (by omega), show T.length - j = 0 by omega]; simp
      rw [e, hTl] at h
      exact h
end Go.Proofs.YtlkbphogpbcjfaaGreatDoor
namespace Go.Proofs.YtlkbphogpbcjfaaGreatDoor
open Go.RowKit

set_option maxHeartbeats 2000000 in
theorem steps_any (a : Option Addr) (c : Nat) (p : List OpD) (w : World) (hA : AtP w a p) (hp : p.length ≤ 100) (hc : ∀ o ∈ p, checkD o = 0) (hrun : runM 0 [] p = some (0, [])) :
    Calls Tryz.prog 91 #[.slice a p.length c] w fun e w' => e = .returned (.int .i64 (stepsD p)) ∧ Kept w w' := by
  have HB : Hid (∀ x ∈ timesGo [1] p, 0 ≤ x ∧ x ≤ 32768) := times_bds p 0 [] [1] hrun hc rfl (by simp) bds1
  have htm := times_any a c p w hA (by omega) hc hrun
  have HD : Hid (stepsD p = sumL (timesGo [1] p)) := rfl
  obtain ⟨T, hT⟩ : ∃ T, timesGo [1] p = T := ⟨_, rfl⟩
  have hTl : T.length = p.length := by rw [← hT, times_len]
  rw [hT] at htm HB HD
  clear hA hc hrun hT
  go_enter Tryz.func91, Tryz.ntmps91
  go_wp2_with fail
  refine htm.mono ?_
  rintro e w1 ⟨v, rfl, R, K1⟩
  obtain ⟨va, vc, hv, _⟩ := R.form
  subst hv
  have HR : Hid (IRow 2 w.heap.size w1 (.slice va T.length vc) T) := R
  clear R htm
  go_wp2_with fail
  go_loopg [3, 9] T.length (fun gk s i wr => ∃ j : Nat, i = .int .i64 j ∧ s = .int .i64 (sumL (T.take j)) ∧ j + gk = T.length ∧ wr = w1)
  case atStart => exact ⟨0, rfl, by simp [sumL], by omega, rfl⟩
  case round =>
    obtain ⟨j, rfl, rfl, hj, hw⟩ := hrel
    subst wr
    by_cases hjp : j < T.length
    · have b1 : (j : Int) < (T.length : Int) := by omega
      have b2 : (0 : Int) ≤ (j : Int) := by omega
      obtain ⟨g, cp, hv, _, _, hgl⟩ := HR.out.some (by omega)
      obtain ⟨rfl, hcp⟩ : va = some ⟨g, 0, none⟩ ∧ vc = cp := by cases hv; exact ⟨rfl, rfl⟩
      clear hv
      obtain ⟨x, hx⟩ : ∃ x, T[j]? = some x := ⟨_, List.getElem?_eq_getElem hjp⟩
      have cx : w1.cell? ⟨g, j, none⟩ = some (.int .i64 x) := HR.out.cell j x hx
      have hxb := HB.out x (List.mem_of_getElem? hx)
      have hsb := sum_bds 32768 (by omega) (T.take j) (fun y hy => HB.out y (List.mem_of_mem_take hy))
      have hlt : ((T.take j).length : Int) ≤ 100 := by rw [List.length_take]; omega
      have HN : Hid (sumL (T.take (j + 1)) = sumL (T.take j) + x) := sum_next T j x hx
      obtain ⟨sj, hsj⟩ : ∃ z, sumL (T.take j) = z := ⟨_, rfl⟩
      rw [hsj] at hsb HN ⊢
      have hs0 : 0 ≤ sj := hsb.1
      have hs1 : sj ≤ 3276800 := by omega
      obtain ⟨hx0, hx1⟩ := hxb
      clear hsb hlt hsj hx
      obtain ⟨g3', rfl⟩ : ∃ g, gk = g + 1 := ⟨gk - 1, by omega⟩
      go_wp2_with fail
      go_roundg g3'
      case rel => exact ⟨j + 1, by go_num, by rw [HN.out], by omega, rfl⟩
      case measure => omega
    · have b1 : ¬ (j : Int) < (T.length : Int) := by omega
      have e : T.take j = T := List.take_of_length_le (by omega)
      rw [e, ← HD.out]
      go_wp2_with fail
      go_ret
      exact ⟨rfl, K1⟩

set_option maxHeartbeats 2000000 in
theorem cost_any (a : Option Addr) (c : Nat) (p : List OpD) (w : World) (hA : AtP w a p) (hp : p.length ≤ 100) (hc : ∀ o ∈ p, checkD o = 0) (hrun : runM 0 [] p = some (0, [])) :
    Calls Tryz.prog 30 #[.slice a p.length c] w fun e w' => e = .returned (.int .i64 (costD p)) ∧ Kept w w' := by
  have HB : Hid (∀ x ∈ timesGo [1] p, 0 ≤ x ∧ x ≤ 32768) := times_bds p 0 [] [1] hrun hc rfl (by simp) bds1
  have HCB : Hid (∀ y ∈ costs p (timesGo [1] p), 0 ≤ y ∧ y ≤ 32768000) := costs_bds p _ hc HB.out
  have htm := times_any a c p w hA (by omega) hc hrun
  have HA : Hid (AtP w a p) := hA
  have HC : Hid (∀ o ∈ p, checkD o = 0) := hc
  obtain ⟨T, hT⟩ : ∃ T, timesGo [1] p = T := ⟨_, rfl⟩
  have hTl : T.length = p.length := by rw [← hT, times_len]
  have HD : Hid (costD p = sumL (costs p T)) := by show _ = _; rw [← hT]; rfl
  rw [hT] at htm HB HCB
  have HCL : Hid ((costs p T).length = p.length) := costs_len p T hTl
  clear hA hc hrun hT
  go_enter Tryz.func30, Tryz.ntmps30
  go_wp2_with fail
  refine htm.mono ?_
  rintro e w1 ⟨v, rfl, R, K1⟩
  obtain ⟨va, vc, hv, _⟩ := R.form
  subst hv
  have HR : Hid (IRow 2 w.heap.size w1 (.slice va T.length vc) T) := R
  clear R htm
  go_wp2_with fail
  go_loopg [3, 9] T.length (fun gk s i wr => ∃ j : Nat, i = .int .i64 j ∧ s = .int .i64 (sumL ((costs p T).take j)) ∧ j + gk = T.length ∧ wr = w1)
  case atStart => exact ⟨0, rfl, by simp [sumL], by omega, rfl⟩
  case round =>
    obtain ⟨j, rfl, rfl, hj, hw⟩ := hrel
    subst wr
    by_cases hjp : j < T.length
    · have b1 : (j : Int) < (T.length : Int) := by omega
      have b2 : (0 : Int) ≤ (j : Int) := by omega
      have b3 : (j : Int) < (p.length : Int) := by omega
      obtain ⟨g, cp, hv, _, _, hgl⟩ := HR.out.some (by omega)
      obtain ⟨rfl, hcp⟩ : va = some ⟨g, 0, none⟩ ∧ vc = cp := by cases hv; exact ⟨rfl, rfl⟩
      clear hv
      obtain ⟨x, hx⟩ : ∃ x, T[j]? = some x := ⟨_, List.getElem?_eq_getElem hjp⟩
      have cx : w1.cell? ⟨g, j, none⟩ = some (.int .i64 x) := HR.out.cell j x hx
      obtain ⟨b, f, k, n, v, wt, l, ca, cc, rfl, hpj, g0, g1, g2, g3, g4, hcc, hat, hbl, hdr⟩ := (HA.out.kept K1).get j (by omega)
      have hgj := costs_get p T j _ x hpj hx
      simp only at hgj
      have hsb := sum_bds 32768000 (by omega) ((costs p T).take j) (fun y hy => HCB.out y (List.mem_of_mem_take hy))
      have hlt : (((costs p T).take j).length : Int) ≤ 100 := by rw [List.length_take]; omega
      have HN := sum_next (costs p T) j _ hgj
      have hyb := HCB.out _ (List.mem_of_getElem? hgj)
      obtain ⟨sj, hsj⟩ : ∃ z, sumL ((costs p T).take j) = z := ⟨_, rfl⟩
      rw [hsj] at hsb HN ⊢
      have hs0 : 0 ≤ sj := hsb.1
      have hs1 : sj ≤ 3276800000 := by omega
      obtain ⟨g3', rfl⟩ : ∃ g, gk = g + 1 := ⟨gk - 1, by omega⟩
      clear hsb hlt hsj hdr hat hgj
      by_cases h1 : k = 1
      · subst h1
        rw [if_pos rfl] at HN hyb
        obtain ⟨y, hy⟩ : ∃ y, x * n = y := ⟨_, rfl⟩
        rw [hy] at HN hyb
        have HN2 : Hid (sumL ((costs p T).take (j + 1)) = sj + y) := HN
        obtain ⟨hy0, hy1⟩ := hyb
        have hwy : IntKind.i64.wrap y = y := by simp [IntKind.wrap, IntKind.bits, IntKind.signed]; omega
        clear HN hx hpj
        go_wp2_with fail
        go_roundg g3'
        case rel => exact ⟨j + 1, by go_num, by rw [HN2.out], by omega, rfl⟩
        case measure => omega
      · rw [if_neg h1] at HN
        have HN2 : Hid (sumL ((costs p T).take (j + 1)) = sj) := by show _ = _; rw [HN]; omega
        have k1 : (k == 1) = false := beq_eq_false_iff_ne.2 h1
        clear HN hx hpj hyb
        go_wp2_with fail
        go_roundg g3'
        case rel => exact ⟨j + 1, by go_num, by rw [HN2.out], by omega, rfl⟩
        case measure => omega
    · have b1 : ¬ (j : Int) < (T.length : Int) := by omega
      have e : (costs p T).take j = costs p T := List.take_of_length_le (by rw [HCL.out]; omega)
      rw [e, ← HD.out]
      go_wp2_with fail
      go_ret
      exact ⟨rfl, K1⟩

set_option maxHeartbeats 2000000 in
theorem pcheck_any (a : Option Addr) (c : Nat) (p : List OpD) (w : World) (hr : Rdy w) (hA : AtP w a p) (hp : p.length ≤ 100000) (hcs : ∀ o ∈ p, o.cases.length ≤ 1000000) :
    Calls Tryz.prog 75 #[.slice a p.length c] w fun e w' => e = .returned (.tuple #[.int .i64 (checkP p).1, .int .i64 (checkP p).2]) ∧ Kept w w' := by
  by_cases h48 : 48 < p.length
  · have HP : Hid (checkP p = (0, 18)) := by show _ = _; unfold checkP; rw [if_pos h48]
    have b1 : (p.length : Int) > 48 := by omega
    go_enter Tryz.func75, Tryz.ntmps75
    go_wp2_with fail
    go_ret2
    rw [HP.out]
    exact ⟨rfl, Kept.refl w⟩
  · have b1 : ¬ (p.length : Int) > 48 := by omega
    have hea := each_any a c p w hr hA hp hcs
    by_cases he : (eachGo 0 p).2 = 0
    · have hz := each_zero p 0 he
      rw [hz] at hea
      have hall := each_all p 0 he
      have hoa := fun w' (k : Kept w w') => order_any a c p w' (hr.kept k) (hA.kept k) hp hall
      by_cases ho : (ordGo 0 0 [] p).2 = 0
      · have hz2 : ordGo 0 0 [] p = (0, 0) := by
          rcases ord_err p 0 0 [] with h | h
          · exact h
          · rw [h] at ho; simp at ho
        rw [hz2] at hoa
        have hsa := fun w' (k : Kept w w') => steps_any a c p w' (hA.kept k) (by omega) hall (run_of_ord ho)
        by_cases hs : 512 < stepsD p
        · have HP : Hid (checkP p = (0, 4)) := by show _ = _; unfold checkP; rw [if_neg h48, if_pos he, if_pos ho, if_pos hs]
          have b2 : stepsD p > 512 := hs
          clear he ho hs hall hz hz2
          go_enter Tryz.func75, Tryz.ntmps75
          go_wp2_with fail
          refine hea.mono ?_
          rintro e w1 ⟨rfl, K1⟩
          go_wp2_with fail
          refine (hoa w1 K1).mono ?_
          rintro e w2 ⟨rfl, t2⟩
          go_wp2_with fail
          refine (hsa w2 (K1.trans t2)).mono ?_
          rintro e w3 ⟨rfl, t3⟩
          go_wp2_with fail
          go_ret2
          rw [HP.out]
          exact ⟨rfl, (K1.trans t2).trans t3⟩
        · have HP : Hid (checkP p = (0, 0)) := by show _ = _; unfold checkP; rw [if_neg h48, if_pos he, if_pos ho, if_neg hs]
          have b2 : ¬ stepsD p > 512 := hs
          clear he ho hs hall hz hz2
          go_enter Tryz.func75, Tryz.ntmps75
          go_wp2_with fail
          refine hea.mono ?_
          rintro e w1 ⟨rfl, K1⟩
          go_wp2_with fail
          refine (hoa w1 K1).mono ?_
          rintro e w2 ⟨rfl, t2⟩
          go_wp2_with fail
          refine (hsa w2 (K1.trans t2)).mono ?_
          rintro e w3 ⟨rfl, t3⟩
          go_wp2_with fail
          go_ret2
          rw [HP.out]
          exact ⟨rfl, (K1.trans t2).trans t3⟩
      · have HP : Hid (checkP p = ordGo 0 0 [] p) := by show _ = _; unfold checkP; rw [if_neg h48, if_pos he, if_neg ho]
        have hne : ((ordGo 0 0 [] p).2 == 0) = false := beq_eq_false_iff_ne.2 ho
        clear he ho hall hz
        go_enter Tryz.func75, Tryz.ntmps75
        go_wp2_with fail
        refine hea.mono ?_
        rintro e w1 ⟨rfl, K1⟩
        go_wp2_with fail
        refine (hoa w1 K1).mono ?_
        rintro e w2 ⟨rfl, t2⟩
        go_wp2_with fail
        go_ret2
        rw [HP.out]
        exact ⟨rfl, K1.trans t2⟩
    · have HP : Hid (checkP p = eachGo 0 p) := by show _ = _; unfold checkP; rw [if_neg h48, if_neg he]
      have hne : ((eachGo 0 p).2 == 0) = false := beq_eq_false_iff_ne.2 he
      clear he
      go_enter Tryz.func75, Tryz.ntmps75
      go_wp2_with fail
      refine hea.mono ?_
      rintro e w1 ⟨rfl, K1⟩
      go_wp2_with fail
      go_ret2
      rw [HP.out]
      exact ⟨rfl, K1⟩
end Go.Proofs.YtlkbphogpbcjfaaGreatDoor
