/- The reference's Block. -/
import Derived.Test.YtlkbphogpbcjfaaGreatDoorBlA
namespace Go.Proofs.YtlkbphogpbcjfaaGreatDoor
open Go.RowKit Go.Sort

set_option maxHeartbeats 8000000 in
set_option maxRecDepth 10000 in
theorem rblock_any (L : Nat) (ca ta : Option Addr) (nc cc tc : Nat) (ts : List TaskD) (F : Nat → List OpD) (w : World) (hA : AtT w ta ts) (hn : ts.length ≤ 1000) (hL : L ≤ 1000) (hpg : ∀ t ∈ ts, checkP t.prog = (0, 0)) (hbl : ∀ i t, ts[i]? = some t → Bal 3 0 0 t.prog (F i)) (hlk : ∀ t ∈ ts, ∀ x ∈ locksD t.prog, 0 ≤ x ∧ x < (L : Int)) :
    Calls Tryz.prog 22 #[.agg #[.int .i64 L, .slice ca nc cc, .slice ta ts.length tc]] w fun e w' => ∃ g, e = .returned (.slice (some ⟨g, 0, none⟩) ts.length ts.length) ∧ AtI w' (some ⟨g, 0, none⟩) (blkS F ts L) ∧ Kept w w' := by
  have HA : Hid (AtT w ta ts) := hA
  have HPG : Hid (∀ t ∈ ts, checkP t.prog = (0, 0)) := hpg
  have HBL : Hid (∀ i t, ts[i]? = some t → Bal 3 0 0 t.prog (F i)) := hbl
  have HLK : Hid (∀ t ∈ ts, ∀ x ∈ locksD t.prog, 0 ≤ x ∧ x < (L : Int)) := hlk
  obtain ⟨i3, hi3, hi30, hi31, hi38⟩ := info2
  have K0 : Kept w (w.alloc (.cells #[.int .i64 L, .slice ca nc cc, .slice ta ts.length tc] 25)) := (Kept.refl w).alloc _
  have HB : Hid (Box w.heap.size (w.alloc (.cells #[.int .i64 L, .slice ca nc cc, .slice ta ts.length tc] 25)) 25 w.heap.size [.int .i64 L, .slice ca nc cc, .slice ta ts.length tc]) := box_new w.heap.size w 25 [.int .i64 L, .slice ca nc cc, .slice ta ts.length tc] (Nat.le_refl _) (by simp)
  have hpr := rprios_any (L : Int) ca nc cc ta ts.length tc (dlT ts) (w.alloc (.cells #[.int .i64 L, .slice ca nc cc, .slice ta ts.length tc] 25)) ((att_d hA).kept K0) hn
  clear hA hpg hbl hlk
  go_enter Tryz.func22, Tryz.ntmps22
  go_wp2_with fail
  generalize (w.alloc (.cells #[.int .i64 L, .slice ca nc cc, .slice ta ts.length tc] 25)) = wA at *
  refine hpr.mono ?_
  rintro e w1 ⟨va, vc, rfl, A1, K1⟩
  have HP1 : Hid (AtI w1 va (prD ts.length (dlT ts))) := A1
  have K01 := K0.trans K1
  have HB1 : Hid (Box w.heap.size w1 25 w.heap.size [.int .i64 L, .slice ca nc cc, .slice ta ts.length tc]) := HB.out.kept K1
  have s0 : w1.cell? ⟨w.heap.size, 0, none⟩ = some (.int .i64 L) := HB1.out.cell 0 (by simp)
  have s1 : w1.cell? ⟨w.heap.size, 1, none⟩ = some (.slice ca nc cc) := HB1.out.cell 1 (by simp)
  have s2 : w1.cell? ⟨w.heap.size, 2, none⟩ = some (.slice ta ts.length tc) := HB1.out.cell 2 (by simp)
  have hce := rceils_any L ca ta nc cc tc ts w1 (HA.out.kept K01) hn hL (fun t ht => by have := (taken_prog (HPG.out t ht)).1; omega) HLK.out
  clear hpr A1 HB K0 K1
  go_wp2_with fail
  refine hce.mono ?_
  rintro e w2 ⟨gc, rfl, C2, K2⟩
  have HC2 : Hid (AtI w2 (some ⟨gc, 0, none⟩) (ceilD ts L)) := C2
  have HP2 : Hid (AtI w2 va (prD ts.length (dlT ts))) := HP1.out.kept K2
  have HB2 : Hid (Box w.heap.size w2 25 w.heap.size [.int .i64 L, .slice ca nc cc, .slice ta ts.length tc]) := HB1.out.kept K2
  have K02 := K01.trans K2
  clear s0 s1 s2 hce C2 HP1 HB1 K01 K2
  have s0 : w2.cell? ⟨w.heap.size, 0, none⟩ = some (.int .i64 L) := HB2.out.cell 0 (by simp)
  have s1 : w2.cell? ⟨w.heap.size, 1, none⟩ = some (.slice ca nc cc) := HB2.out.cell 1 (by simp)
  have s2 : w2.cell? ⟨w.heap.size, 2, none⟩ = some (.slice ta ts.length tc) := HB2.out.cell 2 (by simp)
  have hbs : w.heap.size ≤ w2.heap.size := K02.size
  have hlt1 := HB2.out.lt.2
  go_wp2_with (refine wpList_make_full _ rfl _ _ 60 rfl w.heap.size 2 i3 _ 1 Tryz.underlying60 hi3 hi30 hi31 _ _ _ _ ts.length rfl rfl rfl rfl (by rw [hi38]; omega) (by unfold maxLen; omega) hbs ?_; intro w3 ow3 gr3)
  obtain ⟨gb, hgb⟩ : ∃ x, w2.heap.size = x := ⟨_, rfl⟩
  rw [hgb] at ow3 ⊢
  have HI0 : Hid (IRow 2 w.heap.size w3 (.slice (some ⟨gb, 0, none⟩) ts.length ts.length) (blkS F ts 0)) := by show IRow _ _ _ _ _; unfold blkS; rw [blkD_zero]; exact irow_made2 ow3
  have KA : Kept w2 w3 := (Turns.grown (S := fun _ => False) gr3 (fun k e => by cases e)).kept (Kept.refl _) (fun i hi => hi.elim)
  have HNE : Hid ((∀ (b f : Nat), va = some ⟨b, f, none⟩ → ∀ (j : Nat) (x : Int), (prD ts.length (dlT ts))[j]? = some x → b ≠ gb) ∧ (∀ (j : Nat) (x : Int), (ceilD ts L)[j]? = some x → gc ≠ gb)) := by
    refine ⟨fun b f e j x hj => ?_, fun j x hj => ?_⟩
    · obtain ⟨b', f', e', hc⟩ := HP2.out j x hj
      rw [e] at e'
      cases e'
      have := cell_lt hc
      simp only at *
      omega
    · obtain ⟨b', f', e', hc⟩ := HC2.out j x hj
      cases e'
      have := cell_lt hc
      simp only at *
      omega
  have HB3 : Hid (Box w.heap.size w3 25 w.heap.size [.int .i64 L, .slice ca nc cc, .slice ta ts.length tc]) := HB2.out.kept KA
  have HP3 : Hid (AtI w3 va (prD ts.length (dlT ts))) := HP2.out.kept KA
  have HC3 : Hid (AtI w3 (some ⟨gc, 0, none⟩) (ceilD ts L)) := HC2.out.kept KA
  have HG : Hid (w.heap.size ≠ gb ∧ w.heap.size ≤ gb ∧ gb < w3.heap.size) := by
    have h := (World.ownsRow.lt HI0.out gb rfl).2
    show _ ∧ _
    omega
  have K3 := K02.trans KA
  clear ow3 gr3 HB2 HP2 HC2 KA s0 s1 s2 hbs hlt1 hgb K02
  go_wp2_with fail
  go_loopg [6] L (fun gk i wr => ∃ (q : Nat) (W : World), W = wr ∧ i = .int .i64 q ∧ q + gk = L ∧ Hid (IRow 2 w.heap.size W (.slice (some ⟨gb, 0, none⟩) ts.length ts.length) (blkS F ts q)) ∧ Hid (Turns (fun x => x = gb) w3 W) ∧ Kept w W)
  case atStart => exact ⟨0, _, rfl, rfl, by omega, HI0, Turns.refl _ _, K3⟩
  case round =>
    obtain ⟨q, W, hW, rfl, hq, HI, HT, K⟩ := hrel
    subst hW
    have HBW := HB3.out.turns HT.out (by have := HG.out; omega)
    have s0 : W.cell? ⟨w.heap.size, 0, none⟩ = some (.int .i64 L) := HBW.cell 0 (by simp)
    have s1 : W.cell? ⟨w.heap.size, 1, none⟩ = some (.slice ca nc cc) := HBW.cell 1 (by simp)
    have s2 : W.cell? ⟨w.heap.size, 2, none⟩ = some (.slice ta ts.length tc) := HBW.cell 2 (by simp)
    clear HBW
    by_cases hqL : q < L
    · have b1 : (q : Int) < (L : Int) := by omega
      have b2 : (0 : Int) ≤ (q : Int) := by omega
      obtain ⟨gm, rfl⟩ : ∃ g, gk = g + 1 := ⟨gk - 1, by omega⟩
      have hse := rsections_any (L : Int) (q : Int) ca ta nc cc tc ts F W (HA.out.kept K) hn HPG.out HBL.out b2 b1
      go_wp2_with fail
      refine hse.mono ?_
      rintro e w5 ⟨vs, vsc, rfl, hfr, S5, K5⟩
      have HS5 : Hid (AtI w5 vs (secD (q : Int) F ts)) := S5
      have HNS : Hid (∀ (b f : Nat), vs = some ⟨b, f, none⟩ → ∀ (j : Nat) (x : Int), (secD (q : Int) F ts)[j]? = some x → b ≠ gb) := by
        intro b f e j x hj
        have h1 := hfr b f e
        have h2 := HG.out.2.2
        have h3 := HT.out.size
        omega
      have HI5 : Hid (IRow 2 w.heap.size w5 (.slice (some ⟨gb, 0, none⟩) ts.length ts.length) (blkR ts.length (prE ts) (ceilF ts) (fun q => secV (q : Int) F ts) q 0 0)) := by
        rw [blkR_zero]
        exact HI.out.kept K5
      have HT5 : Hid (Turns (fun x => x = gb) w3 w5) := HT.out.next K5.turns (fun _ _ h => h.elim)
      have K15 := K.trans K5
      clear S5 s0 s1 s2 hse HI hfr
      go_wp2_with fail
      go_loopg [8] ts.length (fun gk i wr => ∃ (t : Nat) (W2 : World), W2 = wr ∧ i = .int .i64 t ∧ t + gk = ts.length ∧ Hid (IRow 2 w.heap.size W2 (.slice (some ⟨gb, 0, none⟩) ts.length ts.length) (blkR ts.length (prE ts) (ceilF ts) (fun q => secV (q : Int) F ts) q t 0)) ∧ Hid (Turns (fun x => x = gb) w5 W2) ∧ Kept w W2)
      case atStart => exact ⟨0, _, rfl, rfl, by omega, HI5, Turns.refl _ _, K15⟩
      case round =>
        obtain ⟨i, W2, hW, rfl, hi, HI6, HT6, K6⟩ := hrel
        subst hW
        by_cases hin : i < ts.length
        · have b3 : (i : Int) < (ts.length : Int) := by omega
          have b4 : (0 : Int) ≤ (i : Int) := by omega
          obtain ⟨gn, rfl⟩ : ∃ g, gk = g + 1 := ⟨gk - 1, by omega⟩
          go_wp2_with fail
          go_loopg [9] ts.length (fun gk i2 wr => ∃ (k : Nat) (W3 : World), W3 = wr ∧ i2 = .int .i64 k ∧ k + gk = ts.length ∧ Hid (IRow 2 w.heap.size W3 (.slice (some ⟨gb, 0, none⟩) ts.length ts.length) (blkR ts.length (prE ts) (ceilF ts) (fun q => secV (q : Int) F ts) q i k)) ∧ Hid (Turns (fun x => x = gb) w5 W3) ∧ Kept w W3)
          case atStart => exact ⟨0, _, rfl, rfl, by omega, HI6, HT6, K6⟩
          case round =>
            obtain ⟨k, W3, hW, rfl, hk, HI7, HT7, K7⟩ := hrel
            subst hW
            by_cases hkn : k < ts.length
            · have b5 : (k : Int) < (ts.length : Int) := by omega
              have b6 : (0 : Int) ≤ (k : Int) := by omega
              have HTA : Hid (Turns (fun x => x = gb) w3 W3) := HT5.out.trans HT7.out
              obtain ⟨pb, pf, rfl, c0⟩ := HP3.out i _ (prD_get hin)
              have hpb := HNE.out.1 pb pf rfl i _ (prD_get hin)
              have ci : W3.cell? ⟨pb, pf + i, none⟩ = some (.int .i64 (prE ts i)) := HTA.out.cell c0 (cell_lt c0) (by simp only; exact hpb)
              obtain ⟨b', f', e', c1⟩ := HP3.out k _ (prD_get hkn)
              cases e'
              have ck : W3.cell? ⟨pb, pf + k, none⟩ = some (.int .i64 (prE ts k)) := HTA.out.cell c1 (cell_lt c1) (by simp only; exact hpb)
              obtain ⟨b', f', e', c2⟩ := HC3.out q _ (ceilF_get hqL)
              cases e'
              rw [Nat.zero_add] at c2
              have cq : W3.cell? ⟨gc, q, none⟩ = some (.int .i64 (ceilF ts q)) := HTA.out.cell c2 (cell_lt c2) (by simp only; exact HNE.out.2 q _ (ceilF_get hqL))
              obtain ⟨sb, sf, rfl, c3⟩ := HS5.out k _ (secD_get hkn)
              have hsb := HNS.out sb sf rfl k _ (secD_get hkn)
              have cs : W3.cell? ⟨sb, sf + k, none⟩ = some (.int .i64 (secV (q : Int) F ts k)) := HT7.out.cell c3 (cell_lt c3) (by simp only; exact hsb)
              have co := irow_cell HI7.out (blkR_len ts.length (prE ts) (ceilF ts) (fun q => secV (q : Int) F ts) q i k) i _ (blkR_get hin)
              have fo := irow_frozen HI7.out (blkR_len ts.length (prE ts) (ceilF ts) (fun q => secV (q : Int) F ts) q i k) i
              have HSET : Hid ((prE ts k < prE ts i ∧ prE ts i ≤ ceilF ts q) ∧ upK (fun k => decide (prE ts k < prE ts i) && decide (prE ts i ≤ ceilF ts q)) (secV (q : Int) F ts) (blkN ts.length (prE ts) (ceilF ts) (fun q => secV (q : Int) F ts) i q) k < secV (q : Int) F ts k → (blkR ts.length (prE ts) (ceilF ts) (fun q => secV (q : Int) F ts) q i k).set i (secV (q : Int) F ts k) = blkR ts.length (prE ts) (ceilF ts) (fun q => secV (q : Int) F ts) q i (k + 1)) := fun h => blkR_set h
              have HSAM : Hid (¬ ((prE ts k < prE ts i ∧ prE ts i ≤ ceilF ts q) ∧ upK (fun k => decide (prE ts k < prE ts i) && decide (prE ts i ≤ ceilF ts q)) (secV (q : Int) F ts) (blkN ts.length (prE ts) (ceilF ts) (fun q => secV (q : Int) F ts) i q) k < secV (q : Int) F ts k) → blkR ts.length (prE ts) (ceilF ts) (fun q => secV (q : Int) F ts) q i (k + 1) = blkR ts.length (prE ts) (ceilF ts) (fun q => secV (q : Int) F ts) q i k) := fun h => blkR_same h
              obtain ⟨ov, hov⟩ : ∃ z, upK (fun k => decide (prE ts k < prE ts i) && decide (prE ts i ≤ ceilF ts q)) (secV (q : Int) F ts) (blkN ts.length (prE ts) (ceilF ts) (fun q => secV (q : Int) F ts) i q) k = z := ⟨_, rfl⟩
              obtain ⟨pk, hpk⟩ : ∃ z, prE ts k = z := ⟨_, rfl⟩
              obtain ⟨pi, hpi⟩ : ∃ z, prE ts i = z := ⟨_, rfl⟩
              obtain ⟨cv, hcv⟩ : ∃ z, ceilF ts q = z := ⟨_, rfl⟩
              obtain ⟨sv, hsv⟩ : ∃ z, secV (q : Int) F ts k = z := ⟨_, rfl⟩
              rw [hov, hpk, hpi, hcv, hsv] at HSET HSAM
              rw [hov] at co
              rw [hpk] at ck
              rw [hpi] at ci
              rw [hcv] at cq
              rw [hsv] at cs
              obtain ⟨gi, rfl⟩ : ∃ g, gk = g + 1 := ⟨gk - 1, by omega⟩
              have hpb2 : gb ≠ pb := fun e => hpb e.symm
              have hsb2 : gb ≠ sb := fun e => hsb e.symm
              clear c0 c1 c2 c3 hov hpk hpi hcv hsv
              by_cases g1 : pk < pi
              · by_cases g2 : cv ≥ pi
                · by_cases g3 : sv > ov
                  · have HS2 : Hid ((blkR ts.length (prE ts) (ceilF ts) (fun q => secV (q : Int) F ts) q i k).set i sv = blkR ts.length (prE ts) (ceilF ts) (fun q => secV (q : Int) F ts) q i (k + 1)) := HSET.out ⟨⟨g1, g2⟩, g3⟩
                    clear HSET HSAM
                    go_wp2_with fail
                    go_big_region
                    all_goals go_wp2_with fail
                    go_roundg gi
                    case rel =>
                      have t := turn_set W3 gb i (.int .i64 sv)
                      have h5 := irow_set HI7.out (blkR_len ts.length (prE ts) (ceilF ts) (fun q => secV (q : Int) F ts) q i k) i sv
                      rw [HS2.out] at h5
                      exact ⟨k + 1, _, rfl, by go_num, by omega, h5.kept ((Kept.refl _).drew), (HT7.out.trans t).drew, (t.kept K7 (fun i hi => by have := HG.out; omega)).drew⟩
                    case measure => omega
                  · have HI8 : Hid (IRow 2 w.heap.size W3 (.slice (some ⟨gb, 0, none⟩) ts.length ts.length) (blkR ts.length (prE ts) (ceilF ts) (fun q => secV (q : Int) F ts) q i (k + 1))) := by show IRow _ _ _ _ _; rw [HSAM.out (fun h => g3 h.2)]; exact HI7.out
                    clear HSET HSAM
                    go_wp2_with fail
                    go_big_region
                    all_goals go_wp2_with fail
                    go_roundg gi
                    case rel => exact ⟨k + 1, _, rfl, by go_num, by omega, HI8.out.kept ((Kept.refl W3).drew), HT7.out.drew, K7.drew⟩
                    case measure => omega
                · have HI8 : Hid (IRow 2 w.heap.size W3 (.slice (some ⟨gb, 0, none⟩) ts.length ts.length) (blkR ts.length (prE ts) (ceilF ts) (fun q => secV (q : Int) F ts) q i (k + 1))) := by show IRow _ _ _ _ _; rw [HSAM.out (fun h => g2 h.1.2)]; exact HI7.out
                  have gd2 : decide (pi ≤ cv) = false := decide_eq_false g2
                  clear HSET HSAM
                  go_wp2_with fail
                  go_big_region
                  all_goals go_wp2_with fail
                  go_roundg gi
                  case rel => exact ⟨k + 1, _, rfl, by go_num, by omega, HI8.out.kept ((Kept.refl W3).drew), HT7.out.drew, K7.drew⟩
                  case measure => omega
              · have HI8 : Hid (IRow 2 w.heap.size W3 (.slice (some ⟨gb, 0, none⟩) ts.length ts.length) (blkR ts.length (prE ts) (ceilF ts) (fun q => secV (q : Int) F ts) q i (k + 1))) := by show IRow _ _ _ _ _; rw [HSAM.out (fun h => g1 h.1.1)]; exact HI7.out
                have gd1 : decide (pk < pi) = false := decide_eq_false g1
                clear HSET HSAM
                go_wp2_with fail
                go_big_region
                all_goals go_wp2_with fail
                go_roundg gi
                case rel => exact ⟨k + 1, _, rfl, by go_num, by omega, HI8.out.kept ((Kept.refl W3).drew), HT7.out.drew, K7.drew⟩
                case measure => omega
            · have b5 : ¬ (k : Int) < (ts.length : Int) := by omega
              have HI8 : Hid (IRow 2 w.heap.size W3 (.slice (some ⟨gb, 0, none⟩) ts.length ts.length) (blkR ts.length (prE ts) (ceilF ts) (fun q => secV (q : Int) F ts) q (i + 1) 0)) := by
                have h := HI7.out
                rw [show k = ts.length by omega, blkR_next] at h
                exact h
              go_wp2_with fail
              go_roundg gn
              case rel => exact ⟨i + 1, _, rfl, by go_num, by omega, HI8, HT7, K7⟩
              case measure => omega
        · have b3 : ¬ (i : Int) < (ts.length : Int) := by omega
          have HI8 : Hid (IRow 2 w.heap.size W2 (.slice (some ⟨gb, 0, none⟩) ts.length ts.length) (blkS F ts (q + 1))) := by
            have h := HI6.out
            rw [show i = ts.length by omega, blkR_end] at h
            exact h
          go_wp2_with fail
          go_roundg gm
          case rel => exact ⟨q + 1, _, rfl, by go_num, by omega, HI8, HT5.out.trans HT6.out, K6⟩
          case measure => omega
    · have b1 : ¬ (q : Int) < (L : Int) := by omega
      obtain rfl : q = L := by omega
      have HF : Hid (AtI W (some ⟨gb, 0, none⟩) (blkS F ts q)) := irow_at2 HI.out (blkS_len F ts q)
      go_wp2_with fail
      go_ret
      exact ⟨gb, rfl, HF.out, K⟩
end Go.Proofs.YtlkbphogpbcjfaaGreatDoor
