/- The tasks by rising priorities; block.Of of any set. -/
import Derived.Test.YtlkbphogpbcjfaaGreatDoorCeX
import Derived.Test.YtlkbphogpbcjfaaGreatDoorBlP
namespace Go.Proofs.YtlkbphogpbcjfaaGreatDoor
open Go.RowKit Go.Sort

/-- There is such a row. -/
theorem ris_ex {ts : List TaskD} (h1 : 1 ≤ ts.length) : ∃ ro, RisOk ts.length (prE ts) ro := by
  haveI : Inhabited (Fin ts.length) := ⟨⟨0, by omega⟩⟩
  obtain ⟨R, hR, _⟩ := sort_ok ts.length (dlT ts)
  have hl : R.length = ts.length := hR.len
  refine ⟨fun j => R.getD (ts.length - 1 - j) 0, ?_, ?_, ?_⟩
  · intro j hj
    have hx : R[ts.length - 1 - j]? = some (R.getD (ts.length - 1 - j) 0) := by
      rw [List.getD_eq_getElem?_getD, List.getElem?_eq_getElem (by omega)]
      rfl
    exact hR.lt (List.mem_of_getElem? hx)
  · intro j hj
    have hx : R[ts.length - 1 - j]? = some (R.getD (ts.length - 1 - j) 0) := by
      rw [List.getD_eq_getElem?_getD, List.getElem?_eq_getElem (by omega)]
      rfl
    have h2 := hR.rank hx
    show (ts.length : Int) - (rank ts.length (dlT ts) (R.getD (ts.length - 1 - j) 0) : Int) = _
    rw [h2]
    omega
  · intro i hi
    have h2 := hR.at hi
    have h3 := rank_lt hR hi
    refine ⟨ts.length - 1 - rank ts.length (dlT ts) i, by omega, ?_⟩
    show R.getD (ts.length - 1 - (ts.length - 1 - rank ts.length (dlT ts) i)) 0 = i
    rw [show ts.length - 1 - (ts.length - 1 - rank ts.length (dlT ts) i) = rank ts.length (dlT ts) i by omega, List.getD_eq_getElem?_getD, h2]
    rfl

set_option maxHeartbeats 4000000 in
set_option maxRecDepth 10000 in
theorem brising_any (a : Option Addr) (n c : Nat) (p : Nat → Int) (ro : Nat → Nat) (w : World) (hA : AtN w a n p) (hR : RisOk n p ro) (hn : n ≤ 1000) :
    Calls Tryz.prog 32 #[.slice a n c] w fun e w' => ∃ g, e = .returned (.slice (some ⟨g, 0, none⟩) n n) ∧ w.heap.size ≤ g ∧ AtI w' (some ⟨g, 0, none⟩) (risD n ro) ∧ Kept w w' := by
  have HA : Hid (AtN w a n p) := hA
  have HR : Hid (RisOk n p ro) := hR
  obtain ⟨i3, hi3, hi30, hi31, hi38⟩ := info3
  have hbs : w.heap.size ≤ w.heap.size := Nat.le_refl _
  clear hA hR
  go_enter Tryz.func32, Tryz.ntmps32
  go_wp2_with (refine wpList_make_full _ rfl _ _ 66 rfl w.heap.size 3 i3 _ 1 Tryz.underlying66 hi3 hi30 hi31 _ _ _ _ n rfl rfl rfl rfl (by rw [hi38]; omega) (by unfold maxLen; omega) hbs ?_; intro w1 ow1 gr1)
  have HI0 : Hid (IRow 3 w.heap.size w1 (.slice (some ⟨w.heap.size, 0, none⟩) n n) (risT n ro 0)) := by show IRow _ _ _ _ _; rw [risT_zero]; exact irow_made ow1
  have KA : Kept w w1 := (Turns.grown (S := fun _ => False) gr1 (fun k e => by cases e)).kept (Kept.refl _) (fun i hi => hi.elim)
  clear ow1 gr1
  go_wp2_with fail
  go_loopg [11] n (fun gk i wr => ∃ (k : Nat) (W : World), W = wr ∧ i = .int .i64 k ∧ k + gk = n ∧ Hid (IRow 3 w.heap.size W (.slice (some ⟨w.heap.size, 0, none⟩) n n) (risT n ro k)) ∧ Kept w W)
  case atStart => exact ⟨0, _, rfl, rfl, by omega, HI0, KA⟩
  case round =>
    obtain ⟨k, W, hW, rfl, hk, HI, K⟩ := hrel
    subst hW
    by_cases hkn : k < n
    · have b1 : (k : Int) < (n : Int) := by omega
      have b2 : (0 : Int) ≤ (k : Int) := by omega
      obtain ⟨b, f, rfl, c0⟩ := (HA.out.kept K) k hkn
      obtain ⟨j, hj, hjk⟩ := HR.out.all k hkn
      have hp := HR.out.pr j hj
      have HSET : Hid ((risT n ro k).set j (k : Int) = risT n ro (k + 1)) := by
        have h := risT_set HR.out hj
        rw [hjk] at h
        exact h
      rw [hjk] at hp
      rw [hp] at c0
      have b3 : (j : Int) < (n : Int) := by omega
      have b4 : (0 : Int) ≤ (j : Int) := by omega
      have f3 := irow_frozen HI.out (risT_len n ro k) j
      have c3 := irow_cell HI.out (risT_len n ro k) j 0 (by simp [risT, hj, hjk])
      obtain ⟨gi, rfl⟩ : ∃ g, gk = g + 1 := ⟨gk - 1, by omega⟩
      clear hp hjk
      go_wp2_with fail
      go_roundg gi
      case rel =>
        have t := turn_set W w.heap.size j (.int .i64 (k : Int))
        have h5 := irow_set HI.out (risT_len n ro k) j (k : Int)
        rw [HSET.out] at h5
        exact ⟨k + 1, _, rfl, by go_num, by omega, h5, t.kept K (fun i hi => by omega)⟩
      case measure => omega
    · have b1 : ¬ (k : Int) < (n : Int) := by omega
      have HF : Hid (AtI W (some ⟨w.heap.size, 0, none⟩) (risD n ro)) := by
        have h5 := irow_at HI.out (risT_len n ro k)
        rw [show k = n by omega, risT_end HR.out] at h5
        exact h5
      go_wp2_with fail
      go_ret
      exact ⟨w.heap.size, rfl, Nat.le_refl _, HF.out, K⟩
/-- The ceiling of lock q. -/
def ceilF (ts : List TaskD) (q : Nat) : Int := ceilV (prE ts) (hasK ts q) ts.length
/-- How long each may be held up by the first q locks. -/
def blkS (F : Nat → List OpD) (ts : List TaskD) (q : Nat) : List Int := blkD ts.length (prE ts) (ceilF ts) (fun q => secV (q : Int) F ts) q
theorem blkS_len (F : Nat → List OpD) (ts : List TaskD) (q : Nat) : (blkS F ts q).length = ts.length := by simp [blkS, blkD]
theorem ceilF_get {ts : List TaskD} {L q : Nat} (h : q < L) : (ceilD ts L)[q]? = some (ceilF ts q) := by simp [ceilD, ceilF, h]
theorem secD_get {lock : Int} {F : Nat → List OpD} {ts : List TaskD} {i : Nat} (h : i < ts.length) : (secD lock F ts)[i]? = some (secV lock F ts i) := by simp [secD, h]

set_option maxHeartbeats 8000000 in
set_option maxRecDepth 10000 in
theorem bof_any (L : Nat) (ca ta : Option Addr) (nc cc tc : Nat) (ts : List TaskD) (F : Nat → List OpD) (w : World) (hr : Rdy w) (hA : AtT w ta ts) (hok : TsOk ts) (h1 : 1 ≤ ts.length) (h12 : ts.length ≤ 12) (hL : L ≤ 8) (hpg : ∀ t ∈ ts, checkP t.prog = (0, 0)) (hbl : ∀ i t, ts[i]? = some t → Bal 3 0 0 t.prog (F i)) :
    Calls Tryz.prog 17 #[.agg #[.int .i64 L, .slice ca nc cc, .slice ta ts.length tc]] w fun e w' => ∃ g, e = .returned (.slice (some ⟨g, 0, none⟩) ts.length ts.length) ∧ AtI w' (some ⟨g, 0, none⟩) (blkS F ts L) ∧ Kept w w' := by
  have HR : Hid (Rdy w) := hr
  have HA : Hid (AtT w ta ts) := hA
  have HOK : Hid (TsOk ts) := hok
  have HPG : Hid (∀ t ∈ ts, checkP t.prog = (0, 0)) := hpg
  have HBL : Hid (∀ i t, ts[i]? = some t → Bal 3 0 0 t.prog (F i)) := hbl
  obtain ⟨ro, hro⟩ := ris_ex h1
  have HRO : Hid (RisOk ts.length (prE ts) ro) := hro
  have HN : Hid (1 ≤ ts.length ∧ ts.length ≤ 12 ∧ L ≤ 8) := ⟨h1, h12, hL⟩
  obtain ⟨i3, hi3, hi30, hi31, hi38⟩ := info2
  have HB : Hid (Box w.heap.size (w.alloc (.cells #[.int .i64 L, .slice ca nc cc, .slice ta ts.length tc] 36)) 36 w.heap.size [.int .i64 L, .slice ca nc cc, .slice ta ts.length tc]) := box_new w.heap.size w 36 [.int .i64 L, .slice ca nc cc, .slice ta ts.length tc] (Nat.le_refl _) (by simp)
  have hbs : w.heap.size ≤ (w.alloc (.cells #[.int .i64 L, .slice ca nc cc, .slice ta ts.length tc] 36)).heap.size := by simp
  clear hr hA hok hpg hbl hro
  go_enter Tryz.func17, Tryz.ntmps17
  go_wp2_with fail
  go_step3
  go_wp2_with (refine wpList_make_full _ rfl _ _ 60 rfl w.heap.size 2 i3 _ 1 Tryz.underlying60 hi3 hi30 hi31 _ _ _ _ ts.length rfl rfl rfl rfl (by rw [hi38]; omega) (by unfold maxLen; omega) hbs ?_; intro w1 ow1 gr1; have hsz : (w.alloc (.cells #[.int .i64 L, .slice ca nc cc, .slice ta ts.length tc] 36)).heap.size = w.heap.size + 1 := (by simp); rw [hsz] at ow1; have HI0 : Hid (IRow 2 w.heap.size w1 (.slice (some ⟨w.heap.size + 1, 0, none⟩) ts.length ts.length) (blkS F ts 0)) := (by show IRow _ _ _ _ _; unfold blkS; rw [blkD_zero]; exact irow_made2 ow1); have KA : Kept (w.alloc (.cells #[.int .i64 L, .slice ca nc cc, .slice ta ts.length tc] 36)) w1 := (Turns.grown (S := fun _ => False) gr1 (fun k e => by cases e)).kept (Kept.refl _) (fun i hi => hi.elim); have HB1 : Hid (Box w.heap.size w1 36 w.heap.size [.int .i64 L, .slice ca nc cc, .slice ta ts.length tc]) := HB.out.kept KA; have K1 : Kept w w1 := ((Kept.refl w).alloc _).trans KA; have s0 := HB1.out.cell 0 (by simp); have s1 := HB1.out.cell 1 (by simp); have s2 := HB1.out.cell 2 (by simp); simp only [List.getElem?_cons_zero, List.getElem?_cons_succ] at s0 s1 s2; clear ow1 gr1 HB KA hsz hbs)
  refine (prios_any L ca nc cc ta ts.length tc (dlT ts) w1 ((att_d HA.out).kept K1) h1 (by omega)).mono ?_
  rintro e w2 ⟨g2, rfl, hg2, A2, K2⟩
  have hw1s := (World.ownsRow.lt HI0.out (w.heap.size + 1) rfl).2
  have N2 : Hid (AtN w2 (some ⟨g2, 0, none⟩) ts.length (prE ts)) := atn_of A2
  have HI2 : Hid (IRow 2 w.heap.size w2 (.slice (some ⟨w.heap.size + 1, 0, none⟩) ts.length ts.length) (blkS F ts 0)) := HI0.out.kept K2
  have HB2 : Hid (Box w.heap.size w2 36 w.heap.size [.int .i64 L, .slice ca nc cc, .slice ta ts.length tc]) := HB1.out.kept K2
  have K12 := K1.trans K2
  clear HI0 HB1 s0 s1 s2 A2 K1
  go_wp2_with fail
  refine (brising_any (some ⟨g2, 0, none⟩) ts.length ts.length (prE ts) ro w2 N2.out HRO.out (by have := HN.out; omega)).mono ?_
  rintro e w3 ⟨g3, rfl, hg3, A3, K3⟩
  have N3 : Hid (AtN w3 (some ⟨g2, 0, none⟩) ts.length (prE ts)) := N2.out.kept K3
  have R3 : Hid (AtI w3 (some ⟨g3, 0, none⟩) (risD ts.length ro)) := A3
  have HI3 : Hid (IRow 2 w.heap.size w3 (.slice (some ⟨w.heap.size + 1, 0, none⟩) ts.length ts.length) (blkS F ts 0)) := HI2.out.kept K3
  have HB3 : Hid (Box w.heap.size w3 36 w.heap.size [.int .i64 L, .slice ca nc cc, .slice ta ts.length tc]) := HB2.out.kept K3
  have K13 := K12.trans K3
  have s0 := HB3.out.cell 0 (by simp)
  have s1 := HB3.out.cell 1 (by simp)
  have s2 := HB3.out.cell 2 (by simp)
  simp only [List.getElem?_cons_zero, List.getElem?_cons_succ] at s0 s1 s2
  clear A3 HI2 HB2 N2 K12
  go_wp2_with fail
  go_step3
  go_wp2_with fail
  refine (of_any L ca ta nc cc tc ts w3 (HA.out.kept K13) HOK.out h1 h12 hL).mono ?_
  rintro e w4 ⟨g4, rfl, hg4, C4, K4⟩
  have N4 : Hid (AtN w4 (some ⟨g2, 0, none⟩) ts.length (prE ts)) := N3.out.kept K4
  have R4 : Hid (AtI w4 (some ⟨g3, 0, none⟩) (risD ts.length ro)) := R3.out.kept K4
  have HC4 : Hid (AtI w4 (some ⟨g4, 0, none⟩) (ceilD ts L)) := C4
  have HI4 : Hid (IRow 2 w.heap.size w4 (.slice (some ⟨w.heap.size + 1, 0, none⟩) ts.length ts.length) (blkS F ts 0)) := HI3.out.kept K4
  have HB4 : Hid (Box w.heap.size w4 36 w.heap.size [.int .i64 L, .slice ca nc cc, .slice ta ts.length tc]) := HB3.out.kept K4
  have K14 := K13.trans K4
  have HNE : Hid (g2 ≠ w.heap.size + 1 ∧ g3 ≠ w.heap.size + 1 ∧ g4 ≠ w.heap.size + 1 ∧ w.heap.size + 1 < w4.heap.size) := by
    have z2 := K2.size
    have z3 := K3.size
    have z4 := K4.size
    exact ⟨by omega, by omega, by omega, by omega⟩
  clear C4 HI3 HB3 N3 R3 s0 s1 s2 K13 K2 K3 K4 hg2 hg3 hg4 hw1s
  go_wp2_with fail
  go_loopg [23] L (fun gk i wr => ∃ (q : Nat) (W : World), W = wr ∧ i = .int .i64 q ∧ q + gk = L ∧ Hid (IRow 2 w.heap.size W (.slice (some ⟨w.heap.size + 1, 0, none⟩) ts.length ts.length) (blkS F ts q)) ∧ Hid (Turns (fun x => x = w.heap.size + 1) w4 W) ∧ Kept w W)
  case atStart => exact ⟨0, _, rfl, rfl, by omega, HI4, Turns.refl _ _, K14⟩
  case round =>
    obtain ⟨q, W, hW, rfl, hq, HI, HT, K⟩ := hrel
    subst hW
    by_cases hqL : q < L
    · have b1 : (q : Int) < (L : Int) := by omega
      have b2 : (0 : Int) ≤ (q : Int) := by omega
      obtain ⟨gm, rfl⟩ : ∃ g, gk = g + 1 := ⟨gk - 1, by omega⟩
      have HBW := HB4.out.turns HT.out (by omega)
      have s0 := HBW.cell 0 (by simp)
      have s1 := HBW.cell 1 (by simp)
      have s2 := HBW.cell 2 (by simp)
      simp only [List.getElem?_cons_zero, List.getElem?_cons_succ] at s0 s1 s2
      obtain ⟨b', f', e', cc0⟩ := HC4.out q _ (ceilF_get hqL)
      cases e'
      rw [Nat.zero_add] at cc0
      have cq : W.cell? ⟨g4, q, none⟩ = some (.int .i64 (ceilF ts q)) := HT.out.cell cc0 (cell_lt cc0) (by have := HNE.out; simp only; omega)
      obtain ⟨cv, hcv⟩ : ∃ z, ceilF ts q = z := ⟨_, rfl⟩
      rw [hcv] at cq
      have HCV : Hid (ceilF ts q = cv) := hcv
      clear cc0 HBW hcv
      go_wp2_with fail
      refine (sections_any (L : Int) (q : Int) ca ta nc cc tc ts F W (HR.out.kept K) (HA.out.kept K) (by have := HN.out; omega) HPG.out HBL.out (by omega) (by omega)).mono ?_
      rintro e w5 ⟨g5, rfl, hg5, S5, K5⟩
      have HS5 : Hid (AtI w5 (some ⟨g5, 0, none⟩) (secD (q : Int) F ts)) := S5
      have HI5 : Hid (IRow 2 w.heap.size w5 (.slice (some ⟨w.heap.size + 1, 0, none⟩) ts.length ts.length) (blkT ts.length (prE ts) (ceilF ts) (fun q => secV (q : Int) F ts) q 0)) := by
        rw [blkT_zero (fun k hk => (HRO.out.bd hk).1)]
        exact HI.out.kept K5
      have HT5 : Hid (Turns (fun x => x = w.heap.size + 1) w4 w5) := HT.out.next K5.turns (fun _ _ h => h.elim)
      have K15 := K.trans K5
      have HNS : Hid (g5 ≠ w.heap.size + 1) := by have h1 := HNE.out.2.2.2; have h2 := HT.out.size; show _ ≠ _; omega
      have HLZ : Hid ((0 : Int) = longN ts.length (prE ts) (secV (q : Int) F ts) 0) := (longN_zero (fun k hk => (HRO.out.bd hk).1)).symm
      clear S5 s0 s1 s2 cq hg5 HI
      go_wp2_with fail
      go_loopg [9, 33] ts.length (fun gk lg i wr => ∃ (j : Nat) (W2 : World), W2 = wr ∧ i = .int .i64 j ∧ lg = .int .i64 (longN ts.length (prE ts) (secV (q : Int) F ts) j) ∧ j + gk = ts.length ∧ Hid (IRow 2 w.heap.size W2 (.slice (some ⟨w.heap.size + 1, 0, none⟩) ts.length ts.length) (blkT ts.length (prE ts) (ceilF ts) (fun q => secV (q : Int) F ts) q j)) ∧ Hid (Turns (fun x => x = w.heap.size + 1) w5 W2) ∧ Kept w W2)
      case atStart => exact ⟨0, _, rfl, rfl, by rw [← HLZ.out], by omega, HI5, Turns.refl _ _, K15⟩
      case round =>
        obtain ⟨j, W2, hW, rfl, rfl, hj, HI6, HT6, K6⟩ := hrel
        subst hW
        by_cases hjn : j < ts.length
        · have b3 : (j : Int) < (ts.length : Int) := by omega
          have b4 : (0 : Int) ≤ (j : Int) := by omega
          have HX : Hid (ro j < ts.length ∧ prE ts (ro j) = (j : Int) + 1) := ⟨HRO.out.lt j hjn, HRO.out.pr j hjn⟩
          obtain ⟨x, hx⟩ : ∃ x, ro j = x := ⟨_, rfl⟩
          rw [hx] at HX
          have b5 : (x : Int) < (ts.length : Int) := by have := HX.out.1; omega
          have b6 : (0 : Int) ≤ (x : Int) := by omega
          have HTA : Hid (Turns (fun x => x = w.heap.size + 1) w4 W2) := HT5.out.trans HT6.out
          obtain ⟨b', f', e', c0⟩ := R4.out j _ (risD_get hjn)
          cases e'
          rw [Nat.zero_add, hx] at c0
          have cr : W2.cell? ⟨g3, j, none⟩ = some (.int .i64 (x : Int)) := HTA.out.cell c0 (cell_lt c0) (by have := HNE.out; simp only; omega)
          obtain ⟨b', f', e', c1⟩ := N4.out x HX.out.1
          cases e'
          rw [Nat.zero_add, HX.out.2] at c1
          have cp : W2.cell? ⟨g2, x, none⟩ = some (.int .i64 ((j : Int) + 1)) := HTA.out.cell c1 (cell_lt c1) (by have := HNE.out; simp only; omega)
          obtain ⟨b', f', e', c2⟩ := HS5.out x _ (secD_get HX.out.1)
          cases e'
          rw [Nat.zero_add] at c2
          have cs : W2.cell? ⟨g5, x, none⟩ = some (.int .i64 (secV (q : Int) F ts x)) := HT6.out.cell c2 (cell_lt c2) (by have := HNS.out; simp only; omega)
          have cb := irow_cell HI6.out (blkT_len ts.length (prE ts) (ceilF ts) (fun q => secV (q : Int) F ts) q j) x _ (blkT_get HX.out.1 HX.out.2)
          have fb := irow_frozen HI6.out (blkT_len ts.length (prE ts) (ceilF ts) (fun q => secV (q : Int) F ts) q j) x
          obtain ⟨gi, rfl⟩ : ∃ g, gk = g + 1 := ⟨gk - 1, by omega⟩
          by_cases hgt : (j : Int) + 1 > cv
          · have HI7 : Hid (IRow 2 w.heap.size W2 (.slice (some ⟨w.heap.size + 1, 0, none⟩) ts.length ts.length) (blkS F ts (q + 1))) := by
              have h := HI6.out
              rw [blkT_past (by rw [HCV.out]; omega)] at h
              exact h
            clear c0 c1 c2 cb fb cs hx
            go_wp2_with fail
            go_roundg gm
            case rel => exact ⟨q + 1, _, rfl, by go_num, by omega, HI7, HTA, K6⟩
            case measure => omega
          · have HSET : Hid ((blkT ts.length (prE ts) (ceilF ts) (fun q => secV (q : Int) F ts) q j).set x (max (blkN ts.length (prE ts) (ceilF ts) (fun q => secV (q : Int) F ts) x q) (longN ts.length (prE ts) (secV (q : Int) F ts) j)) = blkT ts.length (prE ts) (ceilF ts) (fun q => secV (q : Int) F ts) q (j + 1)) := blkT_set HX.out.1 HX.out.2 (by rw [HCV.out, HX.out.2]; omega) (fun k hk e => HRO.out.inj hk HX.out.1 e)
            have HLN : Hid (longN ts.length (prE ts) (secV (q : Int) F ts) (j + 1) = max (longN ts.length (prE ts) (secV (q : Int) F ts) j) (secV (q : Int) F ts x)) := longN_next HX.out.1 HX.out.2 (fun k hk e => HRO.out.inj hk HX.out.1 e)
            obtain ⟨bv, hbv⟩ : ∃ z, blkN ts.length (prE ts) (ceilF ts) (fun q => secV (q : Int) F ts) x q = z := ⟨_, rfl⟩
            obtain ⟨lv, hlv⟩ : ∃ z, longN ts.length (prE ts) (secV (q : Int) F ts) j = z := ⟨_, rfl⟩
            obtain ⟨sv, hsv⟩ : ∃ z, secV (q : Int) F ts x = z := ⟨_, rfl⟩
            have hsp : x ≠ x ∨ True := .inr trivial
            rw [hbv, hlv] at HSET
            rw [hlv, hsv] at HLN
            rw [hbv] at cb
            rw [hsv] at cs
            rw [hlv]
            have hgs : g5 ≠ w.heap.size + 1 := HNS.out
            have hgs2 : w.heap.size + 1 ≠ g5 := fun e => hgs e.symm
            clear c0 c1 c2 hx hbv hlv hsv hsp
            go_wp2_with fail
            go_roundg gi
            case rel =>
              have t := turn_set W2 (w.heap.size + 1) x (.int .i64 (max bv lv))
              have h5 := irow_set HI6.out (blkT_len ts.length (prE ts) (ceilF ts) (fun q => secV (q : Int) F ts) q j) x (max bv lv)
              rw [HSET.out] at h5
              exact ⟨j + 1, _, rfl, by go_num, by rw [HLN.out], by omega, h5, HT6.out.trans t, t.kept K6 (fun i hi => by omega)⟩
            case measure => omega
        · have b3 : ¬ (j : Int) < (ts.length : Int) := by omega
          have HI7 : Hid (IRow 2 w.heap.size W2 (.slice (some ⟨w.heap.size + 1, 0, none⟩) ts.length ts.length) (blkS F ts (q + 1))) := by
            have h := HI6.out
            rw [show j = ts.length by omega, blkT_end (fun k hk => (HRO.out.bd hk).2)] at h
            exact h
          go_wp2_with fail
          go_roundg gm
          case rel => exact ⟨q + 1, _, rfl, by go_num, by omega, HI7, HT5.out.trans HT6.out, K6⟩
          case measure => omega
    · have b1 : ¬ (q : Int) < (L : Int) := by omega
      obtain rfl : q = L := by omega
      have HF : Hid (AtI W (some ⟨w.heap.size + 1, 0, none⟩) (blkS F ts q)) := irow_at2 HI.out (blkS_len F ts q)
      go_wp2_with fail
      go_ret
      exact ⟨w.heap.size + 1, rfl, HF.out, K⟩
end Go.Proofs.YtlkbphogpbcjfaaGreatDoor
