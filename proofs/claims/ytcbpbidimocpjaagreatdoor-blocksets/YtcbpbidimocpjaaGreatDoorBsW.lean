/- BlockSets, walked. -/
import Derived.Test.YtcbpbidimocpjaaGreatDoorBlB
import Derived.Test.YtcbpbidimocpjaaGreatDoorOrL
import Derived.Test.YtcbpbidimocpjaaGreatDoorQKnC
import Derived.Test.YtcbpbidimocpjaaGreatDoorTSo
namespace Go.Proofs.YtcbpbidimocpjaaGreatDoor
open Go.RowKit Go.Sort

theorem flats_ex {ts : List TaskD} (h : ∀ t ∈ ts, checkP t.prog = (0, 0)) : ∃ F : Nat → List OpD, ∀ (i : Nat) (t : TaskD), ts[i]? = some t → Bal 3 0 0 t.prog (F i) := by
  refine ⟨fun i => match ts[i]? with
    | some t => Classical.epsilon (fun f => Bal 3 0 0 t.prog f)
    | none => [], fun i t hi => ?_⟩
  simp only [hi]
  obtain ⟨_, _, _, f, hb, _⟩ := taken_prog (h t (List.mem_of_getElem? hi))
  exact Classical.epsilon_spec (p := fun f => Bal 3 0 0 t.prog f) ⟨f, hb⟩
theorem tw_blk : blkS twF [twA, twBB] 1 = [4, 0] := by decide +kernel

set_option maxHeartbeats 8000000 in
set_option maxRecDepth 20000 in
theorem bknown_true (w : World) (hr : Rdy w) : Calls Tryz.prog 4 #[] w fun e w' => e = .returned (.bool true) ∧ Kept w w' := by
  have HR : Hid (Rdy w) := hr
  clear hr
  go_enter Tryz.func4, Tryz.ntmps4
  go_wp2_with fail
  refine (two_ex w).mono ?_
  rintro e w1 ⟨g, a, b, rfl, K1, T1⟩
  have HT : Hid (TwoS w.heap.size w1 g a b) := T1
  have hof := bof_any 1 none (some ⟨g, 0, none⟩) 0 0 2 [twA, twBB] twF w1 (HR.out.kept K1) HT.out.tasks tw_ok0 (by decide) (by decide) (by decide) tw_prog tw_bal
  rw [tw_blk] at hof
  clear T1
  go_wp2_with fail
  refine hof.mono ?_
  rintro e w2 ⟨g2, rfl, A2, K2⟩
  have AL : AtI (w2.alloc (.cells #[.int .i64 4, .int .i64 0] 2)) (some ⟨w2.heap.size, 0, none⟩) [4, 0] := lit_nums w2 2 [4, 0]
  have KL := (Kept.refl w2).alloc (.cells #[.int .i64 4, .int .i64 0] 2)
  have his := lrow_same (some ⟨g2, 0, none⟩) (some ⟨w2.heap.size, 0, none⟩) 2 2 2 [4, 0] (w2.alloc (.cells #[.int .i64 4, .int .i64 0] 2)) (A2.kept KL) AL rfl (by decide)
  have K2L := K1.trans (K2.trans KL)
  clear hof A2 AL KL
  go_wp2_with fail
  refine his.mono ?_
  rintro e w3 ⟨rfl, K3⟩
  have KF := K2L.trans K3
  clear his K2L
  go_wp2_with fail
  go_ret
  exact ⟨rfl, KF⟩

/-- What task x needs. -/
def needI (ts : List TaskD) (x : Nat) : Int := match ts[x]? with
  | some t => needD t
  | none => 0
def lowE (ts : List TaskD) (i j : Nat) : Int := match (loD ts.length (dlT ts) i)[j]? with
  | some x => needI ts x.toNat
  | none => 0
/-- The greatest need of the first k that go behind. -/
def mostE (ts : List TaskD) (i k : Nat) : Int := upK (fun _ => true) (lowE ts i) 0 k
theorem mostE_next (ts : List TaskD) (i k : Nat) : mostE ts i (k + 1) = max (mostE ts i k) (lowE ts i k) := by
  unfold mostE
  rw [upK, if_pos rfl]
theorem loD_at {n : Nat} {D : Nat → Int} {i j : Nat} {x : Int} (h : (loD n D i)[j]? = some x) : ∃ k : Nat, k < n ∧ x = (k : Int) := by
  have hm := List.mem_of_getElem? h
  simp only [loD, List.mem_map, List.mem_filter, List.mem_range] at hm
  obtain ⟨k, hk, e⟩ := hm
  exact ⟨k, hk.1, e.symm⟩
theorem blk_most {ts : List TaskD} {F : Nat → List OpD} (h1 : 1 ≤ ts.length) {i : Nat} (hi : i < ts.length) (L : Nat) : 0 ≤ blkN ts.length (prE ts) (ceilF ts) (fun q => secV (q : Int) F ts) i L ∧ blkN ts.length (prE ts) (ceilF ts) (fun q => secV (q : Int) F ts) i L ≤ mostE ts i (loD ts.length (dlT ts) i).length := by
  refine ⟨blkN_nn _ _ _ _ _ _, (blkN_le _ _ _ _ _ _ _).2 ⟨upK_ge _ _ _ _, fun r k hr hk hp _ => ?_⟩⟩
  haveI : Inhabited (Fin ts.length) := ⟨⟨0, by omega⟩⟩
  obtain ⟨R, hR, _⟩ := sort_ok ts.length (dlT ts)
  have hb : bef (dlT ts) i k := hR.before (by unfold prE at hp; omega) (hR.at hi) (hR.at hk)
  have hm : (k : Int) ∈ loD ts.length (dlT ts) i := by
    simp only [loD, List.mem_map, List.mem_filter, List.mem_range]
    exact ⟨k, ⟨hk, (befB_iff _ _ _).2 hb⟩, rfl⟩
  obtain ⟨j, hj, e⟩ := List.getElem_of_mem hm
  have hle : lowE ts i j ≤ mostE ts i (loD ts.length (dlT ts) i).length := upK_at (c := fun _ => true) (l := lowE ts i) (b := 0) hj rfl
  have hE : lowE ts i j = needI ts k := by
    unfold lowE
    rw [List.getElem?_eq_getElem hj, e]
    rfl
  rw [hE] at hle
  refine Int.le_trans ?_ hle
  unfold secV needI
  cases ts[k]? with
  | none => exact Int.le_refl _
  | some t => simp only [needD]; omega

set_option maxHeartbeats 8000000 in
set_option maxRecDepth 20000 in
theorem bsets_law (L : Int) (ca ta : Option Addr) (cc tc : Nat) (cs : List ChanD) (ts : List TaskD) (w : World) (hr : Rdy w) (hH : AtH w ca cs) (hA : AtT w ta ts) :
    Calls Tryz.prog 3 #[.agg #[.int .i64 L, .slice ca cs.length cc, .slice ta ts.length tc]] w fun e w' => e = .returned (.bool true) ∧ Kept w w' := by
  have HR : Hid (Rdy w) := hr
  have HH : Hid (AtH w ca cs) := hH
  have HA : Hid (AtT w ta ts) := hA
  have K0 := (Kept.refl w).alloc (.cells #[.int .i64 L, .slice ca cs.length cc, .slice ta ts.length tc] 25)
  have HB : Hid (Box w.heap.size (w.alloc (.cells #[.int .i64 L, .slice ca cs.length cc, .slice ta ts.length tc] 25)) 25 w.heap.size [.int .i64 L, .slice ca cs.length cc, .slice ta ts.length tc]) := box_new w.heap.size w 25 [.int .i64 L, .slice ca cs.length cc, .slice ta ts.length tc] (Nat.le_refl _) (by simp)
  have hk := bknown_true (w.alloc (.cells #[.int .i64 L, .slice ca cs.length cc, .slice ta ts.length tc] 25)) (HR.out.kept K0)
  clear hr hH hA
  go_enter Tryz.func3, Tryz.ntmps3
  go_wp2_with fail
  refine hk.mono ?_
  rintro e w1 ⟨rfl, T1⟩
  have K1 := K0.trans T1
  have HB1 : Hid (Box w.heap.size w1 25 w.heap.size [.int .i64 L, .slice ca cs.length cc, .slice ta ts.length tc]) := HB.out.kept T1
  clear hk HB K0 T1
  have s0 : w1.cell? ⟨w.heap.size, 0, none⟩ = some (.int .i64 L) := HB1.out.cell 0 (by simp)
  have s1 : w1.cell? ⟨w.heap.size, 1, none⟩ = some (.slice ca cs.length cc) := HB1.out.cell 1 (by simp)
  have s2 : w1.cell? ⟨w.heap.size, 2, none⟩ = some (.slice ta ts.length tc) := HB1.out.cell 2 (by simp)
  have hck := rcset_any L ca ta cc tc cs ts w1 (HH.out.kept K1) (HA.out.kept K1)
  obtain ⟨q1, hq1⟩ : ∃ q, (checkS L cs ts).1 = q := ⟨_, rfl⟩
  obtain ⟨q2, hq2⟩ : ∃ q, (checkS L cs ts).2 = q := ⟨_, rfl⟩
  rw [hq1, hq2] at hck
  have HQ : Hid ((checkS L cs ts).2 = q2) := hq2
  clear hq1 hq2
  go_wp2_with fail
  refine hck.mono ?_
  rintro e w2 ⟨rfl, T2⟩
  have K2 := K1.trans T2
  have HB2 : Hid (Box w.heap.size w2 25 w.heap.size [.int .i64 L, .slice ca cs.length cc, .slice ta ts.length tc]) := HB1.out.kept T2
  clear s0 s1 s2 hck HB1 T2 K1
  have s0 : w2.cell? ⟨w.heap.size, 0, none⟩ = some (.int .i64 L) := HB2.out.cell 0 (by simp)
  have s1 : w2.cell? ⟨w.heap.size, 1, none⟩ = some (.slice ca cs.length cc) := HB2.out.cell 1 (by simp)
  have s2 : w2.cell? ⟨w.heap.size, 2, none⟩ = some (.slice ta ts.length tc) := HB2.out.cell 2 (by simp)
  have hfw := sfew_any L ca ta cc tc cs ts w2 (HA.out.kept K2)
  obtain ⟨fb, hfb⟩ : ∃ fb, fewS cs ts = fb := ⟨_, rfl⟩
  rw [hfb] at hfw
  have HFB : Hid (fewS cs ts = fb) := hfb
  clear hfb
  go_wp2_with fail
  refine hfw.mono ?_
  rintro e w3 ⟨rfl, T3⟩
  have K3 := K2.trans T3
  have HB3 : Hid (Box w.heap.size w3 25 w.heap.size [.int .i64 L, .slice ca cs.length cc, .slice ta ts.length tc]) := HB2.out.kept T3
  clear s0 s1 s2 hfw HB2 T3 K2
  cases fb with
  | false =>
    go_wp2_with fail
    go_ret
    exact ⟨rfl, K3⟩
  | true =>
  by_cases hq0 : q2 = 0
  rotate_left
  · have hne : (q2 != 0) = true := by simpa using hq0
    go_wp2_with fail
    go_ret
    exact ⟨rfl, K3⟩
  subst hq0
  obtain ⟨hn1, hn12, hc8, hL0, hL8⟩ := checkS_len HQ.out
  have HALL : Hid (∀ t ∈ ts, (checkP t.prog).2 = 0 ∧ timesB t = true ∧ hasAllB L cs.length t.prog = true) := checkS_all HQ.out
  have HPG : Hid (∀ t ∈ ts, checkP t.prog = (0, 0)) := fun t ht => prog_0 (HALL.out t ht).1
  have HLK : Hid (∀ t ∈ ts, ∀ x ∈ locksD t.prog, 0 ≤ x ∧ x < L) := fun t ht => locks_in (HPG.out t ht) (HALL.out t ht).2.2
  obtain ⟨N, rfl⟩ : ∃ N : Nat, L = (N : Int) := ⟨L.toNat, by omega⟩
  obtain ⟨F, hF⟩ := flats_ex HPG.out
  have HF : Hid (∀ (i : Nat) (t : TaskD), ts[i]? = some t → Bal 3 0 0 t.prog (F i)) := hF
  obtain ⟨_, _, hok⟩ := fewS_ok HFB.out
  have HOK : Hid (TsOk ts) := hok
  have HN : Hid (1 ≤ ts.length ∧ ts.length ≤ 12 ∧ N ≤ 8) := ⟨hn1, hn12, by omega⟩
  have hto := sto_any (N : Int) ca ta cc tc cs ts w3 (HH.out.kept K3) (HA.out.kept K3) hok (by omega) (by omega)
  have s0 : w3.cell? ⟨w.heap.size, 0, none⟩ = some (.int .i64 (N : Int)) := HB3.out.cell 0 (by simp)
  have s1 : w3.cell? ⟨w.heap.size, 1, none⟩ = some (.slice ca cs.length cc) := HB3.out.cell 1 (by simp)
  have s2 : w3.cell? ⟨w.heap.size, 2, none⟩ = some (.slice ta ts.length tc) := HB3.out.cell 2 (by simp)
  clear HQ HFB hok hF hL0 hL8 hc8 hn1 hn12
  go_wp2_with fail
  refine hto.mono ?_
  rintro e w4 ⟨xa, xc, ya, yc, rfl, -, AX, -, T4⟩
  have K4 := K3.trans T4
  have TA := (Kept.refl w4).alloc (.cells #[.int .i64 (N : Int), .slice xa cs.length xc, .slice ya ts.length yc] 33)
  have KA := K4.trans TA
  have HBS : Hid (Box w.heap.size (w4.alloc (.cells #[.int .i64 (N : Int), .slice xa cs.length xc, .slice ya ts.length yc] 33)) 25 w.heap.size [.int .i64 (N : Int), .slice ca cs.length cc, .slice ta ts.length tc]) := (HB3.out.kept T4).kept TA
  have HBX : Hid (Box w.heap.size (w4.alloc (.cells #[.int .i64 (N : Int), .slice xa cs.length xc, .slice ya ts.length yc] 33)) 33 w4.heap.size [.int .i64 (N : Int), .slice xa cs.length xc, .slice ya ts.length yc]) := box_new w.heap.size w4 33 [.int .i64 (N : Int), .slice xa cs.length xc, .slice ya ts.length yc] K4.size (by simp)
  have HAX : Hid (AtT (w4.alloc (.cells #[.int .i64 (N : Int), .slice xa cs.length xc, .slice ya ts.length yc] 33)) ya ts) := AX.kept TA
  obtain ⟨xb, hxb⟩ : ∃ xb, w4.heap.size = xb := ⟨_, rfl⟩
  rw [hxb] at HBX
  have HAA : Hid (AtT (w4.alloc (.cells #[.int .i64 (N : Int), .slice xa cs.length xc, .slice ya ts.length yc] 33)) ta ts) := HA.out.kept KA
  have HRA : Hid (Rdy (w4.alloc (.cells #[.int .i64 (N : Int), .slice xa cs.length xc, .slice ya ts.length yc] 33))) := HR.out.kept KA
  have HKA : Hid (Kept w (w4.alloc (.cells #[.int .i64 (N : Int), .slice xa cs.length xc, .slice ya ts.length yc] 33))) := KA
  clear s0 s1 s2 hto AX T4 K4 K3 HB3 TA KA
  have hof := bof_any N xa ya cs.length xc yc ts F (w4.alloc (.cells #[.int .i64 (N : Int), .slice xa cs.length xc, .slice ya ts.length yc] 33)) HRA.out HAX.out HOK.out HN.out.1 HN.out.2.1 HN.out.2.2 HPG.out HF.out
  go_wp2_with fail
  generalize (w4.alloc (.cells #[.int .i64 (N : Int), .slice xa cs.length xc, .slice ya ts.length yc] 33)) = wA at *
  refine hof.mono ?_
  rintro e w5 ⟨g5, rfl, C5, T5⟩
  have HC5 : Hid (AtI w5 (some ⟨g5, 0, none⟩) (blkS F ts N)) := C5
  have HM5 : Hid (Kept wA w5) := T5
  clear hof C5 T5 hxb
  have s0 : w5.cell? ⟨w.heap.size, 0, none⟩ = some (.int .i64 (N : Int)) := (HBS.out.kept HM5.out).cell 0 (by simp)
  have s1 : w5.cell? ⟨w.heap.size, 1, none⟩ = some (.slice ca cs.length cc) := (HBS.out.kept HM5.out).cell 1 (by simp)
  have s2 : w5.cell? ⟨w.heap.size, 2, none⟩ = some (.slice ta ts.length tc) := (HBS.out.kept HM5.out).cell 2 (by simp)
  have hrb := rblock_any N ca ta cs.length cc tc ts F w5 (HAA.out.kept HM5.out) (by have := HN.out; omega) (by have := HN.out; omega) HPG.out HF.out HLK.out
  go_wp2_with fail
  refine hrb.mono ?_
  rintro e w6 ⟨g6, rfl, C6, T6⟩
  have HC6 : Hid (AtI w6 (some ⟨g5, 0, none⟩) (blkS F ts N)) := HC5.out.kept T6
  have HM6 : Hid (Kept wA w6) := HM5.out.trans T6
  have hrs := lrow_same (some ⟨g5, 0, none⟩) (some ⟨g6, 0, none⟩) ts.length ts.length ts.length (blkS F ts N) w6 HC6.out C6 (blkS_len _ _ _) (by rw [blkS_len]; have := HN.out; omega)
  clear s0 s1 s2 hrb C6 T6 HC5 HM5
  go_wp2_with fail
  refine hrs.mono ?_
  rintro e w7 ⟨rfl, T7⟩
  have HC7 : Hid (AtI w7 (some ⟨g5, 0, none⟩) (blkS F ts N)) := HC6.out.kept T7
  have HM7 : Hid (Kept wA w7) := HM6.out.trans T7
  clear hrs T7 HC6 HM6
  go_wp2_with fail
  go_loopg [7] ts.length (fun gk i wr => ∃ (k : Nat) (W : World), W = wr ∧ i = .int .i64 k ∧ k + gk = ts.length ∧ Hid (Kept w7 W))
  case atStart => exact ⟨0, _, rfl, rfl, by omega, Kept.refl _⟩
  case round =>
    obtain ⟨i, W, hW, rfl, hi, HK⟩ := hrel
    subst hW
    by_cases hin : i < ts.length
    · have b1 : (i : Int) < (ts.length : Int) := by omega
      have b2 : (0 : Int) ≤ (i : Int) := by omega
      obtain ⟨gm, rfl⟩ : ∃ g, gk = g + 1 := ⟨gk - 1, by omega⟩
      have x0 : W.cell? ⟨xb, 0, none⟩ = some (.int .i64 (N : Int)) := (HBX.out.kept (HM7.out.trans HK.out)).cell 0 (by simp)
      have x1 : W.cell? ⟨xb, 1, none⟩ = some (.slice xa cs.length xc) := (HBX.out.kept (HM7.out.trans HK.out)).cell 1 (by simp)
      have x2 : W.cell? ⟨xb, 2, none⟩ = some (.slice ya ts.length yc) := (HBX.out.kept (HM7.out.trans HK.out)).cell 2 (by simp)
      have hlo := lower_in (N : Int) xa cs.length xc ya ts.length yc (dlT ts) i hin W (att_d (HAX.out.kept (HM7.out.trans HK.out))) (by have := HN.out; omega)
      go_wp2_with fail
      refine hlo.mono ?_
      rintro e w8 ⟨la, lm, lc, rfl, rfl, A8, T8⟩
      have HA8 : Hid (AtI w8 la (loD ts.length (dlT ts) i)) := A8
      have HK8 : Hid (Kept w7 w8) := HK.out.trans T8
      have HBM : Hid (0 ≤ blkN ts.length (prE ts) (ceilF ts) (fun q => secV (q : Int) F ts) i N ∧ blkN ts.length (prE ts) (ceilF ts) (fun q => secV (q : Int) F ts) i N ≤ mostE ts i (loD ts.length (dlT ts) i).length) := blk_most HN.out.1 hin N
      obtain ⟨bi, hbi⟩ : ∃ z, blkN ts.length (prE ts) (ceilF ts) (fun q => secV (q : Int) F ts) i N = z := ⟨_, rfl⟩
      rw [hbi] at HBM
      have HB8 : Hid (w8.cell? ⟨g5, i, none⟩ = some (.int .i64 bi)) := by
        obtain ⟨b', f', e', h⟩ := (HC7.out.kept HK8.out) i bi (by rw [← hbi]; exact blkD_get hin)
        cases e'
        rw [Nat.zero_add] at h
        exact h
      obtain ⟨lo, hlo2⟩ : ∃ z, loD ts.length (dlT ts) i = z := ⟨_, rfl⟩
      have HLO : Hid (loD ts.length (dlT ts) i = lo) := hlo2
      rw [hlo2] at HA8 HBM ⊢
      have hll : lo.length ≤ ts.length := by
        rw [← hlo2]
        unfold loD
        rw [List.length_map]
        refine Nat.le_trans (List.length_filter_le _ _) ?_
        simp
      have HLB : Hid (∀ j x, lo[j]? = some x → ∃ k : Nat, k < ts.length ∧ x = (k : Int)) := fun j x h => by rw [← hlo2] at h; exact loD_at h
      clear hlo A8 T8 x0 x1 x2 hbi hlo2
      go_wp2_with fail
      go_loopg [9, 10] lo.length (fun gk ms i2 wr => ∃ (k : Nat) (W2 : World), W2 = wr ∧ i2 = .int .i64 k ∧ ms = .int .i64 (mostE ts i k) ∧ k + gk = lo.length ∧ Hid (Kept w8 W2))
      case atStart => exact ⟨0, _, rfl, rfl, rfl, by omega, Kept.refl _⟩
      case round =>
        obtain ⟨k, W2, hW, rfl, rfl, hk, HK2⟩ := hrel
        subst hW
        by_cases hkn : k < lo.length
        · have b3 : (k : Int) < (lo.length : Int) := by omega
          have b4 : (0 : Int) ≤ (k : Int) := by omega
          obtain ⟨gi, rfl⟩ : ∃ g, gk = g + 1 := ⟨gk - 1, by omega⟩
          obtain ⟨x, hx⟩ : ∃ x, lo[k]? = some x := ⟨_, List.getElem?_eq_getElem hkn⟩
          obtain ⟨y, hyn, rfl⟩ := HLB.out k x hx
          have b5 : (y : Int) < (ts.length : Int) := by omega
          have b6 : (0 : Int) ≤ (y : Int) := by omega
          have b7 : ¬ ((y : Int) < 0) := by omega
          have b8 : ¬ ((y : Int) ≥ (ts.length : Int)) := by omega
          have d7 : decide ((y : Int) < 0) = false := decide_eq_false b7
          have d8 : decide ((ts.length : Int) ≤ (y : Int)) = false := decide_eq_false b8
          obtain ⟨lb, lf, rfl, cl0⟩ := HA8.out k _ hx
          have cl := HK2.out.cell cl0
          have HKW : Hid (Kept wA W2) := HM7.out.trans (HK8.out.trans HK2.out)
          have u2 : W2.cell? ⟨w.heap.size, 2, none⟩ = some (.slice ta ts.length tc) := (HBS.out.kept HKW.out).cell 2 (by simp)
          obtain ⟨b, f, nm, pd, dl, bu, pr, pa, pc, rfl, hpj, g0, g1, g2, g3, g4, hpc, hat, _, _⟩ := (HAA.out.kept HKW.out).get y hyn
          have hck := HPG.out _ (List.mem_of_getElem? hpj)
          simp only at hck
          obtain ⟨z, hz⟩ : ∃ z, min (costD pr) bu = z := ⟨_, rfl⟩
          have HND : Hid (∀ wx, Kept W2 wx → Calls Tryz.prog 12 #[.agg #[.string (B nm), .int .i64 pd, .int .i64 dl, .int .i64 bu, .slice pa pr.length pc]] wx fun e w' => e = .returned (.int .i64 z) ∧ Kept wx w') := fun wx kx => by
            have h := rneed_any nm pd dl bu pr pa pc wx (hat.kept kx) hpc hck
            rw [hz] at h
            exact h
          have HMX : Hid (mostE ts i (k + 1) = max (mostE ts i k) z) := by
            show _ = _
            rw [mostE_next]
            unfold lowE needI
            rw [HLO.out, hx]
            simp only [Int.toNat_natCast, hpj, needD, hz]
          obtain ⟨mk, hmk⟩ : ∃ z, mostE ts i k = z := ⟨_, rfl⟩
          rw [hmk] at HMX ⊢
          have KD : Kept W2 W2.drew.drew := ((Kept.refl W2).drew).drew
          clear hx cl0 hpj hat hck hz hmk
          go_wp2_with fail
          go_big_region
          all_goals go_wp2_with fail
          go_region_held3 (fun w' => w'.cell? ⟨w.heap.size, 2, none⟩ = some (.slice (some ⟨b, f, none⟩) ts.length tc) ∧ w'.cell? ⟨lb, lf + k, none⟩ = some (.int .i64 (y : Int)) ∧ w'.cell? ⟨b, f + y * 5, none⟩ = some (.string (B nm)) ∧ w'.cell? ⟨b, f + y * 5 + 1, none⟩ = some (.int .i64 pd) ∧ w'.cell? ⟨b, f + y * 5 + 2, none⟩ = some (.int .i64 dl) ∧ w'.cell? ⟨b, f + y * 5 + 3, none⟩ = some (.int .i64 bu) ∧ w'.cell? ⟨b, f + y * 5 + 4, none⟩ = some (.slice pa pr.length pc)) (go_keep) (first | (go_at_call 12; refine (HND.out _ KD).mono ?_; rintro e w9 ⟨rfl, T9⟩; have M9 := KD.trans T9; have k0 := M9.cell g0; have k1 := M9.cell g1; have k2 := M9.cell g2; have k3 := M9.cell g3; have k4 := M9.cell g4; have k5 := M9.cell u2; have k6 := M9.cell cl) | fail)
          all_goals go_wp2_with fail
          go_roundg gi
          case rel => exact ⟨k + 1, _, rfl, by go_num, by rw [HMX.out], by omega, HK2.out.trans M9⟩
          case measure => omega
        · have b3 : ¬ (k : Int) < (lo.length : Int) := by omega
          have hke : k = lo.length := by omega
          obtain ⟨mk, hmk⟩ : ∃ z, mostE ts i k = z := ⟨_, rfl⟩
          have b7 : ¬ (bi < 0) := by have := HBM.out; omega
          have b8 : ¬ (bi > mk) := by have h := HBM.out; rw [← hke, hmk] at h; omega
          rw [hmk]
          have cb := HK2.out.cell HB8.out
          clear hmk
          go_wp2_with fail
          go_roundg gm
          case rel => exact ⟨i + 1, _, rfl, by go_num, by omega, HK8.out.trans HK2.out⟩
          case measure => omega
    · have b1 : ¬ (i : Int) < (ts.length : Int) := by omega
      go_wp2_with fail
      go_ret
      exact ⟨rfl, HKA.out.trans (HM7.out.trans HK.out)⟩
end Go.Proofs.YtcbpbidimocpjaaGreatDoor
