/- BlockBudgets, walked. -/
import Derived.Test.YtcbpbidimocpjaaDoorCtA
import Derived.Test.YtcbpbidimocpjaaDoorKnB
namespace Go.Proofs.YtcbpbidimocpjaaDoor
open Go.RowKit Go.Sort

/-- The budget, less by d, one at least. -/
def lessT (d : Int) (t : TaskD) : TaskD := { t with budget := max 1 (t.budget - d) }
def lessTs (d : Int) (ts : List TaskD) (k : Nat) : List TaskD := (ts.take k).map (lessT d) ++ ts.drop k
theorem lessTs_zero (d : Int) (ts : List TaskD) : lessTs d ts 0 = ts := by simp [lessTs]
theorem lessTs_len (d : Int) (ts : List TaskD) (k : Nat) : (lessTs d ts k).length = ts.length := by
  simp only [lessTs, List.length_append, List.length_map, List.length_take, List.length_drop]
  omega
theorem lessTs_end (d : Int) (ts : List TaskD) {k : Nat} (h : ts.length ≤ k) : lessTs d ts k = ts.map (lessT d) := by
  unfold lessTs
  rw [List.take_of_length_le h, List.drop_eq_nil_of_le h, List.append_nil]
theorem lessTs_get {d : Int} {ts : List TaskD} {k : Nat} {t : TaskD} (h : ts[k]? = some t) : (lessTs d ts k)[k]? = some t := by
  have hk := (List.getElem?_eq_some_iff.1 h).1
  unfold lessTs
  rw [List.getElem?_append_right (by simp; omega), List.length_map, List.length_take, Nat.min_eq_left (by omega), Nat.sub_self, List.getElem?_drop]
  exact h
theorem lessTs_set {d : Int} {ts : List TaskD} {k : Nat} {t : TaskD} (h : ts[k]? = some t) : (lessTs d ts k).set k (lessT d t) = lessTs d ts (k + 1) := by
  have hk := (List.getElem?_eq_some_iff.1 h).1
  unfold lessTs
  rw [List.set_append_right _ _ (by simp; omega), List.length_map, List.length_take, Nat.min_eq_left (by omega), Nat.sub_self, List.drop_eq_getElem_cons hk, List.set_cons_zero, List.take_add_one, h]
  simp
theorem less_at {d : Int} {ts : List TaskD} {k : Nat} : (ts.map (lessT d))[k]? = (ts[k]?).map (lessT d) := by simp
theorem less_dl (d : Int) (ts : List TaskD) : dlT (ts.map (lessT d)) = dlT ts := by
  funext j
  unfold dlT
  rw [less_at]
  cases ts[j]? <;> rfl
theorem less_pr (d : Int) (ts : List TaskD) : prE (ts.map (lessT d)) = prE ts := by
  funext j
  unfold prE
  rw [less_dl, List.length_map]
theorem less_has (d : Int) (ts : List TaskD) (q : Nat) : hasK (ts.map (lessT d)) q = hasK ts q := by
  funext j
  unfold hasK
  rw [less_at]
  cases ts[j]? <;> rfl
theorem less_sec {d : Int} (hd : 0 ≤ d) (F : Nat → List OpD) (ts : List TaskD) (hb : ∀ t ∈ ts, 1 ≤ t.budget) (q : Int) (j : Nat) : secV q F (ts.map (lessT d)) j ≤ secV q F ts j := by
  unfold secV
  rw [less_at]
  cases h : ts[j]? with
  | none => exact Int.le_refl _
  | some t =>
    have h1 := hb t (List.mem_of_getElem? h)
    simp only [Option.map_some, lessT]
    omega
/-- With lesser budgets nobody is held up longer. -/
theorem less_blk {d : Int} (hd : 0 ≤ d) (F : Nat → List OpD) (ts : List TaskD) (hb : ∀ t ∈ ts, 1 ≤ t.budget) (i L : Nat) : blkN (ts.map (lessT d)).length (prE (ts.map (lessT d))) (ceilF (ts.map (lessT d))) (fun q => secV (q : Int) F (ts.map (lessT d))) i L ≤ blkN ts.length (prE ts) (ceilF ts) (fun q => secV (q : Int) F ts) i L := by
  have hc : ceilF (ts.map (lessT d)) = ceilF ts := by
    funext q
    unfold ceilF
    rw [less_pr, less_has, List.length_map]
  rw [hc, less_pr, List.length_map, blkN_le]
  refine ⟨blkN_nn _ _ _ _ _ _, fun r k hr hk hp hq => ?_⟩
  have h2 := ((blkN_le ts.length (prE ts) (ceilF ts) (fun q => secV (q : Int) F ts) i _ L).1 (Int.le_refl _)).2 r k hr hk hp hq
  exact Int.le_trans (less_sec hd F ts hb (r : Int) k) h2

set_option maxHeartbeats 8000000 in
set_option maxRecDepth 20000 in
theorem bbud_law (L by' : Int) (ca ta : Option Addr) (cc tc : Nat) (cs : List ChanD) (ts : List TaskD) (w : World) (hr : Rdy w) (hH : AtH w ca cs) (hA : AtT w ta ts) (hy0 : 0 ≤ by') (hy1 : by' ≤ 255) :
    Calls Tryd.prog 5 #[.agg #[.int .i64 L, .slice ca cs.length cc, .slice ta ts.length tc], .int .u8 by'] w fun e w' => e = .returned (.bool true) ∧ Kept w w' := by
  have HR : Hid (Rdy w) := hr
  have HH : Hid (AtH w ca cs) := hH
  have HA : Hid (AtT w ta ts) := hA
  have K0 := (Kept.refl w).alloc (.cells #[.int .i64 L, .slice ca cs.length cc, .slice ta ts.length tc] 25)
  have HB : Hid (Box w.heap.size (w.alloc (.cells #[.int .i64 L, .slice ca cs.length cc, .slice ta ts.length tc] 25)) 25 w.heap.size [.int .i64 L, .slice ca cs.length cc, .slice ta ts.length tc]) := box_new w.heap.size w 25 [.int .i64 L, .slice ca cs.length cc, .slice ta ts.length tc] (Nat.le_refl _) (by simp)
  have hk := bknown_true (w.alloc (.cells #[.int .i64 L, .slice ca cs.length cc, .slice ta ts.length tc] 25)) (HR.out.kept K0)
  clear hr hH hA
  go_enter Tryd.func5, Tryd.ntmps5
  go_wp2_with fail
  refine hk.mono ?_
  rintro e w1 ⟨rfl, T1⟩
  have K1 := K0.trans T1
  have HB1 : Hid (Box w.heap.size w1 25 w.heap.size [.int .i64 L, .slice ca cs.length cc, .slice ta ts.length tc]) := HB.out.kept T1
  clear hk HB K0 T1
  have s0 : w1.cell? ⟨w.heap.size, 0, none⟩ = some (.int .i64 L) := HB1.out.cell 0 (by simp)
  have s1 : w1.cell? ⟨w.heap.size, 1, none⟩ = some (.slice ca cs.length cc) := HB1.out.cell 1 (by simp)
  have s2 : w1.cell? ⟨w.heap.size, 2, none⟩ = some (.slice ta ts.length tc) := HB1.out.cell 2 (by simp)
  have hck := rcset_any L ca ta cc tc cs ts w1 (HH.out.kept K1) (HA.out.kept K1)
  obtain ⟨q1, hq1⟩ : ∃ q, (checkS L cs ts).1 = q := ⟨_, rfl⟩
  obtain ⟨q2, hq2⟩ : ∃ q, (checkS L cs ts).2 = q := ⟨_, rfl⟩
  rw [hq1, hq2] at hck
  have HQ : Hid ((checkS L cs ts).2 = q2) := hq2
  clear hq1 hq2
  go_wp2_with fail
  refine hck.mono ?_
  rintro e w2 ⟨rfl, T2⟩
  have K2 := K1.trans T2
  have HB2 : Hid (Box w.heap.size w2 25 w.heap.size [.int .i64 L, .slice ca cs.length cc, .slice ta ts.length tc]) := HB1.out.kept T2
  clear s0 s1 s2 hck HB1 T2 K1
  have s0 : w2.cell? ⟨w.heap.size, 0, none⟩ = some (.int .i64 L) := HB2.out.cell 0 (by simp)
  have s1 : w2.cell? ⟨w.heap.size, 1, none⟩ = some (.slice ca cs.length cc) := HB2.out.cell 1 (by simp)
  have s2 : w2.cell? ⟨w.heap.size, 2, none⟩ = some (.slice ta ts.length tc) := HB2.out.cell 2 (by simp)
  have hfw := sfew_any L ca ta cc tc cs ts w2 (HA.out.kept K2)
  obtain ⟨fb, hfb⟩ : ∃ fb, fewS cs ts = fb := ⟨_, rfl⟩
  rw [hfb] at hfw
  have HFB : Hid (fewS cs ts = fb) := hfb
  clear hfb
  go_wp2_with fail
  refine hfw.mono ?_
  rintro e w3 ⟨rfl, T3⟩
  have K3 := K2.trans T3
  have HB3 : Hid (Box w.heap.size w3 25 w.heap.size [.int .i64 L, .slice ca cs.length cc, .slice ta ts.length tc]) := HB2.out.kept T3
  clear s0 s1 s2 hfw HB2 T3 K2
  cases fb with
  | false =>
    go_wp2_with fail
    go_ret
    exact ⟨rfl, K3⟩
  | true =>
  by_cases hq0 : q2 = 0
  rotate_left
  · have hne : (q2 != 0) = true := by simpa using hq0
    go_wp2_with fail
    go_ret
    exact ⟨rfl, K3⟩
  subst hq0
  obtain ⟨hn1, hn12, hc8, hL0, hL8⟩ := checkS_len HQ.out
  have HALL : Hid (∀ t ∈ ts, (checkP t.prog).2 = 0 ∧ timesB t = true ∧ hasAllB L cs.length t.prog = true) := checkS_all HQ.out
  have HPG : Hid (∀ t ∈ ts, checkP t.prog = (0, 0)) := fun t ht => prog_0 (HALL.out t ht).1
  have HTB : Hid (∀ t ∈ ts, 1 ≤ t.budget ∧ t.budget ≤ 1099511627776) := fun t ht => by
    have h := (HALL.out t ht).2.1
    simp only [timesB, Bool.and_eq_true, decide_eq_true_eq] at h
    omega
  obtain ⟨N, rfl⟩ : ∃ N : Nat, L = (N : Int) := ⟨L.toNat, by omega⟩
  obtain ⟨F, hF⟩ := flats_ex HPG.out
  have HF : Hid (∀ (i : Nat) (t : TaskD), ts[i]? = some t → Bal 3 0 0 t.prog (F i)) := hF
  obtain ⟨_, _, hok⟩ := fewS_ok HFB.out
  have HOK : Hid (TsOk ts) := hok
  have HN : Hid (1 ≤ ts.length ∧ ts.length ≤ 12 ∧ N ≤ 8 ∧ cs.length ≤ 8) := ⟨hn1, hn12, by omega, hc8⟩
  have hto := sto_any (N : Int) ca ta cc tc cs ts w3 (HH.out.kept K3) (HA.out.kept K3) hok (by omega) (by omega)
  have s0 : w3.cell? ⟨w.heap.size, 0, none⟩ = some (.int .i64 (N : Int)) := HB3.out.cell 0 (by simp)
  have s1 : w3.cell? ⟨w.heap.size, 1, none⟩ = some (.slice ca cs.length cc) := HB3.out.cell 1 (by simp)
  have s2 : w3.cell? ⟨w.heap.size, 2, none⟩ = some (.slice ta ts.length tc) := HB3.out.cell 2 (by simp)
  clear HQ HFB hok hF hL0 hL8 hc8 hn1 hn12
  go_wp2_with fail
  refine hto.mono ?_
  rintro e w4 ⟨xa, xc, ya, yc, rfl, -, AX, -, T4⟩
  have K4 := K3.trans T4
  have HB4 : Hid (Box w.heap.size w4 25 w.heap.size [.int .i64 (N : Int), .slice ca cs.length cc, .slice ta ts.length tc]) := HB3.out.kept T4
  have hof := bof_any N xa ya cs.length xc yc ts F w4 (HR.out.kept K4) AX HOK.out HN.out.1 HN.out.2.1 HN.out.2.2.1 HPG.out HF.out
  clear s0 s1 s2 hto AX T4 K3 HB3
  go_wp2_with fail
  refine hof.mono ?_
  rintro e w5 ⟨g5, rfl, hg5, C5, T5⟩
  have HC5 : Hid (AtI w5 (some ⟨g5, 0, none⟩) (blkS F ts N)) := C5
  have K5 := K4.trans T5
  have HB5 : Hid (Box w.heap.size w5 25 w.heap.size [.int .i64 (N : Int), .slice ca cs.length cc, .slice ta ts.length tc]) := HB4.out.kept T5
  have s2 : w5.cell? ⟨w.heap.size, 2, none⟩ = some (.slice ta ts.length tc) := HB5.out.cell 2 (by simp)
  obtain ⟨tb, tf, hta⟩ : ∃ tb tf, ta = some ⟨tb, tf, none⟩ := by
    obtain ⟨b, f, _, _, _, _, _, _, _, e, _⟩ := HA.out.get 0 (by have := HN.out; omega)
    exact ⟨b, f, e⟩
  subst hta
  have hb4 := HB4.out.lt.2
  clear hof C5 T5 K4 HB4
  have hbl5 := HB5.out.lt
  have KL : Kept w (w5.alloc (.cells #[] 32)) := K5.alloc _
  have HBL : Hid (Box w.heap.size (w5.alloc (.cells #[] 32)) 25 w.heap.size [.int .i64 (N : Int), .slice ca cs.length cc, .slice (some ⟨tb, tf, none⟩) ts.length tc]) := HB5.out.kept ((Kept.refl w5).alloc _)
  have s2 : (w5.alloc (.cells #[] 32)).cell? ⟨w.heap.size, 2, none⟩ = some (.slice (some ⟨tb, tf, none⟩) ts.length tc) := HBL.out.cell 2 (by simp)
  have hli : (w5.alloc (.cells #[] 32)).ownsRow w.heap.size 32 5 (.slice (some ⟨w5.heap.size, 0, none⟩) 0 0) 0 [] := World.ownsRow_lit (base := w.heap.size) (e := 32) (size := 5) w5 #[] 0 K5.size (by unfold maxLen; omega) (by simp)
  obtain ⟨eb, heb⟩ : ∃ x, w5.heap.size = x := ⟨_, rfl⟩
  have hebw : w.heap.size ≤ eb := by have := K5.size; omega
  have hebx : w.heap.size ≠ eb := by omega
  rw [heb] at hli
  go_wp2_with (at_builtin; refine wpList_append_tks w (w5.alloc (.cells #[] 32)) KL (by rfl) _ _ rfl ts tb tf ts.length tc eb rfl HN.out.1 (by have := HN.out; omega) (by rw [← heb]; rfl) hli (by rfl) HA.out ?_; intro g cap w7 CT7 T7 hg7; have HB7 := HBL.out.turns T7 hebx; have u2 := HB7.cell 2 (by simp); have fz2 := HB7.frozen 2; simp only [List.getElem?_cons_zero, List.getElem?_cons_succ] at u2)
  have hgx : g ≠ w.heap.size := by
    rcases hg7 with h | h
    · omega
    · have : eb + 1 ≤ g := by rw [← heb]; simpa using h
      omega
  have hg5g : g5 ≠ g := by
    have h6 : g5 < eb := by
      obtain ⟨b', f', e', hc⟩ := HC5.out 0 _ (blkD_get (by have := HN.out; omega))
      cases e'
      have := cell_lt hc
      simp only at this
      omega
    rcases hg7 with h | h
    · omega
    · have : eb + 1 ≤ g := by rw [← heb]; simpa using h
      omega
  have t8 := turn_set w7 w.heap.size 2 (.slice (some ⟨g, 0, none⟩) ts.length cap)
  have K7 : Kept w w7 := T7.kept KL (fun i e => by rw [e]; exact hebw)
  have K8 : Kept w (w7.setCell ⟨w.heap.size, 2, none⟩ (.slice (some ⟨g, 0, none⟩) ts.length cap)) := t8.kept K7 (fun i e => by rw [e]; exact Nat.le_refl _)
  have HB8 : Hid (Box w.heap.size (w7.setCell ⟨w.heap.size, 2, none⟩ (.slice (some ⟨g, 0, none⟩) ts.length cap)) 25 w.heap.size [.int .i64 (N : Int), .slice ca cs.length cc, .slice (some ⟨g, 0, none⟩) ts.length cap]) := HB7.set 2 _
  have HC8 : Hid (CT w.heap.size (fun k => w.heap.size ≤ k) (w7.setCell ⟨w.heap.size, 2, none⟩ (.slice (some ⟨g, 0, none⟩) ts.length cap)) g cap (lessTs (by' % 20) ts 0) (pvsOf w tb tf ts.length)) := by
    rw [lessTs_zero]
    exact CT7.turns t8 (fun k e => by rw [e]; exact Nat.le_refl _) (fun e => hgx e)
  have HA8 : Hid (AtI (w7.setCell ⟨w.heap.size, 2, none⟩ (.slice (some ⟨g, 0, none⟩) ts.length cap)) (some ⟨g5, 0, none⟩) (blkS F ts N)) := by
    have h5 : w.heap.size < g5 := by omega
    have h6 : g5 < eb := by
      obtain ⟨b', f', e', hc⟩ := HC5.out 0 _ (blkD_get (by have := HN.out; omega))
      cases e'
      have := cell_lt hc
      simp only at this
      omega
    exact ((HC5.out.kept ((Kept.refl w5).alloc _)).turns T7 (fun b f e => by cases e; omega)).turns t8 (fun b f e => by cases e; omega)
  clear CT7 HB7 u2 fz2 hli s2 HBL K7 KL
  generalize (w7.setCell ⟨w.heap.size, 2, none⟩ (.slice (some ⟨g, 0, none⟩) ts.length cap)) = w8 at *
  have HGX : Hid (g ≠ w.heap.size ∧ w.heap.size ≤ g) := ⟨hgx, HC8.out.lt.1⟩
  have HG5 : Hid (g5 ≠ g) := hg5g
  clear t8
  go_wp2_with fail
  go_loopg [8] ts.length (fun gk i wr => ∃ (k : Nat) (W : World), W = wr ∧ i = .int .i64 k ∧ k + gk = ts.length ∧ Hid (CT w.heap.size (fun k => w.heap.size ≤ k) W g cap (lessTs (by' % 20) ts k) (pvsOf w tb tf ts.length)) ∧ Hid (Turns (fun x => x = g) w8 W) ∧ Kept w W)
  case atStart => exact ⟨0, _, rfl, rfl, by omega, HC8, Turns.refl _ _, K8⟩
  case round =>
    obtain ⟨k, W, hW, rfl, hk, HC, HT, K⟩ := hrel
    subst hW
    have HBW : Hid (Box w.heap.size W 25 w.heap.size [.int .i64 (N : Int), .slice ca cs.length cc, .slice (some ⟨g, 0, none⟩) ts.length cap]) := HB8.out.turns HT.out (fun e => HGX.out.1 e.symm)
    have s2 : W.cell? ⟨w.heap.size, 2, none⟩ = some (.slice (some ⟨g, 0, none⟩) ts.length cap) := HBW.out.cell 2 (by simp)
    by_cases hkn : k < ts.length
    · have b1 : (k : Int) < (ts.length : Int) := by omega
      have b2 : (0 : Int) ≤ (k : Int) := by omega
      have b12 := HN.out.2.1
      obtain ⟨gm, rfl⟩ : ∃ z, gk = z + 1 := ⟨gk - 1, by omega⟩
      obtain ⟨t, ht⟩ : ∃ t, ts[k]? = some t := ⟨_, List.getElem?_eq_getElem hkn⟩
      have hbt := HTB.out t (List.mem_of_getElem? ht)
      have hget := lessTs_get (d := by' % 20) ht
      have hset := lessTs_set (d := by' % 20) ht
      have hbud := HC.out.bud HGX.out.2 hget (max 1 (t.budget - by' % 20))
      have HBD : Hid (CT w.heap.size (fun k => w.heap.size ≤ k) (W.setCell ⟨g, k * 5 + 3, none⟩ (.int .i64 (max 1 (t.budget - by' % 20)))) g cap (lessTs (by' % 20) ts (k + 1)) (pvsOf w tb tf ts.length)) := by
        rw [← hset]
        exact hbud
      obtain ⟨b', f', e', hat⟩ := HC.out.at k t hget
      cases e'
      have c3 := hat.bu
      rw [Nat.zero_add] at c3
      have f3 := HC.out.frozen (k * 5 + 3)
      obtain ⟨bu, hbu⟩ : ∃ z, t.budget = z := ⟨_, rfl⟩
      rw [hbu] at c3 hbt HBD
      clear hat hbud hset hget ht hbu
      go_wp2_with fail
      go_region
      all_goals go_wp2_with fail
      go_roundg gm
      case rel =>
        have t9 := turn_set W g (k * 5 + 3) (.int .i64 (max 1 (bu - by' % 20)))
        exact ⟨k + 1, _, rfl, by go_num, by omega, HBD.out.kept ((Kept.refl _).drew), (HT.out.trans t9).drew, (t9.kept K (fun i e => by rw [e]; exact HGX.out.2)).drew⟩
      case measure => omega
    · have b1 : ¬ (k : Int) < (ts.length : Int) := by omega
      have s0 : W.cell? ⟨w.heap.size, 0, none⟩ = some (.int .i64 (N : Int)) := HBW.out.cell 0 (by simp)
      have s1 : W.cell? ⟨w.heap.size, 1, none⟩ = some (.slice ca cs.length cc) := HBW.out.cell 1 (by simp)
      obtain ⟨ts2, hts2⟩ : ∃ z, ts.map (lessT (by' % 20)) = z := ⟨_, rfl⟩
      have hl2 : ts2.length = ts.length := by rw [← hts2, List.length_map]
      have HAT : Hid (AtT W (some ⟨g, 0, none⟩) ts2) := by
        have h := HC.out.at
        rw [lessTs_end _ _ (by omega), hts2] at h
        exact h
      have HOK2 : Hid (TsOk ts2) := by
        intro t ht
        rw [← hts2] at ht
        obtain ⟨t', ht', rfl⟩ := List.mem_map.1 ht
        exact HOK.out t' ht'
      have HPG2 : Hid (∀ t ∈ ts2, checkP t.prog = (0, 0)) := by
        intro t ht
        rw [← hts2] at ht
        obtain ⟨t', ht', rfl⟩ := List.mem_map.1 ht
        exact HPG.out t' ht'
      have HF2 : Hid (∀ (i : Nat) (t : TaskD), ts2[i]? = some t → Bal 3 0 0 t.prog (F i)) := by
        intro i t ht
        rw [← hts2, less_at] at ht
        cases hti : ts[i]? with
        | none => rw [hti] at ht; cases ht
        | some t' =>
          rw [hti] at ht
          cases ht
          exact HF.out i t' hti
      have HLE : Hid (∀ i, i < ts.length → ∃ x y, (blkS F ts N)[i]? = some x ∧ (blkS F ts2 N)[i]? = some y ∧ ¬ y > x ∧ ¬ y < 0) := by
        intro i hi
        refine ⟨_, _, blkD_get hi, blkD_get (by rw [hl2]; exact hi), ?_, ?_⟩
        · have h := less_blk (d := by' % 20) (by omega) F ts (fun t ht => (HTB.out t ht).1) i N
          rw [hts2] at h
          omega
        · have h := blkN_nn ts2.length (prE ts2) (ceilF ts2) (fun q => secV (q : Int) F ts2) i N
          omega
      have HAW : Hid (AtI W (some ⟨g5, 0, none⟩) (blkS F ts N)) := HA8.out.turns HT.out (fun b f e => by
        cases e
        exact HG5.out)
      have hto := sto_any (N : Int) ca (some ⟨g, 0, none⟩) cc cap cs ts2 W (HH.out.kept K) HAT.out HOK2.out (by have := HN.out; omega) (by have := HN.out; omega)
      rw [hl2] at hto
      clear hts2
      go_wp2_with fail
      refine hto.mono ?_
      rintro e w10 ⟨xa2, xc2, ya2, yc2, rfl, -, AX, -, T10⟩
      have K10 := K.trans T10
      have hof := bof_any N xa2 ya2 cs.length xc2 yc2 ts2 F w10 (HR.out.kept K10) AX HOK2.out (by have := HN.out; omega) (by have := HN.out; omega) HN.out.2.2.1 HPG2.out HF2.out
      rw [hl2] at hof
      clear hto AX
      go_wp2_with fail
      refine hof.mono ?_
      rintro e w11 ⟨g11, rfl, -, C11, T11⟩
      have HC11 : Hid (AtI w11 (some ⟨g11, 0, none⟩) (blkS F ts2 N)) := C11
      have HK11 : Hid (Kept W w11) := T10.trans T11
      have K11 := K10.trans T11
      have s3 : w11.cell? ⟨w.heap.size, 2, none⟩ = some (.slice (some ⟨g, 0, none⟩) ts.length cap) := (HBW.out.kept HK11.out).cell 2 (by simp)
      clear hof C11 T11 s0 s1 s2
      go_wp2_with fail
      go_loopg [10] ts.length (fun gk i wr => ∃ (j : Nat) (W2 : World), W2 = wr ∧ i = .int .i64 j ∧ j + gk = ts.length ∧ Hid (Kept w11 W2))
      case atStart => exact ⟨0, _, rfl, rfl, by omega, Kept.refl _⟩
      case round =>
        obtain ⟨j, W2, hW, rfl, hj, HK2⟩ := hrel
        subst hW
        by_cases hjn : j < ts.length
        · have c1 : (j : Int) < (ts.length : Int) := by omega
          have c2 : (0 : Int) ≤ (j : Int) := by omega
          have b12 := HN.out.2.1
          obtain ⟨gm, rfl⟩ : ∃ z, gk = z + 1 := ⟨gk - 1, by omega⟩
          obtain ⟨x, y, hx, hy, c3, c4⟩ := HLE.out j hjn
          have d3 : decide (x < y) = false := decide_eq_false (by omega)
          have d4 : decide (y < 0) = false := decide_eq_false (by omega)
          obtain ⟨b', f', e', cx⟩ := (HAW.out.kept (HK11.out.trans HK2.out)) j x hx
          cases e'
          rw [Nat.zero_add] at cx
          obtain ⟨b', f', e', cy⟩ := (HC11.out.kept HK2.out) j y hy
          cases e'
          rw [Nat.zero_add] at cy
          clear hx hy
          go_wp2_with fail
          go_big_region
          all_goals go_wp2_with fail
          go_roundg gm
          case rel => exact ⟨j + 1, _, rfl, by go_num, by omega, HK2.out.drew⟩
          case measure => omega
        · have c1 : ¬ (j : Int) < (ts.length : Int) := by omega
          go_wp2_with fail
          go_ret
          exact ⟨rfl, K11.trans HK2.out⟩
end Go.Proofs.YtcbpbidimocpjaaDoor
