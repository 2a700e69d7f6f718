/- OrderHeaps, walked. -/
import Derived.Test.YtcfgcbjhlamchaaSeW
import Derived.Test.YtcfgcbjhlamchaaHpA
namespace Go.Proofs.Ytcfgcbjhlamchaa
open Go.RowKit Go.Sort Hp

theorem wrapH {z : Int} (h0 : -1000000000 ≤ z) (h1 : z ≤ 1000000000) : IntKind.i64.wrap z = z := by
  simp [IntKind.wrap, IntKind.bits, IntKind.signed]
  omega
/-- A task in the heap. -/
def entP (n : Nat) (D : Nat → Int) (k : Nat) : Ent := ⟨(k : Int), (n : Int) - (rank n D k : Int), 0⟩
def ents (n : Nat) (D : Nat → Int) (j : Nat) : List Ent := (List.range j).map (entP n D)
theorem ents_next (n : Nat) (D : Nat → Int) (j : Nat) : ents n D (j + 1) = ents n D j ++ [entP n D j] := by
  unfold ents
  rw [List.range_succ, List.map_append]
  rfl
theorem ents_len (n : Nat) (D : Nat → Int) (j : Nat) : (ents n D j).length = j := by simp [ents]
theorem ents_free {n : Nat} {D : Nat → Int} {j : Nat} {row : List Ent} (p : row.Perm (ents n D j)) : place row j = 0 := by
  refine Hp.place_none row j (fun i hi e => ?_)
  have h := p.mem_iff.1 (at_mem hi)
  unfold ents at h
  obtain ⟨k, hk, e2⟩ := List.mem_map.1 h
  rw [← e2] at e
  have := List.mem_range.1 hk
  simp only [entP] at e
  omega
/-- Taken out one by one they are the row of the tasks. -/
theorem drn_row {n : Nat} {D : Nat → Int} {R : List Nat} {row : List Ent} (hR : RowOk n D R) (p : row.Perm (ents n D n)) (o : Hp.Ord row) : drn row.length row = R.map (entP n D) := by
  have hp : (drn row.length row).Perm (R.map (entP n D)) := ((drain_perm row.length row rfl).trans p).trans ((hR.perm.map (entP n D)).symm)
  have hu : Uniq (R.map (entP n D)) := by
    intro x hx y hy e
    obtain ⟨i, _, rfl⟩ := List.mem_map.1 hx
    obtain ⟨j, _, rfl⟩ := List.mem_map.1 hy
    have : i = j := by simp only [entP] at e; omega
    rw [this]
  refine sorted_eq hu (drain_sorted row.length row rfl o) ?_ hp
  rw [List.pairwise_map]
  rw [List.pairwise_iff_getElem]
  intro i j hi hj hij
  have h1 := hR.rank (List.getElem?_eq_getElem hi)
  have h2 := hR.rank (List.getElem?_eq_getElem hj)
  show ahd (entP n D R[j]) (entP n D R[i]) = false
  rw [ahd_not]
  simp only [entP, h1, h2]
  omega
theorem own_ints {B : Nat} {w : World} {og m c : Nat} {l : List Int} (h : w.ownsRow B 3 1 (.slice (some ⟨og, 0, none⟩) m c) m (l.map intV)) (hl : l.length = m) : AtI w (some ⟨og, 0, none⟩) l := by
  intro j x hj
  have hj2 := (List.getElem?_eq_some_iff.1 hj).1
  refine ⟨og, 0, rfl, ?_⟩
  rw [Nat.zero_add, h.cellAt j (by omega), List.getElem?_map, hj]
  rfl
theorem oper_calls {P : Program} {o : Oper} {a : Act} {w : World} {K : Act → World → Prop} {Q : Exit → Act → World → Prop} {f : FuncId} {vals : Array Value} (hx : (execOp a.eval o).run P w = .ok (.enter f vals) w) (h : Calls P f vals w fun e w' => ∃ v, e = .returned v ∧ K (a.put o.dst v) w') : Oper.wp P o a w K Q := by
  unfold Oper.wp
  rw [hx, Oper.upon_enter]
  refine h.mono ?_
  rintro e w' ⟨v, rfl, k⟩
  exact k
theorem oper_value {P : Program} {o : Oper} {a : Act} {w : World} {K : Act → World → Prop} {Q : Exit → Act → World → Prop} {v : Value} (hx : (execOp a.eval o).run P w = .ok (.value v) w) (h : K (a.put o.dst v) w) : Oper.wp P o a w K Q := by
  unfold Oper.wp
  rw [hx, Oper.upon_value]
  exact h
theorem ids_map (n : Nat) (D : Nat → Int) (R : List Nat) : (R.map (entP n D)).map idV = (R.map (fun j : Nat => (j : Int))).map intV := by
  rw [List.map_map, List.map_map]
  rfl
set_option maxHeartbeats 8000000 in
set_option maxRecDepth 20000 in
theorem heaps_law (L : Int) (ca ta : Option Addr) (cc tc : Nat) (cs : List ChanD) (ts : List TaskD) (w : World) (hH : AtH w ca cs) (hA : AtT w ta ts) :
    Calls Try.prog 6 #[.agg #[.int .i64 L, .slice ca cs.length cc, .slice ta ts.length tc]] w fun e w' => e = .returned (.bool true) ∧ Kept w w' := by
  have HH : Hid (AtH w ca cs) := hH
  have HA : Hid (AtT w ta ts) := hA
  have K0 := (Kept.refl w).alloc (.cells #[.int .i64 L, .slice ca cs.length cc, .slice ta ts.length tc] 25)
  have HB : Hid (Box w.heap.size (w.alloc (.cells #[.int .i64 L, .slice ca cs.length cc, .slice ta ts.length tc] 25)) 25 w.heap.size [.int .i64 L, .slice ca cs.length cc, .slice ta ts.length tc]) := box_new w.heap.size w 25 [.int .i64 L, .slice ca cs.length cc, .slice ta ts.length tc] (Nat.le_refl _) (by simp)
  have hk := known_true (w.alloc (.cells #[.int .i64 L, .slice ca cs.length cc, .slice ta ts.length tc] 25))
  clear hH hA
  go_enter Try.func6, Try.ntmps6
  go_wp2_with fail
  refine hk.mono ?_
  rintro e w1 ⟨rfl, T1⟩
  have K1 := K0.trans T1
  have HB1 : Hid (Box w.heap.size w1 25 w.heap.size [.int .i64 L, .slice ca cs.length cc, .slice ta ts.length tc]) := HB.out.kept T1
  clear hk HB K0 T1
  have s0 : w1.cell? ⟨w.heap.size, 0, none⟩ = some (.int .i64 L) := HB1.out.cell 0 (by simp)
  have s1 : w1.cell? ⟨w.heap.size, 1, none⟩ = some (.slice ca cs.length cc) := HB1.out.cell 1 (by simp)
  have s2 : w1.cell? ⟨w.heap.size, 2, none⟩ = some (.slice ta ts.length tc) := HB1.out.cell 2 (by simp)
  have hck := rcset_any L ca ta cc tc cs ts w1 (HH.out.kept K1) (HA.out.kept K1)
  obtain ⟨q1, hq1⟩ : ∃ q, (checkS L cs ts).1 = q := ⟨_, rfl⟩
  obtain ⟨q2, hq2⟩ : ∃ q, (checkS L cs ts).2 = q := ⟨_, rfl⟩
  rw [hq1, hq2] at hck
  have HQ : Hid ((checkS L cs ts).2 = q2) := hq2
  clear hq1 hq2
  go_wp2_with fail
  refine hck.mono ?_
  rintro e w2 ⟨rfl, T2⟩
  have K2 := K1.trans T2
  have HB2 : Hid (Box w.heap.size w2 25 w.heap.size [.int .i64 L, .slice ca cs.length cc, .slice ta ts.length tc]) := HB1.out.kept T2
  clear s0 s1 s2 hck HB1 T2 K1
  have s0 : w2.cell? ⟨w.heap.size, 0, none⟩ = some (.int .i64 L) := HB2.out.cell 0 (by simp)
  have s1 : w2.cell? ⟨w.heap.size, 1, none⟩ = some (.slice ca cs.length cc) := HB2.out.cell 1 (by simp)
  have s2 : w2.cell? ⟨w.heap.size, 2, none⟩ = some (.slice ta ts.length tc) := HB2.out.cell 2 (by simp)
  have hfw := sfew_any L ca ta cc tc cs ts w2 (HA.out.kept K2)
  obtain ⟨fb, hfb⟩ : ∃ fb, fewS cs ts = fb := ⟨_, rfl⟩
  rw [hfb] at hfw
  have HFB : Hid (fewS cs ts = fb) := hfb
  clear hfb
  go_wp2_with fail
  refine hfw.mono ?_
  rintro e w3 ⟨rfl, T3⟩
  have K3 := K2.trans T3
  have HB3 : Hid (Box w.heap.size w3 25 w.heap.size [.int .i64 L, .slice ca cs.length cc, .slice ta ts.length tc]) := HB2.out.kept T3
  clear s0 s1 s2 hfw HB2 T3 K2
  cases fb with
  | false =>
    go_wp2_with fail
    go_ret
    exact ⟨rfl, K3⟩
  | true =>
  by_cases hq0 : q2 = 0
  · subst hq0
    obtain ⟨hn1, hn12, hc8, _, _⟩ := checkS_len HQ.out
    obtain ⟨_, _, hok⟩ := fewS_ok HFB.out
    have hto := sto_any L ca ta cc tc cs ts w3 (HH.out.kept K3) (HA.out.kept K3) hok (by omega) (by omega)
    have s0 : w3.cell? ⟨w.heap.size, 0, none⟩ = some (.int .i64 L) := HB3.out.cell 0 (by simp)
    have s1 : w3.cell? ⟨w.heap.size, 1, none⟩ = some (.slice ca cs.length cc) := HB3.out.cell 1 (by simp)
    have s2 : w3.cell? ⟨w.heap.size, 2, none⟩ = some (.slice ta ts.length tc) := HB3.out.cell 2 (by simp)
    have HOK : Hid (TsOk ts) := hok
    clear HQ HFB hok
    go_wp2_with fail
    refine hto.mono ?_
    rintro e w4 ⟨xa, xc, ya, yc, rfl, _, AX, _, T4⟩
    have K4 := K3.trans T4
    have HB4 : Hid (Box w.heap.size w4 25 w.heap.size [.int .i64 L, .slice ca cs.length cc, .slice ta ts.length tc]) := HB3.out.kept T4
    have hpr := prios_any L xa cs.length xc ya ts.length yc (dlT ts) w4 (att_d AX) hn1 (by omega)
    clear s0 s1 s2 hto T4 K3 HB3 AX
    go_wp2_with fail
    refine hpr.mono ?_
    rintro e w5 ⟨gp, rfl, _, AP, T5⟩
    have K5 := K4.trans T5
    have HB5 : Hid (Box w.heap.size w5 25 w.heap.size [.int .i64 L, .slice ca cs.length cc, .slice ta ts.length tc]) := HB4.out.kept T5
    have HAP : Hid (AtI w5 (some ⟨gp, 0, none⟩) (prD ts.length (dlT ts))) := AP
    have HGP : Hid (gp < w5.heap.size) := by
      obtain ⟨b', f', e', hc⟩ := AP 0 _ (prD_get (show 0 < ts.length by omega))
      cases e'
      exact cell_lt hc
    have hnew : Calls Try.prog 19 #[.int .i64 12] w5 fun e w' => ∃ hb, e = .returned (.tuple #[.pointer (some ⟨hb, 0, none⟩), .int .i64 0]) ∧ ∃ ab, HP w5.heap.size w' hb (.slice none 0 0) ab 12 12 [] ∧ Turns (fun _ => False) w5 w' ∧ w5.heap.size ≤ hb ∧ w5.heap.size ≤ ab := new_good w5.heap.size 12 w5 (by omega) (by omega) (Nat.le_refl _)
    clear hpr HB4 AP T5 K4
    go_wp2_with fail
    refine hnew.mono ?_
    rintro e w6 ⟨hb, rfl, ab, P6, T6, _, _⟩
    have T56 : Kept w5 w6 := T6.kept (Kept.refl w5) (fun i h => h.elim)
    have K6 := K5.trans T56
    have s2 : w6.cell? ⟨w.heap.size, 2, none⟩ = some (.slice ta ts.length tc) := (HB5.out.kept T56).cell 2 (by simp)
    have e1 : ((ts.length : Int) != (ts.length : Int)) = false := by simp
    have HP6 : Hid (HP w5.heap.size w6 hb (.slice none 0 0) ab 12 12 []) := P6
    have T56' : Hid (Kept w5 w6) := T56
    clear hnew P6 T6 K6 T56
    obtain ⟨R, hR⟩ := row_ex ts.length (dlT ts) hn1
    have HR : Hid (RowOk ts.length (dlT ts) R) := hR
    clear hR
    go_wp2_with fail
    clear s2 e1
    go_loopg [8] ts.length (fun gk i wr => ∃ (j : Nat) (rv : Value) (row : List Ent) (W : World), W = wr ∧ i = .int .i64 j ∧ j + gk = ts.length ∧ Hid (HP w5.heap.size W hb rv ab 12 12 row) ∧ Hid (row.Perm (ents ts.length (dlT ts) j)) ∧ Hid (Hp.Ord row) ∧ Hid (Kept w5 W))
    case atStart => exact ⟨0, _, [], _, rfl, rfl, by omega, HP6, (by show List.Perm _ _; exact List.Perm.refl _), (by show Hp.Ord _; intro i h1 h2; simp at h2), T56'⟩
    case round =>
      obtain ⟨j, rv, row, W, hW, rfl, hj, HPr, HPM, HOD, HK⟩ := hrel
      subst hW
      by_cases hjn : j < ts.length
      · have b1 : (j : Int) < (ts.length : Int) := by omega
        have b2 : (0 : Int) ≤ (j : Int) := by omega
        obtain ⟨b', f', e', c1⟩ := (HAP.out.kept HK.out) j _ (prD_get hjn)
        cases e'
        rw [Nat.zero_add] at c1
        have hrl : row.length = j := by rw [HPM.out.length_eq, ents_len]
        have hpu := put_ok (j : Int) ((ts.length : Int) - (rank ts.length (dlT ts) j : Int)) 0 HPr.out (by simp [knB]; omega) (by rw [Int.toNat_natCast]; exact ents_free HPM.out) (by have := HK.out.size; omega)
        have HPM2 : Hid ((rise row.length (row ++ [entP ts.length (dlT ts) j]) row.length).Perm (ents ts.length (dlT ts) (j + 1))) := by
          show List.Perm _ _
          rw [ents_next]
          exact (rise_perm _ _ _ (by rw [List.length_append]; simp)).trans (HPM.out.append_right _)
        have HOD2 : Hid (Hp.Ord (rise row.length (row ++ [entP ts.length (dlT ts) j]) row.length)) := rise_ord _ _ _ (Nat.le_refl _) (by rw [List.length_append]; simp) (up_snoc HOD.out _)
        have HFT : Hid (∀ k, Foot hb rv ab k → w5.heap.size ≤ k) := fun k hk => (HPr.out.foot k hk).1
        obtain ⟨pj, hpj⟩ : ∃ p, (ts.length : Int) - (rank ts.length (dlT ts) j : Int) = p := ⟨_, rfl⟩
        unfold entP at HPM2 HOD2
        rw [hpj] at c1 hpu HPM2 HOD2
        obtain ⟨gi, rfl⟩ : ∃ g, gk = g + 1 := ⟨gk - 1, by omega⟩
        clear hpj HPM HOD HPr hrl
        go_wp2_with fail
        refine hpu.mono ?_
        rintro e w7 ⟨rfl, rv', P7, T7, _⟩
        have HP7 : Hid (HP w5.heap.size w7 hb rv' ab 12 12 (rise row.length (row ++ [⟨(j : Int), pj, 0⟩]) row.length)) := P7
        have HK7 : Hid (Kept w5 w7) := T7.kept HK.out HFT.out
        clear hpu P7 T7
        go_wp2_with fail
        go_roundg gi
        case rel => exact ⟨j + 1, _, _, _, rfl, by go_num, by omega, HP7, HPM2, HOD2, HK7⟩
        case measure => omega
      · have b1 : ¬ (j : Int) < (ts.length : Int) := by omega
        obtain rfl : j = ts.length := by omega
        have hrl : row.length = ts.length := by rw [HPM.out.length_eq, ents_len]
        have hord := order_any HPr.out HK.out.size
        rw [drn_row HR.out HPM.out HOD.out, ids_map, hrl] at hord
        have hRl : (R.map (fun j : Nat => (j : Int))).length = ts.length := by rw [List.length_map, HR.out.len]
        have HB7 : Hid (Box w.heap.size W 25 w.heap.size [.int .i64 L, .slice ca cs.length cc, .slice ta ts.length tc]) := HB5.out.kept HK.out
        clear HPM HOD HPr hrl
        go_wp2_with fail
        refine hord.mono ?_
        rintro e w8 ⟨og, rfl, O8, _, T8⟩
        have hT8 : Kept W w8 := T8.kept (Kept.refl W) (fun i h => h.elim)
        have HL : Hid (AtI w8 (some ⟨og, 0, none⟩) (R.map (fun j : Nat => (j : Int)))) := own_ints O8 hRl
        have HB8 : Hid (Box w.heap.size w8 25 w.heap.size [.int .i64 L, .slice ca cs.length cc, .slice ta ts.length tc]) := HB7.out.kept hT8
        have K8 : Kept w w8 := (K5.trans HK.out).trans hT8
        have e1 : ((ts.length : Int) != (ts.length : Int)) = false := by simp
        have HDS : Hid (AtD w8 ta ts.length (dlT ts)) := (att_d HA.out).kept K8
        clear hord O8 T8 hT8 HB7 hRl HAP HB5 HP6 T56' HK HGP
        go_wp2_with fail
        clear e1
        go_loopg [10] ts.length (fun gk i wr => ∃ m : Nat, i = .int .i64 m ∧ m + gk = ts.length ∧ Kept w8 wr)
        case atStart => exact ⟨0, rfl, by omega, Kept.refl w8⟩
        case round =>
          obtain ⟨m, rfl, hm, KR⟩ := hrel
          by_cases hmn : m < ts.length
          · have b3 : (m : Int) < (ts.length : Int) := by omega
            have b4 : (0 : Int) ≤ (m : Int) := by omega
            obtain ⟨y, hy, hyn⟩ := row_get HR.out hmn
            obtain ⟨b', f', e', c2⟩ := (HL.out.kept KR) m (y : Int) (by rw [List.getElem?_map, hy]; rfl)
            cases e'
            rw [Nat.zero_add] at c2
            have d1 : ¬ (y : Int) < 0 := by omega
            have d2 : ¬ (y : Int) ≥ (ts.length : Int) := by omega
            have d3 : (y : Int) < (ts.length : Int) := by omega
            have d4 : (0 : Int) ≤ (y : Int) := by omega
            have HY : Hid (R[m]? = some y) := hy
            obtain ⟨gi, rfl⟩ : ∃ g, gk = g + 1 := ⟨gk - 1, by omega⟩
            clear hy
            by_cases hm0 : m = 0
            · subst hm0
              go_wp2_with fail
              go_roundg gi
              case rel => exact ⟨0 + 1, by go_num, by omega, KR⟩
              case measure => omega
            · have d5 : (m : Int) > 0 := by omega
              obtain ⟨q, hqm⟩ : ∃ q, m = q + 1 := ⟨m - 1, by omega⟩
              have HQM : Hid (m = q + 1) := hqm
              obtain ⟨x, hx, hxn⟩ := row_get HR.out (show q < ts.length by omega)
              obtain ⟨b', f', e', c1⟩ := (HL.out.kept KR) q (x : Int) (by rw [List.getElem?_map, hx]; rfl)
              cases e'
              rw [Nat.zero_add] at c1
              have HBF : Hid (bef (dlT ts) x y) := HR.out.before (show q < m by omega) hx HY.out
              have f3 : (x : Int) < (ts.length : Int) := by omega
              have f4 : (0 : Int) ≤ (x : Int) := by omega
              have f5 : IntKind.i64.wrap ((m : Int) - 1) = (q : Int) := by rw [wrapH (by omega) (by omega)]; omega
              have f6 : (q : Int) < (ts.length : Int) := by omega
              have f7 : (0 : Int) ≤ (q : Int) := by omega
              obtain ⟨tb, tf, rfl, t1⟩ := HDS.out x hxn
              obtain ⟨tb', tf', e', t2⟩ := HDS.out y hyn
              cases e'
              have u1 := KR.cell t1
              have u2 := KR.cell t2
              have s2 : wr.cell? ⟨w.heap.size, 2, none⟩ = some (.slice (some ⟨tb, tf, none⟩) ts.length tc) := (HB8.out.kept KR).cell 2 (by simp)
              obtain ⟨dx, hdx⟩ : ∃ d, dlT ts x = d := ⟨_, rfl⟩
              obtain ⟨dy, hdy⟩ : ∃ d, dlT ts y = d := ⟨_, rfl⟩
              have HXY : Hid (dx < dy ∨ (dx = dy ∧ x < y)) := by have h := HBF.out; unfold bef at h; rw [hdx, hdy] at h; exact h
              rw [hdx] at u1
              rw [hdy] at u2
              clear t1 t2 HBF hdx hdy hx hqm
              go_wp2_with fail
              go_region_held3 (fun w' => w'.cell? ⟨w.heap.size, 2, none⟩ = some (.slice (some ⟨tb, tf, none⟩) ts.length tc) ∧ w'.cell? ⟨og, q, none⟩ = some (.int .i64 (x : Int)) ∧ w'.cell? ⟨og, m, none⟩ = some (.int .i64 (y : Int)) ∧ w'.cell? ⟨tb, tf + x * 5 + 2, none⟩ = some (.int .i64 dx) ∧ w'.cell? ⟨tb, tf + y * 5 + 2, none⟩ = some (.int .i64 dy)) (go_keep) (fail)
              have KD : Kept w8 wr.drew := KR.drew
              have v1 : wr.drew.cell? ⟨og, q, none⟩ = some (.int .i64 (x : Int)) := c1
              have v2 : wr.drew.cell? ⟨og, m, none⟩ = some (.int .i64 (y : Int)) := c2
              clear c1 c2 u1 u2 s2
              generalize wr.drew = wd at *
              go_wp2_with fail
              rcases HXY.out with h | ⟨h1, h2⟩
              · have k1 : decide (dx > dy) = false := decide_eq_false (by omega)
                have k2 : (dx == dy) = false := beq_eq_false_iff_ne.2 (by omega)
                have k3 : ¬ dx > dy := by omega
                have k4 : ¬ dy < dx := by omega
                go_big_region
                all_goals go_wp2_with fail
                go_roundg gi
                case rel => exact ⟨m + 1, by go_num, by have := HQM.out; omega, KD.drew⟩
                case measure => omega
              · subst h1
                have k5 : ¬ (x : Int) > (y : Int) := by omega
                have k6 : decide ((x : Int) > (y : Int)) = false := decide_eq_false (by omega)
                go_big_region
                all_goals go_wp2_with fail
                go_roundg gi
                case rel => exact ⟨m + 1, by go_num, by have := HQM.out; omega, KD.drew⟩
                case measure => omega
          · have b3 : ¬ (m : Int) < (ts.length : Int) := by omega
            obtain ⟨y, hy, hyn⟩ := row_get HR.out (show 0 < ts.length by omega)
            obtain ⟨b', f', e', c2⟩ := (HL.out.kept KR) 0 (y : Int) (by rw [List.getElem?_map, hy]; rfl)
            cases e'
            have e1 : ((ts.length : Int) == 0) = false := beq_eq_false_iff_ne.2 (by omega)
            have HHZ : Hid (hiD ts.length (dlT ts) y = []) := by
              have h1 := HR.out.high hy
              rw [List.take_zero] at h1
              show _ = _
              rw [← h1]
              simp
            have KK := K8.trans KR
            have s0 : wr.cell? ⟨w.heap.size, 0, none⟩ = some (.int .i64 L) := (HB8.out.kept KR).cell 0 (by simp)
            have s1 : wr.cell? ⟨w.heap.size, 1, none⟩ = some (.slice ca cs.length cc) := (HB8.out.kept KR).cell 1 (by simp)
            have s2 : wr.cell? ⟨w.heap.size, 2, none⟩ = some (.slice ta ts.length tc) := (HB8.out.kept KR).cell 2 (by simp)
            have b9 : (0 : Int) < (ts.length : Int) := by omega
            clear hy
            generalize hnn : ts.length = n at *
            have HN : Hid (ts.length = n) := hnn
            have hn0 : ¬ n = 0 := by omega
            have HYN : Hid (y < n) := hyn
            clear hnn b3 e1 hyn
            go_wp2_with fail
            rename_i KZ hkz
            have e1 : ((n : Int) == 0) = false := beq_eq_false_iff_ne.2 (by omega)
            have c3 : wr.cell? ⟨og, 0, none⟩ = some (.int .i64 (y : Int)) := c2
            clear c2
            have hS0 : wr.drew.cell? ⟨w.heap.size, 0, none⟩ = some (.int .i64 L) ∧ wr.drew.cell? ⟨w.heap.size, 1, none⟩ = some (.slice ca cs.length cc) ∧ wr.drew.cell? ⟨w.heap.size, 2, none⟩ = some (.slice ta n tc) ∧ wr.drew.cell? ⟨og, 0, none⟩ = some (.int .i64 (y : Int)) := ⟨s0, s1, s2, c3⟩
            have KDD : Kept w wr.drew := KK.drew
            refine wp_region_S (by kernel_rfl) 12 (fun w' => w'.cell? ⟨w.heap.size, 0, none⟩ = some (.int .i64 L) ∧ w'.cell? ⟨w.heap.size, 1, none⟩ = some (.slice ca cs.length cc) ∧ w'.cell? ⟨w.heap.size, 2, none⟩ = some (.slice ta n tc) ∧ w'.cell? ⟨og, 0, none⟩ = some (.int .i64 (y : Int))) ?_
            clear s0 s1 s2 c3 KK KR
            generalize wr.drew = wd at *
            refine wpAnyS_take (i := 0) (v := .slice (some ⟨gp, 0, none⟩) n n) rfl (by kernel_rfl) (by kernel_rfl) (by kernel_rfl) (by kernel_rfl) (fun _ _ _ h => h) hS0 (by kernel_rfl) (fun wx hx => by clear hS0; obtain ⟨z0, z1, z2, z3⟩ := hx; go_simp) ?_
            refine wpAnyS_take (i := 1) (v := .int .i64 (n : Int)) rfl (by kernel_rfl) (by kernel_rfl) (by kernel_rfl) (by kernel_rfl) (fun _ _ _ h => h) hS0 (by kernel_rfl) (fun wx hx => by clear hS0; obtain ⟨z0, z1, z2, z3⟩ := hx; go_simp) ?_
            refine wpAnyS_take (i := 2) (v := .bool false) rfl (by kernel_rfl) (by kernel_rfl) (by kernel_rfl) (by kernel_rfl) (fun _ _ _ h => h) hS0 (by kernel_rfl) (fun wx hx => by clear hS0; obtain ⟨z0, z1, z2, z3⟩ := hx; go_simp) ?_
            refine wpAnyS_take (i := 3) (v := .bool false) rfl (by kernel_rfl) (by kernel_rfl) (by kernel_rfl) (by kernel_rfl) (fun _ _ _ h => h) hS0 (by kernel_rfl) (fun wx hx => by clear hS0; obtain ⟨z0, z1, z2, z3⟩ := hx; go_simp) ?_
            refine wpAnyS_take (i := 4) (v := .agg #[.int .i64 L, .slice ca cs.length cc, .slice ta n tc]) rfl (by kernel_rfl) (by kernel_rfl) (by kernel_rfl) (by kernel_rfl) (fun _ _ _ h => h) hS0 (by kernel_rfl) (fun wx hx => by clear hS0; obtain ⟨z0, z1, z2, z3⟩ := hx; go_simp) ?_
            refine wpAnyS_take (i := 6) (v := .slice (some ⟨og, 0, none⟩) n n) rfl (by kernel_rfl) (by kernel_rfl) (by kernel_rfl) (by kernel_rfl) (fun _ _ _ h => h) hS0 (by kernel_rfl) (fun wx hx => by clear hS0; obtain ⟨z0, z1, z2, z3⟩ := hx; go_simp) ?_
            refine wpAnyS_take (i := 7) (v := .pointer (some ⟨og, 0, none⟩)) rfl (by kernel_rfl) (by kernel_rfl) (by kernel_rfl) (by kernel_rfl) (fun _ _ _ h => h) hS0 (by kernel_rfl) (fun wx hx => by clear hS0; obtain ⟨z0, z1, z2, z3⟩ := hx; go_simp) ?_
            refine wpAnyS_take (i := 8) (v := .int .i64 (y : Int)) rfl (by kernel_rfl) (by kernel_rfl) (by kernel_rfl) (by kernel_rfl) (fun _ _ _ h => h) hS0 (by kernel_rfl) (fun wx hx => by clear hS0; obtain ⟨z0, z1, z2, z3⟩ := hx; go_simp) ?_
            refine wpAnyS_one (i := 5) rfl (by kernel_rfl) (fun KX hK => ?_)
            rw [if_pos (by kernel_rfl)]
            have hto := sto_any L ca ta cc tc cs ts wd (HH.out.kept KDD) (HA.out.kept KDD) HOK.out (by have := HN.out; omega) (by omega)
            rw [HN.out] at hto
            refine oper_calls (f := 10) (vals := #[.agg #[.int .i64 L, .slice ca cs.length cc, .slice ta n tc]]) (by kernel_rfl) (hto.mono ?_)
            rintro e w9 ⟨za, zc, ya', yc', rfl, _, AZ, _, T9⟩
            refine ⟨_, rfl, hK _ _ (fun _ => ⟨T9.cell hS0.1, T9.cell hS0.2.1, T9.cell hS0.2.2.1, T9.cell hS0.2.2.2⟩) ?_⟩
            clear hK KX hto
            refine wpAnyS_one (i := 9) rfl (by kernel_rfl) (fun KX hK => ?_)
            rw [if_pos (by kernel_rfl)]
            refine oper_calls (f := 11) (vals := #[.agg #[.int .i64 L, .slice za cs.length zc, .slice ya' n yc'], .int .i64 y]) (by kernel_rfl) ((higher_in L za cs.length zc ya' n yc' (dlT ts) y HYN.out w9 (HN.out ▸ att_d AZ) (by omega)).mono ?_)
            rintro e w10 ⟨hv, hm', hc', rfl, hml, A10, T10⟩
            rw [HHZ.out] at hml A10
            simp only [List.length_nil] at hml
            subst hml
            have M10 := T9.trans T10
            refine ⟨_, rfl, hK _ _ (fun _ => ⟨M10.cell hS0.1, M10.cell hS0.2.1, M10.cell hS0.2.2.1, M10.cell hS0.2.2.2⟩) ?_⟩
            clear hK KX
            refine wpAnyS_one (i := 10) rfl (by kernel_rfl) (fun KX hK => ?_)
            rw [if_pos (by kernel_rfl)]
            refine oper_calls (f := 13) (vals := #[.slice hv 0 hc', .slice none 0 0]) (by kernel_rfl) ((ints_same hv none hc' 0 0 [] rfl w10 A10 (ati_nil w10 none) (by omega)).mono ?_)
            rintro e w11 ⟨rfl, T11⟩
            have M11 := M10.trans T11
            refine ⟨_, rfl, hK _ _ (fun _ => ⟨M11.cell hS0.1, M11.cell hS0.2.1, M11.cell hS0.2.2.1, M11.cell hS0.2.2.2⟩) ?_⟩
            clear hK KX
            have hS11 := And.intro (M11.cell hS0.1) (And.intro (M11.cell hS0.2.1) (And.intro (M11.cell hS0.2.2.1) (M11.cell hS0.2.2.2)))
            refine wpAnyS_take (i := 11) (v := .bool true) rfl (by kernel_rfl) (by kernel_rfl) (by kernel_rfl) (by kernel_rfl) (fun _ _ _ h => h) hS11 (by kernel_rfl) (fun wx hx => by kernel_rfl) ?_
            refine wpAnyS_one (i := 12) rfl (by kernel_rfl) (fun KX hK => ?_)
            rw [if_pos (by kernel_rfl)]
            refine oper_value (v := .bool true) (by kernel_rfl) ?_
            refine hK _ _ (fun h => absurd rfl h) ?_
            clear hK KX
            refine wpAnyS_done (by kernel_rfl) ?_ _
            refine hkz _ _ ?_
            apply wp_ret
            refine bodyPost_ret (v := .bool true) ?_ rfl ⟨rfl, KDD.trans M11⟩
            kernel_rfl
  · have hne : (q2 != 0) = true := by simpa using hq0
    go_wp2_with fail
    go_ret
    exact ⟨rfl, K3⟩
end Go.Proofs.Ytcfgcbjhlamchaa
