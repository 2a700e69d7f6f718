/- TextLines, walked. -/
import Derived.Test.YtolljdomnohmdaaGreatDoorM24
import Derived.Test.YtolljdomnohmdaaGreatDoorNCk
namespace Go.Proofs.YtolljdomnohmdaaGreatDoor
open Go.RowKit Go.Shelf

set_option maxHeartbeats 8000000 in
set_option maxRecDepth 20000 in
theorem lines_law (L : Int) (ca ta : Option Addr) (cc tc : Nat) (cs : List ChanD) (ts : List TaskD) (cut : Int) (hc0 : 0 ≤ cut) (hc1 : cut ≤ 255) (m : List UInt8) (w : World) (hr : Rdy w) (hH : AtH w ca cs) (hA : AtT w ta ts) (hi : ∀ t ∈ ts, ∀ o ∈ t.prog, In64 o) :
    Calls Tryz.prog 5 #[.agg #[.int .i64 L, .slice ca cs.length cc, .slice ta ts.length tc], .int .u8 cut, .string (B m)] w fun e w' => e = .returned (.bool true) ∧ Kept w w' := by
  have HR : Hid (Rdy w) := hr
  have HH : Hid (AtH w ca cs) := hH
  have HA : Hid (AtT w ta ts) := hA
  have HI : Hid (∀ t ∈ ts, ∀ o ∈ t.prog, In64 o) := hi
  have hsm : (B m).size = m.length := B_size m
  clear hr hH hA hi
  have KB : Kept w (w.alloc (.cells #[.int .i64 L, .slice ca cs.length cc, .slice ta ts.length tc] 25)) := (Kept.refl w).alloc _
  have HBX : Hid (Box w.heap.size (w.alloc (.cells #[.int .i64 L, .slice ca cs.length cc, .slice ta ts.length tc] 25)) 25 w.heap.size [.int .i64 L, .slice ca cs.length cc, .slice ta ts.length tc]) := box_new w.heap.size w 25 [.int .i64 L, .slice ca cs.length cc, .slice ta ts.length tc] (Nat.le_refl _) (by simp)
  have hkn := tknown_any (w.alloc (.cells #[.int .i64 L, .slice ca cs.length cc, .slice ta ts.length tc] 25)) (HR.out.kept KB)
  go_enter Tryz.func5, Tryz.ntmps5
  go_wp2_with fail
  refine hkn.mono ?_
  rintro e w1 ⟨rfl, T1⟩
  have K1 : Kept w w1 := KB.trans T1
  have HB1 : Hid (Box w.heap.size w1 25 w.heap.size [.int .i64 L, .slice ca cs.length cc, .slice ta ts.length tc]) := HBX.out.kept T1
  clear hkn T1 HBX KB
  have s0 : w1.cell? ⟨w.heap.size, 0, none⟩ = some (.int .i64 L) := HB1.out.cell 0 (by simp)
  have s1 : w1.cell? ⟨w.heap.size, 1, none⟩ = some (.slice ca cs.length cc) := HB1.out.cell 1 (by simp)
  have s2 : w1.cell? ⟨w.heap.size, 2, none⟩ = some (.slice ta ts.length tc) := HB1.out.cell 2 (by simp)
  have hck := rcset_anyN L ca ta cc tc cs ts w1 (HH.out.kept K1) (HA.out.kept K1)
  obtain ⟨q1, hq1⟩ : ∃ q, (checkS L cs ts).1 = q := ⟨_, rfl⟩
  obtain ⟨q2, hq2⟩ : ∃ q, (checkS L cs ts).2 = q := ⟨_, rfl⟩
  rw [hq1, hq2] at hck
  have HQ : Hid ((checkS L cs ts).2 = q2) := hq2
  clear hq1 hq2
  go_wp2_with fail
  refine hck.mono ?_
  rintro e w2 ⟨rfl, T2⟩
  have K2 := K1.trans T2
  have HB2 : Hid (Box w.heap.size w2 25 w.heap.size [.int .i64 L, .slice ca cs.length cc, .slice ta ts.length tc]) := HB1.out.kept T2
  clear s0 s1 s2 hck HB1 T2 K1
  have s0 : w2.cell? ⟨w.heap.size, 0, none⟩ = some (.int .i64 L) := HB2.out.cell 0 (by simp)
  have s1 : w2.cell? ⟨w.heap.size, 1, none⟩ = some (.slice ca cs.length cc) := HB2.out.cell 1 (by simp)
  have s2 : w2.cell? ⟨w.heap.size, 2, none⟩ = some (.slice ta ts.length tc) := HB2.out.cell 2 (by simp)
  have hfw := sfew_any L ca ta cc tc cs ts w2 (HA.out.kept K2)
  obtain ⟨fb, hfb⟩ : ∃ fb, fewS cs ts = fb := ⟨_, rfl⟩
  rw [hfb] at hfw
  have HFB : Hid (fewS cs ts = fb) := hfb
  clear hfb
  go_wp2_with fail
  refine hfw.mono ?_
  rintro e w3 ⟨rfl, T3⟩
  have K3 := K2.trans T3
  have HB3 : Hid (Box w.heap.size w3 25 w.heap.size [.int .i64 L, .slice ca cs.length cc, .slice ta ts.length tc]) := HB2.out.kept T3
  clear s0 s1 s2 hfw HB2 T3 K2
  cases fb with
  | false =>
    go_wp2_with fail
    go_ret
    exact ⟨rfl, K3⟩
  | true =>
  by_cases hq0 : q2 = 0
  rotate_left
  · have hne : (q2 != 0) = true := by simpa using hq0
    go_wp2_with fail
    go_ret
    exact ⟨rfl, K3⟩
  subst hq0
  by_cases hm : (m.length : Int) > 100
  · go_wp2_with fail
    go_ret
    exact ⟨rfl, K3⟩
  obtain ⟨-, -, hok⟩ := fewS_ok HFB.out
  have HOK : Hid (TsOk ts) := hok
  have HS : Hid (SetOk L cs ts) := set_ok HQ.out
  have hto := sto_any L ca ta cc tc cs ts w3 (HH.out.kept K3) (HA.out.kept K3) hok (by have := HS.out.nt.2; omega) (by have := HS.out.nc; omega)
  have s0 : w3.cell? ⟨w.heap.size, 0, none⟩ = some (.int .i64 L) := HB3.out.cell 0 (by simp)
  have s1 : w3.cell? ⟨w.heap.size, 1, none⟩ = some (.slice ca cs.length cc) := HB3.out.cell 1 (by simp)
  have s2 : w3.cell? ⟨w.heap.size, 2, none⟩ = some (.slice ta ts.length tc) := HB3.out.cell 2 (by simp)
  clear hok HFB
  go_wp2_with fail
  refine hto.mono ?_
  rintro e w4 ⟨ca4, cc4, ta4, tc4, rfl, hH4, hT4, -, T4⟩
  have K4 := K3.trans T4
  have HB4 : Hid (Box w.heap.size w4 25 w.heap.size [.int .i64 L, .slice ca cs.length cc, .slice ta ts.length tc]) := HB3.out.kept T4
  have hpr := print_any L ca4 ta4 cc4 tc4 cs ts w4 (HR.out.kept K4) hH4 hT4 HOK.out (by have := HS.out.nt.2; omega) (by have := HS.out.nc; omega) HI.out
  rw [HQ.out, if_pos rfl] at hpr
  have hlen := textS_len2 HS.out HI.out
  have hml : m.length ≤ 100 := by omega
  have hbf := behind_few HS.out hml
  have hbl := behind_lines HS.out HI.out hml
  have hll := lines_long HS.out HI.out
  rw [← linesOf_textS HS.out] at hll
  have hcn := cnt_textS HS.out
  have hnf := lines_few HS.out
  rw [linesS_cnt] at hnf
  obtain ⟨l, hl⟩ : ∃ z, textS L cs ts = z := ⟨_, rfl⟩
  rw [hl] at hpr hlen hbf hbl hll hcn
  obtain ⟨NN, hNN⟩ : ∃ z, 1 + cs.length + cntT ts = z := ⟨_, rfl⟩
  have HNN : Hid (NN = 1 + cs.length + cntT ts) := hNN.symm
  have HLG : Hid (∀ x ∈ linesOf l, x.length ≤ 1000) := hll
  have HLC : Hid (cntL (l ++ (m ++ [10])) ≠ 1 + cs.length + cntT ts) := hbf.2
  have HLX : Hid (l.length ≤ 900000) := hlen
  have HLB : Hid ((l ++ (m ++ [10])).length ≤ 1000000 ∧ (linesOf (l ++ (m ++ [10]))).length ≤ 100000 ∧ ∀ x ∈ linesOf (l ++ (m ++ [10])), x.length ≤ 1000) := ⟨by rw [List.length_append, List.length_append]; simp; have := HLX.out; omega, hbf.1, hbl⟩
  rw [hNN] at hcn hnf
  have HCN : Hid (cntL l = NN) := hcn
  have HNB : Hid (1 ≤ NN ∧ NN ≤ 100000) := ⟨by omega, by omega⟩
  have hsl : (B l).size = l.length := B_size l
  clear s0 s1 s2 hto hH4 hT4 HB3 K3 T4 hbf hbl hll hcn hnf hNN hl HQ
  go_wp2_with fail
  refine hpr.mono ?_
  rintro e w5 ⟨rfl, T5⟩
  have K5 := K4.trans T5
  have HB5 : Hid (Box w.heap.size w5 25 w.heap.size [.int .i64 L, .slice ca cs.length cc, .slice ta ts.length tc]) := HB4.out.kept T5
  clear hpr HB4 K4 T5
  go_wp2_with fail
  go_loopg [11, 12] l.length (fun gk nn i wr => ∃ (j c : Nat), w5 = wr ∧ nn = .int .i64 c ∧ i = .int .i64 j ∧ j + gk = l.length ∧ c ≤ j ∧ Hid (cntL (l.take j) = c))
  case atStart => exact ⟨0, 0, rfl, rfl, rfl, by omega, by omega, rfl⟩
  case round =>
    obtain ⟨j, c, hW, rfl, rfl, hj, hcj, HC⟩ := hrel
    subst hW
    by_cases hjl : j < l.length
    · obtain ⟨g, rfl⟩ : ∃ g, gk = g + 1 := ⟨gk - 1, by omega⟩
      have b1 : (j : Int) < (l.length : Int) := by omega
      have b2 : (0 : Int) ≤ (j : Int) := by omega
      obtain ⟨ch, e1, e2, e3, -⟩ := byte_get (B l) j (by rw [B_size]; exact hjl)
      rw [B_list] at e2
      have HNX := cntL_next e2
      have HNX2 : Hid (cntL (l.take (j + 1)) = cntL (l.take j) + (if ch = 10 then 1 else 0)) := HNX
      clear e2 e3 HNX
      by_cases h10 : ch = 10
      · have t1 : ((ch.toNat : Int) == 10) = true := by rw [h10]; rfl
        have HF : Hid (cntL (l.take (j + 1)) = c + 1) := by show _ = _; rw [HNX2.out, if_pos h10, HC.out]
        clear h10 HNX2
        go_wp2_with fail
        go_roundg g
        case rel => exact ⟨j + 1, c + 1, rfl, by go_num, by go_num, by omega, by omega, HF⟩
        case measure => omega
      · have t1 : ((ch.toNat : Int) == 10) = false := by
          apply beq_eq_false_iff_ne.2
          intro h
          exact h10 (UInt8.toNat.inj (by simpa using (by omega : ch.toNat = 10)))
        have HF : Hid (cntL (l.take (j + 1)) = c) := by show _ = _; rw [HNX2.out, if_neg h10, HC.out]; rfl
        clear h10 HNX2
        go_wp2_with fail
        go_roundg g
        case rel => exact ⟨j + 1, c, rfl, rfl, by go_num, by omega, by omega, HF⟩
        case measure => omega
    · have b1 : ¬ (j : Int) < (l.length : Int) := by omega
      obtain rfl : c = NN := by
        have h := HC.out
        rw [show j = l.length by omega, cntL_all, HCN.out] at h
        exact h.symm
      have hnb := HNB.out
      obtain ⟨kk, hkk⟩ : ∃ kk : Nat, cut % (c : Int) = (kk : Int) := ⟨(cut % (c : Int)).toNat, by have := Int.emod_nonneg cut (show (c : Int) ≠ 0 by omega); omega⟩
      have hkl : kk < c := by have := Int.emod_lt_of_pos cut (show (0 : Int) < (c : Int) by omega); omega
      have f1 : cut.tmod (c : Int) = (kk : Int) := by rw [Int.tmod_eq_emod_of_nonneg hc0, hkk]
      have f2 : ¬ (c : Int) = 0 := by omega
      clear hj hcj HC b1
      go_wp2_with fail
      go_loopg [13, 14, 15] l.length (fun gk kx aa i wr => ∃ (kn at' j : Nat), w5 = wr ∧ kx = .int .i64 kn ∧ aa = .int .i64 at' ∧ i = .int .i64 j ∧ j + gk = l.length ∧ at' ≤ j ∧ Hid (cntL (l.take j) + kn = kk))
      case atStart => exact ⟨kk, 0, 0, rfl, rfl, rfl, rfl, by omega, by omega, by show _ = _; simp [cntL]⟩
      case round =>
        obtain ⟨kn, at', j, hW, rfl, rfl, rfl, hj, hatj, HC⟩ := hrel
        subst hW
        have hkc := HC.out
        by_cases hjl : j < l.length
        · have b1 : (j : Int) < (l.length : Int) := by omega
          have b2 : (0 : Int) ≤ (j : Int) := by omega
          by_cases hk0 : kn = 0
          · subst hk0
            have hcj : cntL (l.take j) ≤ kk := by omega
            clear hkc HC
            have hat2 : at' ≤ l.length := by omega
            obtain ⟨fr, hfr⟩ : ∃ z, l.take at' = z := ⟨_, rfl⟩
            have hpc : (B l).extract 0 at' = B fr := by rw [B_extract, List.drop_zero, Nat.sub_zero, hfr]
            have hfl : fr.length ≤ 1000000 := by rw [← hfr, List.length_take]; omega
            have hfx : ∀ x ∈ linesOf fr, x.length ≤ 1000 := fun x hx => HLG.out x (front_lines l at' [] x (by rw [hfr]; exact hx))
            have hfc : cntL fr < c := by rw [← hfr]; have := cntL_take l hatj; omega
            have hpa := tparse_any fr hfl (by rw [linesOf_cnt]; have := HNB.out; omega) hfx w5 (HR.out.kept K5)
            obtain ⟨⟨⟨L6, bg6, cs6, ts6⟩, i6, e6⟩, hP6⟩ : ∃ z, parseS fr = z := ⟨_, rfl⟩
            have HP6 : Hid (e6 = 0 → SetOk L6 cs6 ts6) := by
              intro h
              have h2 := parse_set (l := fr) (by rw [hP6]; exact h)
              rw [hP6] at h2
              exact set_ok h2
            have HN6 : Hid (e6 = 0 → sameS L6 cs6 ts6 L cs ts = false) := by
              intro h
              have h2 := other_set (l := fr) (L := L) (cs := cs) (ts := ts) (by rw [← HNN.out]; omega) (by rw [hP6]; exact h)
              rw [hP6] at h2
              exact h2
            rw [hP6] at hpa
            simp only at hpa
            clear hfr hfl hfx hfc hP6
            have b7 : (at' : Int) ≤ (l.length : Int) := by omega
            have b8 : (0 : Int) ≤ (at' : Int) := by omega
            go_wp2_with fail
            refine hpa.mono ?_
            rintro e w6 ⟨ha6, hc6, hta6, htc6, rfl, hH6, hT6, K56⟩
            have K6 := K5.trans K56
            have HB6 : Hid (Box w.heap.size (w6.alloc (.cells #[.int .i64 L6, .slice ha6 cs6.length hc6, .slice hta6 ts6.length htc6] 34)) 34 w6.heap.size [.int .i64 L6, .slice ha6 cs6.length hc6, .slice hta6 ts6.length htc6]) := box_new w.heap.size w6 34 [.int .i64 L6, .slice ha6 cs6.length hc6, .slice hta6 ts6.length htc6] K6.size (by simp)
            have KA6 : Kept w6 (w6.alloc (.cells #[.int .i64 L6, .slice ha6 cs6.length hc6, .slice hta6 ts6.length htc6] 34)) := (Kept.refl _).alloc _
            have HH6 : Hid (AtH (w6.alloc (.cells #[.int .i64 L6, .slice ha6 cs6.length hc6, .slice hta6 ts6.length htc6] 34)) ha6 cs6) := hH6.kept KA6
            have HT6 : Hid (AtT (w6.alloc (.cells #[.int .i64 L6, .slice ha6 cs6.length hc6, .slice hta6 ts6.length htc6] 34)) hta6 ts6) := hT6.kept KA6
            have K06 : Kept w (w6.alloc (.cells #[.int .i64 L6, .slice ha6 cs6.length hc6, .slice hta6 ts6.length htc6] 34)) := K6.trans KA6
            have KS6 : Hid (Kept w5 (w6.alloc (.cells #[.int .i64 L6, .slice ha6 cs6.length hc6, .slice hta6 ts6.length htc6] 34))) := K56.trans KA6
            clear hpa hH6 hT6 K56 K6 hpc
            have hpb := tparse_any (l ++ (m ++ [10])) HLB.out.1 HLB.out.2.1 HLB.out.2.2 (w6.alloc (.cells #[.int .i64 L6, .slice ha6 cs6.length hc6, .slice hta6 ts6.length htc6] 34)) (HR.out.kept K06)
            obtain ⟨⟨⟨L7, bg7, cs7, ts7⟩, i7, e7⟩, hP7⟩ : ∃ z, parseS (l ++ (m ++ [10])) = z := ⟨_, rfl⟩
            have HP7 : Hid (e7 = 0 → SetOk L7 cs7 ts7) := by
              intro h
              have h2 := parse_set (l := l ++ (m ++ [10])) (by rw [hP7]; exact h)
              rw [hP7] at h2
              exact set_ok h2
            have HN7 : Hid (e7 = 0 → sameS L7 cs7 ts7 L cs ts = false) := by
              intro h
              have h2 := other_set (l := l ++ (m ++ [10])) (L := L) (cs := cs) (ts := ts) HLC.out (by rw [hP7]; exact h)
              rw [hP7] at h2
              exact h2
            rw [hP7] at hpb
            simp only at hpb
            have hcat : B l ++ B m ++ ⟨#[10]⟩ = B (l ++ (m ++ [10])) := by
              rw [show (⟨#[10]⟩ : ByteArray) = B [10] from rfl, B_add, B_add, List.append_assoc]
            clear hP7
            go_wp2_with fail
            refine hpb.mono ?_
            rintro e w7 ⟨ha7, hc7, hta7, htc7, rfl, hH7, hT7, K67⟩
            have K7 := K06.trans K67
            have HB7 : Hid (Box w.heap.size (w7.alloc (.cells #[.int .i64 L7, .slice ha7 cs7.length hc7, .slice hta7 ts7.length htc7] 34)) 34 w7.heap.size [.int .i64 L7, .slice ha7 cs7.length hc7, .slice hta7 ts7.length htc7]) := box_new w.heap.size w7 34 [.int .i64 L7, .slice ha7 cs7.length hc7, .slice hta7 ts7.length htc7] K7.size (by simp)
            have KA7 : Kept w7 (w7.alloc (.cells #[.int .i64 L7, .slice ha7 cs7.length hc7, .slice hta7 ts7.length htc7] 34)) := (Kept.refl _).alloc _
            have HH7 : Hid (AtH (w7.alloc (.cells #[.int .i64 L7, .slice ha7 cs7.length hc7, .slice hta7 ts7.length htc7] 34)) ha7 cs7) := hH7.kept KA7
            have HT7 : Hid (AtT (w7.alloc (.cells #[.int .i64 L7, .slice ha7 cs7.length hc7, .slice hta7 ts7.length htc7] 34)) hta7 ts7) := hT7.kept KA7
            have KX7 := K67.trans KA7
            have HH6 : Hid (AtH (w7.alloc (.cells #[.int .i64 L7, .slice ha7 cs7.length hc7, .slice hta7 ts7.length htc7] 34)) ha6 cs6) := HH6.out.kept KX7
            have HT6 : Hid (AtT (w7.alloc (.cells #[.int .i64 L7, .slice ha7 cs7.length hc7, .slice hta7 ts7.length htc7] 34)) hta6 ts6) := HT6.out.kept KX7
            have HB6 : Hid (Box w.heap.size (w7.alloc (.cells #[.int .i64 L7, .slice ha7 cs7.length hc7, .slice hta7 ts7.length htc7] 34)) 34 w6.heap.size [.int .i64 L6, .slice ha6 cs6.length hc6, .slice hta6 ts6.length htc6]) := HB6.out.kept KX7
            have HBs6 : Hid (Box w.heap.size (w7.alloc (.cells #[.int .i64 L7, .slice ha7 cs7.length hc7, .slice hta7 ts7.length htc7] 34)) 25 w.heap.size [.int .i64 L, .slice ca cs.length cc, .slice ta ts.length tc]) := HB5.out.kept (KS6.out.trans KX7)
            have K07 : Kept w (w7.alloc (.cells #[.int .i64 L7, .slice ha7 cs7.length hc7, .slice hta7 ts7.length htc7] 34)) := K06.trans KX7
            clear hpb hH7 hT7 K67 K7 KA7 KA6 KX7 KS6 K06 hcat
            go_wp2_with fail
            generalize (w7.alloc (.cells #[.int .i64 L7, .slice ha7 cs7.length hc7, .slice hta7 ts7.length htc7] 34)) = W7 at *
            generalize w7.heap.size = yb at *
            generalize w6.heap.size = xb at *
            by_cases e60 : e6 = 0
            · subst e60
              have HS6 : Hid (SetOk L6 cs6 ts6) := HP6.out rfl
              have HOK6 : Hid (TsOk ts6) := setok_ts HS6.out
              have HNE6 : Hid (sameS L6 cs6 ts6 L cs ts = false) := HN6.out rfl
              have HCL6 : Hid (∀ wx, Kept W7 wx → wx.cell? ⟨xb, 0, none⟩ = some (.int .i64 L6) ∧ wx.cell? ⟨xb, 1, none⟩ = some (.slice ha6 cs6.length hc6) ∧ wx.cell? ⟨xb, 2, none⟩ = some (.slice hta6 ts6.length htc6) ∧ wx.cell? ⟨w.heap.size, 0, none⟩ = some (.int .i64 L) ∧ wx.cell? ⟨w.heap.size, 1, none⟩ = some (.slice ca cs.length cc) ∧ wx.cell? ⟨w.heap.size, 2, none⟩ = some (.slice ta ts.length tc)) := fun wx kx => ⟨(HB6.out.kept kx).cell 0 (by simp), (HB6.out.kept kx).cell 1 (by simp), (HB6.out.kept kx).cell 2 (by simp), (HBs6.out.kept kx).cell 0 (by simp), (HBs6.out.kept kx).cell 1 (by simp), (HBs6.out.kept kx).cell 2 (by simp)⟩
              have KD6 : Kept W7 W7.drew := (Kept.refl _).drew
              have HOF6 : Hid (∀ wx, Kept W7 wx → Calls Tryz.prog 13 #[.agg #[.int .i64 L6, .slice ha6 cs6.length hc6, .slice hta6 ts6.length htc6]] wx fun e w' => ∃ ca' cc' ta' tc', e = .returned (.agg #[.int .i64 L6, .slice ca' cs6.length cc', .slice ta' ts6.length tc']) ∧ AtH w' ca' cs6 ∧ AtT w' ta' ts6 ∧ (∀ b f, ta' = some ⟨b, f, none⟩ → wx.heap.size ≤ b ∧ f = 0) ∧ Kept wx w') := fun wx kx => OfS.sof_any L6 ha6 hta6 hc6 htc6 cs6 ts6 wx (HH6.out.kept kx) (HT6.out.kept kx) HOK6.out (by have := HS6.out.nt.2; omega) (by have := HS6.out.nc; omega)
              have HSS6 : Hid (∀ wx ca8 cc8 ta8 tc8, Kept w wx → AtH wx ca8 cs6 → AtT wx ta8 ts6 → Calls Tryz.prog 12 #[.agg #[.int .i64 L6, .slice ca8 cs6.length cc8, .slice ta8 ts6.length tc8], .agg #[.int .i64 L, .slice ca cs.length cc, .slice ta ts.length tc]] wx fun e w' => e = .returned (.bool false) ∧ Kept wx w') := by
                intro wx ca8 cc8 ta8 tc8 kx h1 h2
                have h := rsset_any L6 L ca8 ca ta8 ta cc8 cc tc8 tc cs6 cs ts6 ts wx h1 (HH.out.kept kx) h2 (HA.out.kept kx) (by have := HS6.out.nt.2; omega) (by have := HS6.out.nc; omega) HOK6.out
                rw [HNE6.out] at h
                exact h
              have hD6 := HCL6.out W7 (Kept.refl _)
              have hE6 := HCL6.out _ KD6
              obtain ⟨c0, c1, c2, d0, d1, d2⟩ := hD6

              go_region_held3 (fun wx => wx.cell? ⟨xb, 0, none⟩ = some (.int .i64 L6) ∧ wx.cell? ⟨xb, 1, none⟩ = some (.slice ha6 cs6.length hc6) ∧ wx.cell? ⟨xb, 2, none⟩ = some (.slice hta6 ts6.length htc6) ∧ wx.cell? ⟨w.heap.size, 0, none⟩ = some (.int .i64 L) ∧ wx.cell? ⟨w.heap.size, 1, none⟩ = some (.slice ca cs.length cc) ∧ wx.cell? ⟨w.heap.size, 2, none⟩ = some (.slice ta ts.length tc)) (first | assumption | exact hE6 | exact hS8 | exact hS9) (first | (go_at_call 13; with_reducible refine (HOF6.out _ KD6).mono ?_; rintro e w8 ⟨ca8, cc8, ta8, tc8, rfl, hH8, hT8, -, K8⟩; have KX8 := KD6.trans K8; have K08 := K07.trans KX8; have hS8 := HCL6.out w8 KX8) | (go_at_call 12; with_reducible refine (HSS6.out _ ca8 cc8 ta8 tc8 K08 hH8 hT8).mono ?_; rintro e w9 ⟨rfl, K9⟩; have KX9 := KX8.trans K9; have hS9 := HCL6.out w9 KX9) | fail)
              clear c0 c1 c2 d0 d1 d2
              all_goals go_wp2_with fail
              have K09 := K07.trans KX9
              have HB7 : Hid (Box w.heap.size w9 34 yb [.int .i64 L7, .slice ha7 cs7.length hc7, .slice hta7 ts7.length htc7]) := HB7.out.kept KX9
              have HBs7 : Hid (Box w.heap.size w9 25 w.heap.size [.int .i64 L, .slice ca cs.length cc, .slice ta ts.length tc]) := HBs6.out.kept KX9
              have HH7 : Hid (AtH w9 ha7 cs7) := HH7.out.kept KX9
              have HT7 : Hid (AtT w9 hta7 ts7) := HT7.out.kept KX9
              clear hS8 hS9 hH8 hT8 K8 K9 KX8 KX9 K08 HOF6 HSS6 HCL6 hE6 KD6
              by_cases e70 : e7 = 0
              · subst e70
                have HS7 : Hid (SetOk L7 cs7 ts7) := HP7.out rfl
                have HOK7 : Hid (TsOk ts7) := setok_ts HS7.out
                have HNE7 : Hid (sameS L7 cs7 ts7 L cs ts = false) := HN7.out rfl
                have HCL7 : Hid (∀ wx, Kept w9 wx → wx.cell? ⟨yb, 0, none⟩ = some (.int .i64 L7) ∧ wx.cell? ⟨yb, 1, none⟩ = some (.slice ha7 cs7.length hc7) ∧ wx.cell? ⟨yb, 2, none⟩ = some (.slice hta7 ts7.length htc7) ∧ wx.cell? ⟨w.heap.size, 0, none⟩ = some (.int .i64 L) ∧ wx.cell? ⟨w.heap.size, 1, none⟩ = some (.slice ca cs.length cc) ∧ wx.cell? ⟨w.heap.size, 2, none⟩ = some (.slice ta ts.length tc)) := fun wx kx => ⟨(HB7.out.kept kx).cell 0 (by simp), (HB7.out.kept kx).cell 1 (by simp), (HB7.out.kept kx).cell 2 (by simp), (HBs7.out.kept kx).cell 0 (by simp), (HBs7.out.kept kx).cell 1 (by simp), (HBs7.out.kept kx).cell 2 (by simp)⟩
                have KD7 : Kept w9 w9.drew := (Kept.refl _).drew
                have HOF7 : Hid (∀ wx, Kept w9 wx → Calls Tryz.prog 13 #[.agg #[.int .i64 L7, .slice ha7 cs7.length hc7, .slice hta7 ts7.length htc7]] wx fun e w' => ∃ ca' cc' ta' tc', e = .returned (.agg #[.int .i64 L7, .slice ca' cs7.length cc', .slice ta' ts7.length tc']) ∧ AtH w' ca' cs7 ∧ AtT w' ta' ts7 ∧ (∀ b f, ta' = some ⟨b, f, none⟩ → wx.heap.size ≤ b ∧ f = 0) ∧ Kept wx w') := fun wx kx => OfS.sof_any L7 ha7 hta7 hc7 htc7 cs7 ts7 wx (HH7.out.kept kx) (HT7.out.kept kx) HOK7.out (by have := HS7.out.nt.2; omega) (by have := HS7.out.nc; omega)
                have HSS7 : Hid (∀ wx ca8 cc8 ta8 tc8, Kept w wx → AtH wx ca8 cs7 → AtT wx ta8 ts7 → Calls Tryz.prog 12 #[.agg #[.int .i64 L7, .slice ca8 cs7.length cc8, .slice ta8 ts7.length tc8], .agg #[.int .i64 L, .slice ca cs.length cc, .slice ta ts.length tc]] wx fun e w' => e = .returned (.bool false) ∧ Kept wx w') := by
                  intro wx ca8 cc8 ta8 tc8 kx h1 h2
                  have h := rsset_any L7 L ca8 ca ta8 ta cc8 cc tc8 tc cs7 cs ts7 ts wx h1 (HH.out.kept kx) h2 (HA.out.kept kx) (by have := HS7.out.nt.2; omega) (by have := HS7.out.nc; omega) HOK7.out
                  rw [HNE7.out] at h
                  exact h
                have hD7 := HCL7.out w9 (Kept.refl _)
                have hE7 := HCL7.out _ KD7
                obtain ⟨c0, c1, c2, d0, d1, d2⟩ := hD7
                go_wp2_with fail
                go_region_held3 (fun wx => wx.cell? ⟨yb, 0, none⟩ = some (.int .i64 L7) ∧ wx.cell? ⟨yb, 1, none⟩ = some (.slice ha7 cs7.length hc7) ∧ wx.cell? ⟨yb, 2, none⟩ = some (.slice hta7 ts7.length htc7) ∧ wx.cell? ⟨w.heap.size, 0, none⟩ = some (.int .i64 L) ∧ wx.cell? ⟨w.heap.size, 1, none⟩ = some (.slice ca cs.length cc) ∧ wx.cell? ⟨w.heap.size, 2, none⟩ = some (.slice ta ts.length tc)) (first | assumption | exact hE7 | exact hS8 | exact hS9) (first | (go_at_call 13; with_reducible refine (HOF7.out _ KD7).mono ?_; rintro e w8 ⟨ca8, cc8, ta8, tc8, rfl, hH8, hT8, -, K8⟩; have KX8 := KD7.trans K8; have K08 := K09.trans KX8; have hS8 := HCL7.out w8 KX8) | (go_at_call 12; with_reducible refine (HSS7.out _ ca8 cc8 ta8 tc8 K08 hH8 hT8).mono ?_; rintro e w9 ⟨rfl, K9⟩; have KX9 := KX8.trans K9; have hS9 := HCL7.out w9 KX9) | fail)
                clear c0 c1 c2 d0 d1 d2
                all_goals go_wp2_with fail
                go_ret
                exact ⟨rfl, K09.trans KX9⟩
              · have g7 : (e7 != 0) = true := by simpa using e70
                go_wp2_with fail
                go_region
                all_goals go_wp2_with fail
                go_ret
                exact ⟨rfl, K09.drew⟩
            · have g6 : (e6 == 0) = false := by simpa using e60
              go_region
              all_goals go_wp2_with fail
              have K09 := K07.drew
              have HB7 : Hid (Box w.heap.size W7.drew 34 yb [.int .i64 L7, .slice ha7 cs7.length hc7, .slice hta7 ts7.length htc7]) := HB7.out.kept ((Kept.refl _).drew)
              have HBs7 : Hid (Box w.heap.size W7.drew 25 w.heap.size [.int .i64 L, .slice ca cs.length cc, .slice ta ts.length tc]) := HBs6.out.kept ((Kept.refl _).drew)
              have HH7 : Hid (AtH W7.drew ha7 cs7) := HH7.out.kept ((Kept.refl _).drew)
              have HT7 : Hid (AtT W7.drew hta7 ts7) := HT7.out.kept ((Kept.refl _).drew)
              generalize W7.drew = W9 at *
              by_cases e70 : e7 = 0
              · subst e70
                have HS7 : Hid (SetOk L7 cs7 ts7) := HP7.out rfl
                have HOK7 : Hid (TsOk ts7) := setok_ts HS7.out
                have HNE7 : Hid (sameS L7 cs7 ts7 L cs ts = false) := HN7.out rfl
                have HCL7 : Hid (∀ wx, Kept W9 wx → wx.cell? ⟨yb, 0, none⟩ = some (.int .i64 L7) ∧ wx.cell? ⟨yb, 1, none⟩ = some (.slice ha7 cs7.length hc7) ∧ wx.cell? ⟨yb, 2, none⟩ = some (.slice hta7 ts7.length htc7) ∧ wx.cell? ⟨w.heap.size, 0, none⟩ = some (.int .i64 L) ∧ wx.cell? ⟨w.heap.size, 1, none⟩ = some (.slice ca cs.length cc) ∧ wx.cell? ⟨w.heap.size, 2, none⟩ = some (.slice ta ts.length tc)) := fun wx kx => ⟨(HB7.out.kept kx).cell 0 (by simp), (HB7.out.kept kx).cell 1 (by simp), (HB7.out.kept kx).cell 2 (by simp), (HBs7.out.kept kx).cell 0 (by simp), (HBs7.out.kept kx).cell 1 (by simp), (HBs7.out.kept kx).cell 2 (by simp)⟩
                have KD7 : Kept W9 W9.drew := (Kept.refl _).drew
                have HOF7 : Hid (∀ wx, Kept W9 wx → Calls Tryz.prog 13 #[.agg #[.int .i64 L7, .slice ha7 cs7.length hc7, .slice hta7 ts7.length htc7]] wx fun e w' => ∃ ca' cc' ta' tc', e = .returned (.agg #[.int .i64 L7, .slice ca' cs7.length cc', .slice ta' ts7.length tc']) ∧ AtH w' ca' cs7 ∧ AtT w' ta' ts7 ∧ (∀ b f, ta' = some ⟨b, f, none⟩ → wx.heap.size ≤ b ∧ f = 0) ∧ Kept wx w') := fun wx kx => OfS.sof_any L7 ha7 hta7 hc7 htc7 cs7 ts7 wx (HH7.out.kept kx) (HT7.out.kept kx) HOK7.out (by have := HS7.out.nt.2; omega) (by have := HS7.out.nc; omega)
                have HSS7 : Hid (∀ wx ca8 cc8 ta8 tc8, Kept w wx → AtH wx ca8 cs7 → AtT wx ta8 ts7 → Calls Tryz.prog 12 #[.agg #[.int .i64 L7, .slice ca8 cs7.length cc8, .slice ta8 ts7.length tc8], .agg #[.int .i64 L, .slice ca cs.length cc, .slice ta ts.length tc]] wx fun e w' => e = .returned (.bool false) ∧ Kept wx w') := by
                  intro wx ca8 cc8 ta8 tc8 kx h1 h2
                  have h := rsset_any L7 L ca8 ca ta8 ta cc8 cc tc8 tc cs7 cs ts7 ts wx h1 (HH.out.kept kx) h2 (HA.out.kept kx) (by have := HS7.out.nt.2; omega) (by have := HS7.out.nc; omega) HOK7.out
                  rw [HNE7.out] at h
                  exact h
                have hD7 := HCL7.out W9 (Kept.refl _)
                have hE7 := HCL7.out _ KD7
                obtain ⟨c0, c1, c2, d0, d1, d2⟩ := hD7
                go_wp2_with fail
                go_region_held3 (fun wx => wx.cell? ⟨yb, 0, none⟩ = some (.int .i64 L7) ∧ wx.cell? ⟨yb, 1, none⟩ = some (.slice ha7 cs7.length hc7) ∧ wx.cell? ⟨yb, 2, none⟩ = some (.slice hta7 ts7.length htc7) ∧ wx.cell? ⟨w.heap.size, 0, none⟩ = some (.int .i64 L) ∧ wx.cell? ⟨w.heap.size, 1, none⟩ = some (.slice ca cs.length cc) ∧ wx.cell? ⟨w.heap.size, 2, none⟩ = some (.slice ta ts.length tc)) (first | assumption | exact hE7 | exact hS8 | exact hS9) (first | (go_at_call 13; with_reducible refine (HOF7.out _ KD7).mono ?_; rintro e w8 ⟨ca8, cc8, ta8, tc8, rfl, hH8, hT8, -, K8⟩; have KX8 := KD7.trans K8; have K08 := K09.trans KX8; have hS8 := HCL7.out w8 KX8) | (go_at_call 12; with_reducible refine (HSS7.out _ ca8 cc8 ta8 tc8 K08 hH8 hT8).mono ?_; rintro e w9 ⟨rfl, K9⟩; have KX9 := KX8.trans K9; have hS9 := HCL7.out w9 KX9) | fail)
                clear c0 c1 c2 d0 d1 d2
                all_goals go_wp2_with fail
                go_ret
                exact ⟨rfl, K09.trans KX9⟩
              · have g7 : (e7 != 0) = true := by simpa using e70
                go_wp2_with fail
                go_region
                all_goals go_wp2_with fail
                go_ret
                exact ⟨rfl, K09.drew⟩
          · obtain ⟨g, rfl⟩ : ∃ g, gk = g + 1 := ⟨gk - 1, by omega⟩
            have b3 : (kn : Int) > 0 := by omega
            have b4 : (kn : Int) ≤ 100000 := by omega
            obtain ⟨ch, e1, e2, e3, -⟩ := byte_get (B l) j (by rw [B_size]; exact hjl)
            rw [B_list] at e2
            have HNX2 : Hid (cntL (l.take (j + 1)) = cntL (l.take j) + (if ch = 10 then 1 else 0)) := cntL_next e2
            clear e2 e3 hkc
            by_cases h10 : ch = 10
            · have t1 : ((ch.toNat : Int) == 10) = true := by rw [h10]; rfl
              have HF : Hid (cntL (l.take (j + 1)) + (kn - 1) = kk) := by
                have h1 := HNX2.out
                rw [if_pos h10] at h1
                have h2 := HC.out
                show _ = _
                omega
              clear h10 HNX2 HC
              go_wp2_with fail
              go_roundg g
              case rel => exact ⟨kn - 1, j + 1, j + 1, rfl, by go_num, by go_num, by go_num, by omega, by omega, HF⟩
              case measure => omega
            · have t1 : ((ch.toNat : Int) == 10) = false := by
                apply beq_eq_false_iff_ne.2
                intro h
                exact h10 (UInt8.toNat.inj (by simpa using (by omega : ch.toNat = 10)))
              have HF : Hid (cntL (l.take (j + 1)) + kn = kk) := by
                have h1 := HNX2.out
                rw [if_neg h10] at h1
                have h2 := HC.out
                show _ = _
                omega
              clear h10 HNX2 HC
              go_wp2_with fail
              go_roundg g
              case rel => exact ⟨kn, at', j + 1, rfl, rfl, rfl, by go_num, by omega, by omega, HF⟩
              case measure => omega
        · have b1 : ¬ (j : Int) < (l.length : Int) := by omega
          have hcj : cntL (l.take j) ≤ kk := by omega
          clear hkc HC
          have hat2 : at' ≤ l.length := by omega
          obtain ⟨fr, hfr⟩ : ∃ z, l.take at' = z := ⟨_, rfl⟩
          have hpc : (B l).extract 0 at' = B fr := by rw [B_extract, List.drop_zero, Nat.sub_zero, hfr]
          have hfl : fr.length ≤ 1000000 := by rw [← hfr, List.length_take]; omega
          have hfx : ∀ x ∈ linesOf fr, x.length ≤ 1000 := fun x hx => HLG.out x (front_lines l at' [] x (by rw [hfr]; exact hx))
          have hfc : cntL fr < c := by rw [← hfr]; have := cntL_take l hatj; omega
          have hpa := tparse_any fr hfl (by rw [linesOf_cnt]; have := HNB.out; omega) hfx w5 (HR.out.kept K5)
          obtain ⟨⟨⟨L6, bg6, cs6, ts6⟩, i6, e6⟩, hP6⟩ : ∃ z, parseS fr = z := ⟨_, rfl⟩
          have HP6 : Hid (e6 = 0 → SetOk L6 cs6 ts6) := by
            intro h
            have h2 := parse_set (l := fr) (by rw [hP6]; exact h)
            rw [hP6] at h2
            exact set_ok h2
          have HN6 : Hid (e6 = 0 → sameS L6 cs6 ts6 L cs ts = false) := by
            intro h
            have h2 := other_set (l := fr) (L := L) (cs := cs) (ts := ts) (by rw [← HNN.out]; omega) (by rw [hP6]; exact h)
            rw [hP6] at h2
            exact h2
          rw [hP6] at hpa
          simp only at hpa
          clear hfr hfl hfx hfc hP6
          have b7 : (at' : Int) ≤ (l.length : Int) := by omega
          have b8 : (0 : Int) ≤ (at' : Int) := by omega
          go_wp2_with fail
          refine hpa.mono ?_
          rintro e w6 ⟨ha6, hc6, hta6, htc6, rfl, hH6, hT6, K56⟩
          have K6 := K5.trans K56
          have HB6 : Hid (Box w.heap.size (w6.alloc (.cells #[.int .i64 L6, .slice ha6 cs6.length hc6, .slice hta6 ts6.length htc6] 34)) 34 w6.heap.size [.int .i64 L6, .slice ha6 cs6.length hc6, .slice hta6 ts6.length htc6]) := box_new w.heap.size w6 34 [.int .i64 L6, .slice ha6 cs6.length hc6, .slice hta6 ts6.length htc6] K6.size (by simp)
          have KA6 : Kept w6 (w6.alloc (.cells #[.int .i64 L6, .slice ha6 cs6.length hc6, .slice hta6 ts6.length htc6] 34)) := (Kept.refl _).alloc _
          have HH6 : Hid (AtH (w6.alloc (.cells #[.int .i64 L6, .slice ha6 cs6.length hc6, .slice hta6 ts6.length htc6] 34)) ha6 cs6) := hH6.kept KA6
          have HT6 : Hid (AtT (w6.alloc (.cells #[.int .i64 L6, .slice ha6 cs6.length hc6, .slice hta6 ts6.length htc6] 34)) hta6 ts6) := hT6.kept KA6
          have K06 : Kept w (w6.alloc (.cells #[.int .i64 L6, .slice ha6 cs6.length hc6, .slice hta6 ts6.length htc6] 34)) := K6.trans KA6
          have KS6 : Hid (Kept w5 (w6.alloc (.cells #[.int .i64 L6, .slice ha6 cs6.length hc6, .slice hta6 ts6.length htc6] 34))) := K56.trans KA6
          clear hpa hH6 hT6 K56 K6 hpc
          have hpb := tparse_any (l ++ (m ++ [10])) HLB.out.1 HLB.out.2.1 HLB.out.2.2 (w6.alloc (.cells #[.int .i64 L6, .slice ha6 cs6.length hc6, .slice hta6 ts6.length htc6] 34)) (HR.out.kept K06)
          obtain ⟨⟨⟨L7, bg7, cs7, ts7⟩, i7, e7⟩, hP7⟩ : ∃ z, parseS (l ++ (m ++ [10])) = z := ⟨_, rfl⟩
          have HP7 : Hid (e7 = 0 → SetOk L7 cs7 ts7) := by
            intro h
            have h2 := parse_set (l := l ++ (m ++ [10])) (by rw [hP7]; exact h)
            rw [hP7] at h2
            exact set_ok h2
          have HN7 : Hid (e7 = 0 → sameS L7 cs7 ts7 L cs ts = false) := by
            intro h
            have h2 := other_set (l := l ++ (m ++ [10])) (L := L) (cs := cs) (ts := ts) HLC.out (by rw [hP7]; exact h)
            rw [hP7] at h2
            exact h2
          rw [hP7] at hpb
          simp only at hpb
          have hcat : B l ++ B m ++ ⟨#[10]⟩ = B (l ++ (m ++ [10])) := by
            rw [show (⟨#[10]⟩ : ByteArray) = B [10] from rfl, B_add, B_add, List.append_assoc]
          clear hP7
          go_wp2_with fail
          refine hpb.mono ?_
          rintro e w7 ⟨ha7, hc7, hta7, htc7, rfl, hH7, hT7, K67⟩
          have K7 := K06.trans K67
          have HB7 : Hid (Box w.heap.size (w7.alloc (.cells #[.int .i64 L7, .slice ha7 cs7.length hc7, .slice hta7 ts7.length htc7] 34)) 34 w7.heap.size [.int .i64 L7, .slice ha7 cs7.length hc7, .slice hta7 ts7.length htc7]) := box_new w.heap.size w7 34 [.int .i64 L7, .slice ha7 cs7.length hc7, .slice hta7 ts7.length htc7] K7.size (by simp)
          have KA7 : Kept w7 (w7.alloc (.cells #[.int .i64 L7, .slice ha7 cs7.length hc7, .slice hta7 ts7.length htc7] 34)) := (Kept.refl _).alloc _
          have HH7 : Hid (AtH (w7.alloc (.cells #[.int .i64 L7, .slice ha7 cs7.length hc7, .slice hta7 ts7.length htc7] 34)) ha7 cs7) := hH7.kept KA7
          have HT7 : Hid (AtT (w7.alloc (.cells #[.int .i64 L7, .slice ha7 cs7.length hc7, .slice hta7 ts7.length htc7] 34)) hta7 ts7) := hT7.kept KA7
          have KX7 := K67.trans KA7
          have HH6 : Hid (AtH (w7.alloc (.cells #[.int .i64 L7, .slice ha7 cs7.length hc7, .slice hta7 ts7.length htc7] 34)) ha6 cs6) := HH6.out.kept KX7
          have HT6 : Hid (AtT (w7.alloc (.cells #[.int .i64 L7, .slice ha7 cs7.length hc7, .slice hta7 ts7.length htc7] 34)) hta6 ts6) := HT6.out.kept KX7
          have HB6 : Hid (Box w.heap.size (w7.alloc (.cells #[.int .i64 L7, .slice ha7 cs7.length hc7, .slice hta7 ts7.length htc7] 34)) 34 w6.heap.size [.int .i64 L6, .slice ha6 cs6.length hc6, .slice hta6 ts6.length htc6]) := HB6.out.kept KX7
          have HBs6 : Hid (Box w.heap.size (w7.alloc (.cells #[.int .i64 L7, .slice ha7 cs7.length hc7, .slice hta7 ts7.length htc7] 34)) 25 w.heap.size [.int .i64 L, .slice ca cs.length cc, .slice ta ts.length tc]) := HB5.out.kept (KS6.out.trans KX7)
          have K07 : Kept w (w7.alloc (.cells #[.int .i64 L7, .slice ha7 cs7.length hc7, .slice hta7 ts7.length htc7] 34)) := K06.trans KX7
          clear hpb hH7 hT7 K67 K7 KA7 KA6 KX7 KS6 K06 hcat
          go_wp2_with fail
          generalize (w7.alloc (.cells #[.int .i64 L7, .slice ha7 cs7.length hc7, .slice hta7 ts7.length htc7] 34)) = W7 at *
          generalize w7.heap.size = yb at *
          generalize w6.heap.size = xb at *
          by_cases e60 : e6 = 0
          · subst e60
            have HS6 : Hid (SetOk L6 cs6 ts6) := HP6.out rfl
            have HOK6 : Hid (TsOk ts6) := setok_ts HS6.out
            have HNE6 : Hid (sameS L6 cs6 ts6 L cs ts = false) := HN6.out rfl
            have HCL6 : Hid (∀ wx, Kept W7 wx → wx.cell? ⟨xb, 0, none⟩ = some (.int .i64 L6) ∧ wx.cell? ⟨xb, 1, none⟩ = some (.slice ha6 cs6.length hc6) ∧ wx.cell? ⟨xb, 2, none⟩ = some (.slice hta6 ts6.length htc6) ∧ wx.cell? ⟨w.heap.size, 0, none⟩ = some (.int .i64 L) ∧ wx.cell? ⟨w.heap.size, 1, none⟩ = some (.slice ca cs.length cc) ∧ wx.cell? ⟨w.heap.size, 2, none⟩ = some (.slice ta ts.length tc)) := fun wx kx => ⟨(HB6.out.kept kx).cell 0 (by simp), (HB6.out.kept kx).cell 1 (by simp), (HB6.out.kept kx).cell 2 (by simp), (HBs6.out.kept kx).cell 0 (by simp), (HBs6.out.kept kx).cell 1 (by simp), (HBs6.out.kept kx).cell 2 (by simp)⟩
            have KD6 : Kept W7 W7.drew := (Kept.refl _).drew
            have HOF6 : Hid (∀ wx, Kept W7 wx → Calls Tryz.prog 13 #[.agg #[.int .i64 L6, .slice ha6 cs6.length hc6, .slice hta6 ts6.length htc6]] wx fun e w' => ∃ ca' cc' ta' tc', e = .returned (.agg #[.int .i64 L6, .slice ca' cs6.length cc', .slice ta' ts6.length tc']) ∧ AtH w' ca' cs6 ∧ AtT w' ta' ts6 ∧ (∀ b f, ta' = some ⟨b, f, none⟩ → wx.heap.size ≤ b ∧ f = 0) ∧ Kept wx w') := fun wx kx => OfS.sof_any L6 ha6 hta6 hc6 htc6 cs6 ts6 wx (HH6.out.kept kx) (HT6.out.kept kx) HOK6.out (by have := HS6.out.nt.2; omega) (by have := HS6.out.nc; omega)
            have HSS6 : Hid (∀ wx ca8 cc8 ta8 tc8, Kept w wx → AtH wx ca8 cs6 → AtT wx ta8 ts6 → Calls Tryz.prog 12 #[.agg #[.int .i64 L6, .slice ca8 cs6.length cc8, .slice ta8 ts6.length tc8], .agg #[.int .i64 L, .slice ca cs.length cc, .slice ta ts.length tc]] wx fun e w' => e = .returned (.bool false) ∧ Kept wx w') := by
              intro wx ca8 cc8 ta8 tc8 kx h1 h2
              have h := rsset_any L6 L ca8 ca ta8 ta cc8 cc tc8 tc cs6 cs ts6 ts wx h1 (HH.out.kept kx) h2 (HA.out.kept kx) (by have := HS6.out.nt.2; omega) (by have := HS6.out.nc; omega) HOK6.out
              rw [HNE6.out] at h
              exact h
            have hD6 := HCL6.out W7 (Kept.refl _)
            have hE6 := HCL6.out _ KD6
            obtain ⟨c0, c1, c2, d0, d1, d2⟩ := hD6

            go_region_held3 (fun wx => wx.cell? ⟨xb, 0, none⟩ = some (.int .i64 L6) ∧ wx.cell? ⟨xb, 1, none⟩ = some (.slice ha6 cs6.length hc6) ∧ wx.cell? ⟨xb, 2, none⟩ = some (.slice hta6 ts6.length htc6) ∧ wx.cell? ⟨w.heap.size, 0, none⟩ = some (.int .i64 L) ∧ wx.cell? ⟨w.heap.size, 1, none⟩ = some (.slice ca cs.length cc) ∧ wx.cell? ⟨w.heap.size, 2, none⟩ = some (.slice ta ts.length tc)) (first | assumption | exact hE6 | exact hS8 | exact hS9) (first | (go_at_call 13; with_reducible refine (HOF6.out _ KD6).mono ?_; rintro e w8 ⟨ca8, cc8, ta8, tc8, rfl, hH8, hT8, -, K8⟩; have KX8 := KD6.trans K8; have K08 := K07.trans KX8; have hS8 := HCL6.out w8 KX8) | (go_at_call 12; with_reducible refine (HSS6.out _ ca8 cc8 ta8 tc8 K08 hH8 hT8).mono ?_; rintro e w9 ⟨rfl, K9⟩; have KX9 := KX8.trans K9; have hS9 := HCL6.out w9 KX9) | fail)
            clear c0 c1 c2 d0 d1 d2
            all_goals go_wp2_with fail
            have K09 := K07.trans KX9
            have HB7 : Hid (Box w.heap.size w9 34 yb [.int .i64 L7, .slice ha7 cs7.length hc7, .slice hta7 ts7.length htc7]) := HB7.out.kept KX9
            have HBs7 : Hid (Box w.heap.size w9 25 w.heap.size [.int .i64 L, .slice ca cs.length cc, .slice ta ts.length tc]) := HBs6.out.kept KX9
            have HH7 : Hid (AtH w9 ha7 cs7) := HH7.out.kept KX9
            have HT7 : Hid (AtT w9 hta7 ts7) := HT7.out.kept KX9
            clear hS8 hS9 hH8 hT8 K8 K9 KX8 KX9 K08 HOF6 HSS6 HCL6 hE6 KD6
            by_cases e70 : e7 = 0
            · subst e70
              have HS7 : Hid (SetOk L7 cs7 ts7) := HP7.out rfl
              have HOK7 : Hid (TsOk ts7) := setok_ts HS7.out
              have HNE7 : Hid (sameS L7 cs7 ts7 L cs ts = false) := HN7.out rfl
              have HCL7 : Hid (∀ wx, Kept w9 wx → wx.cell? ⟨yb, 0, none⟩ = some (.int .i64 L7) ∧ wx.cell? ⟨yb, 1, none⟩ = some (.slice ha7 cs7.length hc7) ∧ wx.cell? ⟨yb, 2, none⟩ = some (.slice hta7 ts7.length htc7) ∧ wx.cell? ⟨w.heap.size, 0, none⟩ = some (.int .i64 L) ∧ wx.cell? ⟨w.heap.size, 1, none⟩ = some (.slice ca cs.length cc) ∧ wx.cell? ⟨w.heap.size, 2, none⟩ = some (.slice ta ts.length tc)) := fun wx kx => ⟨(HB7.out.kept kx).cell 0 (by simp), (HB7.out.kept kx).cell 1 (by simp), (HB7.out.kept kx).cell 2 (by simp), (HBs7.out.kept kx).cell 0 (by simp), (HBs7.out.kept kx).cell 1 (by simp), (HBs7.out.kept kx).cell 2 (by simp)⟩
              have KD7 : Kept w9 w9.drew := (Kept.refl _).drew
              have HOF7 : Hid (∀ wx, Kept w9 wx → Calls Tryz.prog 13 #[.agg #[.int .i64 L7, .slice ha7 cs7.length hc7, .slice hta7 ts7.length htc7]] wx fun e w' => ∃ ca' cc' ta' tc', e = .returned (.agg #[.int .i64 L7, .slice ca' cs7.length cc', .slice ta' ts7.length tc']) ∧ AtH w' ca' cs7 ∧ AtT w' ta' ts7 ∧ (∀ b f, ta' = some ⟨b, f, none⟩ → wx.heap.size ≤ b ∧ f = 0) ∧ Kept wx w') := fun wx kx => OfS.sof_any L7 ha7 hta7 hc7 htc7 cs7 ts7 wx (HH7.out.kept kx) (HT7.out.kept kx) HOK7.out (by have := HS7.out.nt.2; omega) (by have := HS7.out.nc; omega)
              have HSS7 : Hid (∀ wx ca8 cc8 ta8 tc8, Kept w wx → AtH wx ca8 cs7 → AtT wx ta8 ts7 → Calls Tryz.prog 12 #[.agg #[.int .i64 L7, .slice ca8 cs7.length cc8, .slice ta8 ts7.length tc8], .agg #[.int .i64 L, .slice ca cs.length cc, .slice ta ts.length tc]] wx fun e w' => e = .returned (.bool false) ∧ Kept wx w') := by
                intro wx ca8 cc8 ta8 tc8 kx h1 h2
                have h := rsset_any L7 L ca8 ca ta8 ta cc8 cc tc8 tc cs7 cs ts7 ts wx h1 (HH.out.kept kx) h2 (HA.out.kept kx) (by have := HS7.out.nt.2; omega) (by have := HS7.out.nc; omega) HOK7.out
                rw [HNE7.out] at h
                exact h
              have hD7 := HCL7.out w9 (Kept.refl _)
              have hE7 := HCL7.out _ KD7
              obtain ⟨c0, c1, c2, d0, d1, d2⟩ := hD7
              go_wp2_with fail
              go_region_held3 (fun wx => wx.cell? ⟨yb, 0, none⟩ = some (.int .i64 L7) ∧ wx.cell? ⟨yb, 1, none⟩ = some (.slice ha7 cs7.length hc7) ∧ wx.cell? ⟨yb, 2, none⟩ = some (.slice hta7 ts7.length htc7) ∧ wx.cell? ⟨w.heap.size, 0, none⟩ = some (.int .i64 L) ∧ wx.cell? ⟨w.heap.size, 1, none⟩ = some (.slice ca cs.length cc) ∧ wx.cell? ⟨w.heap.size, 2, none⟩ = some (.slice ta ts.length tc)) (first | assumption | exact hE7 | exact hS8 | exact hS9) (first | (go_at_call 13; with_reducible refine (HOF7.out _ KD7).mono ?_; rintro e w8 ⟨ca8, cc8, ta8, tc8, rfl, hH8, hT8, -, K8⟩; have KX8 := KD7.trans K8; have K08 := K09.trans KX8; have hS8 := HCL7.out w8 KX8) | (go_at_call 12; with_reducible refine (HSS7.out _ ca8 cc8 ta8 tc8 K08 hH8 hT8).mono ?_; rintro e w9 ⟨rfl, K9⟩; have KX9 := KX8.trans K9; have hS9 := HCL7.out w9 KX9) | fail)
              clear c0 c1 c2 d0 d1 d2
              all_goals go_wp2_with fail
              go_ret
              exact ⟨rfl, K09.trans KX9⟩
            · have g7 : (e7 != 0) = true := by simpa using e70
              go_wp2_with fail
              go_region
              all_goals go_wp2_with fail
              go_ret
              exact ⟨rfl, K09.drew⟩
          · have g6 : (e6 == 0) = false := by simpa using e60
            go_region
            all_goals go_wp2_with fail
            have K09 := K07.drew
            have HB7 : Hid (Box w.heap.size W7.drew 34 yb [.int .i64 L7, .slice ha7 cs7.length hc7, .slice hta7 ts7.length htc7]) := HB7.out.kept ((Kept.refl _).drew)
            have HBs7 : Hid (Box w.heap.size W7.drew 25 w.heap.size [.int .i64 L, .slice ca cs.length cc, .slice ta ts.length tc]) := HBs6.out.kept ((Kept.refl _).drew)
            have HH7 : Hid (AtH W7.drew ha7 cs7) := HH7.out.kept ((Kept.refl _).drew)
            have HT7 : Hid (AtT W7.drew hta7 ts7) := HT7.out.kept ((Kept.refl _).drew)
            generalize W7.drew = W9 at *
            by_cases e70 : e7 = 0
            · subst e70
              have HS7 : Hid (SetOk L7 cs7 ts7) := HP7.out rfl
              have HOK7 : Hid (TsOk ts7) := setok_ts HS7.out
              have HNE7 : Hid (sameS L7 cs7 ts7 L cs ts = false) := HN7.out rfl
              have HCL7 : Hid (∀ wx, Kept W9 wx → wx.cell? ⟨yb, 0, none⟩ = some (.int .i64 L7) ∧ wx.cell? ⟨yb, 1, none⟩ = some (.slice ha7 cs7.length hc7) ∧ wx.cell? ⟨yb, 2, none⟩ = some (.slice hta7 ts7.length htc7) ∧ wx.cell? ⟨w.heap.size, 0, none⟩ = some (.int .i64 L) ∧ wx.cell? ⟨w.heap.size, 1, none⟩ = some (.slice ca cs.length cc) ∧ wx.cell? ⟨w.heap.size, 2, none⟩ = some (.slice ta ts.length tc)) := fun wx kx => ⟨(HB7.out.kept kx).cell 0 (by simp), (HB7.out.kept kx).cell 1 (by simp), (HB7.out.kept kx).cell 2 (by simp), (HBs7.out.kept kx).cell 0 (by simp), (HBs7.out.kept kx).cell 1 (by simp), (HBs7.out.kept kx).cell 2 (by simp)⟩
              have KD7 : Kept W9 W9.drew := (Kept.refl _).drew
              have HOF7 : Hid (∀ wx, Kept W9 wx → Calls Tryz.prog 13 #[.agg #[.int .i64 L7, .slice ha7 cs7.length hc7, .slice hta7 ts7.length htc7]] wx fun e w' => ∃ ca' cc' ta' tc', e = .returned (.agg #[.int .i64 L7, .slice ca' cs7.length cc', .slice ta' ts7.length tc']) ∧ AtH w' ca' cs7 ∧ AtT w' ta' ts7 ∧ (∀ b f, ta' = some ⟨b, f, none⟩ → wx.heap.size ≤ b ∧ f = 0) ∧ Kept wx w') := fun wx kx => OfS.sof_any L7 ha7 hta7 hc7 htc7 cs7 ts7 wx (HH7.out.kept kx) (HT7.out.kept kx) HOK7.out (by have := HS7.out.nt.2; omega) (by have := HS7.out.nc; omega)
              have HSS7 : Hid (∀ wx ca8 cc8 ta8 tc8, Kept w wx → AtH wx ca8 cs7 → AtT wx ta8 ts7 → Calls Tryz.prog 12 #[.agg #[.int .i64 L7, .slice ca8 cs7.length cc8, .slice ta8 ts7.length tc8], .agg #[.int .i64 L, .slice ca cs.length cc, .slice ta ts.length tc]] wx fun e w' => e = .returned (.bool false) ∧ Kept wx w') := by
                intro wx ca8 cc8 ta8 tc8 kx h1 h2
                have h := rsset_any L7 L ca8 ca ta8 ta cc8 cc tc8 tc cs7 cs ts7 ts wx h1 (HH.out.kept kx) h2 (HA.out.kept kx) (by have := HS7.out.nt.2; omega) (by have := HS7.out.nc; omega) HOK7.out
                rw [HNE7.out] at h
                exact h
              have hD7 := HCL7.out W9 (Kept.refl _)
              have hE7 := HCL7.out _ KD7
              obtain ⟨c0, c1, c2, d0, d1, d2⟩ := hD7
              go_wp2_with fail
              go_region_held3 (fun wx => wx.cell? ⟨yb, 0, none⟩ = some (.int .i64 L7) ∧ wx.cell? ⟨yb, 1, none⟩ = some (.slice ha7 cs7.length hc7) ∧ wx.cell? ⟨yb, 2, none⟩ = some (.slice hta7 ts7.length htc7) ∧ wx.cell? ⟨w.heap.size, 0, none⟩ = some (.int .i64 L) ∧ wx.cell? ⟨w.heap.size, 1, none⟩ = some (.slice ca cs.length cc) ∧ wx.cell? ⟨w.heap.size, 2, none⟩ = some (.slice ta ts.length tc)) (first | assumption | exact hE7 | exact hS8 | exact hS9) (first | (go_at_call 13; with_reducible refine (HOF7.out _ KD7).mono ?_; rintro e w8 ⟨ca8, cc8, ta8, tc8, rfl, hH8, hT8, -, K8⟩; have KX8 := KD7.trans K8; have K08 := K09.trans KX8; have hS8 := HCL7.out w8 KX8) | (go_at_call 12; with_reducible refine (HSS7.out _ ca8 cc8 ta8 tc8 K08 hH8 hT8).mono ?_; rintro e w9 ⟨rfl, K9⟩; have KX9 := KX8.trans K9; have hS9 := HCL7.out w9 KX9) | fail)
              clear c0 c1 c2 d0 d1 d2
              all_goals go_wp2_with fail
              go_ret
              exact ⟨rfl, K09.trans KX9⟩
            · have g7 : (e7 != 0) = true := by simpa using e70
              go_wp2_with fail
              go_region
              all_goals go_wp2_with fail
              go_ret
              exact ⟨rfl, K09.drew⟩
end Go.Proofs.YtolljdomnohmdaaGreatDoor
