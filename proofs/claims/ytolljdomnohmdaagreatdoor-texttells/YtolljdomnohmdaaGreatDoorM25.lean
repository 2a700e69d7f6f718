/- The reference's Print of any set. -/
import Derived.Test.YtolljdomnohmdaaGreatDoorM24
import Derived.Test.YtolljdomnohmdaaGreatDoorM19
import Derived.Test.YtolljdomnohmdaaGreatDoorRTxt7
namespace Go.Proofs.YtolljdomnohmdaaGreatDoor
open Go.RowKit Go.Shelf

set_option maxHeartbeats 8000000 in
set_option maxRecDepth 20000 in
theorem rprint_any (L : Int) (ca ta : Option Addr) (cc tc : Nat) (cs : List ChanD) (ts : List TaskD) (w : World) (hH : AtH w ca cs) (hA : AtT w ta ts) (hok : TsOk ts) (hl : ts.length ≤ 100000) (hcl : cs.length ≤ 100000) (hi : ∀ t ∈ ts, ∀ o ∈ t.prog, In64 o) :
    Calls Tryz.prog 10 #[.agg #[.int .i64 L, .slice ca cs.length cc, .slice ta ts.length tc]] w fun e w' => e = .returned (.tuple #[.string (B (if (checkS L cs ts).2 = 0 then textS L cs ts else [])), .int .i64 (checkS L cs ts).2]) ∧ Kept w w' := by
  have HH : Hid (AtH w ca cs) := hH
  have HA : Hid (AtT w ta ts) := hA
  have HI : Hid (∀ t ∈ ts, ∀ o ∈ t.prog, In64 o) := hi
  have K0 := (Kept.refl w).alloc (.cells #[.int .i64 L, .slice ca cs.length cc, .slice ta ts.length tc] 25)
  have HB : Hid (Box w.heap.size (w.alloc (.cells #[.int .i64 L, .slice ca cs.length cc, .slice ta ts.length tc] 25)) 25 w.heap.size [.int .i64 L, .slice ca cs.length cc, .slice ta ts.length tc]) := box_new w.heap.size w 25 [.int .i64 L, .slice ca cs.length cc, .slice ta ts.length tc] (Nat.le_refl _) (by simp)
  have hck := rcset_any L ca ta cc tc cs ts (w.alloc (.cells #[.int .i64 L, .slice ca cs.length cc, .slice ta ts.length tc] 25)) (HH.out.kept K0) (HA.out.kept K0) hok
  obtain ⟨q1, hq1⟩ : ∃ q, (checkS L cs ts).1 = q := ⟨_, rfl⟩
  obtain ⟨q2, hq2⟩ : ∃ q, (checkS L cs ts).2 = q := ⟨_, rfl⟩
  rw [hq1, hq2] at hck
  rw [hq2]
  have HQ : Hid ((checkS L cs ts).2 = q2) := hq2
  obtain ⟨rt, hrt⟩ : ∃ z, (if q2 = 0 then textS L cs ts else []) = z := ⟨_, rfl⟩
  rw [hrt]
  have HRT : Hid ((if q2 = 0 then textS L cs ts else []) = rt) := hrt
  clear hH hA hok hi hq1 hq2 hrt
  go_enter Tryz.func10, Tryz.ntmps10
  go_wp2_with fail
  refine hck.mono ?_
  rintro e w2 ⟨rfl, T2⟩
  have K2 := K0.trans T2
  have HB2 : Hid (Box w.heap.size w2 25 w.heap.size [.int .i64 L, .slice ca cs.length cc, .slice ta ts.length tc]) := HB.out.kept T2
  clear hck HB K0 T2
  by_cases hq0 : q2 = 0
  rotate_left
  · have hne : (q2 != 0) = true := by simpa using hq0
    obtain rfl : rt = [] := by rw [← HRT.out, if_neg hq0]
    go_wp2_with fail
    go_ret2
    exact ⟨rfl, K2⟩
  subst hq0
  obtain rfl : rt = textS L cs ts := by rw [← HRT.out, if_pos rfl]
  have HS : Hid (SetOk L cs ts) := set_ok HQ.out
  have HLN : Hid ((textS L cs ts).length ≤ 1000000) := textS_len HS.out HI.out
  have hL64 := in64_of (n := L) (by have := HS.out.L0; omega) (by have := HS.out.L0; omega)
  have s0 : w2.cell? ⟨w.heap.size, 0, none⟩ = some (.int .i64 L) := HB2.out.cell 0 (by simp)
  have htx := rword_any L hL64.1 hL64.2 w2
  have hn := itoa_len hL64
  obtain ⟨s1, H1⟩ := some_eq ([108, 111, 99, 107, 115, 32] ++ Lib.itoa L)
  have hl1 : s1.length ≤ 100 := by rw [H1.out, List.length_append]; simp only [List.length_cons, List.length_nil]; omega
  have ad1 := add_to ([108, 111, 99, 107, 115, 32]) (Lib.itoa L) s1 H1.out (by simp only [List.length_cons, List.length_nil]; omega) (by omega)
  rw [show B [108, 111, 99, 107, 115, 32] = ⟨#[108, 111, 99, 107, 115, 32]⟩ from rfl] at ad1
  obtain ⟨s2, H2⟩ := some_eq (s1 ++ [10])
  have hl2 : s2.length ≤ 200 := by rw [H2.out, List.length_append]; simp only [List.length_cons, List.length_nil]; omega
  have ad2 := add_to s1 ([10]) s2 H2.out (by omega) (by simp only [List.length_cons, List.length_nil]; omega)
  rw [show B [10] = ⟨#[10]⟩ from rfl] at ad2
  go_wp2_with fail
  refine htx.mono ?_
  rintro e w4 ⟨rfl, K4⟩
  have HX0 : Hid (textS L cs ts = s2 ++ ((cs.drop 0).flatMap chanL ++ ts.flatMap taskL)) := by
    show _ = _
    rw [H2.out, H1.out]
    simp [textS, wlD, joinW, locksW]
  clear htx s0
  go_wp2_with fail
  clear ad1 ad2 hl1 hl2 hn
  go_loopg [6, 7] cs.length (fun gk ls is wr => ∃ (i : Nat) (l : List UInt8) (W : World), W = wr ∧ ls = .string (B l) ∧ is = .int .i64 i ∧ i + gk = cs.length ∧ Hid (textS L cs ts = l ++ ((cs.drop i).flatMap chanL ++ ts.flatMap taskL)) ∧ Kept w2 W)
  case atStart => exact ⟨0, _, _, rfl, rfl, rfl, by omega, HX0, K4⟩
  case round =>
    obtain ⟨i, l, W, hW, rfl, rfl, hi, HX, K⟩ := hrel
    subst hW
    have u1 : W.cell? ⟨w.heap.size, 1, none⟩ = some (.slice ca cs.length cc) := (HB2.out.kept K).cell 1 (by simp)
    by_cases hin : i < cs.length
    · have b1 : (i : Int) < (cs.length : Int) := by omega
      have b2 : (0 : Int) ≤ (i : Int) := by omega
      obtain ⟨gm, rfl⟩ : ∃ g, gk = g + 1 := ⟨gk - 1, by omega⟩
      obtain ⟨hb0, hf0, r, s, rfl, hcj, y0, y1, hdr⟩ := HH.out.get i hin
      have g0 := (K2.trans K).cell y0
      have g1 := (K2.trans K).cell y1
      have hch := HS.out.ch _ (List.mem_of_getElem? hcj)
      simp only at hch
      have HNX : Hid (textS L cs ts = (l ++ chanL ⟨r, s⟩) ++ ((cs.drop (i + 1)).flatMap chanL ++ ts.flatMap taskL)) := by
        show _ = _
        rw [HX.out, hdr, List.flatMap_cons]
        simp [List.append_assoc]
      have hn1 := itoa_len (in64_of (n := r) (by omega) (by omega))
      have hn2 := waitT_len (in64_of (n := s) (by omega) (by omega))
      have HC1 : Hid (∀ wx, Kept W wx → Calls Tryz.prog 25 #[.int .i64 r] wx fun e w' => e = .returned (.string (B (Lib.itoa r))) ∧ Kept wx w') := fun wx kx => rword_any r (by omega) (by omega) wx
      have HC2 : Hid (∀ wx, Kept W wx → Calls Tryz.prog 26 #[.int .i64 s] wx fun e w' => e = .returned (.string (B (waitT s))) ∧ Kept wx w') := fun wx kx => rwait_any s (in64_of (by omega) (by omega)) (by omega) wx
      have HW : Hid (chanL ⟨r, s⟩ = [99, 104, 97, 110, 32] ++ Lib.itoa r ++ [32] ++ waitT s ++ [10]) := by simp [Hid, chanL, chanWs, wlD, joinW, chanW]
      obtain ⟨t1, ht1⟩ : ∃ t, Lib.itoa r = t := ⟨_, rfl⟩
      obtain ⟨t2, ht2⟩ : ∃ t, waitT s = t := ⟨_, rfl⟩
      rw [ht1] at HC1 HW hn1
      rw [ht2] at HC2 HW hn2
      obtain ⟨x1, Hx1⟩ := some_eq (l ++ [99, 104, 97, 110, 32])
      obtain ⟨x2, Hx2⟩ := some_eq (x1 ++ t1)
      obtain ⟨x3, Hx3⟩ := some_eq (x2 ++ [32])
      obtain ⟨x4, Hx4⟩ := some_eq (x3 ++ t2)
      obtain ⟨x5, Hx5⟩ := some_eq (x4 ++ [10])
      have HNY : Hid (textS L cs ts = x5 ++ ((cs.drop (i + 1)).flatMap chanL ++ ts.flatMap taskL)) := by
        show _ = _
        rw [HNX.out, HW.out, Hx5.out, Hx4.out, Hx3.out, Hx2.out, Hx1.out]
        simp only [List.append_assoc]
      have hbx5 : x5.length ≤ 1000000 := by
        have h := HLN.out
        rw [HNY.out, List.length_append] at h
        omega
      have hbx4 : x4.length ≤ 1000000 := by
        have h := hbx5
        rw [Hx5.out, List.length_append] at h
        omega
      have hbx3 : x3.length ≤ 1000000 := by
        have h := hbx4
        rw [Hx4.out, List.length_append] at h
        omega
      have hbx2 : x2.length ≤ 1000000 := by
        have h := hbx3
        rw [Hx3.out, List.length_append] at h
        omega
      have hbx1 : x1.length ≤ 1000000 := by
        have h := hbx2
        rw [Hx2.out, List.length_append] at h
        omega
      have hbl : l.length ≤ 1000000 := by
        have h := hbx1
        rw [Hx1.out, List.length_append] at h
        omega
      have adx1 := add_to l ([99, 104, 97, 110, 32]) x1 Hx1.out hbl (by simp)
      rw [show B [99, 104, 97, 110, 32] = ⟨#[99, 104, 97, 110, 32]⟩ from rfl] at adx1
      have adx2 := add_to x1 (t1) x2 Hx2.out hbx1 (by omega)
      have adx3 := add_to x2 ([32]) x3 Hx3.out hbx2 (by simp)
      rw [show B [32] = ⟨#[32]⟩ from rfl] at adx3
      have adx4 := add_to x3 (t2) x4 Hx4.out hbx3 (by omega)
      have adx5 := add_to x4 ([10]) x5 Hx5.out hbx4 (by simp)
      rw [show B [10] = ⟨#[10]⟩ from rfl] at adx5
      clear hbx1 hbx2 hbx3 hbx4 hbx5 hbl
      have KD := (Kept.refl W).drew
      clear hcj hdr ht1 ht2 hch y0 y1
      go_wp2_with fail
      go_region_held3 (fun w' => w'.cell? ⟨w.heap.size, 1, none⟩ = some (.slice (some ⟨hb0, hf0, none⟩) cs.length cc) ∧ w'.cell? ⟨hb0, hf0 + i * 2, none⟩ = some (.int .i64 r) ∧ w'.cell? ⟨hb0, hf0 + i * 2 + 1, none⟩ = some (.int .i64 s)) (go_keep) (first | (go_at_call 25; refine (HC1.out _ KD).mono ?_; rintro e w6 ⟨rfl, T6⟩; have N1 := KD.trans T6; have m0 := N1.cell u1; have m1 := N1.cell g0; have m2 := N1.cell g1) | (go_at_call 26; refine (HC2.out _ N1).mono ?_; rintro e w7 ⟨rfl, T7⟩; have N2 := N1.trans T7; have n0 := N2.cell u1; have n1 := N2.cell g0; have n2 := N2.cell g1) | fail)
      all_goals go_wp2_with fail
      go_roundg gm
      case rel => exact ⟨i + 1, _, _, rfl, rfl, by go_num, by omega, HNY, K.trans N2⟩
      case measure => omega
    · have b1 : ¬ (i : Int) < (cs.length : Int) := by omega
      have HX1 : Hid (textS L cs ts = l ++ (ts.drop 0).flatMap taskL) := by
        show _ = _
        rw [HX.out, List.drop_eq_nil_of_le (show cs.length ≤ i by omega)]
        rfl
      have u2 : W.cell? ⟨w.heap.size, 2, none⟩ = some (.slice ta ts.length tc) := (HB2.out.kept K).cell 2 (by simp)
      clear HX
      go_wp2_with fail
      go_loopg [6, 8] ts.length (fun gk ls is wr => ∃ (j : Nat) (l : List UInt8) (W : World), W = wr ∧ ls = .string (B l) ∧ is = .int .i64 j ∧ j + gk = ts.length ∧ Hid (textS L cs ts = l ++ (ts.drop j).flatMap taskL) ∧ Kept w2 W)
      case atStart => exact ⟨0, _, _, rfl, rfl, rfl, by omega, HX1, K⟩
      case round =>
        clear u1 u2 K hi b1 hin HX1
        obtain ⟨j, l, W, hW, rfl, rfl, hj, HX, K⟩ := hrel
        subst hW
        have u2 : W.cell? ⟨w.heap.size, 2, none⟩ = some (.slice ta ts.length tc) := (HB2.out.kept K).cell 2 (by simp)
        by_cases hjn : j < ts.length
        · have b3 : (j : Int) < (ts.length : Int) := by omega
          have b4 : (0 : Int) ≤ (j : Int) := by omega
          obtain ⟨gm, rfl⟩ : ∃ g, gk = g + 1 := ⟨gk - 1, by omega⟩
          obtain ⟨tb, tf, nm, pd, dl, bu, pr, pa, pc, rfl, htj, y0, y1, y2, y3, y4, hpc, hat, _, hdr⟩ := HA.out.get j hjn
          have KWW := K2.trans K
          have g0 := KWW.cell y0
          have g1 := KWW.cell y1
          have g2 := KWW.cell y2
          have g3 := KWW.cell y3
          have g4 := KWW.cell y4
          clear y0 y1 y2 y3 y4 KWW
          have hmem := List.mem_of_getElem? htj
          obtain ⟨i1, i2, i3⟩ := HS.out.tm _ hmem
          have HPK : Hid (checkP pr = (0, 0)) := HS.out.pg _ hmem
          have HPI : Hid (∀ o ∈ pr, In64 o) := HI.out _ hmem
          simp only at i1 i2 i3
          have HNX : Hid (textS L cs ts = (l ++ wlD (taskWs ⟨nm, pd, dl, bu, pr⟩)) ++ ((pr.drop 0).flatMap opL ++ (ts.drop (j + 1)).flatMap taskL)) := by
            show _ = _
            rw [HX.out, hdr, List.flatMap_cons, List.drop_zero, taskL]
            simp [List.append_assoc]
          have hn0 : nm.length ≤ 1000000 := by
            have h := HLN.out
            rw [HNX.out, show wlD (taskWs ⟨nm, pd, dl, bu, pr⟩) = taskW ++ ([32] ++ (nm ++ ([32] ++ Lib.itoa pd ++ [32] ++ Lib.itoa dl ++ [32] ++ Lib.itoa bu ++ [10]))) by simp [taskWs, wlD, joinW]] at h
            simp only [List.length_append] at h
            omega
          have hn1 := itoa_len (n := pd) i1
          have hn2 := itoa_len (n := dl) i2
          have hn3 := itoa_len (n := bu) i3
          have KQ : Kept W (W.alloc (.cells #[.string (B nm), .int .i64 pd, .int .i64 dl, .int .i64 bu, .slice pa pr.length pc] 52)) := (Kept.refl W).alloc _
          have KQD := KQ.drew
          have HC1 : Hid (∀ wx, Kept W wx → Calls Tryz.prog 25 #[.int .i64 pd] wx fun e w' => e = .returned (.string (B (Lib.itoa pd))) ∧ Kept wx w') := fun wx kx => rword_any pd i1.1 i1.2 wx
          have HC2 : Hid (∀ wx, Kept W wx → Calls Tryz.prog 25 #[.int .i64 dl] wx fun e w' => e = .returned (.string (B (Lib.itoa dl))) ∧ Kept wx w') := fun wx kx => rword_any dl i2.1 i2.2 wx
          have HC3 : Hid (∀ wx, Kept W wx → Calls Tryz.prog 25 #[.int .i64 bu] wx fun e w' => e = .returned (.string (B (Lib.itoa bu))) ∧ Kept wx w') := fun wx kx => rword_any bu i3.1 i3.2 wx
          have HW : Hid (wlD (taskWs ⟨nm, pd, dl, bu, pr⟩) = [116, 97, 115, 107, 32] ++ nm ++ [32] ++ Lib.itoa pd ++ [32] ++ Lib.itoa dl ++ [32] ++ Lib.itoa bu ++ [10]) := by simp [Hid, taskWs, wlD, joinW, taskW]
          obtain ⟨t1, ht1⟩ : ∃ t, Lib.itoa pd = t := ⟨_, rfl⟩
          obtain ⟨t2, ht2⟩ : ∃ t, Lib.itoa dl = t := ⟨_, rfl⟩
          obtain ⟨t3, ht3⟩ : ∃ t, Lib.itoa bu = t := ⟨_, rfl⟩
          rw [ht1] at HC1 HW hn1
          rw [ht2] at HC2 HW hn2
          rw [ht3] at HC3 HW hn3
          obtain ⟨x1, Hx1⟩ := some_eq (l ++ [116, 97, 115, 107, 32])
          obtain ⟨x2, Hx2⟩ := some_eq (x1 ++ nm)
          obtain ⟨x3, Hx3⟩ := some_eq (x2 ++ [32])
          obtain ⟨x4, Hx4⟩ := some_eq (x3 ++ t1)
          obtain ⟨x5, Hx5⟩ := some_eq (x4 ++ [32])
          obtain ⟨x6, Hx6⟩ := some_eq (x5 ++ t2)
          obtain ⟨x7, Hx7⟩ := some_eq (x6 ++ [32])
          obtain ⟨x8, Hx8⟩ := some_eq (x7 ++ t3)
          obtain ⟨x9, Hx9⟩ := some_eq (x8 ++ [10])
          have HNY : Hid (textS L cs ts = x9 ++ ((pr.drop 0).flatMap opL ++ (ts.drop (j + 1)).flatMap taskL)) := by
            show _ = _
            rw [HNX.out, HW.out, Hx9.out, Hx8.out, Hx7.out, Hx6.out, Hx5.out, Hx4.out, Hx3.out, Hx2.out, Hx1.out]
            simp only [List.append_assoc]
          have hbx9 : x9.length ≤ 1000000 := by
            have h := HLN.out
            rw [HNY.out, List.length_append] at h
            omega
          have hbx8 : x8.length ≤ 1000000 := by
            have h := hbx9
            rw [Hx9.out, List.length_append] at h
            omega
          have hbx7 : x7.length ≤ 1000000 := by
            have h := hbx8
            rw [Hx8.out, List.length_append] at h
            omega
          have hbx6 : x6.length ≤ 1000000 := by
            have h := hbx7
            rw [Hx7.out, List.length_append] at h
            omega
          have hbx5 : x5.length ≤ 1000000 := by
            have h := hbx6
            rw [Hx6.out, List.length_append] at h
            omega
          have hbx4 : x4.length ≤ 1000000 := by
            have h := hbx5
            rw [Hx5.out, List.length_append] at h
            omega
          have hbx3 : x3.length ≤ 1000000 := by
            have h := hbx4
            rw [Hx4.out, List.length_append] at h
            omega
          have hbx2 : x2.length ≤ 1000000 := by
            have h := hbx3
            rw [Hx3.out, List.length_append] at h
            omega
          have hbx1 : x1.length ≤ 1000000 := by
            have h := hbx2
            rw [Hx2.out, List.length_append] at h
            omega
          have hbl : l.length ≤ 1000000 := by
            have h := hbx1
            rw [Hx1.out, List.length_append] at h
            omega
          have adx1 := add_to l ([116, 97, 115, 107, 32]) x1 Hx1.out hbl (by simp)
          rw [show B [116, 97, 115, 107, 32] = ⟨#[116, 97, 115, 107, 32]⟩ from rfl] at adx1
          have adx2 := add_to x1 (nm) x2 Hx2.out hbx1 (by omega)
          have adx3 := add_to x2 ([32]) x3 Hx3.out hbx2 (by simp)
          rw [show B [32] = ⟨#[32]⟩ from rfl] at adx3
          have adx4 := add_to x3 (t1) x4 Hx4.out hbx3 (by omega)
          have adx5 := add_to x4 ([32]) x5 Hx5.out hbx4 (by simp)
          rw [show B [32] = ⟨#[32]⟩ from rfl] at adx5
          have adx6 := add_to x5 (t2) x6 Hx6.out hbx5 (by omega)
          have adx7 := add_to x6 ([32]) x7 Hx7.out hbx6 (by simp)
          rw [show B [32] = ⟨#[32]⟩ from rfl] at adx7
          have adx8 := add_to x7 (t3) x8 Hx8.out hbx7 (by omega)
          have adx9 := add_to x8 ([10]) x9 Hx9.out hbx8 (by simp)
          rw [show B [10] = ⟨#[10]⟩ from rfl] at adx9
          clear hbx1 hbx2 hbx3 hbx4 hbx5 hbx6 hbx7 hbx8 hbx9 hbl
          have HQX : Hid (Box W.heap.size (W.alloc (.cells #[.string (B nm), .int .i64 pd, .int .i64 dl, .int .i64 bu, .slice pa pr.length pc] 52)) 52 W.heap.size [.string (B nm), .int .i64 pd, .int .i64 dl, .int .i64 bu, .slice pa pr.length pc]) := box_new W.heap.size W 52 [.string (B nm), .int .i64 pd, .int .i64 dl, .int .i64 bu, .slice pa pr.length pc] (Nat.le_refl _) (by simp)
          have m0 : (W.alloc (.cells #[.string (B nm), .int .i64 pd, .int .i64 dl, .int .i64 bu, .slice pa pr.length pc] 52)).cell? ⟨W.heap.size, 0, none⟩ = some (.string (B nm)) := HQX.out.cell 0 (by simp)
          have m1 : (W.alloc (.cells #[.string (B nm), .int .i64 pd, .int .i64 dl, .int .i64 bu, .slice pa pr.length pc] 52)).cell? ⟨W.heap.size, 1, none⟩ = some (.int .i64 pd) := HQX.out.cell 1 (by simp)
          have m2 : (W.alloc (.cells #[.string (B nm), .int .i64 pd, .int .i64 dl, .int .i64 bu, .slice pa pr.length pc] 52)).cell? ⟨W.heap.size, 2, none⟩ = some (.int .i64 dl) := HQX.out.cell 2 (by simp)
          have m3 : (W.alloc (.cells #[.string (B nm), .int .i64 pd, .int .i64 dl, .int .i64 bu, .slice pa pr.length pc] 52)).cell? ⟨W.heap.size, 3, none⟩ = some (.int .i64 bu) := HQX.out.cell 3 (by simp)
          have HAP : Hid (AtP w pa pr) := hat
          clear htj hdr ht1 ht2 ht3 hmem hat HX HNX HW
          go_wp2_with fail
          have SD := (Kept.refl (W.alloc (.cells #[.string (B nm), .int .i64 pd, .int .i64 dl, .int .i64 bu, .slice pa pr.length pc] 52))).drew
          have d0 := SD.cell m0
          have d1 := SD.cell m1
          have d2 := SD.cell m2
          have d3 := SD.cell m3
          go_region_held3 (fun w' => w'.cell? ⟨W.heap.size, 0, none⟩ = some (.string (B nm)) ∧ w'.cell? ⟨W.heap.size, 1, none⟩ = some (.int .i64 pd) ∧ w'.cell? ⟨W.heap.size, 2, none⟩ = some (.int .i64 dl) ∧ w'.cell? ⟨W.heap.size, 3, none⟩ = some (.int .i64 bu)) (first | assumption | exact ⟨d0, d1, d2, d3⟩ | exact ⟨p0, p1, p2, p3⟩ | exact ⟨q0, q1, q2, q3⟩ | exact ⟨r0, r1, r2, r3⟩) (first | (go_at_call 25; with_reducible refine (HC1.out _ KQD).mono ?_; rintro e w6 ⟨rfl, T6⟩; have N1 := KQD.trans T6; have S1 := SD.trans T6; have p0 := S1.cell m0; have p1 := S1.cell m1; have p2 := S1.cell m2; have p3 := S1.cell m3) | (go_at_call 25; with_reducible refine (HC2.out _ N1).mono ?_; rintro e w7 ⟨rfl, T7⟩; have N2 := N1.trans T7; have S2 := S1.trans T7; have q0 := S2.cell m0; have q1 := S2.cell m1; have q2 := S2.cell m2; have q3 := S2.cell m3) | (go_at_call 25; with_reducible refine (HC3.out _ N2).mono ?_; rintro e w8 ⟨rfl, T8⟩; have N3 := N2.trans T8; have S3 := S2.trans T8; have r0 := S3.cell m0; have r1 := S3.cell m1; have r2 := S3.cell m2; have r3 := S3.cell m3) | fail)
          have HQ8 : Hid (Box W.heap.size w8 52 W.heap.size [.string (B nm), .int .i64 pd, .int .i64 dl, .int .i64 bu, .slice pa pr.length pc]) := HQX.out.kept S3
          have K8 := K.trans N3
          clear d0 d1 d2 d3 SD m0 m1 m2 m3 p0 p1 p2 p3 q0 q1 q2 q3 r0 r1 r2 r3 S1 S2 N1 N2 T6 T7 T8 HC1 HC2 HC3 HQX KQ KQD
          clear Hx1 Hx2 Hx3 Hx4 Hx5 Hx6 Hx7 Hx8 adx1 adx2 adx3 adx4 adx5 adx6 adx7 adx8 adx9
          go_wp2_with fail
          go_loopg [6, 10] pr.length (fun gk ls is wr => ∃ (k : Nat) (l : List UInt8) (W2 : World), W2 = wr ∧ ls = .string (B l) ∧ is = .int .i64 k ∧ k + gk = pr.length ∧ Hid (textS L cs ts = l ++ ((pr.drop k).flatMap opL ++ (ts.drop (j + 1)).flatMap taskL)) ∧ Kept w8 W2)
          case atStart => exact ⟨0, _, _, rfl, rfl, rfl, by omega, HNY, Kept.refl _⟩
          case round =>
            obtain ⟨k, l, W2, hW, rfl, rfl, hk, HX, KW2⟩ := hrel
            subst hW
            have u4 : W2.cell? ⟨W.heap.size, 4, none⟩ = some (.slice pa pr.length pc) := (HQ8.out.kept KW2).cell 4 (by simp)
            by_cases hkn : k < pr.length
            · have b5 : (k : Int) < (pr.length : Int) := by omega
              have b6 : (0 : Int) ≤ (k : Int) := by omega
              have b7 : (k : Int) < (pc : Int) := by omega
              obtain ⟨gi, rfl⟩ : ∃ g, gk = g + 1 := ⟨gk - 1, by omega⟩
              obtain ⟨ob, of, kd, n, v, wt, lc, oa, oc, rfl, hoj, y0, y1, y2, y3, y4, hoc, hca, _, hdo⟩ := HAP.out.get k hkn
              have KWW := K2.trans (K8.trans KW2)
              have c0 := KWW.cell y0
              have c1 := KWW.cell y1
              have c2 := KWW.cell y2
              have c3 := KWW.cell y3
              have c4 := KWW.cell y4
              have hom := List.mem_of_getElem? hoj
              have hcd := (taken_prog HPK.out).2.1 _ hom
              have hpl := (taken_prog HPK.out).1
              have hin64 := HPI.out _ hom
              have hlc : lc.length ≤ 20 := by
                have h1 := taken_of hcd
                have h2 := h1.takes
                by_cases hp : (shapeOf kd.toNat).picks = true
                · have := h1.many hp
                  simp only at this
                  omega
                · simp only [takesB, Bool.and_eq_true, Bool.or_eq_true] at h2
                  rcases h2.2 with h3 | h3
                  · exact absurd h3 hp
                  · have := eq_of_beq h3
                    omega
              have HNX : Hid (textS L cs ts = (l ++ opL ⟨kd, n, v, wt, lc⟩) ++ ((pr.drop (k + 1)).flatMap opL ++ (ts.drop (j + 1)).flatMap taskL)) := by
                show _ = _
                rw [HX.out, hdo, List.flatMap_cons]
                simp [List.append_assoc]
              have hot := roptext_any kd n v wt oa lc.length oc lc W2 (hca.kept KWW) hlc hcd hin64
              have hnt : (textD ⟨kd, n, v, wt, lc⟩).length ≤ 1000000 := by
                have h := HLN.out
                rw [HNX.out, List.length_append, List.length_append, opL_eq, List.length_append] at h
                omega
              have HW : Hid (opL ⟨kd, n, v, wt, lc⟩ = textD ⟨kd, n, v, wt, lc⟩ ++ [10]) := opL_eq _
              obtain ⟨tx, htx⟩ : ∃ t, textD ⟨kd, n, v, wt, lc⟩ = t := ⟨_, rfl⟩
              rw [htx] at hot hnt HW
              obtain ⟨z1, Hz1⟩ := some_eq (l ++ tx)
              obtain ⟨z2, Hz2⟩ := some_eq (z1 ++ [10])
              have HNY : Hid (textS L cs ts = z2 ++ ((pr.drop (k + 1)).flatMap opL ++ (ts.drop (j + 1)).flatMap taskL)) := by
                show _ = _
                rw [HNX.out, HW.out, Hz2.out, Hz1.out]
                simp only [List.append_assoc]
              have hbz2 : z2.length ≤ 1000000 := by
                have h := HLN.out
                rw [HNY.out, List.length_append] at h
                omega
              have hbz1 : z1.length ≤ 1000000 := by
                have h := hbz2
                rw [Hz2.out, List.length_append] at h
                omega
              have hbl : l.length ≤ 1000000 := by
                have h := hbz1
                rw [Hz1.out, List.length_append] at h
                omega
              have adz1 := add_to l (tx) z1 Hz1.out hbl (by omega)
              have adz2 := add_to z1 ([10]) z2 Hz2.out hbz1 (by simp)
              rw [show B [10] = ⟨#[10]⟩ from rfl] at adz2
              clear hbz1 hbz2 hbl
              clear y0 y1 y2 y3 y4 hoj hom hcd hin64 hca hdo htx HX HNX HW
              go_wp2_with fail
              refine hot.mono ?_
              rintro e x6 ⟨rfl, T6⟩
              clear hot
              go_wp2_with fail
              go_roundg gi
              case rel => exact ⟨k + 1, _, _, rfl, rfl, by go_num, by omega, HNY, KW2.trans T6⟩
              case measure => omega
            · have b5 : ¬ (k : Int) < (pr.length : Int) := by omega
              have HX9 : Hid (textS L cs ts = l ++ (ts.drop (j + 1)).flatMap taskL) := by
                show _ = _
                rw [HX.out, List.drop_eq_nil_of_le (show pr.length ≤ k by omega)]
                rfl
              go_wp2_with fail
              go_roundg gm
              case rel => exact ⟨j + 1, _, _, rfl, rfl, by go_num, by omega, HX9, K8.trans KW2⟩
              case measure => omega
        · have b3 : ¬ (j : Int) < (ts.length : Int) := by omega
          have htl := HX.out
          rw [List.drop_eq_nil_of_le (show ts.length ≤ j by omega), List.flatMap_nil, List.append_nil] at htl
          subst htl
          go_wp2_with fail
          go_ret2
          exact ⟨rfl, K2.trans K⟩
end Go.Proofs.YtolljdomnohmdaaGreatDoor
namespace Go.Proofs.YtolljdomnohmdaaGreatDoor
open Go.RowKit Go.Shelf

theorem sameCs_self : ∀ cs : List ChanD, sameCs cs cs = true
  | [] => rfl
  | c :: r => by
    have ih := sameCs_self r
    simp [sameCs, sameH, ih]
theorem sameP_self : ∀ p : List OpD, sameP p p = true
  | [] => rfl
  | o :: r => by
    have ih := sameP_self r
    simp [sameP, sameD_self, ih]
theorem sameTs_self : ∀ ts : List TaskD, sameTs ts ts = true
  | [] => rfl
  | t :: r => by
    have ih := sameTs_self r
    simp [sameTs, sameT, sameP_self, ih]
theorem sameS_self (L : Int) (cs : List ChanD) (ts : List TaskD) : sameS L cs ts L cs ts = true := by simp [sameS, sameCs_self, sameTs_self]
theorem wd_len {ws : List (List UInt8)} (h : ∀ x ∈ ws, x.length ≤ 60) (hn : ws.length ≤ 5) : (joinW ws).length ≤ 1000 := by
  have := wl_len ws h hn
  unfold wlD at this
  rw [List.length_append] at this
  omega
/-- The lines of a printed set are not too long. -/
theorem lines_long {L : Int} {cs : List ChanD} {ts : List TaskD} (h : SetOk L cs ts) (hi : ∀ t ∈ ts, ∀ o ∈ t.prog, In64 o) : ∀ x ∈ linesS L cs ts, x.length ≤ 1000 := by
  intro x hx
  unfold linesS at hx
  rw [List.mem_cons, List.mem_append] at hx
  rcases hx with rfl | hx | hx
  · refine wd_len (fun x hx => ?_) (by simp)
    have h1 := itoa_len (in64_of (n := L) (by have := h.L0; omega) (by have := h.L0; omega))
    simp only [List.mem_cons, List.not_mem_nil, or_false] at hx
    rcases hx with rfl | rfl
    · decide
    · omega
  · obtain ⟨c, hc, rfl⟩ := List.mem_map.1 hx
    exact wd_len (chanWs_bd (h.ch c hc)) (by simp [chanWs])
  · obtain ⟨t, ht, hx⟩ := List.mem_flatMap.1 hx
    unfold taskLs at hx
    rw [List.mem_cons] at hx
    rcases hx with rfl | hx
    · exact wd_len (taskWs_bd (h.nm t ht).1 (h.tm t ht)) (by simp [taskWs])
    · obtain ⟨o, ho, rfl⟩ := List.mem_map.1 hx
      have := textD_bd ((taken_prog (h.pg t ht)).2.1 o ho) (hi t ht o ho)
      omega
theorem lines_many : ∀ ts : List TaskD, (∀ t ∈ ts, t.prog.length ≤ 48) → (ts.flatMap taskLs).length ≤ ts.length * 49
  | [], _ => by simp
  | t :: r, h => by
    have ih := lines_many r (fun u hu => h u (by simp [hu]))
    have h1 := h t (by simp)
    rw [List.flatMap_cons, List.length_append, List.length_cons]
    unfold taskLs
    rw [List.length_cons, List.length_map]
    unfold taskLs at ih
    omega
theorem lines_few {L : Int} {cs : List ChanD} {ts : List TaskD} (h : SetOk L cs ts) : (linesS L cs ts).length ≤ 100000 := by
  have h1 := lines_many ts (fun t ht => (taken_prog (h.pg t ht)).1)
  have h2 := h.nc
  have h3 := h.nt.2
  unfold linesS
  rw [List.length_cons, List.length_append, List.length_map]
  have : ts.length * 49 ≤ 12 * 49 := Nat.mul_le_mul_right _ h3
  omega
theorem linesOf_textS {L : Int} {cs : List ChanD} {ts : List TaskD} (h : SetOk L cs ts) : linesOf (textS L cs ts) = linesS L cs ts := by
  rw [textS_put]
  exact lines_putL _ (linesS_bytes h)
set_option maxHeartbeats 8000000 in
set_option maxRecDepth 20000 in
theorem tells_law (L : Int) (ca ta : Option Addr) (cc tc : Nat) (cs : List ChanD) (ts : List TaskD) (w : World) (hr : Rdy w) (hH : AtH w ca cs) (hA : AtT w ta ts) (hi : ∀ t ∈ ts, ∀ o ∈ t.prog, In64 o) :
    Calls Tryz.prog 3 #[.agg #[.int .i64 L, .slice ca cs.length cc, .slice ta ts.length tc]] w fun e w' => e = .returned (.bool true) ∧ Kept w w' := by
  have HR : Hid (Rdy w) := hr
  have HH : Hid (AtH w ca cs) := hH
  have HA : Hid (AtT w ta ts) := hA
  have HI : Hid (∀ t ∈ ts, ∀ o ∈ t.prog, In64 o) := hi
  have hkn := fun wx (kx : Kept w wx) => tknown_any wx (HR.out.kept kx)
  have hfw := fun wx (kx : Kept w wx) => sfew_any L ca ta cc tc cs ts wx (HA.out.kept kx)
  clear hr hH hA hi
  have KB : Kept w (w.alloc (.cells #[.int .i64 L, .slice ca cs.length cc, .slice ta ts.length tc] 25)) := (Kept.refl w).alloc _
  have HBX : Hid (Box w.heap.size (w.alloc (.cells #[.int .i64 L, .slice ca cs.length cc, .slice ta ts.length tc] 25)) 25 w.heap.size [.int .i64 L, .slice ca cs.length cc, .slice ta ts.length tc]) := box_new w.heap.size w 25 [.int .i64 L, .slice ca cs.length cc, .slice ta ts.length tc] (Nat.le_refl _) (by simp)
  go_enter Tryz.func3, Tryz.ntmps3
  go_wp2_with fail
  refine (hkn _ KB).mono ?_
  rintro e w1 ⟨rfl, K1⟩
  have K01 : Kept w w1 := KB.trans K1
  have HB1 : Hid (Box w.heap.size w1 25 w.heap.size [.int .i64 L, .slice ca cs.length cc, .slice ta ts.length tc]) := HBX.out.kept K1
  clear hkn K1 HBX KB
  have s0 : w1.cell? ⟨w.heap.size, 0, none⟩ = some (.int .i64 L) := HB1.out.cell 0 (by simp)
  have s1 : w1.cell? ⟨w.heap.size, 1, none⟩ = some (.slice ca cs.length cc) := HB1.out.cell 1 (by simp)
  have s2 : w1.cell? ⟨w.heap.size, 2, none⟩ = some (.slice ta ts.length tc) := HB1.out.cell 2 (by simp)
  have hfw1 := hfw w1 K01
  obtain ⟨fw, hfw2⟩ : ∃ b, fewS cs ts = b := ⟨_, rfl⟩
  rw [hfw2] at hfw1
  clear hfw
  go_wp2_with fail
  refine hfw1.mono ?_
  rintro e w2 ⟨rfl, K2⟩
  have K02 := K01.trans K2
  have HB2 : Hid (Box w.heap.size w2 25 w.heap.size [.int .i64 L, .slice ca cs.length cc, .slice ta ts.length tc]) := HB1.out.kept K2
  clear hfw1 s0 s1 s2 HB1 K2 K01
  cases fw with
  | false =>
    go_wp2_with fail
    go_ret
    exact ⟨rfl, K02⟩
  | true =>
    obtain ⟨hl1, hl2, hok⟩ := fewS_ok hfw2
    have HOK : Hid (TsOk ts) := hok
    clear hok hfw2
    have s0 : w2.cell? ⟨w.heap.size, 0, none⟩ = some (.int .i64 L) := HB2.out.cell 0 (by simp)
    have s1 : w2.cell? ⟨w.heap.size, 1, none⟩ = some (.slice ca cs.length cc) := HB2.out.cell 1 (by simp)
    have s2 : w2.cell? ⟨w.heap.size, 2, none⟩ = some (.slice ta ts.length tc) := HB2.out.cell 2 (by simp)
    have hto := sto_any L ca ta cc tc cs ts w2 (HH.out.kept K02) (HA.out.kept K02) HOK.out (by omega) (by omega)
    go_wp2_with fail
    refine hto.mono ?_
    rintro e w3 ⟨ca3, cc3, ta3, tc3, rfl, hH3, hT3, _, K3⟩
    have K03 := K02.trans K3
    have HB3 : Hid (Box w.heap.size w3 25 w.heap.size [.int .i64 L, .slice ca cs.length cc, .slice ta ts.length tc]) := HB2.out.kept K3
    have hpr := print_any L ca3 ta3 cc3 tc3 cs ts w3 (HR.out.kept K03) hH3 hT3 HOK.out (by omega) (by omega) HI.out
    obtain ⟨q2, hq2⟩ : ∃ q, (checkS L cs ts).2 = q := ⟨_, rfl⟩
    obtain ⟨tx, htx⟩ : ∃ z, (if q2 = 0 then textS L cs ts else []) = z := ⟨_, rfl⟩
    rw [hq2, htx] at hpr
    clear hto s0 s1 s2 hH3 hT3 HB2
    go_wp2_with fail
    refine hpr.mono ?_
    rintro e w4 ⟨rfl, K4⟩
    have K04 := K03.trans K4
    have HB4 : Hid (Box w.heap.size w4 25 w.heap.size [.int .i64 L, .slice ca cs.length cc, .slice ta ts.length tc]) := HB3.out.kept K4
    have s0 : w4.cell? ⟨w.heap.size, 0, none⟩ = some (.int .i64 L) := HB4.out.cell 0 (by simp)
    have s1 : w4.cell? ⟨w.heap.size, 1, none⟩ = some (.slice ca cs.length cc) := HB4.out.cell 1 (by simp)
    have s2 : w4.cell? ⟨w.heap.size, 2, none⟩ = some (.slice ta ts.length tc) := HB4.out.cell 2 (by simp)
    have hrp := rprint_any L ca ta cc tc cs ts w4 (HH.out.kept K04) (HA.out.kept K04) HOK.out (by omega) (by omega) HI.out
    rw [hq2, htx] at hrp
    clear hpr HB3 K3 K4 K03 K02
    go_wp2_with fail
    refine hrp.mono ?_
    rintro e w5 ⟨rfl, K5⟩
    have K05 := K04.trans K5
    have HB5 : Hid (Box w.heap.size w5 25 w.heap.size [.int .i64 L, .slice ca cs.length cc, .slice ta ts.length tc]) := HB4.out.kept K5
    clear hrp s0 s1 s2 HB4
    by_cases hq : q2 = 0
    rotate_left
    · have hne : (q2 != 0) = true := by simpa using hq
      go_wp2_with fail
      go_ret
      exact ⟨rfl, K05⟩
    subst hq
    rw [if_pos rfl] at htx
    have HS : SetOk L cs ts := set_ok hq2
    have hpa := tparse_any (textS L cs ts) (textS_len HS HI.out) (by rw [linesOf_textS HS]; exact lines_few HS) (by rw [linesOf_textS HS]; exact lines_long HS HI.out) w5 (HR.out.kept K05)
    rw [parse_textS hq2 HI.out, htx] at hpa
    clear hq2 htx HS K04 K5
    go_wp2_with fail
    refine hpa.mono ?_
    rintro e w6 ⟨ca6, cc6, ta6, tc6, rfl, hH6, hT6, K6⟩
    have K06 := K05.trans K6
    have HB6 : Hid (Box w.heap.size w6 25 w.heap.size [.int .i64 L, .slice ca cs.length cc, .slice ta ts.length tc]) := HB5.out.kept K6
    have KX := (Kept.refl w6).alloc (.cells #[.int .i64 L, .slice ca6 cs.length cc6, .slice ta6 ts.length tc6] 34)
    have HX6 : Hid (Box w.heap.size (w6.alloc (.cells #[.int .i64 L, .slice ca6 cs.length cc6, .slice ta6 ts.length tc6] 34)) 34 w6.heap.size [.int .i64 L, .slice ca6 cs.length cc6, .slice ta6 ts.length tc6]) := box_new w.heap.size w6 34 [.int .i64 L, .slice ca6 cs.length cc6, .slice ta6 ts.length tc6] K06.size (by simp)
    have KD := (Kept.refl (w6.alloc (.cells #[.int .i64 L, .slice ca6 cs.length cc6, .slice ta6 ts.length tc6] 34))).drew
    have HOF : Hid (∀ wx, Kept (w6.alloc (.cells #[.int .i64 L, .slice ca6 cs.length cc6, .slice ta6 ts.length tc6] 34)) wx → Calls Tryz.prog 13 #[.agg #[.int .i64 L, .slice ca6 cs.length cc6, .slice ta6 ts.length tc6]] wx fun e w' => ∃ ca' cc' ta' tc', e = .returned (.agg #[.int .i64 L, .slice ca' cs.length cc', .slice ta' ts.length tc']) ∧ AtH w' ca' cs ∧ AtT w' ta' ts ∧ (∀ b f, ta' = some ⟨b, f, none⟩ → wx.heap.size ≤ b ∧ f = 0) ∧ Kept wx w') := fun wx kx => OfS.sof_any L ca6 ta6 cc6 tc6 cs ts wx ((hH6.kept KX).kept kx) ((hT6.kept KX).kept kx) HOK.out (by omega) (by omega)
    have K07 := K06.trans KX
    have HSS : Hid (∀ wx ca8 cc8 ta8 tc8, Kept w wx → AtH wx ca8 cs → AtT wx ta8 ts → Calls Tryz.prog 12 #[.agg #[.int .i64 L, .slice ca8 cs.length cc8, .slice ta8 ts.length tc8], .agg #[.int .i64 L, .slice ca cs.length cc, .slice ta ts.length tc]] wx fun e w' => e = .returned (.bool true) ∧ Kept wx w') := by
      intro wx ca8 cc8 ta8 tc8 kx h1 h2
      have h := rsset_any L L ca8 ca ta8 ta cc8 cc tc8 tc cs cs ts ts wx h1 (HH.out.kept kx) h2 (HA.out.kept kx) (by omega) (by omega) HOK.out
      rw [sameS_self] at h
      exact h
    have HB7 : Hid (Box w.heap.size (w6.alloc (.cells #[.int .i64 L, .slice ca6 cs.length cc6, .slice ta6 ts.length tc6] 34)) 25 w.heap.size [.int .i64 L, .slice ca cs.length cc, .slice ta ts.length tc]) := HB6.out.kept KX
    have hS0 : (w6.alloc (.cells #[.int .i64 L, .slice ca6 cs.length cc6, .slice ta6 ts.length tc6] 34)).cell? ⟨w6.heap.size, 0, none⟩ = some (.int .i64 L) ∧ (w6.alloc (.cells #[.int .i64 L, .slice ca6 cs.length cc6, .slice ta6 ts.length tc6] 34)).cell? ⟨w6.heap.size, 1, none⟩ = some (.slice ca6 cs.length cc6) ∧ (w6.alloc (.cells #[.int .i64 L, .slice ca6 cs.length cc6, .slice ta6 ts.length tc6] 34)).cell? ⟨w6.heap.size, 2, none⟩ = some (.slice ta6 ts.length tc6) ∧ (w6.alloc (.cells #[.int .i64 L, .slice ca6 cs.length cc6, .slice ta6 ts.length tc6] 34)).cell? ⟨w.heap.size, 0, none⟩ = some (.int .i64 L) ∧ (w6.alloc (.cells #[.int .i64 L, .slice ca6 cs.length cc6, .slice ta6 ts.length tc6] 34)).cell? ⟨w.heap.size, 1, none⟩ = some (.slice ca cs.length cc) ∧ (w6.alloc (.cells #[.int .i64 L, .slice ca6 cs.length cc6, .slice ta6 ts.length tc6] 34)).cell? ⟨w.heap.size, 2, none⟩ = some (.slice ta ts.length tc) := ⟨HX6.out.cell 0 (by simp), HX6.out.cell 1 (by simp), HX6.out.cell 2 (by simp), HB7.out.cell 0 (by simp), HB7.out.cell 1 (by simp), HB7.out.cell 2 (by simp)⟩
    have hSD : (w6.alloc (.cells #[.int .i64 L, .slice ca6 cs.length cc6, .slice ta6 ts.length tc6] 34)).drew.cell? ⟨w6.heap.size, 0, none⟩ = some (.int .i64 L) ∧ (w6.alloc (.cells #[.int .i64 L, .slice ca6 cs.length cc6, .slice ta6 ts.length tc6] 34)).drew.cell? ⟨w6.heap.size, 1, none⟩ = some (.slice ca6 cs.length cc6) ∧ (w6.alloc (.cells #[.int .i64 L, .slice ca6 cs.length cc6, .slice ta6 ts.length tc6] 34)).drew.cell? ⟨w6.heap.size, 2, none⟩ = some (.slice ta6 ts.length tc6) ∧ (w6.alloc (.cells #[.int .i64 L, .slice ca6 cs.length cc6, .slice ta6 ts.length tc6] 34)).drew.cell? ⟨w.heap.size, 0, none⟩ = some (.int .i64 L) ∧ (w6.alloc (.cells #[.int .i64 L, .slice ca6 cs.length cc6, .slice ta6 ts.length tc6] 34)).drew.cell? ⟨w.heap.size, 1, none⟩ = some (.slice ca cs.length cc) ∧ (w6.alloc (.cells #[.int .i64 L, .slice ca6 cs.length cc6, .slice ta6 ts.length tc6] 34)).drew.cell? ⟨w.heap.size, 2, none⟩ = some (.slice ta ts.length tc) := hS0
    clear hpa hH6 hT6 HB5 HB6 HX6 K6 K05 K06 KX HB7
    go_wp2_with fail
    go_region_held3 (fun w' => w'.cell? ⟨w6.heap.size, 0, none⟩ = some (.int .i64 L) ∧ w'.cell? ⟨w6.heap.size, 1, none⟩ = some (.slice ca6 cs.length cc6) ∧ w'.cell? ⟨w6.heap.size, 2, none⟩ = some (.slice ta6 ts.length tc6) ∧ w'.cell? ⟨w.heap.size, 0, none⟩ = some (.int .i64 L) ∧ w'.cell? ⟨w.heap.size, 1, none⟩ = some (.slice ca cs.length cc) ∧ w'.cell? ⟨w.heap.size, 2, none⟩ = some (.slice ta ts.length tc)) (first | assumption | exact hSD | exact hS8 | exact hS9) (first | (go_at_call 13; with_reducible refine (HOF.out _ KD).mono ?_; rintro e w8 ⟨ca8, cc8, ta8, tc8, rfl, hH8, hT8, _, K8⟩; have K08 := (K07.drew).trans K8; have hS8 := And.intro (K8.cell hSD.1) (And.intro (K8.cell hSD.2.1) (And.intro (K8.cell hSD.2.2.1) (And.intro (K8.cell hSD.2.2.2.1) (And.intro (K8.cell hSD.2.2.2.2.1) (K8.cell hSD.2.2.2.2.2)))))) | (go_at_call 12; with_reducible refine (HSS.out _ ca8 cc8 ta8 tc8 K08 hH8 hT8).mono ?_; rintro e w9 ⟨rfl, K9⟩; have hS9 := And.intro (K9.cell hS8.1) (And.intro (K9.cell hS8.2.1) (And.intro (K9.cell hS8.2.2.1) (And.intro (K9.cell hS8.2.2.2.1) (And.intro (K9.cell hS8.2.2.2.2.1) (K9.cell hS8.2.2.2.2.2)))))) | fail)
    all_goals go_wp2_with fail
    go_ret
    exact ⟨rfl, K08.trans K9⟩
end Go.Proofs.YtolljdomnohmdaaGreatDoor
