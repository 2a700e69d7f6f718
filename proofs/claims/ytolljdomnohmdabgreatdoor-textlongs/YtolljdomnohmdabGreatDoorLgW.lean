/- TextLongs, walked. -/
import Derived.Test.YtolljdomnohmdabGreatDoorM20
import Derived.Test.YtolljdomnohmdabGreatDoorM21
import Derived.Test.YtolljdomnohmdabGreatDoorM15
namespace Go.Proofs.YtolljdomnohmdabGreatDoor
open Go.RowKit Go.Shelf

theorem name_text (W : World) (u : UInt8) : (convert 23 9 (.slice (some ⟨W.heap.size, 0, none⟩) 1 1)).run Tryz.prog (W.alloc (.cells #[.int .u8 (u.toNat : Int)] 5)) = .ok (.string (B [u])) (W.alloc (.cells #[.int .u8 (u.toNat : Int)] 5)) := by
  refine run_convert_bytes_back (P := Tryz.prog) _ 23 9 5 ⟨W.heap.size, 0, none⟩ 1 [u] Tryz.underlying23 Tryz.underlying5 Tryz.underlying9 ?_
  intro j hj
  obtain rfl : j = 0 := by simp at hj; omega
  rw [Addr.add_lit, Nat.zero_add, World.cell?_alloc_at _ _ _ _ rfl]
  rfl
theorem name_at (W : World) (i : Nat) (hi : i < 13) : (convert 23 9 (.slice (some ⟨W.heap.size, 0, none⟩) 1 1)).run Tryz.prog (W.alloc (.cells #[.int .u8 (97 + (i : Int))] 5)) = .ok (.string (B [UInt8.ofNat (97 + i)])) (W.alloc (.cells #[.int .u8 (97 + (i : Int))] 5)) := by
  have h := name_text W (UInt8.ofNat (97 + i))
  rw [show (((UInt8.ofNat (97 + i)).toNat : Nat) : Int) = 97 + (i : Int) by simp; omega] at h
  exact h
theorem add_chan (a : List (List UInt8)) : B (putL a) ++ ⟨#[99, 104, 97, 110, 32, 49, 32, 45, 10]⟩ = B (putL (a ++ [chLn])) := add_line a chLn
theorem add_rn (a : List (List UInt8)) : B (putL a) ++ ⟨#[114, 117, 110, 32, 49, 10]⟩ = B (putL (a ++ [rnLn])) := add_line a rnLn
theorem add_task (a : List (List UInt8)) (i : Nat) : B (putL a) ++ ⟨#[116, 97, 115, 107, 32]⟩ ++ B [UInt8.ofNat (97 + i)] ++ ⟨#[32, 57, 57, 32, 57, 57, 32, 57, 57, 10]⟩ = B (putL (a ++ [tkLn i])) := by
  rw [show (⟨#[116, 97, 115, 107, 32]⟩ : ByteArray) = B [116, 97, 115, 107, 32] from rfl, show (⟨#[32, 57, 57, 32, 57, 57, 32, 57, 57, 10]⟩ : ByteArray) = B [32, 57, 57, 32, 57, 57, 32, 57, 57, 10] from rfl, B_add, B_add, B_add, putL_snoc]
  simp [tkLn]
set_option maxHeartbeats 8000000 in
set_option maxRecDepth 20000 in
theorem longs_law (n m k : Int) (hn0 : 0 ≤ n) (_hn1 : n ≤ 255) (hm0 : 0 ≤ m) (_hm1 : m ≤ 255) (hk0 : 0 ≤ k) (_hk1 : k ≤ 255) (w : World) (hr : Rdy w) :
    Calls Tryz.prog 3 #[.int .u8 n, .int .u8 m, .int .u8 k] w fun e w' => e = .returned (.bool true) ∧ Kept w w' := by
  have HR : Hid (Rdy w) := hr
  have hkn := tknown_any w hr
  obtain ⟨a, ha⟩ : ∃ a : Nat, n % 13 = (a : Int) := ⟨(n % 13).toNat, by omega⟩
  obtain ⟨b, hb⟩ : ∃ b : Nat, m % 10 = (b : Int) := ⟨(m % 10).toNat, by omega⟩
  obtain ⟨c, hc⟩ : ∃ c : Nat, k % 50 = (c : Int) := ⟨(k % 50).toNat, by omega⟩
  have ha1 : a ≤ 12 := by omega
  have hb1 : b ≤ 9 := by omega
  have hc1 : c ≤ 49 := by omega
  have f1 : n.tmod 13 = (a : Int) := by rw [Int.tmod_eq_emod_of_nonneg hn0, ha]
  have f2 : m.tmod 10 = (b : Int) := by rw [Int.tmod_eq_emod_of_nonneg hm0, hb]
  have f3 : k.tmod 50 = (c : Int) := by rw [Int.tmod_eq_emod_of_nonneg hk0, hc]
  clear hr ha hb hc
  go_enter Tryz.func3, Tryz.ntmps3
  go_wp2_with fail
  refine hkn.mono ?_
  rintro e w1 ⟨rfl, K1⟩
  clear hkn
  go_wp2_with fail
  go_loopg [10, 11] b (fun gk ss i wr => ∃ (j : Nat) (l : List UInt8), w1 = wr ∧ ss = .string (B l) ∧ i = .int .i64 j ∧ j + gk = b ∧ Hid (putL (linC j) = l))
  case atStart => exact ⟨0, _, rfl, rfl, rfl, by omega, rfl⟩
  case round =>
    obtain ⟨j, l, hW, rfl, rfl, hj, HL⟩ := hrel
    subst hW
    by_cases hjl : j < b
    · obtain ⟨g, rfl⟩ : ∃ g, gk = g + 1 := ⟨gk - 1, by omega⟩
      have b1 : (j : Int) < (b : Int) := by omega
      have hsl : (B l).size = l.length := B_size l
      have hlen : l.length ≤ 110000 := by rw [← HL.out]; exact linC_put (by omega)
      have hcat := add_chan (linC j)
      rw [HL.out, ← linC_next] at hcat
      obtain ⟨l2, hl2⟩ : ∃ z, putL (linC (j + 1)) = z := ⟨_, rfl⟩
      rw [hl2] at hcat
      have HL2 : Hid (putL (linC (j + 1)) = l2) := hl2
      clear hl2 HL
      go_wp2_with fail
      go_roundg g
      case rel => exact ⟨j + 1, l2, rfl, by first | rfl | rw [hcat], by go_num, by omega, HL2⟩
      case measure => omega
    · have b1 : ¬ (j : Int) < (b : Int) := by omega
      obtain rfl : j = b := by omega
      clear b1 hj
      go_wp2_with fail
      go_loopg [10, 12] (a + 1) (fun gk ss ii wr => ∃ (wv : World) (i : Nat) (l : List UInt8), wv = wr ∧ Kept w wv ∧ ss = .string (B l) ∧ ii = .int .i64 i ∧ i + gk = a + 1 ∧ Hid (putL (linT j (c + 1) i) = l))
      case atStart => exact ⟨w1, 0, l, rfl, K1, rfl, rfl, by omega, by show _ = _; rw [linC_T]; exact HL.out⟩
      case round =>
        obtain ⟨wr, i, l, hW, K2, rfl, rfl, hi, HL⟩ := hrel
        subst hW
        by_cases hil : i < a + 1
        · obtain ⟨g, rfl⟩ : ∃ g, gk = g + 1 := ⟨gk - 1, by omega⟩
          have b1 : (i : Int) < 1 + (a : Int) := by omega
          have hsl : (B l).size = l.length := B_size l
          have hlen : l.length ≤ 110000 := by rw [← HL.out]; exact linT_put hb1 (by omega) (by omega)
          have hcat := add_task (linT j (c + 1) i) i
          rw [HL.out] at hcat
          obtain ⟨l2, hl2⟩ : ∃ z, putL (linT j (c + 1) i ++ [tkLn i]) = z := ⟨_, rfl⟩
          rw [hl2] at hcat
          have HL2 : Hid (putL (linT j (c + 1) i ++ [tkLn i]) = l2) := hl2
          have hconv := name_at wr i (by omega)
          have hsn : (B [UInt8.ofNat (97 + i)]).size = 1 := rfl
          obtain ⟨bn, hbn⟩ : ∃ z, B [UInt8.ofNat (97 + i)] = z := ⟨_, rfl⟩
          rw [hbn] at hcat hconv hsn
          have hs2 : (B l ++ ⟨#[116, 97, 115, 107, 32]⟩).size = l.length + 5 := by rw [ByteArray.size_append, hsl]; rfl
          have hs3 : (B l ++ ⟨#[116, 97, 115, 107, 32]⟩ ++ bn).size = l.length + 6 := by rw [ByteArray.size_append, hs2, hsn]
          have hsl2 : (B l2).size = l2.length := B_size l2
          have hlen2 : l2.length ≤ 120000 := by rw [← hl2]; exact put_task hb1 (by omega) (by omega)
          have KA : Kept w (wr.alloc (.cells #[.int .u8 (97 + (i : Int))] 5)) := K2.alloc _
          clear hbn hl2 HL
          by_cases hi0 : i = 0
          · have HZ : Hid (putL (linR j 0) = l2) := by show _ = _; rw [← linR_0 j (c + 1), ← HL2.out, hi0]
            have n1 : ¬ (i : Int) > 0 := by omega
            have HI0 : Hid (i = 0) := hi0
            clear HL2 hi0
            go_wp2_with fail
            go_loopg [10, 13] (c + 1) (fun gq ss jj wq => ∃ (q : Nat) (l : List UInt8), wr.alloc (.cells #[.int .u8 (97 + (i : Int))] 5) = wq ∧ ss = .string (B l) ∧ jj = .int .i64 q ∧ q + gq = c + 1 ∧ Hid (putL (linR j q) = l))
            case atStart => exact ⟨0, l2, rfl, rfl, rfl, by omega, HZ⟩
            case round =>
              obtain ⟨q, lq, hW, rfl, rfl, hq, HLQ⟩ := hrel
              subst hW
              by_cases hqc : q < c + 1
              · obtain ⟨gr, rfl⟩ : ∃ g, gk = g + 1 := ⟨gk - 1, by omega⟩
                have q1 : (q : Int) < 1 + (c : Int) := by omega
                have hslq : (B lq).size = lq.length := B_size lq
                have hlenq : lq.length ≤ 110000 := by rw [← HLQ.out]; exact linR_put hb1 (by omega)
                have hcatq := add_rn (linR j q)
                rw [HLQ.out, linR_next] at hcatq
                obtain ⟨l3, hl3⟩ : ∃ z, putL (linR j (q + 1)) = z := ⟨_, rfl⟩
                rw [hl3] at hcatq
                have HL3 : Hid (putL (linR j (q + 1)) = l3) := hl3
                clear hl3 HLQ
                go_wp2_with fail
                go_roundg gr
                case rel => exact ⟨q + 1, l3, rfl, by first | rfl | rw [hcatq], by go_num, by omega, HL3⟩
                case measure => omega
              · have q1 : ¬ (q : Int) < 1 + (c : Int) := by omega
                have HLC : Hid (putL (linT j (c + 1) (i + 1)) = lq) := by show _ = _; rw [HI0.out, ← linR_c, show c + 1 = q by omega]; exact HLQ.out
                clear HLQ
                go_wp2_with fail
                go_roundg g
                case rel => exact ⟨_, i + 1, lq, rfl, KA, rfl, by go_num, by omega, HLC⟩
                case measure => omega
          · have p1 : (i : Int) > 0 := by omega
            have hcat2 := add_rn (linT j (c + 1) i ++ [tkLn i])
            rw [HL2.out, linT_more _ _ _ hi0] at hcat2
            obtain ⟨l3, hl3⟩ : ∃ z, putL (linT j (c + 1) (i + 1)) = z := ⟨_, rfl⟩
            rw [hl3] at hcat2
            have HL3 : Hid (putL (linT j (c + 1) (i + 1)) = l3) := hl3
            clear hl3
            go_wp2_with fail
            go_roundg g
            case rel => exact ⟨_, i + 1, l3, rfl, KA, by first | rfl | rw [hcat2], by go_num, by omega, HL3⟩
            case measure => omega
        · have b1 : ¬ (i : Int) < 1 + (a : Int) := by omega
          obtain rfl : i = a + 1 := by omega
          obtain ⟨g1, g2, g3⟩ := lines_T (b := j) (c := c + 1) (a := a + 1) hb1 (by omega) (by omega)
          have hpa := tparse_any (putL (linT j (c + 1) (a + 1))) g1 g2 g3 wr (HR.out.kept K2)
          clear g1 g2 g3
          by_cases j9 : 8 < j
          · obtain rfl : j = 9 := by omega
            rw [parse_c (by omega), HL.out] at hpa
            simp only [zeroR] at hpa
            clear b1 hi
            go_wp2_with fail
            refine hpa.mono ?_
            rintro e w6 ⟨ha6, hc6, hta6, htc6, rfl, -, -, K6⟩
            go_wp2_with fail
            go_ret
            exact ⟨rfl, (K2.trans K6).alloc _⟩
          have p8 : ¬ (j : Int) > 8 := by omega
          by_cases c48 : 48 < c + 1
          · have p48 : 1 + (c : Int) > 48 := by omega
            rw [parse_o (by omega) c48 (by omega), HL.out] at hpa
            have hix : (((1 + j + 49 : Nat) : Int) == 1 + (j : Int) + 49) = true := by simp
            obtain ⟨ix, hix2⟩ : ∃ z : Int, ((1 + j + 49 : Nat) : Int) = z := ⟨_, rfl⟩
            rw [hix2] at hix
            simp only [zeroR, hix2] at hpa
            clear b1 hi hix2
            go_wp2_with fail
            refine hpa.mono ?_
            rintro e w6 ⟨ha6, hc6, hta6, htc6, rfl, -, -, K6⟩
            go_wp2_with fail
            go_ret
            exact ⟨rfl, (K2.trans K6).alloc _⟩
          have p48 : ¬ 1 + (c : Int) > 48 := by omega
          by_cases a12 : a = 12
          · have p12 : 1 + (a : Int) > 12 := by omega
            have hpt := parse_t (b := j) (c := c + 1) (by omega) (by omega)
            rw [show 13 = a + 1 by omega] at hpt
            rw [hpt, HL.out] at hpa
            have hix : (((1 + j + 1 + (c + 1) + 22 : Nat) : Int) == 1 + (j : Int) + 1 + (1 + (c : Int)) + 22) = true := by simp; omega
            obtain ⟨ix, hix2⟩ : ∃ z : Int, ((1 + j + 1 + (c + 1) + 22 : Nat) : Int) = z := ⟨_, rfl⟩
            rw [hix2] at hix
            simp only [zeroR, hix2] at hpa
            clear b1 hi hix2 hpt a12
            go_wp2_with fail
            refine hpa.mono ?_
            rintro e w6 ⟨ha6, hc6, hta6, htc6, rfl, -, -, K6⟩
            go_wp2_with fail
            go_ret
            exact ⟨rfl, (K2.trans K6).alloc _⟩
          have p12 : ¬ 1 + (a : Int) > 12 := by omega
          rw [parse_k (by omega) (by omega) (by omega), HL.out] at hpa
          simp only [tsksG_len, chsG_len] at hpa
          clear b1 hi
          go_wp2_with fail
          refine hpa.mono ?_
          rintro e w6 ⟨ha6, hc6, hta6, htc6, rfl, hH6, hT6, K6⟩
          have BX6 : Hid (Box w.heap.size (w6.alloc (.cells #[.int .i64 0, .slice ha6 j hc6, .slice hta6 (a + 1) htc6] 27)) 27 w6.heap.size [.int .i64 0, .slice ha6 j hc6, .slice hta6 (a + 1) htc6]) := box_new w.heap.size w6 27 [.int .i64 0, .slice ha6 j hc6, .slice hta6 (a + 1) htc6] (K2.trans K6).size (by simp)
          have KA6 : Kept w6 (w6.alloc (.cells #[.int .i64 0, .slice ha6 j hc6, .slice hta6 (a + 1) htc6] 27)) := (Kept.refl _).alloc _
          have K06 : Kept w (w6.alloc (.cells #[.int .i64 0, .slice ha6 j hc6, .slice hta6 (a + 1) htc6] 27)) := (K2.trans K6).alloc _
          have HH6 : Hid (AtH (w6.alloc (.cells #[.int .i64 0, .slice ha6 j hc6, .slice hta6 (a + 1) htc6] 27)) ha6 (chsG j)) := hH6.kept KA6
          have HT6 : Hid (AtT (w6.alloc (.cells #[.int .i64 0, .slice ha6 j hc6, .slice hta6 (a + 1) htc6] 27)) hta6 (tsksG (c + 1) (a + 1))) := hT6.kept KA6
          obtain ⟨b1, q1, nm, pd, dl, bu, pr, pa, pc, rfl, ht0, -, -, -, -, g4, hcc, hat, hbl, -⟩ := hT6.get 0 (by rw [tsksG_len]; omega)
          rw [tsksG_get] at ht0
          have hpr : (tskG (c + 1) 0).prog = pr := congrArg TaskD.prog (Option.some.inj ht0)
          have hpl : pr.length = c + 1 := by rw [← hpr, prog_len]
          obtain ⟨b2, q2, k', n', v', wt', l', ca', cc', rfl, hp0, o0, o1, o2, o3, o4, -, hac, hbl2, -⟩ := hat.get c (by omega)
          have hrn : run1 = ⟨k', n', v', wt', l'⟩ := by
            rw [← hpr, prog_get (by omega)] at hp0
            exact Option.some.inj hp0
          unfold run1 at hrn
          cases hrn
          rw [hpl] at g4
          rw [Nat.zero_mul, Nat.add_zero] at g4
          have y4 := KA6.cell g4
          have z0 := KA6.cell o0
          have z1 := KA6.cell o1
          have z2 := KA6.cell o2
          have z3 := KA6.cell o3
          have z4 := KA6.cell o4
          have hsa := same_any 1 1 0 0 1 1 0 0 ca' none 0 0 cc' 0 [] [] _ (hac.kept KA6) (AtC.none _) (by omega)
          rw [sameD_self] at hsa
          clear hT6 hH6 ht0 hpr hpl hp0 hat hac hcc hbl hbl2 o0 o1 o2 o3 o4 g4
          go_wp2_with fail
          refine hsa.mono ?_
          rintro e w7 ⟨rfl, K7⟩
          have BX7 : Hid (Box w.heap.size w7 27 w6.heap.size [.int .i64 0, .slice ha6 j hc6, .slice (some ⟨b1, q1, none⟩) (a + 1) htc6]) := BX6.out.kept K7
          have x0 : w7.cell? ⟨w6.heap.size, 0, none⟩ = some (.int .i64 0) := BX7.out.cell 0 (by simp)
          have x1 : w7.cell? ⟨w6.heap.size, 1, none⟩ = some (.slice ha6 j hc6) := BX7.out.cell 1 (by simp)
          have x2 : w7.cell? ⟨w6.heap.size, 2, none⟩ = some (.slice (some ⟨b1, q1, none⟩) (a + 1) htc6) := BX7.out.cell 2 (by simp)
          have hss := psame_any 0 0 ha6 ha6 (some ⟨b1, q1, none⟩) (some ⟨b1, q1, none⟩) hc6 hc6 htc6 htc6 (chsG j) (chsG j) (tsksG (c + 1) (a + 1)) (tsksG (c + 1) (a + 1)) w7 (HH6.out.kept K7) (HH6.out.kept K7) (HT6.out.kept K7) (HT6.out.kept K7) (by rw [tsksG_len]; omega) (by rw [chsG_len]; omega) (tsksG_ok (by omega))
          rw [sameS_self, tsksG_len, chsG_len] at hss
          clear hsa y4 z0 z1 z2 z3 z4
          go_wp2_with fail
          refine hss.mono ?_
          rintro e w8 ⟨rfl, K8⟩
          go_wp2_with fail
          go_ret
          exact ⟨rfl, (K06.trans K7).trans K8⟩
end Go.Proofs.YtolljdomnohmdabGreatDoor
