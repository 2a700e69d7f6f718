/- The reference's OpText of a select. -/
import Derived.Test.YtolljdomnohmdaaGreatDoorM8
import Derived.Test.YtolljdomnohmdaaGreatDoorTxt
namespace Go.Proofs.YtolljdomnohmdaaGreatDoor
open Go.RowKit

theorem joinW_send (ls : List (List UInt8)) (ch x : Int) (h : ls ≠ []) : joinW (ls ++ caseW ⟨true, ch, x⟩) = joinW ls ++ [32, 115, 101, 110, 100, 32] ++ Lib.itoa ch ++ [32] ++ Lib.itoa x := by
  rw [caseW_send, show ls ++ [sendW, Lib.itoa ch, Lib.itoa x] = ((ls ++ [sendW]) ++ [Lib.itoa ch]) ++ [Lib.itoa x] by simp, joinW_snoc _ _ (by simp), joinW_snoc _ _ (by simp), joinW_snoc _ _ h]
  simp [sendW]
theorem joinW_recv (ls : List (List UInt8)) (ch x : Int) (h : ls ≠ []) : joinW (ls ++ caseW ⟨false, ch, x⟩) = joinW ls ++ [32, 114, 101, 99, 118, 32] ++ Lib.itoa ch := by
  rw [caseW_recv, show ls ++ [recvW, Lib.itoa ch] = (ls ++ [recvW]) ++ [Lib.itoa ch] by simp, joinW_snoc _ _ (by simp), joinW_snoc _ _ h]
  simp [recvW]

set_option maxHeartbeats 8000000 in
set_option maxRecDepth 10000 in
theorem roptext_k7 (n v wt : Int) (a : Option Addr) (m c : Nat) (l : List CaseD) (w : World) (hA : AtC w a m l) (hm : m ≤ 20) (hi : In64 ⟨7, n, v, wt, l⟩) (h1 : -1 ≤ wt) :
    Calls Tryz.prog 27 #[.agg #[.int .i64 7, .int .i64 n, .int .i64 v, .int .i64 wt, .slice a m c]] w fun e w' => e = .returned (.string (B (textD ⟨7, n, v, wt, l⟩))) ∧ Kept w w' := by
  have hw : (waitT wt).length ≤ 20 := waitT_len hi.wait
  have HA : Hid (AtC w a m l) := hA
  have HL : Hid (l.length = m) := hA.1
  have HI : Hid (∀ c ∈ l, in64 c.chan ∧ in64 c.v) := hi.cases
  have HW : Hid (in64 wt) := hi.wait
  clear hA hi
  obtain ⟨s1, H1⟩ := some_eq ([115, 101, 108, 101, 99, 116] ++ [32])
  have hl1 : s1.length ≤ 100 := by rw [H1.out, List.length_append]; simp only [List.length_cons, List.length_nil]; omega
  have ad1 := add_to ([115, 101, 108, 101, 99, 116]) ([32]) s1 H1.out (by simp only [List.length_cons, List.length_nil]; omega) (by simp only [List.length_cons, List.length_nil]; omega)
  obtain ⟨s2, H2⟩ := some_eq (s1 ++ waitT wt)
  have hl2 : s2.length ≤ 200 := by rw [H2.out, List.length_append]; omega
  have ad2 := add_to (s1) (waitT wt) s2 H2.out (by omega) (by omega)
  rw [show B [115, 101, 108, 101, 99, 116] = ⟨#[115, 101, 108, 101, 99, 116]⟩ from rfl] at ad1
  rw [show B [32] = ⟨#[32]⟩ from rfl] at ad1
  have HS2 : Hid (s2 = joinW [[115, 101, 108, 101, 99, 116], waitT wt]) := by show _ = _; rw [H2.out, H1.out]; rfl
  have HT : Hid (textD ⟨7, n, v, wt, l⟩ = joinW ([[115, 101, 108, 101, 99, 116], waitT wt] ++ l.flatMap caseW)) := rfl
  go_enter Tryz.func27, Tryz.ntmps27
  go_wp2_with fail
  go_region_with (go_at_call 45; refine (words_any _).mono ?_; rintro e w1 ⟨rfl, hw1⟩; subst w1)
  all_goals
    go_wp2_with fail
    refine (rwait_any wt HW.out h1 _).mono ?_
    rintro e w2 ⟨rfl, t2⟩
    have K2 := (((Kept.refl w).alloc _).drew.alloc _).trans t2
    have ga0 := t2.cell (p := ⟨w.heap.size, 4, none⟩) (v := .slice a m c) (by go_simp)
    have GA : Hid (w2.cell? ⟨w.heap.size, 4, none⟩ = some (.slice a m c)) := ga0
    clear ga0 t2
    go_wp2_with fail
    go_loopg [3, 4] m (fun gk s i wr => ∃ (k : Nat) (acc : List UInt8), s = .string (B acc) ∧ i = .int .i64 k ∧ k + gk = m ∧ acc.length ≤ 4000 ∧ Hid (acc = joinW ([[115, 101, 108, 101, 99, 116], waitT wt] ++ (l.take k).flatMap caseW)) ∧ Kept w2 wr)
    case atStart =>
      exact ⟨0, s2, rfl, rfl, by omega, by omega, by show _ = _; rw [HS2.out]; simp, Kept.refl _⟩
    case round =>
      obtain ⟨k, acc, rfl, rfl, hk, hal, HC, T⟩ := hrel
      have ga := T.cell GA.out
      have la := cell_lt ga
      have T2 := K2.trans T
      by_cases hkm : k < m
      · obtain ⟨b, f, sd, ch, x, rfl, g0, g1, g2, hb, e1, e2, e3⟩ := (HA.out.kept T2).get k hkm
        have b1 : (k : Int) < (m : Int) := by omega
        have b2 : (0 : Int) ≤ (k : Int) := by omega
        have H64 : Hid (in64 ch ∧ in64 x) := HI.out _ (List.mem_of_getElem? e1)
        have hcl : (Lib.itoa ch).length ≤ 20 := itoa_len H64.out.1
        have hxl : (Lib.itoa x).length ≤ 20 := itoa_len H64.out.2
        have HTK : Hid (l.take (k + 1) = l.take k ++ [⟨sd, ch, x⟩]) := e2
        have hb4 : (joinW ([[115, 101, 108, 101, 99, 116], waitT wt] ++ (l.take (k + 1)).flatMap caseW)).length ≤ 4000 := by
          have h5 := joinW_le 60 ([[115, 101, 108, 101, 99, 116], waitT wt] ++ (l.take (k + 1)).flatMap caseW) (by
            intro y hy
            simp only [List.mem_append, List.mem_cons, List.not_mem_nil, or_false] at hy
            rcases hy with (rfl | rfl) | hy
            · decide
            · omega
            · exact cases_len (l.take (k + 1)) (fun d hd => HI.out d (List.mem_of_mem_take hd)) y hy)
          have h6 := words_len (l.take (k + 1))
          have h7 : (l.take (k + 1)).length ≤ 20 := by rw [List.length_take]; omega
          rw [List.length_append] at h5
          simp only [List.length_cons, List.length_nil] at h5
          omega
        have HB4 : Hid ((joinW ([[115, 101, 108, 101, 99, 116], waitT wt] ++ (l.take (k + 1)).flatMap caseW)).length ≤ 4000) := hb4
        clear e1 e2 e3 hb4
        obtain ⟨g3, rfl⟩ : ∃ g, gk = g + 1 := ⟨gk - 1, by omega⟩
        clear ad1 ad2 hl1 hl2
        cases sd with
        | true =>
          have HN : Hid (joinW ([[115, 101, 108, 101, 99, 116], waitT wt] ++ (l.take (k + 1)).flatMap caseW) = acc ++ [32, 115, 101, 110, 100, 32] ++ Lib.itoa ch ++ [32] ++ Lib.itoa x) := by
            show _ = _
            rw [HTK.out, words_snoc, ← List.append_assoc, joinW_send _ _ _ (by simp), ← HC.out]
          obtain ⟨r1, J1⟩ := some_eq (acc ++ [32, 115, 101, 110, 100, 32])
          have hm1 : r1.length ≤ 4100 := by rw [J1.out, List.length_append]; simp only [List.length_cons, List.length_nil]; omega
          have ad1 := add_to (acc) ([32, 115, 101, 110, 100, 32]) r1 J1.out (by omega) (by simp only [List.length_cons, List.length_nil]; omega)
          obtain ⟨r2, J2⟩ := some_eq (r1 ++ Lib.itoa ch)
          have hm2 : r2.length ≤ 4200 := by rw [J2.out, List.length_append]; omega
          have ad2 := add_to (r1) (Lib.itoa ch) r2 J2.out (by omega) (by omega)
          obtain ⟨r3, J3⟩ := some_eq (r2 ++ [32])
          have hm3 : r3.length ≤ 4300 := by rw [J3.out, List.length_append]; simp only [List.length_cons, List.length_nil]; omega
          have ad3 := add_to (r2) ([32]) r3 J3.out (by omega) (by simp only [List.length_cons, List.length_nil]; omega)
          obtain ⟨r4, J4⟩ := some_eq (r3 ++ Lib.itoa x)
          have hm4 : r4.length ≤ 4400 := by rw [J4.out, List.length_append]; omega
          have ad4 := add_to (r3) (Lib.itoa x) r4 J4.out (by omega) (by omega)
          rw [show B [32, 115, 101, 110, 100, 32] = ⟨#[32, 115, 101, 110, 100, 32]⟩ from rfl] at ad1
          rw [show B [32] = ⟨#[32]⟩ from rfl] at ad3
          go_wp2_with fail
          go_region_held3 (fun w' => w'.cell? ⟨wr.heap.size, 1, none⟩ = some (.int .i64 ch) ∧ w'.cell? ⟨wr.heap.size, 2, none⟩ = some (.int .i64 x)) (go_keep) (first | (go_at_call 25; refine (rword_any x H64.out.2.1 H64.out.2.2 w3).mono ?_; rintro e w4 ⟨rfl, t4⟩; have z1 := t4.cell y1; have z2 := t4.cell y2) | (go_at_call 25; refine (rword_any ch H64.out.1.1 H64.out.1.2 _).mono ?_; rintro e w3 ⟨rfl, t3⟩; have y1 := t3.cell (p := ⟨wr.heap.size, 1, none⟩) (v := .int .i64 ch) (by go_simp); have y2 := t3.cell (p := ⟨wr.heap.size, 2, none⟩) (v := .int .i64 x) (by go_simp)) | fail)
          go_wp2_with fail
          go_roundg g3
          case rel =>
            have hr4 : r4 = joinW ([[115, 101, 108, 101, 99, 116], waitT wt] ++ (l.take (k + 1)).flatMap caseW) := by rw [HN.out, J4.out, J3.out, J2.out, J1.out]
            exact ⟨k + 1, r4, rfl, by go_num, by omega, by rw [hr4]; exact HB4.out, hr4, ((((T.alloc _).drew).trans t3).trans t4)⟩
          case measure => omega
        | false =>
          have HN : Hid (joinW ([[115, 101, 108, 101, 99, 116], waitT wt] ++ (l.take (k + 1)).flatMap caseW) = acc ++ [32, 114, 101, 99, 118, 32] ++ Lib.itoa ch) := by
            show _ = _
            rw [HTK.out, words_snoc, ← List.append_assoc, joinW_recv _ _ _ (by simp), ← HC.out]
          obtain ⟨r1, J1⟩ := some_eq (acc ++ [32, 114, 101, 99, 118, 32])
          have hm1 : r1.length ≤ 4100 := by rw [J1.out, List.length_append]; simp only [List.length_cons, List.length_nil]; omega
          have ad1 := add_to (acc) ([32, 114, 101, 99, 118, 32]) r1 J1.out (by omega) (by simp only [List.length_cons, List.length_nil]; omega)
          obtain ⟨r2, J2⟩ := some_eq (r1 ++ Lib.itoa ch)
          have hm2 : r2.length ≤ 4200 := by rw [J2.out, List.length_append]; omega
          have ad2 := add_to (r1) (Lib.itoa ch) r2 J2.out (by omega) (by omega)
          rw [show B [32, 114, 101, 99, 118, 32] = ⟨#[32, 114, 101, 99, 118, 32]⟩ from rfl] at ad1
          go_wp2_with fail
          refine (rword_any ch H64.out.1.1 H64.out.1.2 _).mono ?_
          rintro e w3 ⟨rfl, t3⟩
          go_wp2_with fail
          go_roundg g3
          case rel =>
            have hr4 : r2 = joinW ([[115, 101, 108, 101, 99, 116], waitT wt] ++ (l.take (k + 1)).flatMap caseW) := by rw [HN.out, J2.out, J1.out]
            exact ⟨k + 1, r2, rfl, by go_num, by omega, by rw [hr4]; exact HB4.out, hr4, (T.alloc _).trans t3⟩
          case measure => omega
      · have b1 : ¬ (k : Int) < (m : Int) := by omega
        have HE : Hid (textD ⟨7, n, v, wt, l⟩ = acc) := by
          show _ = _
          rw [HT.out, HC.out, List.take_of_length_le (by rw [HL.out]; omega)]
        go_wp2_with fail
        go_ret
        rw [HE.out]
        exact ⟨rfl, T2⟩

theorem roptext_any (k n v wt : Int) (a : Option Addr) (m c : Nat) (l : List CaseD) (w : World) (hA : AtC w a m l) (hm : m ≤ 20) (hc : checkD ⟨k, n, v, wt, l⟩ = 0) (hi : In64 ⟨k, n, v, wt, l⟩) :
    Calls Tryz.prog 27 #[.agg #[.int .i64 k, .int .i64 n, .int .i64 v, .int .i64 wt, .slice a m c]] w fun e w' => e = .returned (.string (B (textD ⟨k, n, v, wt, l⟩))) ∧ Kept w w' := by
  have ht := taken_of hc
  have hw := (taken_wait ht).1
  rcases kind_cases ht.kind with h | h | h | h | h | h | h | h | h <;> simp only at h <;> subst h
  · exact roptext_k1 n v wt a m c l w hi
  · exact roptext_k2 n v wt a m c l w hi
  · exact roptext_k3 n v wt a m c l w hi
  · exact roptext_k4 n v wt a m c l w hi hw
  · exact roptext_k5 n v wt a m c l w hi hw
  · exact roptext_k6 n v wt a m c l w hi
  · exact roptext_k7 n v wt a m c l w hA hm hi hw
  · exact roptext_k8 n v wt a m c l w hi
  · exact roptext_k9 n v wt a m c l w hi
end Go.Proofs.YtolljdomnohmdaaGreatDoor
