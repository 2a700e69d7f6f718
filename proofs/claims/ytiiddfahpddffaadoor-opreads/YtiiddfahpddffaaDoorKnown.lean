/- known of the law's package answers true. -/
import Derived.Test.YtiiddfahpddffaaDoorPar
import Derived.Test.YtiiddfahpddffaaDoorTxt
import Derived.Test.YtiiddfahpddffaaDoorSam2
import Derived.Test.YtiiddfahpddffaaDoorWai
namespace Go.Proofs.YtiiddfahpddffaaDoor
open Go.RowKit

theorem kp0 : parseD [115, 101, 108, 101, 99, 116, 32, 45, 32, 115, 101, 110, 100, 32, 48, 32, 45, 53, 32, 114, 101, 99, 118, 32, 49] = (⟨7, 0, 0, -1, [⟨true, 0, -5⟩, ⟨false, 1, 0⟩]⟩, 0) := by kernel_rfl
theorem kp1 : parseD [115, 101, 108, 101, 99, 116, 32, 51] = (zeroD, 18) := by kernel_rfl
theorem kp2 : parseD [115, 101, 110, 100, 32, 48, 32, 49] = (zeroD, 2) := by kernel_rfl
theorem kp3 : parseD [114, 101, 99, 118, 32, 48, 32, 45, 49] = (zeroD, 2) := by kernel_rfl
theorem kp4 : parseD [114, 117, 110, 32, 48] = (zeroD, 1) := by kernel_rfl
theorem kp5 : parseD [106, 117, 109, 112, 32, 49] = (zeroD, 2) := by kernel_rfl
theorem kp6 : parseD [115, 101, 108, 101, 99, 116, 32, 48, 32, 114, 101, 99, 118, 32, 49, 32, 115, 101, 110, 100, 32, 49, 32, 50] = (zeroD, 6) := by kernel_rfl
theorem kp7 : parseD [101, 110, 100] = (⟨9, 0, 0, 0, []⟩, 0) := by kernel_rfl
theorem kt : textD ⟨7, 0, 0, -1, [⟨true, 0, -5⟩, ⟨false, 1, 0⟩]⟩ = [115, 101, 108, 101, 99, 116, 32, 45, 32, 115, 101, 110, 100, 32, 48, 32, 45, 53, 32, 114, 101, 99, 118, 32, 49] := (text_parse kp0).1
theorem kc : checkD ⟨7, 0, 0, -1, [⟨true, 0, -5⟩, ⟨false, 1, 0⟩]⟩ = 0 := by kernel_rfl
theorem k10 : checkD ⟨10, 0, 0, 0, []⟩ = 3 := by kernel_rfl
theorem k11 : checkD ⟨1, 1, 1, 0, []⟩ = 1 := by kernel_rfl
theorem ki : In64 ⟨7, 0, 0, -1, [⟨true, 0, -5⟩, ⟨false, 1, 0⟩]⟩ := by
  refine ⟨⟨by decide, by decide⟩, ⟨by decide, by decide⟩, ⟨by decide, by decide⟩, ⟨by decide, by decide⟩, fun c hc => ?_⟩
  simp only [List.mem_cons, List.not_mem_nil, or_false] at hc
  rcases hc with rfl | rfl <;> exact ⟨⟨by decide, by decide⟩, ⟨by decide, by decide⟩⟩
theorem kw : waitsD ⟨7, 0, 0, -1, [⟨true, 0, -5⟩, ⟨false, 1, 0⟩]⟩ = true := by kernel_rfl
theorem kw9 : waitsD ⟨9, 0, 0, 0, []⟩ = false := by kernel_rfl
theorem ks : sameD ⟨7, 0, 0, -1, [⟨true, 0, -5⟩, ⟨false, 1, 0⟩]⟩ ⟨7, 0, 0, -1, [⟨true, 0, -5⟩, ⟨false, 1, 0⟩]⟩ = true := by kernel_rfl
theorem ks9 : sameD ⟨7, 0, 0, -1, [⟨true, 0, -5⟩, ⟨false, 1, 0⟩]⟩ ⟨9, 0, 0, 0, []⟩ = false := by kernel_rfl

set_option maxHeartbeats 8000000 in
set_option maxRecDepth 10000 in
theorem known_true (w : World) (hr : Rdy w) : Calls Tryd.prog 8 #[] w fun e w' => e = .returned (.bool true) ∧ Kept w w' := by
  have HR : Hid (Rdy w) := hr
  clear hr
  go_enter Tryd.func8, Tryd.ntmps8
  go_wp2_with fail
  have hp0 := parse_any [115, 101, 108, 101, 99, 116, 32, 45, 32, 115, 101, 110, 100, 32, 48, 32, 45, 53, 32, 114, 101, 99, 118, 32, 49] (by decide) w (HR.out.kept (Kept.refl w))
  rw [kp0] at hp0
  refine hp0.mono ?_
  rintro e w0 ⟨sv0, rfl, r0, t0⟩
  clear hp0
  obtain ⟨a0, c0, hsv0, hc0, hat0⟩ := r0.at
  have hn0 : sv0 = .slice a0 2 c0 := hsv0
  clear hsv0 r0
  subst hn0
  have U0 := (Kept.refl w).trans t0
  have V0 := U0.alloc (.cells #[.int .i64 7, .int .i64 0, .int .i64 0, .int .i64 (-1), .slice a0 2 c0] 29)
  go_wp2_with fail
  have hp1 := parse_any [115, 101, 108, 101, 99, 116, 32, 51] (by decide) _ (HR.out.kept V0)
  rw [kp1] at hp1
  refine hp1.mono ?_
  rintro e w1 ⟨sv1, rfl, r1, t1⟩
  clear hp1
  obtain ⟨a1, c1, hsv1, hc1, hat1⟩ := r1.at
  have hn1 : sv1 = .slice a1 0 c1 := hsv1
  clear hsv1 r1
  subst hn1
  have U1 := V0.trans t1
  have V1 := U1.alloc (.cells #[.int .i64 0, .int .i64 0, .int .i64 0, .int .i64 0, .slice a1 0 c1] 29)
  go_wp2_with fail
  have hp2 := parse_any [115, 101, 110, 100, 32, 48, 32, 49] (by decide) _ (HR.out.kept V1)
  rw [kp2] at hp2
  refine hp2.mono ?_
  rintro e w2 ⟨sv2, rfl, r2, t2⟩
  clear hp2
  obtain ⟨a2, c2, hsv2, hc2, hat2⟩ := r2.at
  have hn2 : sv2 = .slice a2 0 c2 := hsv2
  clear hsv2 r2
  subst hn2
  have U2 := V1.trans t2
  have V2 := U2.alloc (.cells #[.int .i64 0, .int .i64 0, .int .i64 0, .int .i64 0, .slice a2 0 c2] 29)
  go_wp2_with fail
  have hp3 := parse_any [114, 101, 99, 118, 32, 48, 32, 45, 49] (by decide) _ (HR.out.kept V2)
  rw [kp3] at hp3
  refine hp3.mono ?_
  rintro e w3 ⟨sv3, rfl, r3, t3⟩
  clear hp3
  obtain ⟨a3, c3, hsv3, hc3, hat3⟩ := r3.at
  have hn3 : sv3 = .slice a3 0 c3 := hsv3
  clear hsv3 r3
  subst hn3
  have U3 := V2.trans t3
  have V3 := U3.alloc (.cells #[.int .i64 0, .int .i64 0, .int .i64 0, .int .i64 0, .slice a3 0 c3] 29)
  go_wp2_with fail
  have hp4 := parse_any [114, 117, 110, 32, 48] (by decide) _ (HR.out.kept V3)
  rw [kp4] at hp4
  refine hp4.mono ?_
  rintro e w4 ⟨sv4, rfl, r4, t4⟩
  clear hp4
  obtain ⟨a4, c4, hsv4, hc4, hat4⟩ := r4.at
  have hn4 : sv4 = .slice a4 0 c4 := hsv4
  clear hsv4 r4
  subst hn4
  have U4 := V3.trans t4
  have V4 := U4.alloc (.cells #[.int .i64 0, .int .i64 0, .int .i64 0, .int .i64 0, .slice a4 0 c4] 29)
  go_wp2_with fail
  have hp5 := parse_any [106, 117, 109, 112, 32, 49] (by decide) _ (HR.out.kept V4)
  rw [kp5] at hp5
  refine hp5.mono ?_
  rintro e w5 ⟨sv5, rfl, r5, t5⟩
  clear hp5
  obtain ⟨a5, c5, hsv5, hc5, hat5⟩ := r5.at
  have hn5 : sv5 = .slice a5 0 c5 := hsv5
  clear hsv5 r5
  subst hn5
  have U5 := V4.trans t5
  have V5 := U5.alloc (.cells #[.int .i64 0, .int .i64 0, .int .i64 0, .int .i64 0, .slice a5 0 c5] 29)
  go_wp2_with fail
  have hp6 := parse_any [115, 101, 108, 101, 99, 116, 32, 48, 32, 114, 101, 99, 118, 32, 49, 32, 115, 101, 110, 100, 32, 49, 32, 50] (by decide) _ (HR.out.kept V5)
  rw [kp6] at hp6
  refine hp6.mono ?_
  rintro e w6 ⟨sv6, rfl, r6, t6⟩
  clear hp6
  obtain ⟨a6, c6, hsv6, hc6, hat6⟩ := r6.at
  have hn6 : sv6 = .slice a6 0 c6 := hsv6
  clear hsv6 r6
  subst hn6
  have U6 := V5.trans t6
  have V6 := U6.alloc (.cells #[.int .i64 0, .int .i64 0, .int .i64 0, .int .i64 0, .slice a6 0 c6] 29)
  go_wp2_with fail
  have hp7 := parse_any [101, 110, 100] (by decide) _ (HR.out.kept V6)
  rw [kp7] at hp7
  refine hp7.mono ?_
  rintro e w7 ⟨sv7, rfl, r7, t7⟩
  clear hp7
  obtain ⟨a7, c7, hsv7, hc7, hat7⟩ := r7.at
  have hn7 : sv7 = .slice a7 0 c7 := hsv7
  clear hsv7 r7
  subst hn7
  have U7 := V6.trans t7
  have V7 := U7.alloc (.cells #[.int .i64 9, .int .i64 0, .int .i64 0, .int .i64 0, .slice a7 0 c7] 29)
  have XO := box_new w.heap.size w0 29 [.int .i64 7, .int .i64 0, .int .i64 0, .int .i64 (-1), .slice a0 2 c0] U0.size (by simp)
  have XX := box_new w.heap.size w7 29 [.int .i64 9, .int .i64 0, .int .i64 0, .int .i64 0, .slice a7 0 c7] U7.size (by simp)
  have CH := t1.alloc (.cells #[.int .i64 0, .int .i64 0, .int .i64 0, .int .i64 0, .slice a1 0 c1] 29)
  have CH := (CH.trans t2).alloc (.cells #[.int .i64 0, .int .i64 0, .int .i64 0, .int .i64 0, .slice a2 0 c2] 29)
  have CH := (CH.trans t3).alloc (.cells #[.int .i64 0, .int .i64 0, .int .i64 0, .int .i64 0, .slice a3 0 c3] 29)
  have CH := (CH.trans t4).alloc (.cells #[.int .i64 0, .int .i64 0, .int .i64 0, .int .i64 0, .slice a4 0 c4] 29)
  have CH := (CH.trans t5).alloc (.cells #[.int .i64 0, .int .i64 0, .int .i64 0, .int .i64 0, .slice a5 0 c5] 29)
  have CH := (CH.trans t6).alloc (.cells #[.int .i64 0, .int .i64 0, .int .i64 0, .int .i64 0, .slice a6 0 c6] 29)
  have CH := (CH.trans t7).alloc (.cells #[.int .i64 9, .int .i64 0, .int .i64 0, .int .i64 0, .slice a7 0 c7] 29)
  have HO : Hid (AtC w0 a0 2 [⟨true, 0, -5⟩, ⟨false, 1, 0⟩]) := hat0
  have HX : Hid (AtC w7 a7 0 []) := hat7
  have O0 := XO.kept CH
  have X0 := XX
  have KW0 := V7
  have AO0 := HO.out.kept (((Kept.refl w0).alloc _).trans CH)
  have AX0 := HX.out.kept ((Kept.refl w7).alloc (.cells #[.int .i64 9, .int .i64 0, .int .i64 0, .int .i64 0, .slice a7 0 c7] 29))
  have G0 : Hid (AtC (w7.alloc (.cells #[.int .i64 9, .int .i64 0, .int .i64 0, .int .i64 0, .slice a7 0 c7] 29)) a0 2 [⟨true, 0, -5⟩, ⟨false, 1, 0⟩] ∧ AtC (w7.alloc (.cells #[.int .i64 9, .int .i64 0, .int .i64 0, .int .i64 0, .slice a7 0 c7] 29)) a7 0 []) := ⟨AO0, AX0⟩
  clear AO0 AX0
  have HT : Hid (True) := trivial
  clear hat0 hat1 hat2 hat3 hat4 hat5 hat6 hat7
  have e1 : ((B (textD ⟨7, 0, 0, -1, [⟨true, 0, -5⟩, ⟨false, 1, 0⟩]⟩)).toList == [115, 101, 108, 101, 99, 116, 32, 45, 32, 115, 101, 110, 100, 32, 48, 32, 45, 53, 32, 114, 101, 99, 118, 32, 49]) = true := by rw [B_is, kt]; rfl
  have hcc0 : 2 ≤ c0 := hc0
  have fo0 : (w7.alloc (.cells #[.int .i64 9, .int .i64 0, .int .i64 0, .int .i64 0, .slice a7 0 c7] 29)).cell? ⟨w0.heap.size, 0, none⟩ = some (.int .i64 7) := O0.cell 0 (by simp)
  have fx0 : (w7.alloc (.cells #[.int .i64 9, .int .i64 0, .int .i64 0, .int .i64 0, .slice a7 0 c7] 29)).cell? ⟨w7.heap.size, 0, none⟩ = some (.int .i64 9) := X0.cell 0 (by simp)
  have fo1 : (w7.alloc (.cells #[.int .i64 9, .int .i64 0, .int .i64 0, .int .i64 0, .slice a7 0 c7] 29)).cell? ⟨w0.heap.size, 1, none⟩ = some (.int .i64 0) := O0.cell 1 (by simp)
  have fx1 : (w7.alloc (.cells #[.int .i64 9, .int .i64 0, .int .i64 0, .int .i64 0, .slice a7 0 c7] 29)).cell? ⟨w7.heap.size, 1, none⟩ = some (.int .i64 0) := X0.cell 1 (by simp)
  have fo2 : (w7.alloc (.cells #[.int .i64 9, .int .i64 0, .int .i64 0, .int .i64 0, .slice a7 0 c7] 29)).cell? ⟨w0.heap.size, 2, none⟩ = some (.int .i64 0) := O0.cell 2 (by simp)
  have fx2 : (w7.alloc (.cells #[.int .i64 9, .int .i64 0, .int .i64 0, .int .i64 0, .slice a7 0 c7] 29)).cell? ⟨w7.heap.size, 2, none⟩ = some (.int .i64 0) := X0.cell 2 (by simp)
  have fo3 : (w7.alloc (.cells #[.int .i64 9, .int .i64 0, .int .i64 0, .int .i64 0, .slice a7 0 c7] 29)).cell? ⟨w0.heap.size, 3, none⟩ = some (.int .i64 (-1)) := O0.cell 3 (by simp)
  have fx3 : (w7.alloc (.cells #[.int .i64 9, .int .i64 0, .int .i64 0, .int .i64 0, .slice a7 0 c7] 29)).cell? ⟨w7.heap.size, 3, none⟩ = some (.int .i64 0) := X0.cell 3 (by simp)
  have fo4 : (w7.alloc (.cells #[.int .i64 9, .int .i64 0, .int .i64 0, .int .i64 0, .slice a7 0 c7] 29)).cell? ⟨w0.heap.size, 4, none⟩ = some (.slice a0 2 c0) := O0.cell 4 (by simp)
  have fx4 : (w7.alloc (.cells #[.int .i64 9, .int .i64 0, .int .i64 0, .int .i64 0, .slice a7 0 c7] 29)).cell? ⟨w7.heap.size, 4, none⟩ = some (.slice a7 0 c7) := X0.cell 4 (by simp)
  have lo := O0.lt.2
  have lx := X0.lt.2
  go_wp2_with fail
  refine (optext_any 7 0 0 (-1) a0 2 c0 [⟨true, 0, -5⟩, ⟨false, 1, 0⟩] _ (HR.out.kept KW0) G0.out.1 (by omega) kc ki).mono ?_
  rintro e y1 ⟨rfl, s1⟩
  have KW1 := KW0.trans s1
  have O1 := O0.kept s1
  have X1 := X0.kept s1
  have G1 : Hid (AtC y1 a0 2 [⟨true, 0, -5⟩, ⟨false, 1, 0⟩] ∧ AtC y1 a7 0 []) := ⟨G0.out.1.kept s1, G0.out.2.kept s1⟩
  clear fo0 fx0 fo1 fx1 fo2 fx2 fo3 fx3 fo4 fx4 lo lx
  have fo0 : y1.cell? ⟨w0.heap.size, 0, none⟩ = some (.int .i64 7) := O1.cell 0 (by simp)
  have fx0 : y1.cell? ⟨w7.heap.size, 0, none⟩ = some (.int .i64 9) := X1.cell 0 (by simp)
  have fo1 : y1.cell? ⟨w0.heap.size, 1, none⟩ = some (.int .i64 0) := O1.cell 1 (by simp)
  have fx1 : y1.cell? ⟨w7.heap.size, 1, none⟩ = some (.int .i64 0) := X1.cell 1 (by simp)
  have fo2 : y1.cell? ⟨w0.heap.size, 2, none⟩ = some (.int .i64 0) := O1.cell 2 (by simp)
  have fx2 : y1.cell? ⟨w7.heap.size, 2, none⟩ = some (.int .i64 0) := X1.cell 2 (by simp)
  have fo3 : y1.cell? ⟨w0.heap.size, 3, none⟩ = some (.int .i64 (-1)) := O1.cell 3 (by simp)
  have fx3 : y1.cell? ⟨w7.heap.size, 3, none⟩ = some (.int .i64 0) := X1.cell 3 (by simp)
  have fo4 : y1.cell? ⟨w0.heap.size, 4, none⟩ = some (.slice a0 2 c0) := O1.cell 4 (by simp)
  have fx4 : y1.cell? ⟨w7.heap.size, 4, none⟩ = some (.slice a7 0 c7) := X1.cell 4 (by simp)
  have lo := O1.lt.2
  have lx := X1.lt.2
  go_wp2_with fail
  refine (waits_any 7 0 0 (-1) a0 2 c0 [⟨true, 0, -5⟩, ⟨false, 1, 0⟩] _ (HR.out.kept KW1)).mono ?_
  rintro e y2 ⟨rfl, s2⟩
  rw [kw]
  have KW2 := KW1.trans s2
  have O2 := O1.kept s2
  have X2 := X1.kept s2
  have G2 : Hid (AtC y2 a0 2 [⟨true, 0, -5⟩, ⟨false, 1, 0⟩] ∧ AtC y2 a7 0 []) := ⟨G1.out.1.kept s2, G1.out.2.kept s2⟩
  clear fo0 fx0 fo1 fx1 fo2 fx2 fo3 fx3 fo4 fx4 lo lx
  have fo0 : y2.cell? ⟨w0.heap.size, 0, none⟩ = some (.int .i64 7) := O2.cell 0 (by simp)
  have fx0 : y2.cell? ⟨w7.heap.size, 0, none⟩ = some (.int .i64 9) := X2.cell 0 (by simp)
  have fo1 : y2.cell? ⟨w0.heap.size, 1, none⟩ = some (.int .i64 0) := O2.cell 1 (by simp)
  have fx1 : y2.cell? ⟨w7.heap.size, 1, none⟩ = some (.int .i64 0) := X2.cell 1 (by simp)
  have fo2 : y2.cell? ⟨w0.heap.size, 2, none⟩ = some (.int .i64 0) := O2.cell 2 (by simp)
  have fx2 : y2.cell? ⟨w7.heap.size, 2, none⟩ = some (.int .i64 0) := X2.cell 2 (by simp)
  have fo3 : y2.cell? ⟨w0.heap.size, 3, none⟩ = some (.int .i64 (-1)) := O2.cell 3 (by simp)
  have fx3 : y2.cell? ⟨w7.heap.size, 3, none⟩ = some (.int .i64 0) := X2.cell 3 (by simp)
  have fo4 : y2.cell? ⟨w0.heap.size, 4, none⟩ = some (.slice a0 2 c0) := O2.cell 4 (by simp)
  have fx4 : y2.cell? ⟨w7.heap.size, 4, none⟩ = some (.slice a7 0 c7) := X2.cell 4 (by simp)
  have lo := O2.lt.2
  have lx := X2.lt.2
  go_wp2_with fail
  refine (waits_any 9 0 0 0 a7 0 c7 [] _ (HR.out.kept KW2)).mono ?_
  rintro e y3 ⟨rfl, s3⟩
  rw [kw9]
  have KW3 := KW2.trans s3
  have O3 := O2.kept s3
  have X3 := X2.kept s3
  have G3 : Hid (AtC y3 a0 2 [⟨true, 0, -5⟩, ⟨false, 1, 0⟩] ∧ AtC y3 a7 0 []) := ⟨G2.out.1.kept s3, G2.out.2.kept s3⟩
  clear fo0 fx0 fo1 fx1 fo2 fx2 fo3 fx3 fo4 fx4 lo lx
  have fo0 : y3.cell? ⟨w0.heap.size, 0, none⟩ = some (.int .i64 7) := O3.cell 0 (by simp)
  have fx0 : y3.cell? ⟨w7.heap.size, 0, none⟩ = some (.int .i64 9) := X3.cell 0 (by simp)
  have fo1 : y3.cell? ⟨w0.heap.size, 1, none⟩ = some (.int .i64 0) := O3.cell 1 (by simp)
  have fx1 : y3.cell? ⟨w7.heap.size, 1, none⟩ = some (.int .i64 0) := X3.cell 1 (by simp)
  have fo2 : y3.cell? ⟨w0.heap.size, 2, none⟩ = some (.int .i64 0) := O3.cell 2 (by simp)
  have fx2 : y3.cell? ⟨w7.heap.size, 2, none⟩ = some (.int .i64 0) := X3.cell 2 (by simp)
  have fo3 : y3.cell? ⟨w0.heap.size, 3, none⟩ = some (.int .i64 (-1)) := O3.cell 3 (by simp)
  have fx3 : y3.cell? ⟨w7.heap.size, 3, none⟩ = some (.int .i64 0) := X3.cell 3 (by simp)
  have fo4 : y3.cell? ⟨w0.heap.size, 4, none⟩ = some (.slice a0 2 c0) := O3.cell 4 (by simp)
  have fx4 : y3.cell? ⟨w7.heap.size, 4, none⟩ = some (.slice a7 0 c7) := X3.cell 4 (by simp)
  have lo := O3.lt.2
  have lx := X3.lt.2
  go_wp2_with fail
  refine (same_any 7 0 0 (-1) 7 0 0 (-1) a0 a0 2 2 c0 c0 [⟨true, 0, -5⟩, ⟨false, 1, 0⟩] [⟨true, 0, -5⟩, ⟨false, 1, 0⟩] _ G3.out.1 G3.out.1 (by omega)).mono ?_
  rintro e y4 ⟨rfl, s4⟩
  rw [ks]
  have KW4 := KW3.trans s4
  have O4 := O3.kept s4
  have X4 := X3.kept s4
  have G4 : Hid (AtC y4 a0 2 [⟨true, 0, -5⟩, ⟨false, 1, 0⟩] ∧ AtC y4 a7 0 []) := ⟨G3.out.1.kept s4, G3.out.2.kept s4⟩
  clear fo0 fx0 fo1 fx1 fo2 fx2 fo3 fx3 fo4 fx4 lo lx
  have fo0 : y4.cell? ⟨w0.heap.size, 0, none⟩ = some (.int .i64 7) := O4.cell 0 (by simp)
  have fx0 : y4.cell? ⟨w7.heap.size, 0, none⟩ = some (.int .i64 9) := X4.cell 0 (by simp)
  have fo1 : y4.cell? ⟨w0.heap.size, 1, none⟩ = some (.int .i64 0) := O4.cell 1 (by simp)
  have fx1 : y4.cell? ⟨w7.heap.size, 1, none⟩ = some (.int .i64 0) := X4.cell 1 (by simp)
  have fo2 : y4.cell? ⟨w0.heap.size, 2, none⟩ = some (.int .i64 0) := O4.cell 2 (by simp)
  have fx2 : y4.cell? ⟨w7.heap.size, 2, none⟩ = some (.int .i64 0) := X4.cell 2 (by simp)
  have fo3 : y4.cell? ⟨w0.heap.size, 3, none⟩ = some (.int .i64 (-1)) := O4.cell 3 (by simp)
  have fx3 : y4.cell? ⟨w7.heap.size, 3, none⟩ = some (.int .i64 0) := X4.cell 3 (by simp)
  have fo4 : y4.cell? ⟨w0.heap.size, 4, none⟩ = some (.slice a0 2 c0) := O4.cell 4 (by simp)
  have fx4 : y4.cell? ⟨w7.heap.size, 4, none⟩ = some (.slice a7 0 c7) := X4.cell 4 (by simp)
  have lo := O4.lt.2
  have lx := X4.lt.2
  go_wp2_with fail
  refine (same_any 7 0 0 (-1) 9 0 0 0 a0 a7 2 0 c0 c7 [⟨true, 0, -5⟩, ⟨false, 1, 0⟩] [] _ G4.out.1 G4.out.2 (by omega)).mono ?_
  rintro e y5 ⟨rfl, s5⟩
  rw [ks9]
  have KW5 := KW4.trans s5
  have O5 := O4.kept s5
  have X5 := X4.kept s5
  have G5 : Hid (AtC y5 a0 2 [⟨true, 0, -5⟩, ⟨false, 1, 0⟩] ∧ AtC y5 a7 0 []) := ⟨G4.out.1.kept s5, G4.out.2.kept s5⟩
  clear fo0 fx0 fo1 fx1 fo2 fx2 fo3 fx3 fo4 fx4 lo lx
  have fo0 : y5.cell? ⟨w0.heap.size, 0, none⟩ = some (.int .i64 7) := O5.cell 0 (by simp)
  have fx0 : y5.cell? ⟨w7.heap.size, 0, none⟩ = some (.int .i64 9) := X5.cell 0 (by simp)
  have fo1 : y5.cell? ⟨w0.heap.size, 1, none⟩ = some (.int .i64 0) := O5.cell 1 (by simp)
  have fx1 : y5.cell? ⟨w7.heap.size, 1, none⟩ = some (.int .i64 0) := X5.cell 1 (by simp)
  have fo2 : y5.cell? ⟨w0.heap.size, 2, none⟩ = some (.int .i64 0) := O5.cell 2 (by simp)
  have fx2 : y5.cell? ⟨w7.heap.size, 2, none⟩ = some (.int .i64 0) := X5.cell 2 (by simp)
  have fo3 : y5.cell? ⟨w0.heap.size, 3, none⟩ = some (.int .i64 (-1)) := O5.cell 3 (by simp)
  have fx3 : y5.cell? ⟨w7.heap.size, 3, none⟩ = some (.int .i64 0) := X5.cell 3 (by simp)
  have fo4 : y5.cell? ⟨w0.heap.size, 4, none⟩ = some (.slice a0 2 c0) := O5.cell 4 (by simp)
  have fx4 : y5.cell? ⟨w7.heap.size, 4, none⟩ = some (.slice a7 0 c7) := X5.cell 4 (by simp)
  have lo := O5.lt.2
  have lx := X5.lt.2
  go_wp2_with fail
  refine (check_any 10 0 0 0 none 0 0 [] _ (HR.out.kept KW5) (AtC.none _) (by omega) (by omega)).mono ?_
  rintro e y6 ⟨rfl, s6⟩
  rw [k10]
  have KW6 := KW5.trans s6
  have O6 := O5.kept s6
  have X6 := X5.kept s6
  have G6 : Hid (AtC y6 a0 2 [⟨true, 0, -5⟩, ⟨false, 1, 0⟩] ∧ AtC y6 a7 0 []) := ⟨G5.out.1.kept s6, G5.out.2.kept s6⟩
  clear fo0 fx0 fo1 fx1 fo2 fx2 fo3 fx3 fo4 fx4 lo lx
  have fo0 : y6.cell? ⟨w0.heap.size, 0, none⟩ = some (.int .i64 7) := O6.cell 0 (by simp)
  have fx0 : y6.cell? ⟨w7.heap.size, 0, none⟩ = some (.int .i64 9) := X6.cell 0 (by simp)
  have fo1 : y6.cell? ⟨w0.heap.size, 1, none⟩ = some (.int .i64 0) := O6.cell 1 (by simp)
  have fx1 : y6.cell? ⟨w7.heap.size, 1, none⟩ = some (.int .i64 0) := X6.cell 1 (by simp)
  have fo2 : y6.cell? ⟨w0.heap.size, 2, none⟩ = some (.int .i64 0) := O6.cell 2 (by simp)
  have fx2 : y6.cell? ⟨w7.heap.size, 2, none⟩ = some (.int .i64 0) := X6.cell 2 (by simp)
  have fo3 : y6.cell? ⟨w0.heap.size, 3, none⟩ = some (.int .i64 (-1)) := O6.cell 3 (by simp)
  have fx3 : y6.cell? ⟨w7.heap.size, 3, none⟩ = some (.int .i64 0) := X6.cell 3 (by simp)
  have fo4 : y6.cell? ⟨w0.heap.size, 4, none⟩ = some (.slice a0 2 c0) := O6.cell 4 (by simp)
  have fx4 : y6.cell? ⟨w7.heap.size, 4, none⟩ = some (.slice a7 0 c7) := X6.cell 4 (by simp)
  have lo := O6.lt.2
  have lx := X6.lt.2
  go_wp2_with fail
  refine (check_any 1 1 1 0 none 0 0 [] _ (HR.out.kept KW6) (AtC.none _) (by omega) (by omega)).mono ?_
  rintro e y7 ⟨rfl, s7⟩
  rw [k11]
  have KW7 := KW6.trans s7
  have O7 := O6.kept s7
  have X7 := X6.kept s7
  have G7 : Hid (AtC y7 a0 2 [⟨true, 0, -5⟩, ⟨false, 1, 0⟩] ∧ AtC y7 a7 0 []) := ⟨G6.out.1.kept s7, G6.out.2.kept s7⟩
  clear fo0 fx0 fo1 fx1 fo2 fx2 fo3 fx3 fo4 fx4 lo lx
  have fo0 : y7.cell? ⟨w0.heap.size, 0, none⟩ = some (.int .i64 7) := O7.cell 0 (by simp)
  have fx0 : y7.cell? ⟨w7.heap.size, 0, none⟩ = some (.int .i64 9) := X7.cell 0 (by simp)
  have fo1 : y7.cell? ⟨w0.heap.size, 1, none⟩ = some (.int .i64 0) := O7.cell 1 (by simp)
  have fx1 : y7.cell? ⟨w7.heap.size, 1, none⟩ = some (.int .i64 0) := X7.cell 1 (by simp)
  have fo2 : y7.cell? ⟨w0.heap.size, 2, none⟩ = some (.int .i64 0) := O7.cell 2 (by simp)
  have fx2 : y7.cell? ⟨w7.heap.size, 2, none⟩ = some (.int .i64 0) := X7.cell 2 (by simp)
  have fo3 : y7.cell? ⟨w0.heap.size, 3, none⟩ = some (.int .i64 (-1)) := O7.cell 3 (by simp)
  have fx3 : y7.cell? ⟨w7.heap.size, 3, none⟩ = some (.int .i64 0) := X7.cell 3 (by simp)
  have fo4 : y7.cell? ⟨w0.heap.size, 4, none⟩ = some (.slice a0 2 c0) := O7.cell 4 (by simp)
  have fx4 : y7.cell? ⟨w7.heap.size, 4, none⟩ = some (.slice a7 0 c7) := X7.cell 4 (by simp)
  have lo := O7.lt.2
  have lx := X7.lt.2
  go_wp2_with fail
  go_ret
  exact ⟨rfl, KW7⟩

end Go.Proofs.YtiiddfahpddffaaDoor
