/- OrderDeadlines, walked. -/
import Derived.Test.YtcfgcbjhlamchaaOrQ
namespace Go.Proofs.Ytcfgcbjhlamchaa
open Go.RowKit Go.Sort

theorem wrapN {z : Int} (h0 : -1000000000 ≤ z) (h1 : z ≤ 1000000000) : IntKind.i64.wrap z = z := by
  simp [IntKind.wrap, IntKind.bits, IntKind.signed]
  omega
theorem wrap8 {z : Int} (h0 : 0 ≤ z) (h1 : z ≤ 255) : IntKind.u8.wrap z = z := by
  simp [IntKind.wrap, IntKind.bits, IntKind.signed]
  omega
set_option maxHeartbeats 1000000 in
theorem dead_skip (a : Option Addr) (n cp : Nat) (w : World) (hn : n < 1 ∨ 12 < n) :
    Calls Try.prog 4 #[.slice a n cp] w fun e w' => e = .returned (.bool true) ∧ Kept w w' := by
  have hk := known_true w
  rcases hn with hn | hn
  · have r1 : (n : Int) < 1 := by omega
    go_enter Try.func4, Try.ntmps4
    go_wp2_with (first | (go_at_call 7; refine hk.mono ?_; rintro e w1 ⟨rfl, K1⟩) | fail)
    go_ret
    exact ⟨rfl, K1⟩
  · have r1 : ¬ (n : Int) < 1 := by omega
    have r2 : (n : Int) > 12 := by omega
    go_enter Try.func4, Try.ntmps4
    go_wp2_with (first | (go_at_call 7; refine hk.mono ?_; rintro e w1 ⟨rfl, K1⟩) | fail)
    go_ret
    exact ⟨rfl, K1⟩
set_option maxHeartbeats 8000000 in
set_option maxRecDepth 20000 in
theorem dead_law (a : Option Addr) (n cp : Nat) (Z : List Int) (w : World) (h1 : 1 ≤ n) (h12 : n ≤ 12) (hU : U8s w a n Z) :
    Calls Try.prog 4 #[.slice a n cp] w fun e w' => e = .returned (.bool true) ∧ Kept w w' := by
  have HU : Hid (U8s w a n Z) := hU
  have r1 : ¬ (n : Int) < 1 := by omega
  have r2 : ¬ (n : Int) > 12 := by omega
  have hk := known_true w
  clear hU
  go_enter Try.func4, Try.ntmps4
  go_wp2_with (first | (go_at_call 7; refine hk.mono ?_; rintro e w1 ⟨rfl, K1⟩; have HB0 : Hid (Box w.heap.size (w1.alloc (.cells #[.int .i64 0, .slice none 0 0, .slice none 0 0] 33)) 33 w1.heap.size [.int .i64 0, .slice none 0 0, .slice none 0 0]) := box_new w.heap.size w1 33 [.int .i64 0, .slice none 0 0, .slice none 0 0] K1.size (by simp); have KA := K1.alloc (.cells #[.int .i64 0, .slice none 0 0, .slice none 0 0] 33); clear hk; obtain ⟨sb, hsb⟩ : ∃ sb, w1.heap.size = sb := ⟨_, rfl⟩; rw [hsb] at HB0) | fail)
  go_loopg [4] n (fun gk i wr => ∃ (j : Nat) (v : Value) (es : List (List UInt8 × Int × Nat)) (W : World), W = wr ∧ i = .int .i64 j ∧ j + gk = n ∧ Hid (Box w.heap.size W 33 sb [.int .i64 0, .slice none 0 0, v]) ∧ Hid (QRow 300 w.heap.size W v es) ∧ Hid (v.ownBlock ≠ some sb) ∧ Hid (es.length = j) ∧ Hid (∀ q, q < j → dlOf es q = 1 + Z.getD q 0) ∧ Kept w W)
  case atStart => exact ⟨0, _, [], _, rfl, rfl, by omega, HB0, World.ownsRow_nil _ _ _ _, (by show _ ≠ _; simp [Value.ownBlock]), (by show _ = _; rfl), (fun q hq => by omega), KA⟩
  case round =>
    obtain ⟨j, v, es, W, hWW, rfl, hj, HBX, HQ, HNE, HEL, HD0, KK⟩ := hrel
    subst hWW
    by_cases hjn : j < n
    · have b1 : (j : Int) < (n : Int) := by omega
      have b2 : (0 : Int) ≤ (j : Int) := by omega
      obtain ⟨g3', rfl⟩ : ∃ g, gk = g + 1 := ⟨gk - 1, by omega⟩
      obtain ⟨b, f, rfl, hz, z0, z255⟩ := HU.out j hjn
      have HDL : Hid (∀ p : Nat, ∀ q, q < j + 1 → dlOf (es ++ [(nm1 j, 1 + Z.getD j 0, p)]) q = 1 + Z.getD q 0) := by
        intro p q hq
        have hel := HEL.out
        by_cases e : q = j
        · subst e
          rw [← hel, dlOf_new]
        · rw [dlOf_old (by omega)]
          exact HD0.out q (by omega)
      obtain ⟨z, hzz⟩ : ∃ z, Z.getD j 0 = z := ⟨_, rfl⟩
      rw [hzz] at hz z0 z255 HDL
      clear hzz HD0
      have hlen : es.length ≤ 1000000 := by have := HEL.out; omega
      have c2 : W.drew.cell? ⟨sb, 2, none⟩ = some v := HBX.out.cell 2 (by simp)
      have cz : W.drew.cell? ⟨b, f + j, none⟩ = some (.int .u8 z) := KK.cell hz
      have y1 : IntKind.i64.wrap (97 + (j : Int)) = 97 + (j : Int) := wrapN (by omega) (by omega)
      have y2 : IntKind.u8.wrap (97 + (j : Int)) = 97 + (j : Int) := wrap8 (by omega) (by omega)
      have y3 : IntKind.i64.wrap z = z := wrapN (by omega) (by omega)
      have y4 : IntKind.i64.wrap (1 + z) = 1 + z := wrapN (by omega) (by omega)
      go_wp2_with fail
      refine wp_region_S (by kernel_rfl) 19 (fun w' => w'.cell? ⟨sb, 2, none⟩ = some v ∧ w'.cell? ⟨b, f + j, none⟩ = some (.int .u8 z)) ?_
      have hS0 : W.drew.cell? ⟨sb, 2, none⟩ = some v ∧ W.drew.cell? ⟨b, f + j, none⟩ = some (.int .u8 z) := ⟨c2, cz⟩
      refine wpAnyS_take (i := 0) (v := .pointer (some ⟨sb, 2, none⟩)) rfl (by kernel_rfl) (by kernel_rfl) (by kernel_rfl) (by kernel_rfl) (fun _ _ _ h => h) hS0 rfl (fun wx hx => by obtain ⟨s1, s2⟩ := hx; go_simp) ?_
      refine wpAnyS_take (i := 1) (v := v) rfl (by kernel_rfl) (by kernel_rfl) (by kernel_rfl) (by kernel_rfl) (fun _ _ _ h => h) hS0 rfl (fun wx hx => by obtain ⟨s1, s2⟩ := hx; go_simp) ?_
      refine wpAnyS_take (i := 2) (v := .int .i64 (j : Int)) rfl (by kernel_rfl) (by kernel_rfl) (by kernel_rfl) (by kernel_rfl) (fun _ _ _ h => h) hS0 rfl (fun wx hx => by obtain ⟨s1, s2⟩ := hx; go_simp) ?_
      refine wpAnyS_take (i := 3) (v := .int .i64 (97 + (j : Int))) rfl (by kernel_rfl) (by kernel_rfl) (by kernel_rfl) (by kernel_rfl) (fun _ _ _ h => h) hS0 rfl (fun wx hx => by obtain ⟨s1, s2⟩ := hx; go_simp) ?_
      refine wpAnyS_take (i := 4) (v := .int .u8 (97 + (j : Int))) rfl (by kernel_rfl) (by kernel_rfl) (by kernel_rfl) (by kernel_rfl) (fun _ _ _ h => h) hS0 rfl (fun wx hx => by obtain ⟨s1, s2⟩ := hx; go_simp) ?_
      refine wpAnyS_take (i := 7) (v := .slice (some ⟨b, f, none⟩) n cp) rfl (by kernel_rfl) (by kernel_rfl) (by kernel_rfl) (by kernel_rfl) (fun _ _ _ h => h) hS0 rfl (fun wx hx => by obtain ⟨s1, s2⟩ := hx; go_simp) ?_
      refine wpAnyS_take (i := 8) (v := .int .i64 (j : Int)) rfl (by kernel_rfl) (by kernel_rfl) (by kernel_rfl) (by kernel_rfl) (fun _ _ _ h => h) hS0 rfl (fun wx hx => by obtain ⟨s1, s2⟩ := hx; go_simp) ?_
      refine wpAnyS_take (i := 9) (v := .pointer (some ⟨b, f + j, none⟩)) rfl (by kernel_rfl) (by kernel_rfl) (by kernel_rfl) (by kernel_rfl) (fun _ _ _ h => h) hS0 rfl (fun wx hx => by obtain ⟨s1, s2⟩ := hx; go_simp) ?_
      refine wpAnyS_take (i := 10) (v := .int .u8 z) rfl (by kernel_rfl) (by kernel_rfl) (by kernel_rfl) (by kernel_rfl) (fun _ _ _ h => h) hS0 rfl (fun wx hx => by obtain ⟨s1, s2⟩ := hx; go_simp) ?_
      refine wpAnyS_take (i := 11) (v := .int .i64 z) rfl (by kernel_rfl) (by kernel_rfl) (by kernel_rfl) (by kernel_rfl) (fun _ _ _ h => h) hS0 rfl (fun wx hx => by obtain ⟨s1, s2⟩ := hx; go_simp) ?_
      refine wpAnyS_take (i := 12) (v := .int .i64 (1 + z)) rfl (by kernel_rfl) (by kernel_rfl) (by kernel_rfl) (by kernel_rfl) (fun _ _ _ h => h) hS0 rfl (fun wx hx => by obtain ⟨s1, s2⟩ := hx; go_simp) ?_
      refine wpAnyS_take (i := 13) (v := .agg #[.int .i64 1, .int .i64 1, .int .i64 0, .int .i64 0, .slice none 0 0]) rfl (by kernel_rfl) (by kernel_rfl) (by kernel_rfl) (by kernel_rfl) (fun _ _ _ h => h) hS0 rfl (fun wx hx => by obtain ⟨s1, s2⟩ := hx; go_simp) ?_
      have BX0 : Box w.heap.size W.drew 33 sb [.int .i64 0, .slice none 0 0, v] := HBX.out.kept ((Kept.refl W).drew)
      have QR0 : QRow 300 w.heap.size W.drew v es := HQ.out.kept ((Kept.refl W).drew)
      have KW0 : Kept w W.drew := KK.drew
      clear HBX HQ KK c2 cz
      generalize W.drew = W0 at *
      refine wpAnyS_two (i := 5) (j := 14) rfl rfl (by kernel_rfl) (fun K hK => ?_) (fun K hK => ?_)
      · go_simp
        have A1 := (Kept.refl W0).alloc (.cells #[.int .u8 (97 + (j : Int))] 5)
        have hS1 := And.intro (A1.cell hS0.1) (A1.cell hS0.2)
        have BX1 := BX0.kept A1
        have QR1 := QR0.kept A1
        have KW1 := KW0.trans A1
        have cb : (W0.alloc (.cells #[.int .u8 (97 + (j : Int))] 5)).cell? ⟨W0.heap.size, 0, none⟩ = some (.int .u8 (97 + (j : Int))) := by simp
        refine hK _ _ (fun _ => hS1) ?_
        clear hK K
        generalize W0.heap.size = bb at *
        generalize W0.alloc (.cells #[.int .u8 (97 + (j : Int))] 5) = W1 at *
        refine wpAnyS_two (i := 6) (j := 14) rfl rfl (by kernel_rfl) (fun K hK => ?_) (fun K hK => ?_)
        · have hcv := conv_at W1 bb j (by omega) cb
          go_simp
          refine hK _ _ (fun _ => hS1) ?_
          clear hK K
          refine wpAnyS_one (i := 14) rfl (by kernel_rfl) (fun K hK => ?_)
          go_simp
          have A1 := (Kept.refl W1).alloc (.cells #[.int .i64 1, .int .i64 1, .int .i64 0, .int .i64 0, .slice none 0 0] 45)
          have hS2 := And.intro (A1.cell hS1.1) (A1.cell hS1.2)
          have BX2 := BX1.kept A1
          have QR2 := QR1.kept A1
          have KW2 := KW1.trans A1
          refine hK _ _ (fun _ => hS2) ?_
          clear hK K
          generalize W1.heap.size = pb at *
          generalize W1.alloc (.cells #[.int .i64 1, .int .i64 1, .int .i64 0, .int .i64 0, .slice none 0 0] 45) = W2 at *
          refine wpAnyS_one (i := 15) rfl (by kernel_rfl) (fun K hK => ?_)
          go_simp
          refine hK _ _ (fun _ => hS2) ?_
          clear hK K
          refine wpAnyS_one (i := 16) rfl (by kernel_rfl) (fun K hK => ?_)
          go_simp
          have hS3 := And.intro (((Kept.refl W2).alloc (.cells #[.string (B (nm1 j)), .int .i64 300, .int .i64 (1 + z), .int .i64 1, .slice (some ⟨pb, 0, none⟩) 1 1] 48)).cell hS2.1) (((Kept.refl W2).alloc (.cells #[.string (B (nm1 j)), .int .i64 300, .int .i64 (1 + z), .int .i64 1, .slice (some ⟨pb, 0, none⟩) 1 1] 48)).cell hS2.2)
          refine hK _ _ (fun _ => hS3) ?_
          clear hK K
          refine wpAnyS_one (i := 17) rfl (by kernel_rfl) (fun K hK => ?_)
          refine step_append_task _ (by rfl) _ _ (by rfl) w.heap.size v 300 es (nm1 j, 1 + z, pb) _ rfl W2 (by rfl) (by rfl) W2.heap.size (by rfl) (by rfl) QR2 hlen KW2.size ?_
          intro g5 c5 w5 R5 t5 hg5
          have B5 := BX2.turns t5 (fun e => HNE.out e)
          have K5 : Kept w w5 := t5.kept KW2 (fun i hi => (World.ownsRow.lt QR2 i hi).1)
          have z2 : w5.cell? ⟨sb, 2, none⟩ = some v := B5.cell 2 (by simp)
          have z3 : w5.frozen? ⟨sb, 2, none⟩ = false := B5.frozen 2
          have hS5 := And.intro z2 (K5.cell hz)
          have hgs : g5 ≠ sb := by
            intro e
            rcases hg5 with h | h
            · exact HNE.out (e ▸ h)
            · have := BX2.lt.2
              omega
          refine hK _ _ (fun _ => hS5) ?_
          clear hK K
          refine wpAnyS_one (i := 18) rfl (by kernel_rfl) (fun K hK => ?_)
          go_simp
          refine hK _ _ (fun _ => hS5) ?_
          clear hK K
          refine wpAnyS_one (i := 19) rfl (by kernel_rfl) (fun K hK => ?_)
          go_simp
          refine hK _ _ (fun h => absurd rfl h) ?_
          clear hK K
          refine wpAnyS_done (by kernel_rfl) ?_ _
          have tf := turn_set w5 sb 2 (.slice (some ⟨g5, 0, none⟩) (es.length + 1) c5)
          have HBF : Hid (Box w.heap.size (w5.setCell ⟨sb, 2, none⟩ (.slice (some ⟨g5, 0, none⟩) (es.length + 1) c5)) 33 sb [.int .i64 0, .slice none 0 0, .slice (some ⟨g5, 0, none⟩) (es.length + 1) c5]) := B5.set 2 _
          have HQF : Hid (QRow 300 w.heap.size (w5.setCell ⟨sb, 2, none⟩ (.slice (some ⟨g5, 0, none⟩) (es.length + 1) c5)) (.slice (some ⟨g5, 0, none⟩) (es.length + 1) c5) (es ++ [(nm1 j, 1 + z, pb)])) := R5.turns tf (fun q hq e => by simp [Value.ownBlock] at hq; omega)
          have HKF : Hid (Kept w (w5.setCell ⟨sb, 2, none⟩ (.slice (some ⟨g5, 0, none⟩) (es.length + 1) c5))) := tf.kept K5 (fun i hi => by have := B5.lt.1; omega)
          have HDF : Hid (∀ q, q < j + 1 → dlOf (es ++ [(nm1 j, 1 + z, pb)]) q = 1 + Z.getD q 0) := HDL.out _
          have HLF : Hid ((es ++ [(nm1 j, 1 + z, pb)]).length = j + 1) := by show _ = _; rw [List.length_append, HEL.out]; rfl
          have HNF : Hid ((Value.slice (some ⟨g5, 0, none⟩) (es.length + 1) c5).ownBlock ≠ some sb) := by show _ ≠ _; simp [Value.ownBlock]; exact hgs
          clear B5 R5 t5 hg5 z2 z3 hS5 hS2 hS3 QR2 BX2 K5
          go_wp2_with fail
          go_roundg g3'
          case rel => exact ⟨j + 1, _, _, _, rfl, by go_num, by omega, HBF, HQF, HNF, HLF, HDF, HKF.out⟩
          case measure => omega
        · go_simp
          have A1 := (Kept.refl W1).alloc (.cells #[.int .i64 1, .int .i64 1, .int .i64 0, .int .i64 0, .slice none 0 0] 45)
          have hS2 := And.intro (A1.cell hS1.1) (A1.cell hS1.2)
          have BX2 := BX1.kept A1
          have QR2 := QR1.kept A1
          have KW2 := KW1.trans A1
          have cb2 := A1.cell cb
          refine hK _ _ (fun _ => hS2) ?_
          clear hK K
          generalize W1.heap.size = pb at *
          generalize W1.alloc (.cells #[.int .i64 1, .int .i64 1, .int .i64 0, .int .i64 0, .slice none 0 0] 45) = W2 at *
          refine wpAnyS_one (i := 6) rfl (by kernel_rfl) (fun K hK => ?_)
          have hcv := conv_at W2 bb j (by omega) cb2
          go_simp
          refine hK _ _ (fun _ => hS2) ?_
          clear hK K
          refine wpAnyS_one (i := 15) rfl (by kernel_rfl) (fun K hK => ?_)
          go_simp
          refine hK _ _ (fun _ => hS2) ?_
          clear hK K
          refine wpAnyS_one (i := 16) rfl (by kernel_rfl) (fun K hK => ?_)
          go_simp
          have hS3 := And.intro (((Kept.refl W2).alloc (.cells #[.string (B (nm1 j)), .int .i64 300, .int .i64 (1 + z), .int .i64 1, .slice (some ⟨pb, 0, none⟩) 1 1] 48)).cell hS2.1) (((Kept.refl W2).alloc (.cells #[.string (B (nm1 j)), .int .i64 300, .int .i64 (1 + z), .int .i64 1, .slice (some ⟨pb, 0, none⟩) 1 1] 48)).cell hS2.2)
          refine hK _ _ (fun _ => hS3) ?_
          clear hK K
          refine wpAnyS_one (i := 17) rfl (by kernel_rfl) (fun K hK => ?_)
          refine step_append_task _ (by rfl) _ _ (by rfl) w.heap.size v 300 es (nm1 j, 1 + z, pb) _ rfl W2 (by rfl) (by rfl) W2.heap.size (by rfl) (by rfl) QR2 hlen KW2.size ?_
          intro g5 c5 w5 R5 t5 hg5
          have B5 := BX2.turns t5 (fun e => HNE.out e)
          have K5 : Kept w w5 := t5.kept KW2 (fun i hi => (World.ownsRow.lt QR2 i hi).1)
          have z2 : w5.cell? ⟨sb, 2, none⟩ = some v := B5.cell 2 (by simp)
          have z3 : w5.frozen? ⟨sb, 2, none⟩ = false := B5.frozen 2
          have hS5 := And.intro z2 (K5.cell hz)
          have hgs : g5 ≠ sb := by
            intro e
            rcases hg5 with h | h
            · exact HNE.out (e ▸ h)
            · have := BX2.lt.2
              omega
          refine hK _ _ (fun _ => hS5) ?_
          clear hK K
          refine wpAnyS_one (i := 18) rfl (by kernel_rfl) (fun K hK => ?_)
          go_simp
          refine hK _ _ (fun _ => hS5) ?_
          clear hK K
          refine wpAnyS_one (i := 19) rfl (by kernel_rfl) (fun K hK => ?_)
          go_simp
          refine hK _ _ (fun h => absurd rfl h) ?_
          clear hK K
          refine wpAnyS_done (by kernel_rfl) ?_ _
          have tf := turn_set w5 sb 2 (.slice (some ⟨g5, 0, none⟩) (es.length + 1) c5)
          have HBF : Hid (Box w.heap.size (w5.setCell ⟨sb, 2, none⟩ (.slice (some ⟨g5, 0, none⟩) (es.length + 1) c5)) 33 sb [.int .i64 0, .slice none 0 0, .slice (some ⟨g5, 0, none⟩) (es.length + 1) c5]) := B5.set 2 _
          have HQF : Hid (QRow 300 w.heap.size (w5.setCell ⟨sb, 2, none⟩ (.slice (some ⟨g5, 0, none⟩) (es.length + 1) c5)) (.slice (some ⟨g5, 0, none⟩) (es.length + 1) c5) (es ++ [(nm1 j, 1 + z, pb)])) := R5.turns tf (fun q hq e => by simp [Value.ownBlock] at hq; omega)
          have HKF : Hid (Kept w (w5.setCell ⟨sb, 2, none⟩ (.slice (some ⟨g5, 0, none⟩) (es.length + 1) c5))) := tf.kept K5 (fun i hi => by have := B5.lt.1; omega)
          have HDF : Hid (∀ q, q < j + 1 → dlOf (es ++ [(nm1 j, 1 + z, pb)]) q = 1 + Z.getD q 0) := HDL.out _
          have HLF : Hid ((es ++ [(nm1 j, 1 + z, pb)]).length = j + 1) := by show _ = _; rw [List.length_append, HEL.out]; rfl
          have HNF : Hid ((Value.slice (some ⟨g5, 0, none⟩) (es.length + 1) c5).ownBlock ≠ some sb) := by show _ ≠ _; simp [Value.ownBlock]; exact hgs
          clear B5 R5 t5 hg5 z2 z3 hS5 hS2 hS3 QR2 BX2 K5
          go_wp2_with fail
          go_roundg g3'
          case rel => exact ⟨j + 1, _, _, _, rfl, by go_num, by omega, HBF, HQF, HNF, HLF, HDF, HKF.out⟩
          case measure => omega
      · go_simp
        have A1 := (Kept.refl W0).alloc (.cells #[.int .i64 1, .int .i64 1, .int .i64 0, .int .i64 0, .slice none 0 0] 45)
        have hS1 := And.intro (A1.cell hS0.1) (A1.cell hS0.2)
        have BX1 := BX0.kept A1
        have QR1 := QR0.kept A1
        have KW1 := KW0.trans A1
        refine hK _ _ (fun _ => hS1) ?_
        clear hK K
        generalize W0.heap.size = pb at *
        generalize W0.alloc (.cells #[.int .i64 1, .int .i64 1, .int .i64 0, .int .i64 0, .slice none 0 0] 45) = W1 at *
        refine wpAnyS_one (i := 5) rfl (by kernel_rfl) (fun K hK => ?_)
        go_simp
        have A1 := (Kept.refl W1).alloc (.cells #[.int .u8 (97 + (j : Int))] 5)
        have hS2 := And.intro (A1.cell hS1.1) (A1.cell hS1.2)
        have BX2 := BX1.kept A1
        have QR2 := QR1.kept A1
        have KW2 := KW1.trans A1
        have cb : (W1.alloc (.cells #[.int .u8 (97 + (j : Int))] 5)).cell? ⟨W1.heap.size, 0, none⟩ = some (.int .u8 (97 + (j : Int))) := by simp
        refine hK _ _ (fun _ => hS2) ?_
        clear hK K
        generalize W1.heap.size = bb at *
        generalize W1.alloc (.cells #[.int .u8 (97 + (j : Int))] 5) = W2 at *
        refine wpAnyS_one (i := 6) rfl (by kernel_rfl) (fun K hK => ?_)
        have hcv := conv_at W2 bb j (by omega) cb
        go_simp
        refine hK _ _ (fun _ => hS2) ?_
        clear hK K
        refine wpAnyS_one (i := 15) rfl (by kernel_rfl) (fun K hK => ?_)
        go_simp
        refine hK _ _ (fun _ => hS2) ?_
        clear hK K
        refine wpAnyS_one (i := 16) rfl (by kernel_rfl) (fun K hK => ?_)
        go_simp
        have hS3 := And.intro (((Kept.refl W2).alloc (.cells #[.string (B (nm1 j)), .int .i64 300, .int .i64 (1 + z), .int .i64 1, .slice (some ⟨pb, 0, none⟩) 1 1] 48)).cell hS2.1) (((Kept.refl W2).alloc (.cells #[.string (B (nm1 j)), .int .i64 300, .int .i64 (1 + z), .int .i64 1, .slice (some ⟨pb, 0, none⟩) 1 1] 48)).cell hS2.2)
        refine hK _ _ (fun _ => hS3) ?_
        clear hK K
        refine wpAnyS_one (i := 17) rfl (by kernel_rfl) (fun K hK => ?_)
        refine step_append_task _ (by rfl) _ _ (by rfl) w.heap.size v 300 es (nm1 j, 1 + z, pb) _ rfl W2 (by rfl) (by rfl) W2.heap.size (by rfl) (by rfl) QR2 hlen KW2.size ?_
        intro g5 c5 w5 R5 t5 hg5
        have B5 := BX2.turns t5 (fun e => HNE.out e)
        have K5 : Kept w w5 := t5.kept KW2 (fun i hi => (World.ownsRow.lt QR2 i hi).1)
        have z2 : w5.cell? ⟨sb, 2, none⟩ = some v := B5.cell 2 (by simp)
        have z3 : w5.frozen? ⟨sb, 2, none⟩ = false := B5.frozen 2
        have hS5 := And.intro z2 (K5.cell hz)
        have hgs : g5 ≠ sb := by
          intro e
          rcases hg5 with h | h
          · exact HNE.out (e ▸ h)
          · have := BX2.lt.2
            omega
        refine hK _ _ (fun _ => hS5) ?_
        clear hK K
        refine wpAnyS_one (i := 18) rfl (by kernel_rfl) (fun K hK => ?_)
        go_simp
        refine hK _ _ (fun _ => hS5) ?_
        clear hK K
        refine wpAnyS_one (i := 19) rfl (by kernel_rfl) (fun K hK => ?_)
        go_simp
        refine hK _ _ (fun h => absurd rfl h) ?_
        clear hK K
        refine wpAnyS_done (by kernel_rfl) ?_ _
        have tf := turn_set w5 sb 2 (.slice (some ⟨g5, 0, none⟩) (es.length + 1) c5)
        have HBF : Hid (Box w.heap.size (w5.setCell ⟨sb, 2, none⟩ (.slice (some ⟨g5, 0, none⟩) (es.length + 1) c5)) 33 sb [.int .i64 0, .slice none 0 0, .slice (some ⟨g5, 0, none⟩) (es.length + 1) c5]) := B5.set 2 _
        have HQF : Hid (QRow 300 w.heap.size (w5.setCell ⟨sb, 2, none⟩ (.slice (some ⟨g5, 0, none⟩) (es.length + 1) c5)) (.slice (some ⟨g5, 0, none⟩) (es.length + 1) c5) (es ++ [(nm1 j, 1 + z, pb)])) := R5.turns tf (fun q hq e => by simp [Value.ownBlock] at hq; omega)
        have HKF : Hid (Kept w (w5.setCell ⟨sb, 2, none⟩ (.slice (some ⟨g5, 0, none⟩) (es.length + 1) c5))) := tf.kept K5 (fun i hi => by have := B5.lt.1; omega)
        have HDF : Hid (∀ q, q < j + 1 → dlOf (es ++ [(nm1 j, 1 + z, pb)]) q = 1 + Z.getD q 0) := HDL.out _
        have HLF : Hid ((es ++ [(nm1 j, 1 + z, pb)]).length = j + 1) := by show _ = _; rw [List.length_append, HEL.out]; rfl
        have HNF : Hid ((Value.slice (some ⟨g5, 0, none⟩) (es.length + 1) c5).ownBlock ≠ some sb) := by show _ ≠ _; simp [Value.ownBlock]; exact hgs
        clear B5 R5 t5 hg5 z2 z3 hS5 hS2 hS3 QR2 BX2 K5
        go_wp2_with fail
        go_roundg g3'
        case rel => exact ⟨j + 1, _, _, _, rfl, by go_num, by omega, HBF, HQF, HNF, HLF, HDF, HKF.out⟩
        case measure => omega
    · have b1 : ¬ (j : Int) < (n : Int) := by omega
      obtain rfl : n = j := by omega
      have hel := HEL.out
      obtain ⟨g, c, hv⟩ : ∃ g c, v = .slice (some ⟨g, 0, none⟩) n c := by
        rcases HQ.out.2 with ⟨_, h2⟩ | ⟨g, cap, cur, h1, _⟩
        · omega
        · exact ⟨g, cap, by rw [h1, hel]⟩
      subst hv
      have s0 : W.cell? ⟨sb, 0, none⟩ = some (.int .i64 0) := HBX.out.cell 0 (by simp)
      have s1 : W.cell? ⟨sb, 1, none⟩ = some (.slice none 0 0) := HBX.out.cell 1 (by simp)
      have s2 : W.cell? ⟨sb, 2, none⟩ = some (.slice (some ⟨g, 0, none⟩) n c) := HBX.out.cell 2 (by simp)
      have hpr := prios_any 0 none 0 0 (some ⟨g, 0, none⟩) n c (dlOf es) W (qrow_at HQ.out hel) h1 (by omega)
      obtain ⟨R, hR⟩ := row_ex n (dlOf es) h1
      have HR : Hid (RowOk n (dlOf es) R) := hR
      have q1 : ((n : Int) != (n : Int)) = false := by simp
      clear hel HQ HBX HNE HEL hR
      go_wp2_with (first | (go_at_call 14; refine hpr.mono ?_; rintro e w2 ⟨gp, rfl, _, AP, K2⟩; have HAP : Hid (AtI w2 (some ⟨gp, 0, none⟩) (prD n (dlOf es))) := AP; have KK2 := KK.trans K2; clear AP s0 s1 s2 hpr) | fail)
      go_loopg [6] n (fun gk i wr => ∃ m : Nat, i = .int .i64 m ∧ m + gk = n ∧ Kept w2 wr)
      case atStart => exact ⟨0, rfl, by omega, Kept.refl w2⟩
      case round =>
        obtain ⟨m, rfl, hm, KR⟩ := hrel
        by_cases hmn : m < n
        · have b3 : (m : Int) < (n : Int) := by omega
          have b4 : (0 : Int) ≤ (m : Int) := by omega
          obtain ⟨p, hp⟩ : ∃ p, (n : Int) - (rank n (dlOf es) m : Int) = p := ⟨_, rfl⟩
          have hrk := rank_lt HR.out hmn
          have HCM : Hid (∀ wx, Kept w2 wx → wx.cell? ⟨gp, m, none⟩ = some (.int .i64 p)) := by
            intro wx kx
            obtain ⟨b', f', e', hc⟩ := (HAP.out.kept kx) m _ (prD_get hmn)
            cases e'
            rw [Nat.zero_add] at hc
            rw [hc, hp]
          have cm := HCM.out wr KR
          have p1 : ¬ p < 1 := by omega
          have p2 : ¬ p > (n : Int) := by omega
          have HP : Hid ((n : Int) - (rank n (dlOf es) m : Int) = p) := hp
          obtain ⟨gm, rfl⟩ : ∃ g, gk = g + 1 := ⟨gk - 1, by omega⟩
          obtain ⟨wo, rfl⟩ : ∃ z, z = wr := ⟨_, rfl⟩
          clear hp hrk
          go_wp2_with fail
          go_loopg [7] m (fun gk i wr2 => ∃ q : Nat, i = .int .i64 q ∧ q + gk = m ∧ Kept w2 wr2)
          case atStart => exact ⟨0, rfl, by omega, KR⟩
          case round =>
            obtain ⟨q, rfl, hq, KS⟩ := hrel
            by_cases hqm : q < m
            · have b5 : (q : Int) < (m : Int) := by omega
              have b6 : (q : Int) < (n : Int) := by omega
              have b7 : (0 : Int) ≤ (q : Int) := by omega
              obtain ⟨pq, hpq⟩ : ∃ p, (n : Int) - (rank n (dlOf es) q : Int) = p := ⟨_, rfl⟩
              have cq : wr.cell? ⟨gp, q, none⟩ = some (.int .i64 pq) := by
                obtain ⟨b', f', e', hc⟩ := (HAP.out.kept KS) q _ (prD_get (show q < n by omega))
                cases e'
                rw [Nat.zero_add] at hc
                rw [hc, hpq]
              have cm2 := HCM.out wr KS
              obtain ⟨b, f, rfl, u1, _, _⟩ := HU.out q (by omega)
              obtain ⟨b', f', e', u2, _, _⟩ := HU.out m hmn
              cases e'
              have d1 := HD0.out q (by omega)
              have d2 := HD0.out m hmn
              have hb := rank_bef HR.out (q := q) (j := m) (by omega) hmn
              have hi := rank_inj HR.out (q := q) (j := m) (by omega) hmn
              have hp := HP.out
              have hne : pq ≠ p := fun e => by have := hi (by omega); omega
              have ne1 : (pq == p) = false := beq_eq_false_iff_ne.2 hne
              obtain ⟨zq, hzq⟩ : ∃ z, Z.getD q 0 = z := ⟨_, rfl⟩
              obtain ⟨zm, hzm⟩ : ∃ z, Z.getD m 0 = z := ⟨_, rfl⟩
              rw [hzq] at u1 d1
              rw [hzm] at u2 d2
              have v1 := (KK2.trans KS).cell u1
              have v2 := (KK2.trans KS).cell u2
              have hord : pq > p ↔ zq ≤ zm := by
                unfold bef at hb
                rw [d1, d2] at hb
                constructor
                · intro h
                  have := hb.1 (by omega)
                  omega
                · intro h
                  have := hb.2 (by omega)
                  omega
              obtain ⟨gi, rfl⟩ : ∃ g, gk = g + 1 := ⟨gk - 1, by omega⟩
              clear hb hi hp d1 d2 u1 u2 hzq hzm hpq hne cm
              by_cases hle : zq ≤ zm
              · have g1 : pq > p := hord.2 hle
                clear hord
                go_wp2_with fail
                go_region_held3 (fun w' => w'.cell? ⟨gp, q, none⟩ = some (.int .i64 pq) ∧ w'.cell? ⟨gp, m, none⟩ = some (.int .i64 p) ∧ w'.cell? ⟨b, f + q, none⟩ = some (.int .u8 zq) ∧ w'.cell? ⟨b, f + m, none⟩ = some (.int .u8 zm)) (go_keep) (fail)
                go_wp2_with fail
                go_roundg gi
                case rel => exact ⟨q + 1, by go_num, by omega, KS.drew⟩
                case measure => omega
              · have g1 : ¬ pq > p := fun h => hle (hord.1 h)
                have g2 : decide (p < pq) = false := decide_eq_false g1
                have g3 : decide (zq ≤ zm) = false := decide_eq_false hle
                have g4 : ¬ p < pq := g1
                have g5 : zm < zq := by omega
                have g6 : pq ≤ p := by omega
                clear hord
                go_wp2_with fail
                go_region_held3 (fun w' => w'.cell? ⟨gp, q, none⟩ = some (.int .i64 pq) ∧ w'.cell? ⟨gp, m, none⟩ = some (.int .i64 p) ∧ w'.cell? ⟨b, f + q, none⟩ = some (.int .u8 zq) ∧ w'.cell? ⟨b, f + m, none⟩ = some (.int .u8 zm)) (go_keep) (fail)
                go_wp2_with fail
                go_roundg gi
                case rel => exact ⟨q + 1, by go_num, by omega, KS.drew⟩
                case measure => omega
            · have b5 : ¬ (q : Int) < (m : Int) := by omega
              go_wp2_with fail
              go_roundg gm
              case rel => exact ⟨m + 1, by go_num, by omega, KS⟩
              case measure => omega
        · have b3 : ¬ (m : Int) < (n : Int) := by omega
          go_wp2_with fail
          go_ret
          exact ⟨rfl, KK2.trans KR⟩
end Go.Proofs.Ytcfgcbjhlamchaa
