/- OrderMoves, walked. -/
import Derived.Test.YtcfgcbjhlamchaaOrM
namespace Go.Proofs.Ytcfgcbjhlamchaa
open Go.RowKit Go.Sort

theorem qrow_frozen {P : Int} {Bd : Nat} {w : World} {g n c : Nat} {es : List (List UInt8 × Int × Nat)} (h : QRow P Bd w (.slice (some ⟨g, 0, none⟩) n c) es) (hn : es.length = n) (j : Nat) : w.frozen? ⟨g, j, none⟩ = false := by
  subst hn
  unfold QRow at h
  exact h.frozenAt j
theorem hi_len_n (n : Nat) (D : Nat → Int) (k : Nat) : (hiD n D k).length ≤ n := by
  unfold hiD
  rw [List.length_map]
  have := List.length_filter_le (fun j => befB D j k) (List.range n)
  rw [List.length_range] at this
  exact this
theorem flag_true {L : List Int} {z : Int} {r : Nat} (h : true = decide (z ∈ L.take r)) : true = decide (z ∈ L.take (r + 1)) := by
  have h1 := of_decide_eq_true h.symm
  refine (decide_eq_true ?_).symm
  exact List.Sublist.subset (List.take_sublist_take_left (Nat.le_succ r)) h1
theorem flag_false {L : List Int} {z y : Int} {r : Nat} (h : false = decide (z ∈ L.take r)) (hy : L[r]? = some y) : (y == z) = decide (z ∈ L.take (r + 1)) := by
  have h1 := of_decide_eq_false h.symm
  have h2 : L.take (r + 1) = L.take r ++ [y] := by rw [List.take_add_one, hy]; rfl
  by_cases e : y = z
  · subst e
    rw [beq_self_eq_true]
    exact (decide_eq_true (by rw [h2]; simp)).symm
  · rw [beq_eq_false_iff_ne.2 e]
    exact (decide_eq_false (by rw [h2]; simp [h1]; exact fun e2 => e e2.symm)).symm
theorem wrapN {z : Int} (h0 : -1000000000 ≤ z) (h1 : z ≤ 1000000000) : IntKind.i64.wrap z = z := by
  simp [IntKind.wrap, IntKind.bits, IntKind.signed]
  omega
theorem wrap8 {z : Int} (h0 : 0 ≤ z) (h1 : z ≤ 255) : IntKind.u8.wrap z = z := by
  simp [IntKind.wrap, IntKind.bits, IntKind.signed]
  omega
set_option maxHeartbeats 1000000 in
theorem moves_skip (a : Option Addr) (n cp : Nat) (wh le : Int) (w : World) (hn : n < 1 ∨ 12 < n) :
    Calls Try.prog 5 #[.slice a n cp, .int .u8 wh, .int .u8 le] w fun e w' => e = .returned (.bool true) ∧ Kept w w' := by
  have hk := known_true w
  rcases hn with hn | hn
  · have r1 : (n : Int) < 1 := by omega
    go_enter Try.func5, Try.ntmps5
    go_wp2_with (first | (go_at_call 7; refine hk.mono ?_; rintro e w1 ⟨rfl, K1⟩) | fail)
    go_ret
    exact ⟨rfl, K1⟩
  · have r1 : ¬ (n : Int) < 1 := by omega
    have r2 : (n : Int) > 12 := by omega
    go_enter Try.func5, Try.ntmps5
    go_wp2_with (first | (go_at_call 7; refine hk.mono ?_; rintro e w1 ⟨rfl, K1⟩) | fail)
    go_ret
    exact ⟨rfl, K1⟩
set_option maxHeartbeats 8000000 in
set_option maxRecDepth 20000 in
theorem moves_law (a : Option Addr) (n cp : Nat) (Z : List Int) (wh le : Int) (hw0 : 0 ≤ wh) (hw1 : wh ≤ 255) (hl0 : 0 ≤ le) (hl1 : le ≤ 255) (w : World) (h1 : 1 ≤ n) (h12 : n ≤ 12) (hU : U8s w a n Z) :
    Calls Try.prog 5 #[.slice a n cp, .int .u8 wh, .int .u8 le] w fun e w' => e = .returned (.bool true) ∧ Kept w w' := by
  have HU : Hid (U8s w a n Z) := hU
  have r1 : ¬ (n : Int) < 1 := by omega
  have r2 : ¬ (n : Int) > 12 := by omega
  have hk := known_true w
  clear hU
  go_enter Try.func5, Try.ntmps5
  go_wp2_with (first | (go_at_call 7; refine hk.mono ?_; rintro e w1 ⟨rfl, K1⟩; have HB0 : Hid (Box w.heap.size (w1.alloc (.cells #[.int .i64 0, .slice none 0 0, .slice none 0 0] 33)) 33 w1.heap.size [.int .i64 0, .slice none 0 0, .slice none 0 0]) := box_new w.heap.size w1 33 [.int .i64 0, .slice none 0 0, .slice none 0 0] K1.size (by simp); have KA := K1.alloc (.cells #[.int .i64 0, .slice none 0 0, .slice none 0 0] 33); clear hk; obtain ⟨sb, hsb⟩ : ∃ sb, w1.heap.size = sb := ⟨_, rfl⟩; rw [hsb] at HB0) | fail)
  go_loopg [8] n (fun gk i wr => ∃ (j : Nat) (v : Value) (es : List (List UInt8 × Int × Nat)) (W : World), W = wr ∧ i = .int .i64 j ∧ j + gk = n ∧ Hid (Box w.heap.size W 33 sb [.int .i64 0, .slice none 0 0, v]) ∧ Hid (QRow 900 w.heap.size W v es) ∧ Hid (v.ownBlock ≠ some sb) ∧ Hid (es.length = j) ∧ Hid (∀ q, q < j → 300 ≤ dlOf es q ∧ dlOf es q ≤ 600) ∧ Kept w W)
  case atStart => exact ⟨0, _, [], _, rfl, rfl, by omega, HB0, World.ownsRow_nil _ _ _ _, (by show _ ≠ _; simp [Value.ownBlock]), (by show _ = _; rfl), (fun q hq => by omega), KA⟩
  case round =>
    obtain ⟨j, v, es, W, hWW, rfl, hj, HBX, HQ, HNE, HEL, HD0, KK⟩ := hrel
    subst hWW
    by_cases hjn : j < n
    · have b1 : (j : Int) < (n : Int) := by omega
      have b2 : (0 : Int) ≤ (j : Int) := by omega
      obtain ⟨g3', rfl⟩ : ∃ g, gk = g + 1 := ⟨gk - 1, by omega⟩
      obtain ⟨b, f, rfl, hz, z0, z255⟩ := HU.out j hjn
      have HDL : Hid (∀ p : Nat, ∀ q, q < j + 1 → 300 ≤ dlOf (es ++ [(nm1 j, 300 + Z.getD j 0, p)]) q ∧ dlOf (es ++ [(nm1 j, 300 + Z.getD j 0, p)]) q ≤ 600) := by
        intro p q hq
        have hel := HEL.out
        by_cases e : q = j
        · subst e
          rw [← hel, dlOf_new]
          rw [hel]
          show 300 ≤ 300 + Z.getD _ 0 ∧ 300 + Z.getD _ 0 ≤ 600
          omega
        · rw [dlOf_old (by omega)]
          exact HD0.out q (by omega)
      obtain ⟨z, hzz⟩ : ∃ z, Z.getD j 0 = z := ⟨_, rfl⟩
      rw [hzz] at hz z0 z255 HDL
      clear hzz HD0
      have hlen : es.length ≤ 1000000 := by have := HEL.out; omega
      have c2 : W.drew.cell? ⟨sb, 2, none⟩ = some v := HBX.out.cell 2 (by simp)
      have cz : W.drew.cell? ⟨b, f + j, none⟩ = some (.int .u8 z) := KK.cell hz
      have y1 : IntKind.i64.wrap (97 + (j : Int)) = 97 + (j : Int) := wrapN (by omega) (by omega)
      have y2 : IntKind.u8.wrap (97 + (j : Int)) = 97 + (j : Int) := wrap8 (by omega) (by omega)
      have y3 : IntKind.i64.wrap z = z := wrapN (by omega) (by omega)
      have y4 : IntKind.i64.wrap (300 + z) = 300 + z := wrapN (by omega) (by omega)
      go_wp2_with fail
      refine wp_region_S (by kernel_rfl) 19 (fun w' => w'.cell? ⟨sb, 2, none⟩ = some v ∧ w'.cell? ⟨b, f + j, none⟩ = some (.int .u8 z)) ?_
      have hS0 : W.drew.cell? ⟨sb, 2, none⟩ = some v ∧ W.drew.cell? ⟨b, f + j, none⟩ = some (.int .u8 z) := ⟨c2, cz⟩
      refine wpAnyS_take (i := 0) (v := .pointer (some ⟨sb, 2, none⟩)) rfl (by kernel_rfl) (by kernel_rfl) (by kernel_rfl) (by kernel_rfl) (fun _ _ _ h => h) hS0 rfl (fun wx hx => by obtain ⟨s1, s2⟩ := hx; go_simp) ?_
      refine wpAnyS_take (i := 1) (v := v) rfl (by kernel_rfl) (by kernel_rfl) (by kernel_rfl) (by kernel_rfl) (fun _ _ _ h => h) hS0 rfl (fun wx hx => by obtain ⟨s1, s2⟩ := hx; go_simp) ?_
      refine wpAnyS_take (i := 2) (v := .int .i64 (j : Int)) rfl (by kernel_rfl) (by kernel_rfl) (by kernel_rfl) (by kernel_rfl) (fun _ _ _ h => h) hS0 rfl (fun wx hx => by obtain ⟨s1, s2⟩ := hx; go_simp) ?_
      refine wpAnyS_take (i := 3) (v := .int .i64 (97 + (j : Int))) rfl (by kernel_rfl) (by kernel_rfl) (by kernel_rfl) (by kernel_rfl) (fun _ _ _ h => h) hS0 rfl (fun wx hx => by obtain ⟨s1, s2⟩ := hx; go_simp) ?_
      refine wpAnyS_take (i := 4) (v := .int .u8 (97 + (j : Int))) rfl (by kernel_rfl) (by kernel_rfl) (by kernel_rfl) (by kernel_rfl) (fun _ _ _ h => h) hS0 rfl (fun wx hx => by obtain ⟨s1, s2⟩ := hx; go_simp) ?_
      refine wpAnyS_take (i := 7) (v := .slice (some ⟨b, f, none⟩) n cp) rfl (by kernel_rfl) (by kernel_rfl) (by kernel_rfl) (by kernel_rfl) (fun _ _ _ h => h) hS0 rfl (fun wx hx => by obtain ⟨s1, s2⟩ := hx; go_simp) ?_
      refine wpAnyS_take (i := 8) (v := .int .i64 (j : Int)) rfl (by kernel_rfl) (by kernel_rfl) (by kernel_rfl) (by kernel_rfl) (fun _ _ _ h => h) hS0 rfl (fun wx hx => by obtain ⟨s1, s2⟩ := hx; go_simp) ?_
      refine wpAnyS_take (i := 9) (v := .pointer (some ⟨b, f + j, none⟩)) rfl (by kernel_rfl) (by kernel_rfl) (by kernel_rfl) (by kernel_rfl) (fun _ _ _ h => h) hS0 rfl (fun wx hx => by obtain ⟨s1, s2⟩ := hx; go_simp) ?_
      refine wpAnyS_take (i := 10) (v := .int .u8 z) rfl (by kernel_rfl) (by kernel_rfl) (by kernel_rfl) (by kernel_rfl) (fun _ _ _ h => h) hS0 rfl (fun wx hx => by obtain ⟨s1, s2⟩ := hx; go_simp) ?_
      refine wpAnyS_take (i := 11) (v := .int .i64 z) rfl (by kernel_rfl) (by kernel_rfl) (by kernel_rfl) (by kernel_rfl) (fun _ _ _ h => h) hS0 rfl (fun wx hx => by obtain ⟨s1, s2⟩ := hx; go_simp) ?_
      refine wpAnyS_take (i := 12) (v := .int .i64 (300 + z)) rfl (by kernel_rfl) (by kernel_rfl) (by kernel_rfl) (by kernel_rfl) (fun _ _ _ h => h) hS0 rfl (fun wx hx => by obtain ⟨s1, s2⟩ := hx; go_simp) ?_
      refine wpAnyS_take (i := 13) (v := .agg #[.int .i64 1, .int .i64 1, .int .i64 0, .int .i64 0, .slice none 0 0]) rfl (by kernel_rfl) (by kernel_rfl) (by kernel_rfl) (by kernel_rfl) (fun _ _ _ h => h) hS0 rfl (fun wx hx => by obtain ⟨s1, s2⟩ := hx; go_simp) ?_
      have BX0 : Box w.heap.size W.drew 33 sb [.int .i64 0, .slice none 0 0, v] := HBX.out.kept ((Kept.refl W).drew)
      have QR0 : QRow 900 w.heap.size W.drew v es := HQ.out.kept ((Kept.refl W).drew)
      have KW0 : Kept w W.drew := KK.drew
      clear HBX HQ KK c2 cz
      generalize W.drew = W0 at *
      refine wpAnyS_two (i := 5) (j := 14) rfl rfl (by kernel_rfl) (fun K hK => ?_) (fun K hK => ?_)
      · go_simp
        have A1 := (Kept.refl W0).alloc (.cells #[.int .u8 (97 + (j : Int))] 5)
        have hS1 := And.intro (A1.cell hS0.1) (A1.cell hS0.2)
        have BX1 := BX0.kept A1
        have QR1 := QR0.kept A1
        have KW1 := KW0.trans A1
        have cb : (W0.alloc (.cells #[.int .u8 (97 + (j : Int))] 5)).cell? ⟨W0.heap.size, 0, none⟩ = some (.int .u8 (97 + (j : Int))) := by simp
        refine hK _ _ (fun _ => hS1) ?_
        clear hK K
        generalize W0.heap.size = bb at *
        generalize W0.alloc (.cells #[.int .u8 (97 + (j : Int))] 5) = W1 at *
        refine wpAnyS_two (i := 6) (j := 14) rfl rfl (by kernel_rfl) (fun K hK => ?_) (fun K hK => ?_)
        · have hcv := conv_at W1 bb j (by omega) cb
          go_simp
          refine hK _ _ (fun _ => hS1) ?_
          clear hK K
          refine wpAnyS_one (i := 14) rfl (by kernel_rfl) (fun K hK => ?_)
          go_simp
          have A1 := (Kept.refl W1).alloc (.cells #[.int .i64 1, .int .i64 1, .int .i64 0, .int .i64 0, .slice none 0 0] 45)
          have hS2 := And.intro (A1.cell hS1.1) (A1.cell hS1.2)
          have BX2 := BX1.kept A1
          have QR2 := QR1.kept A1
          have KW2 := KW1.trans A1
          refine hK _ _ (fun _ => hS2) ?_
          clear hK K
          generalize W1.heap.size = pb at *
          generalize W1.alloc (.cells #[.int .i64 1, .int .i64 1, .int .i64 0, .int .i64 0, .slice none 0 0] 45) = W2 at *
          refine wpAnyS_one (i := 15) rfl (by kernel_rfl) (fun K hK => ?_)
          go_simp
          refine hK _ _ (fun _ => hS2) ?_
          clear hK K
          refine wpAnyS_one (i := 16) rfl (by kernel_rfl) (fun K hK => ?_)
          go_simp
          have hS3 := And.intro (((Kept.refl W2).alloc (.cells #[.string (B (nm1 j)), .int .i64 900, .int .i64 (300 + z), .int .i64 1, .slice (some ⟨pb, 0, none⟩) 1 1] 48)).cell hS2.1) (((Kept.refl W2).alloc (.cells #[.string (B (nm1 j)), .int .i64 900, .int .i64 (300 + z), .int .i64 1, .slice (some ⟨pb, 0, none⟩) 1 1] 48)).cell hS2.2)
          refine hK _ _ (fun _ => hS3) ?_
          clear hK K
          refine wpAnyS_one (i := 17) rfl (by kernel_rfl) (fun K hK => ?_)
          refine step_append_task _ (by rfl) _ _ (by rfl) w.heap.size v 900 es (nm1 j, 300 + z, pb) _ rfl W2 (by rfl) (by rfl) W2.heap.size (by rfl) (by rfl) QR2 hlen KW2.size ?_
          intro g5 c5 w5 R5 t5 hg5
          have B5 := BX2.turns t5 (fun e => HNE.out e)
          have K5 : Kept w w5 := t5.kept KW2 (fun i hi => (World.ownsRow.lt QR2 i hi).1)
          have z2 : w5.cell? ⟨sb, 2, none⟩ = some v := B5.cell 2 (by simp)
          have z3 : w5.frozen? ⟨sb, 2, none⟩ = false := B5.frozen 2
          have hS5 := And.intro z2 (K5.cell hz)
          have hgs : g5 ≠ sb := by
            intro e
            rcases hg5 with h | h
            · exact HNE.out (e ▸ h)
            · have := BX2.lt.2
              omega
          refine hK _ _ (fun _ => hS5) ?_
          clear hK K
          refine wpAnyS_one (i := 18) rfl (by kernel_rfl) (fun K hK => ?_)
          go_simp
          refine hK _ _ (fun _ => hS5) ?_
          clear hK K
          refine wpAnyS_one (i := 19) rfl (by kernel_rfl) (fun K hK => ?_)
          go_simp
          refine hK _ _ (fun h => absurd rfl h) ?_
          clear hK K
          refine wpAnyS_done (by kernel_rfl) ?_ _
          have tf := turn_set w5 sb 2 (.slice (some ⟨g5, 0, none⟩) (es.length + 1) c5)
          have HBF : Hid (Box w.heap.size (w5.setCell ⟨sb, 2, none⟩ (.slice (some ⟨g5, 0, none⟩) (es.length + 1) c5)) 33 sb [.int .i64 0, .slice none 0 0, .slice (some ⟨g5, 0, none⟩) (es.length + 1) c5]) := B5.set 2 _
          have HQF : Hid (QRow 900 w.heap.size (w5.setCell ⟨sb, 2, none⟩ (.slice (some ⟨g5, 0, none⟩) (es.length + 1) c5)) (.slice (some ⟨g5, 0, none⟩) (es.length + 1) c5) (es ++ [(nm1 j, 300 + z, pb)])) := R5.turns tf (fun q hq e => by simp [Value.ownBlock] at hq; omega)
          have HKF : Hid (Kept w (w5.setCell ⟨sb, 2, none⟩ (.slice (some ⟨g5, 0, none⟩) (es.length + 1) c5))) := tf.kept K5 (fun i hi => by have := B5.lt.1; omega)
          have HDF : Hid (∀ q, q < j + 1 → 300 ≤ dlOf (es ++ [(nm1 j, 300 + z, pb)]) q ∧ dlOf (es ++ [(nm1 j, 300 + z, pb)]) q ≤ 600) := HDL.out _
          have HLF : Hid ((es ++ [(nm1 j, 300 + z, pb)]).length = j + 1) := by show _ = _; rw [List.length_append, HEL.out]; rfl
          have HNF : Hid ((Value.slice (some ⟨g5, 0, none⟩) (es.length + 1) c5).ownBlock ≠ some sb) := by show _ ≠ _; simp [Value.ownBlock]; exact hgs
          clear B5 R5 t5 hg5 z2 z3 hS5 hS2 hS3 QR2 BX2 K5
          go_wp2_with fail
          go_roundg g3'
          case rel => exact ⟨j + 1, _, _, _, rfl, by go_num, by omega, HBF, HQF, HNF, HLF, HDF, HKF.out⟩
          case measure => omega
        · go_simp
          have A1 := (Kept.refl W1).alloc (.cells #[.int .i64 1, .int .i64 1, .int .i64 0, .int .i64 0, .slice none 0 0] 45)
          have hS2 := And.intro (A1.cell hS1.1) (A1.cell hS1.2)
          have BX2 := BX1.kept A1
          have QR2 := QR1.kept A1
          have KW2 := KW1.trans A1
          have cb2 := A1.cell cb
          refine hK _ _ (fun _ => hS2) ?_
          clear hK K
          generalize W1.heap.size = pb at *
          generalize W1.alloc (.cells #[.int .i64 1, .int .i64 1, .int .i64 0, .int .i64 0, .slice none 0 0] 45) = W2 at *
          refine wpAnyS_one (i := 6) rfl (by kernel_rfl) (fun K hK => ?_)
          have hcv := conv_at W2 bb j (by omega) cb2
          go_simp
          refine hK _ _ (fun _ => hS2) ?_
          clear hK K
          refine wpAnyS_one (i := 15) rfl (by kernel_rfl) (fun K hK => ?_)
          go_simp
          refine hK _ _ (fun _ => hS2) ?_
          clear hK K
          refine wpAnyS_one (i := 16) rfl (by kernel_rfl) (fun K hK => ?_)
          go_simp
          have hS3 := And.intro (((Kept.refl W2).alloc (.cells #[.string (B (nm1 j)), .int .i64 900, .int .i64 (300 + z), .int .i64 1, .slice (some ⟨pb, 0, none⟩) 1 1] 48)).cell hS2.1) (((Kept.refl W2).alloc (.cells #[.string (B (nm1 j)), .int .i64 900, .int .i64 (300 + z), .int .i64 1, .slice (some ⟨pb, 0, none⟩) 1 1] 48)).cell hS2.2)
          refine hK _ _ (fun _ => hS3) ?_
          clear hK K
          refine wpAnyS_one (i := 17) rfl (by kernel_rfl) (fun K hK => ?_)
          refine step_append_task _ (by rfl) _ _ (by rfl) w.heap.size v 900 es (nm1 j, 300 + z, pb) _ rfl W2 (by rfl) (by rfl) W2.heap.size (by rfl) (by rfl) QR2 hlen KW2.size ?_
          intro g5 c5 w5 R5 t5 hg5
          have B5 := BX2.turns t5 (fun e => HNE.out e)
          have K5 : Kept w w5 := t5.kept KW2 (fun i hi => (World.ownsRow.lt QR2 i hi).1)
          have z2 : w5.cell? ⟨sb, 2, none⟩ = some v := B5.cell 2 (by simp)
          have z3 : w5.frozen? ⟨sb, 2, none⟩ = false := B5.frozen 2
          have hS5 := And.intro z2 (K5.cell hz)
          have hgs : g5 ≠ sb := by
            intro e
            rcases hg5 with h | h
            · exact HNE.out (e ▸ h)
            · have := BX2.lt.2
              omega
          refine hK _ _ (fun _ => hS5) ?_
          clear hK K
          refine wpAnyS_one (i := 18) rfl (by kernel_rfl) (fun K hK => ?_)
          go_simp
          refine hK _ _ (fun _ => hS5) ?_
          clear hK K
          refine wpAnyS_one (i := 19) rfl (by kernel_rfl) (fun K hK => ?_)
          go_simp
          refine hK _ _ (fun h => absurd rfl h) ?_
          clear hK K
          refine wpAnyS_done (by kernel_rfl) ?_ _
          have tf := turn_set w5 sb 2 (.slice (some ⟨g5, 0, none⟩) (es.length + 1) c5)
          have HBF : Hid (Box w.heap.size (w5.setCell ⟨sb, 2, none⟩ (.slice (some ⟨g5, 0, none⟩) (es.length + 1) c5)) 33 sb [.int .i64 0, .slice none 0 0, .slice (some ⟨g5, 0, none⟩) (es.length + 1) c5]) := B5.set 2 _
          have HQF : Hid (QRow 900 w.heap.size (w5.setCell ⟨sb, 2, none⟩ (.slice (some ⟨g5, 0, none⟩) (es.length + 1) c5)) (.slice (some ⟨g5, 0, none⟩) (es.length + 1) c5) (es ++ [(nm1 j, 300 + z, pb)])) := R5.turns tf (fun q hq e => by simp [Value.ownBlock] at hq; omega)
          have HKF : Hid (Kept w (w5.setCell ⟨sb, 2, none⟩ (.slice (some ⟨g5, 0, none⟩) (es.length + 1) c5))) := tf.kept K5 (fun i hi => by have := B5.lt.1; omega)
          have HDF : Hid (∀ q, q < j + 1 → 300 ≤ dlOf (es ++ [(nm1 j, 300 + z, pb)]) q ∧ dlOf (es ++ [(nm1 j, 300 + z, pb)]) q ≤ 600) := HDL.out _
          have HLF : Hid ((es ++ [(nm1 j, 300 + z, pb)]).length = j + 1) := by show _ = _; rw [List.length_append, HEL.out]; rfl
          have HNF : Hid ((Value.slice (some ⟨g5, 0, none⟩) (es.length + 1) c5).ownBlock ≠ some sb) := by show _ ≠ _; simp [Value.ownBlock]; exact hgs
          clear B5 R5 t5 hg5 z2 z3 hS5 hS2 hS3 QR2 BX2 K5
          go_wp2_with fail
          go_roundg g3'
          case rel => exact ⟨j + 1, _, _, _, rfl, by go_num, by omega, HBF, HQF, HNF, HLF, HDF, HKF.out⟩
          case measure => omega
      · go_simp
        have A1 := (Kept.refl W0).alloc (.cells #[.int .i64 1, .int .i64 1, .int .i64 0, .int .i64 0, .slice none 0 0] 45)
        have hS1 := And.intro (A1.cell hS0.1) (A1.cell hS0.2)
        have BX1 := BX0.kept A1
        have QR1 := QR0.kept A1
        have KW1 := KW0.trans A1
        refine hK _ _ (fun _ => hS1) ?_
        clear hK K
        generalize W0.heap.size = pb at *
        generalize W0.alloc (.cells #[.int .i64 1, .int .i64 1, .int .i64 0, .int .i64 0, .slice none 0 0] 45) = W1 at *
        refine wpAnyS_one (i := 5) rfl (by kernel_rfl) (fun K hK => ?_)
        go_simp
        have A1 := (Kept.refl W1).alloc (.cells #[.int .u8 (97 + (j : Int))] 5)
        have hS2 := And.intro (A1.cell hS1.1) (A1.cell hS1.2)
        have BX2 := BX1.kept A1
        have QR2 := QR1.kept A1
        have KW2 := KW1.trans A1
        have cb : (W1.alloc (.cells #[.int .u8 (97 + (j : Int))] 5)).cell? ⟨W1.heap.size, 0, none⟩ = some (.int .u8 (97 + (j : Int))) := by simp
        refine hK _ _ (fun _ => hS2) ?_
        clear hK K
        generalize W1.heap.size = bb at *
        generalize W1.alloc (.cells #[.int .u8 (97 + (j : Int))] 5) = W2 at *
        refine wpAnyS_one (i := 6) rfl (by kernel_rfl) (fun K hK => ?_)
        have hcv := conv_at W2 bb j (by omega) cb
        go_simp
        refine hK _ _ (fun _ => hS2) ?_
        clear hK K
        refine wpAnyS_one (i := 15) rfl (by kernel_rfl) (fun K hK => ?_)
        go_simp
        refine hK _ _ (fun _ => hS2) ?_
        clear hK K
        refine wpAnyS_one (i := 16) rfl (by kernel_rfl) (fun K hK => ?_)
        go_simp
        have hS3 := And.intro (((Kept.refl W2).alloc (.cells #[.string (B (nm1 j)), .int .i64 900, .int .i64 (300 + z), .int .i64 1, .slice (some ⟨pb, 0, none⟩) 1 1] 48)).cell hS2.1) (((Kept.refl W2).alloc (.cells #[.string (B (nm1 j)), .int .i64 900, .int .i64 (300 + z), .int .i64 1, .slice (some ⟨pb, 0, none⟩) 1 1] 48)).cell hS2.2)
        refine hK _ _ (fun _ => hS3) ?_
        clear hK K
        refine wpAnyS_one (i := 17) rfl (by kernel_rfl) (fun K hK => ?_)
        refine step_append_task _ (by rfl) _ _ (by rfl) w.heap.size v 900 es (nm1 j, 300 + z, pb) _ rfl W2 (by rfl) (by rfl) W2.heap.size (by rfl) (by rfl) QR2 hlen KW2.size ?_
        intro g5 c5 w5 R5 t5 hg5
        have B5 := BX2.turns t5 (fun e => HNE.out e)
        have K5 : Kept w w5 := t5.kept KW2 (fun i hi => (World.ownsRow.lt QR2 i hi).1)
        have z2 : w5.cell? ⟨sb, 2, none⟩ = some v := B5.cell 2 (by simp)
        have z3 : w5.frozen? ⟨sb, 2, none⟩ = false := B5.frozen 2
        have hS5 := And.intro z2 (K5.cell hz)
        have hgs : g5 ≠ sb := by
          intro e
          rcases hg5 with h | h
          · exact HNE.out (e ▸ h)
          · have := BX2.lt.2
            omega
        refine hK _ _ (fun _ => hS5) ?_
        clear hK K
        refine wpAnyS_one (i := 18) rfl (by kernel_rfl) (fun K hK => ?_)
        go_simp
        refine hK _ _ (fun _ => hS5) ?_
        clear hK K
        refine wpAnyS_one (i := 19) rfl (by kernel_rfl) (fun K hK => ?_)
        go_simp
        refine hK _ _ (fun h => absurd rfl h) ?_
        clear hK K
        refine wpAnyS_done (by kernel_rfl) ?_ _
        have tf := turn_set w5 sb 2 (.slice (some ⟨g5, 0, none⟩) (es.length + 1) c5)
        have HBF : Hid (Box w.heap.size (w5.setCell ⟨sb, 2, none⟩ (.slice (some ⟨g5, 0, none⟩) (es.length + 1) c5)) 33 sb [.int .i64 0, .slice none 0 0, .slice (some ⟨g5, 0, none⟩) (es.length + 1) c5]) := B5.set 2 _
        have HQF : Hid (QRow 900 w.heap.size (w5.setCell ⟨sb, 2, none⟩ (.slice (some ⟨g5, 0, none⟩) (es.length + 1) c5)) (.slice (some ⟨g5, 0, none⟩) (es.length + 1) c5) (es ++ [(nm1 j, 300 + z, pb)])) := R5.turns tf (fun q hq e => by simp [Value.ownBlock] at hq; omega)
        have HKF : Hid (Kept w (w5.setCell ⟨sb, 2, none⟩ (.slice (some ⟨g5, 0, none⟩) (es.length + 1) c5))) := tf.kept K5 (fun i hi => by have := B5.lt.1; omega)
        have HDF : Hid (∀ q, q < j + 1 → 300 ≤ dlOf (es ++ [(nm1 j, 300 + z, pb)]) q ∧ dlOf (es ++ [(nm1 j, 300 + z, pb)]) q ≤ 600) := HDL.out _
        have HLF : Hid ((es ++ [(nm1 j, 300 + z, pb)]).length = j + 1) := by show _ = _; rw [List.length_append, HEL.out]; rfl
        have HNF : Hid ((Value.slice (some ⟨g5, 0, none⟩) (es.length + 1) c5).ownBlock ≠ some sb) := by show _ ≠ _; simp [Value.ownBlock]; exact hgs
        clear B5 R5 t5 hg5 z2 z3 hS5 hS2 hS3 QR2 BX2 K5
        go_wp2_with fail
        go_roundg g3'
        case rel => exact ⟨j + 1, _, _, _, rfl, by go_num, by omega, HBF, HQF, HNF, HLF, HDF, HKF.out⟩
        case measure => omega
    · have b1 : ¬ (j : Int) < (n : Int) := by omega
      obtain rfl : n = j := by omega
      have hel := HEL.out
      obtain ⟨g, c, hv⟩ : ∃ g c, v = .slice (some ⟨g, 0, none⟩) n c := by
        rcases HQ.out.2 with ⟨_, h2⟩ | ⟨g, cap, cur, h1, _⟩
        · omega
        · exact ⟨g, cap, by rw [h1, hel]⟩
      subst hv
      obtain ⟨K, hKK⟩ : ∃ K : Nat, wh % (n : Int) = (K : Int) := ⟨(wh % (n : Int)).toNat, by have := Int.emod_nonneg wh (show (n : Int) ≠ 0 by omega); omega⟩
      have hKn : K < n := by have := Int.emod_lt_of_pos wh (show (0 : Int) < (n : Int) by omega); omega
      have b7 : (0 : Int) ≤ (K : Int) := by omega
      have b8 : (K : Int) < (n : Int) := by omega
      have y5 : IntKind.i64.wrap wh = wh := wrapN (by omega) (by omega)
      have y6 : IntKind.i64.wrap le = le := wrapN (by omega) (by omega)
      obtain ⟨he0, hd1⟩ : ∃ e0, es[K]? = some e0 := ⟨_, List.getElem?_eq_getElem (by omega)⟩
      obtain ⟨d, hd⟩ : ∃ d, dlOf es K = d := ⟨_, rfl⟩
      have hd2 := HD0.out K hKn
      rw [hd] at hd2
      have y7 : IntKind.i64.wrap (d - le) = d - le := wrapN (by omega) (by omega)
      have HE0 : Hid (es[K]? = some he0) := hd1
      have HD1 : Hid (dlOf es K = d) := hd
      have HELN : Hid (es.length = n) := hel
      have hgs : g ≠ sb := fun e => HNE.out (by rw [e]; rfl)
      have hgW : w.heap.size ≤ g ∧ g < W.heap.size := World.ownsRow.lt HQ.out g rfl
      have HGW : Hid (w.heap.size ≤ g ∧ g < W.heap.size) := hgW
      have s0 : W.cell? ⟨sb, 0, none⟩ = some (.int .i64 0) := HBX.out.cell 0 (by simp)
      have s1 : W.cell? ⟨sb, 1, none⟩ = some (.slice none 0 0) := HBX.out.cell 1 (by simp)
      have s2 : W.cell? ⟨sb, 2, none⟩ = some (.slice (some ⟨g, 0, none⟩) n c) := HBX.out.cell 2 (by simp)
      have hc1 := higher_far 0 none 0 0 (some ⟨g, 0, none⟩) n c (dlOf es) K hKn W (qrow_at HQ.out hel) (by omega)
      clear hd hd1 hel hgW HNE HEL HD0 r1 r2
      go_wp2_with fail
      refine hc1.mono ?_
      rintro e w2 ⟨va, m, vc, rfl, hm, A1, N1, K2⟩
      have HA1 : Hid (AtI w2 va (hiD n (dlOf es) K)) := A1
      have HN1 : Hid (∀ b f, va = some ⟨b, f, none⟩ → W.heap.size ≤ b) := N1
      have HM1 : Hid (m = (hiD n (dlOf es) K).length) := hm
      have HB2 : Hid (Box w.heap.size w2 33 sb [.int .i64 0, .slice none 0 0, .slice (some ⟨g, 0, none⟩) n c]) := HBX.out.kept K2
      have HQ2 : Hid (QRow 900 w.heap.size w2 (.slice (some ⟨g, 0, none⟩) n c) es) := HQ.out.kept K2
      have HK2 : Hid (Kept w w2) := KK.trans K2
      have HZ2 : Hid (W.heap.size ≤ w2.heap.size) := K2.size
      clear A1 N1 hm HBX HQ KK K2 hc1 s0 s1 s2
      have s0 : w2.cell? ⟨sb, 0, none⟩ = some (.int .i64 0) := HB2.out.cell 0 (by simp)
      have s1 : w2.cell? ⟨sb, 1, none⟩ = some (.slice none 0 0) := HB2.out.cell 1 (by simp)
      have s2 : w2.cell? ⟨sb, 2, none⟩ = some (.slice (some ⟨g, 0, none⟩) n c) := HB2.out.cell 2 (by simp)
      have hc2 := prios_any 0 none 0 0 (some ⟨g, 0, none⟩) n c (dlOf es) w2 (qrow_at HQ2.out HELN.out) h1 (by omega)
      go_wp2_with fail
      refine hc2.mono ?_
      rintro e w3 ⟨gp, rfl, _, AP, K3⟩
      have hc3 := without_any (some ⟨gp, 0, none⟩) n n (prD n (dlOf es)) K w3 (prD_len _ _) AP (by omega)
      obtain ⟨lb, hlb⟩ : ∃ lb, (wo (prD n (dlOf es)) K n).length = lb := ⟨_, rfl⟩
      rw [hlb] at hc3
      have HLB : Hid ((wo (prD n (dlOf es)) K n).length = lb) := hlb
      clear hlb AP hc2 s0 s1 s2
      go_wp2_with fail
      refine hc3.mono ?_
      rintro e w4 ⟨vb, vbc, rfl, A4, N4, K4⟩
      have K24 := K3.trans K4
      have HA1' : Hid (AtI w4 va (hiD n (dlOf es) K)) := HA1.out.kept K24
      have HA4 : Hid (AtI w4 vb (wo (prD n (dlOf es)) K n)) := A4
      have HN4 : Hid (∀ b f, vb = some ⟨b, f, none⟩ → W.heap.size ≤ b) := fun b f e => by have h1 := N4 b f e; have h2 := HZ2.out; have h3 := K3.size; omega
      have HB4 : Hid (Box w.heap.size w4 33 sb [.int .i64 0, .slice none 0 0, .slice (some ⟨g, 0, none⟩) n c]) := HB2.out.kept K24
      have HQ4 : Hid (QRow 900 w.heap.size w4 (.slice (some ⟨g, 0, none⟩) n c) es) := HQ2.out.kept K24
      have HK4 : Hid (Kept w w4) := HK2.out.trans K24
      clear A4 N4 K3 K4 K24 HA1 HB2 HQ2 HK2 hc3
      go_wp2_with fail
      have BX0 : Box w.heap.size w4.drew 33 sb [.int .i64 0, .slice none 0 0, .slice (some ⟨g, 0, none⟩) n c] := HB4.out.kept ((Kept.refl w4).drew)
      have QR0 : QRow 900 w.heap.size w4.drew (.slice (some ⟨g, 0, none⟩) n c) es := HQ4.out.kept ((Kept.refl w4).drew)
      have KW0 : Kept w w4.drew := HK4.out.drew
      have A10 := HA1'.out.kept ((Kept.refl w4).drew)
      have A40 := HA4.out.kept ((Kept.refl w4).drew)
      clear HB4 HQ4 HK4 HA1' HA4
      refine wp_region_S (by kernel_rfl) 14 (fun w' => w'.cell? ⟨sb, 2, none⟩ = some (.slice (some ⟨g, 0, none⟩) n c) ∧ w'.cell? ⟨g, K * 5 + 2, none⟩ = some (.int .i64 d)) ?_
      generalize w4.drew = W0 at *
      have hS0 : W0.cell? ⟨sb, 2, none⟩ = some (.slice (some ⟨g, 0, none⟩) n c) ∧ W0.cell? ⟨g, K * 5 + 2, none⟩ = some (.int .i64 d) := by
        refine ⟨BX0.cell 2 (by simp), ?_⟩
        obtain ⟨b', f', e', hcc⟩ := qrow_at QR0 HELN.out K hKn
        cases e'
        rw [Nat.zero_add, HD1.out] at hcc
        exact hcc
      refine wpAnyS_take (i := 0) (v := .pointer (some ⟨sb, 2, none⟩)) rfl (by kernel_rfl) (by kernel_rfl) (by kernel_rfl) (by kernel_rfl) (fun _ _ _ h => h) hS0 rfl (fun wx hx => by obtain ⟨s1, s2⟩ := hx; go_simp) ?_
      refine wpAnyS_take (i := 1) (v := .slice (some ⟨g, 0, none⟩) n c) rfl (by kernel_rfl) (by kernel_rfl) (by kernel_rfl) (by kernel_rfl) (fun _ _ _ h => h) hS0 rfl (fun wx hx => by obtain ⟨s1, s2⟩ := hx; go_simp) ?_
      refine wpAnyS_take (i := 2) (v := .int .i64 (K : Int)) rfl (by kernel_rfl) (by kernel_rfl) (by kernel_rfl) (by kernel_rfl) (fun _ _ _ h => h) hS0 rfl (fun wx hx => by obtain ⟨s1, s2⟩ := hx; go_simp) ?_
      refine wpAnyS_take (i := 3) (v := .pointer (some ⟨sb, 2, none⟩)) rfl (by kernel_rfl) (by kernel_rfl) (by kernel_rfl) (by kernel_rfl) (fun _ _ _ h => h) hS0 rfl (fun wx hx => by obtain ⟨s1, s2⟩ := hx; go_simp) ?_
      refine wpAnyS_take (i := 4) (v := .slice (some ⟨g, 0, none⟩) n c) rfl (by kernel_rfl) (by kernel_rfl) (by kernel_rfl) (by kernel_rfl) (fun _ _ _ h => h) hS0 rfl (fun wx hx => by obtain ⟨s1, s2⟩ := hx; go_simp) ?_
      refine wpAnyS_take (i := 5) (v := .int .i64 (K : Int)) rfl (by kernel_rfl) (by kernel_rfl) (by kernel_rfl) (by kernel_rfl) (fun _ _ _ h => h) hS0 rfl (fun wx hx => by obtain ⟨s1, s2⟩ := hx; go_simp) ?_
      refine wpAnyS_take (i := 6) (v := .pointer (some ⟨g, K * 5, none⟩)) rfl (by kernel_rfl) (by kernel_rfl) (by kernel_rfl) (by kernel_rfl) (fun _ _ _ h => h) hS0 rfl (fun wx hx => by obtain ⟨s1, s2⟩ := hx; go_simp) ?_
      refine wpAnyS_take (i := 7) (v := .pointer (some ⟨g, K * 5 + 2, none⟩)) rfl (by kernel_rfl) (by kernel_rfl) (by kernel_rfl) (by kernel_rfl) (fun _ _ _ h => h) hS0 rfl (fun wx hx => by obtain ⟨s1, s2⟩ := hx; go_simp) ?_
      refine wpAnyS_take (i := 8) (v := .int .i64 d) rfl (by kernel_rfl) (by kernel_rfl) (by kernel_rfl) (by kernel_rfl) (fun _ _ _ h => h) hS0 rfl (fun wx hx => by obtain ⟨s1, s2⟩ := hx; go_simp) ?_
      refine wpAnyS_take (i := 9) (v := .int .u8 le) rfl (by kernel_rfl) (by kernel_rfl) (by kernel_rfl) (by kernel_rfl) (fun _ _ _ h => h) hS0 rfl (fun wx hx => by obtain ⟨s1, s2⟩ := hx; go_simp) ?_
      refine wpAnyS_take (i := 10) (v := .int .i64 le) rfl (by kernel_rfl) (by kernel_rfl) (by kernel_rfl) (by kernel_rfl) (fun _ _ _ h => h) hS0 rfl (fun wx hx => by obtain ⟨s1, s2⟩ := hx; go_simp) ?_
      refine wpAnyS_take (i := 11) (v := .int .i64 (d - le)) rfl (by kernel_rfl) (by kernel_rfl) (by kernel_rfl) (by kernel_rfl) (fun _ _ _ h => h) hS0 rfl (fun wx hx => by obtain ⟨s1, s2⟩ := hx; go_simp) ?_
      refine wpAnyS_one (i := 12) rfl (by kernel_rfl) (fun KX hK => ?_)
      have hS0a := hS0.1
      go_simp
      refine hK _ _ (fun _ => hS0) ?_
      clear hK KX hS0a
      refine wpAnyS_take (i := 13) (v := .pointer (some ⟨g, K * 5 + 2, none⟩)) rfl (by kernel_rfl) (by kernel_rfl) (by kernel_rfl) (by kernel_rfl) (fun _ _ _ h => h) hS0 rfl (fun wx hx => by obtain ⟨s1, s2⟩ := hx; go_simp) ?_
      have hfz : W0.frozen? ⟨g, K * 5 + 2, none⟩ = false := qrow_frozen QR0 HELN.out _
      refine wpAnyS_one (i := 14) rfl (by kernel_rfl) (fun KX hK => ?_)
      go_simp
      refine hK _ _ (fun h => absurd rfl h) ?_
      clear hK KX
      refine wpAnyS_done (by kernel_rfl) ?_ _
      have tf := turn_set W0 g (K * 5 + 2) (.int .i64 (d - le))
      have HBF : Hid (Box w.heap.size (W0.setCell ⟨g, K * 5 + 2, none⟩ (.int .i64 (d - le))) 33 sb [.int .i64 0, .slice none 0 0, .slice (some ⟨g, 0, none⟩) n c]) := BX0.turns tf (fun e => hgs e.symm)
      have HQF : Hid (QRow 900 w.heap.size (W0.setCell ⟨g, K * 5 + 2, none⟩ (.int .i64 (d - le))) (.slice (some ⟨g, 0, none⟩) n c) (es.set K (he0.1, d - le, he0.2.2))) := qrow_set QR0 HELN.out K _ HE0.out
      have HKF : Hid (Kept w (W0.setCell ⟨g, K * 5 + 2, none⟩ (.int .i64 (d - le)))) := tf.kept KW0 (fun i hi => by have := HGW.out; omega)
      have HA1F : Hid (AtI (W0.setCell ⟨g, K * 5 + 2, none⟩ (.int .i64 (d - le))) va (hiD n (dlOf es) K)) := A10.turns tf (fun b f e h => by have := HN1.out b f e; have := HGW.out; omega)
      have HA4F : Hid (AtI (W0.setCell ⟨g, K * 5 + 2, none⟩ (.int .i64 (d - le))) vb (wo (prD n (dlOf es)) K n)) := A40.turns tf (fun b f e h => by have := HN4.out b f e; have := HGW.out; omega)
      clear tf BX0 QR0 KW0 A10 A40 hS0 hfz HN1 HN4 HZ2
      generalize W0.setCell ⟨g, K * 5 + 2, none⟩ (.int .i64 (d - le)) = W5 at *
      have HSL : Hid ((es.set K (he0.1, d - le, he0.2.2)).length = n) := by show _ = _; rw [List.length_set]; exact HELN.out
      have HDK : Hid (dlOf (es.set K (he0.1, d - le, he0.2.2)) K ≤ dlOf es K) := by
        show _ ≤ _
        rw [dlOf_set (by have := HELN.out; omega), if_pos rfl, HD1.out]
        show d - le ≤ d
        omega
      have HDO : Hid (∀ q, q ≠ K → dlOf (es.set K (he0.1, d - le, he0.2.2)) q = dlOf es q) := fun q hq => by rw [dlOf_set (by have := HELN.out; omega), if_neg hq]
      obtain ⟨ez, hez⟩ : ∃ ez, es.set K (he0.1, d - le, he0.2.2) = ez := ⟨_, rfl⟩
      rw [hez] at HQF HSL HDK HDO
      clear hez HE0 HD1 HGW
      have s0 : W5.cell? ⟨sb, 0, none⟩ = some (.int .i64 0) := HBF.out.cell 0 (by simp)
      have s1 : W5.cell? ⟨sb, 1, none⟩ = some (.slice none 0 0) := HBF.out.cell 1 (by simp)
      have s2 : W5.cell? ⟨sb, 2, none⟩ = some (.slice (some ⟨g, 0, none⟩) n c) := HBF.out.cell 2 (by simp)
      have hc5 := higher_far 0 none 0 0 (some ⟨g, 0, none⟩) n c (dlOf ez) K hKn W5 (qrow_at HQF.out HSL.out) (by omega)
      go_wp2_with fail
      refine hc5.mono ?_
      rintro e w6 ⟨vd, m2, vdc, rfl, hm2, A6, _, K6⟩
      have HA6 : Hid (AtI w6 vd (hiD n (dlOf ez) K)) := A6
      have HM2 : Hid (m2 = (hiD n (dlOf ez) K).length) := hm2
      have HB6 : Hid (Box w.heap.size w6 33 sb [.int .i64 0, .slice none 0 0, .slice (some ⟨g, 0, none⟩) n c]) := HBF.out.kept K6
      have HQ6 : Hid (QRow 900 w.heap.size w6 (.slice (some ⟨g, 0, none⟩) n c) ez) := HQF.out.kept K6
      have HA16 : Hid (AtI w6 va (hiD n (dlOf es) K)) := HA1F.out.kept K6
      have HA46 : Hid (AtI w6 vb (wo (prD n (dlOf es)) K n)) := HA4F.out.kept K6
      have HK6 : Hid (Kept w w6) := HKF.out.trans K6
      clear A6 hm2 K6 HBF HQF HA1F HA4F HKF hc5 s0 s1 s2
      have s0 : w6.cell? ⟨sb, 0, none⟩ = some (.int .i64 0) := HB6.out.cell 0 (by simp)
      have s1 : w6.cell? ⟨sb, 1, none⟩ = some (.slice none 0 0) := HB6.out.cell 1 (by simp)
      have s2 : w6.cell? ⟨sb, 2, none⟩ = some (.slice (some ⟨g, 0, none⟩) n c) := HB6.out.cell 2 (by simp)
      have hc6 := prios_any 0 none 0 0 (some ⟨g, 0, none⟩) n c (dlOf ez) w6 (qrow_at HQ6.out HSL.out) h1 (by omega)
      go_wp2_with fail
      refine hc6.mono ?_
      rintro e w7 ⟨gq, rfl, _, AQ, K7⟩
      have hc7 := without_any (some ⟨gq, 0, none⟩) n n (prD n (dlOf ez)) K w7 (prD_len _ _) AQ (by omega)
      rw [wo_same h1 HDO.out, HLB.out] at hc7
      clear AQ hc6 s0 s1 s2
      go_wp2_with fail
      refine hc7.mono ?_
      rintro e w8 ⟨ve, vec, rfl, A8, _, K8⟩
      have K68 := K7.trans K8
      have hlm : m2 ≤ m := by rw [HM1.out, HM2.out]; exact hi_len HDK.out HDO.out
      have b9 : ¬ (m2 : Int) > (m : Int) := by omega
      have b9n : ¬ m < m2 := by omega
      have b10 : m ≤ 1000 := by have := hi_len_n n (dlOf es) K; have := HM1.out; omega
      have b11 : m2 ≤ 1000 := by omega
      have HA8 : Hid (AtI w8 va (hiD n (dlOf es) K)) := HA16.out.kept K68
      have HC8 : Hid (AtI w8 vd (hiD n (dlOf ez) K)) := HA6.out.kept K68
      have hlb12 : lb ≤ n := by rw [← HLB.out]; exact wo_len _ _ _
      have hfin : ∀ wx, Kept w8 wx → Calls Try.prog 13 #[.slice vb lb vbc, .slice ve lb vec] wx fun e w' => e = .returned (.bool true) ∧ Kept wx w' := fun wx kx => ints_same vb ve vbc vec lb _ HLB.out wx ((HA46.out.kept K68).kept kx) (A8.kept kx) (by omega)
      have HFIN : Hid (∀ wx, Kept w8 wx → Calls Try.prog 13 #[.slice vb lb vbc, .slice ve lb vec] wx fun e w' => e = .returned (.bool true) ∧ Kept wx w') := hfin
      have K88 : Kept w w8 := HK6.out.trans K68
      have HML : Hid (∀ q z, (hiD n (dlOf ez) K)[q]? = some z → z ∈ hiD n (dlOf es) K) := fun q z h => hi_mem HDK.out HDO.out z (List.mem_of_getElem? h)
      obtain ⟨LA, hLA⟩ : ∃ l, hiD n (dlOf es) K = l := ⟨_, rfl⟩
      obtain ⟨LC, hLC⟩ : ∃ l, hiD n (dlOf ez) K = l := ⟨_, rfl⟩
      rw [hLA] at HA8 HML HM1
      rw [hLC] at HC8 HML HM2
      clear hLA hLC hfin A8 K7 K8 K68 HA6 HA16 HA46 HB6 HQ6 HK6 HLB HDK HDO HSL HELN hc7 hlb12 hlm
      go_wp2_with fail
      go_loopg [14] m2 (fun gk i wr => ∃ q : Nat, i = .int .i64 q ∧ q + gk = m2 ∧ Kept w8 wr)
      case atStart => exact ⟨0, rfl, by omega, Kept.refl w8⟩
      case round =>
        obtain ⟨q, rfl, hq, KR⟩ := hrel
        by_cases hqm : q < m2
        · have b3 : (q : Int) < (m2 : Int) := by omega
          have b4 : (0 : Int) ≤ (q : Int) := by omega
          obtain ⟨z, hz⟩ : ∃ z, LC[q]? = some z := ⟨_, List.getElem?_eq_getElem (by rw [← HM2.out]; exact hqm)⟩
          have HZ : Hid (z ∈ LA) := HML.out q z hz
          obtain ⟨bd, fd, rfl, _⟩ := HC8.out q z hz
          have HCQ : Hid (∀ wx, Kept w8 wx → wx.cell? ⟨bd, fd + q, none⟩ = some (.int .i64 z)) := by
            intro wx kx
            obtain ⟨b', f', e', hc⟩ := (HC8.out.kept kx) q z hz
            cases e'
            exact hc
          obtain ⟨gm, rfl⟩ : ∃ g, gk = g + 1 := ⟨gk - 1, by omega⟩
          obtain ⟨wo1, rfl⟩ : ∃ z, z = wr := ⟨_, rfl⟩
          clear hz
          go_wp2_with fail
          go_loopg [15, 16] m (fun gk y i wr2 => ∃ (r : Nat) (fl : Bool), y = .bool fl ∧ i = .int .i64 r ∧ r + gk = m ∧ Hid (fl = decide (z ∈ LA.take r)) ∧ Kept w8 wr2)
          case atStart => exact ⟨0, false, rfl, rfl, by omega, (by show _ = _; simp), KR⟩
          case round =>
            obtain ⟨r, fl, rfl, rfl, hr, HFL, KS⟩ := hrel
            by_cases hrm : r < m
            · have b5 : (r : Int) < (m : Int) := by omega
              have b6 : (0 : Int) ≤ (r : Int) := by omega
              obtain ⟨y, hy⟩ : ∃ y, LA[r]? = some y := ⟨_, List.getElem?_eq_getElem (by rw [← HM1.out]; exact hrm)⟩
              obtain ⟨ba, fa, rfl, c1⟩ := (HA8.out.kept KS) r y hy
              have c2 := HCQ.out wr KS
              have HY : Hid (LA[r]? = some y) := hy
              obtain ⟨gi, rfl⟩ : ∃ g, gk = g + 1 := ⟨gk - 1, by omega⟩
              clear hy
              cases fl with
              | true =>
                have HFL2 : Hid (true = decide (z ∈ LA.take (r + 1))) := flag_true HFL.out
                clear HFL HY
                go_wp2_with fail
                go_big_region
                all_goals go_wp2_with fail
                go_roundg gi
                case rel => exact ⟨r + 1, true, rfl, by go_num, by omega, HFL2, KS.drew⟩
                case measure => omega
              | false =>
                have HFL2 : Hid ((y == z) = decide (z ∈ LA.take (r + 1))) := flag_false HFL.out HY.out
                obtain ⟨fz, hfz⟩ : ∃ fz, (y == z) = fz := ⟨_, rfl⟩
                rw [hfz] at HFL2
                clear HFL HY
                go_wp2_with fail
                go_region_held3 (fun w' => w'.cell? ⟨ba, fa + r, none⟩ = some (.int .i64 y) ∧ w'.cell? ⟨bd, fd + q, none⟩ = some (.int .i64 z)) (go_keep) (fail)
                go_wp2_with fail
                go_roundg gi
                case rel => exact ⟨r + 1, fz, rfl, by go_num, by omega, HFL2, KS.drew⟩
                case measure => omega
            · have b5 : ¬ (r : Int) < (m : Int) := by omega
              obtain rfl : fl = true := by
                rw [HFL.out, List.take_of_length_le (by rw [← HM1.out]; omega)]
                exact decide_eq_true HZ.out
              clear HFL
              go_wp2_with fail
              go_roundg gm
              case rel => exact ⟨q + 1, by go_num, by omega, KS⟩
              case measure => omega
        · have b3 : ¬ (q : Int) < (m2 : Int) := by omega
          have hf := HFIN.out wr KR
          clear HFIN
          go_wp2_with fail
          refine hf.mono ?_
          rintro e w9 ⟨rfl, K9⟩
          go_wp2_with fail
          go_ret
          exact ⟨rfl, (K88.trans KR).trans K9⟩
end Go.Proofs.Ytcfgcbjhlamchaa
