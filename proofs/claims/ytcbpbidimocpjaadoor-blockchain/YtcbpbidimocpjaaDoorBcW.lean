/- BlockChain, walked. -/
import Derived.Test.YtcbpbidimocpjaaDoorBcP
namespace Go.Proofs.YtcbpbidimocpjaaDoor
open Go.RowKit Go.Sort

theorem wrapN {z : Int} (h0 : -1000000000 ≤ z) (h1 : z ≤ 1000000000) : IntKind.i64.wrap z = z := by
  simp [IntKind.wrap, IntKind.bits, IntKind.signed]
  omega
theorem wrap8 {z : Int} (h0 : 0 ≤ z) (h1 : z ≤ 255) : IntKind.u8.wrap z = z := by
  simp [IntKind.wrap, IntKind.bits, IntKind.signed]
  omega
/-- Which lock task i has, how long it holds it. -/
def kC (Z : List Int) (i : Nat) : Nat := (Z.getD i 0 % 4).toNat
def rC (Z : List Int) (i : Nat) : Int := 1 + max 0 (min 255 (Z.getD i 0))
theorem kC_lt (Z : List Int) (i : Nat) : kC Z i < 4 := by unfold kC; omega
theorem rC_bd (Z : List Int) (i : Nat) : 1 ≤ rC Z i ∧ rC Z i ≤ 256 := by unfold rC; omega
theorem kC_get {Z : List Int} {i : Nat} {z : Int} (h : Z[i]? = some z) : (kC Z i : Int) = z % 4 := by
  unfold kC
  rw [List.getD_eq_getElem?_getD, h]
  simp
  omega
theorem rC_get {Z : List Int} {i : Nat} {z : Int} (h : Z[i]? = some z) (h0 : 0 ≤ z) (h1 : z ≤ 255) : rC Z i = 1 + z := by
  unfold rC
  rw [List.getD_eq_getElem?_getD, h]
  simp
  omega
theorem conv_at (w : World) (b j : Nat) (hj : j ≤ 20) (h : w.cell? ⟨b, 0, none⟩ = some (.int .u8 (97 + (j : Int)))) : (convert 43 9 (.slice (some ⟨b, 0, none⟩) 1 1)).run Tryd.prog w = .ok (.string (B [UInt8.ofNat (97 + j)])) w := by
  refine run_convert_bytes_back (P := Tryd.prog) _ 43 9 5 ⟨b, 0, none⟩ 1 [UInt8.ofNat (97 + j)] Tryd.underlying43 Tryd.underlying5 Tryd.underlying9 ?_
  intro i hi
  rw [Addr.add_lit, Nat.zero_add]
  match i, hi with
  | 0, _ =>
    rw [h]
    simp
    omega

set_option maxHeartbeats 8000000 in
set_option maxRecDepth 20000 in
theorem bchain_law (a0 a1 : Option Addr) (Z0 Z1 : List Int) (c0 c1 : Nat) (w : World) (hr : Rdy w) (h0 : AtB w a0 Z0) (h1 : AtB w a1 Z1) (hz0 : ∀ z ∈ Z0, 0 ≤ z ∧ z ≤ 255) (hz1 : ∀ z ∈ Z1, 0 ≤ z ∧ z ≤ 255) :
    Calls Tryd.prog 4 #[.slice a0 Z0.length c0, .slice a1 Z1.length c1] w fun e w' => e = .returned (.bool true) ∧ Kept w w' := by
  have HR : Hid (Rdy w) := hr
  have H0 : Hid (AtB w a0 Z0) := h0
  have H1 : Hid (AtB w a1 Z1) := h1
  have HZ0 : Hid (∀ z ∈ Z0, 0 ≤ z ∧ z ≤ 255) := hz0
  have HZ1 : Hid (∀ z ∈ Z1, 0 ≤ z ∧ z ≤ 255) := hz1
  clear hr h0 h1 hz0 hz1
  go_enter Tryd.func4, Tryd.ntmps4
  go_wp2_with fail
  refine (bknown_true w HR.out).mono ?_
  rintro e w1 ⟨rfl, K1⟩
  by_cases r1 : (Z0.length : Int) < 1
  · go_wp2_with fail
    go_ret
    exact ⟨rfl, K1⟩
  by_cases r2 : (Z0.length : Int) > 12
  · go_wp2_with fail
    go_ret
    exact ⟨rfl, K1⟩
  by_cases r3 : (Z1.length : Int) < (Z0.length : Int)
  · go_wp2_with fail
    go_ret
    exact ⟨rfl, K1⟩
  have d1 : decide ((Z0.length : Int) < 1) = false := decide_eq_false r1
  have d2 : decide (12 < (Z0.length : Int)) = false := decide_eq_false r2
  have d3 : decide ((Z1.length : Int) < (Z0.length : Int)) = false := decide_eq_false r3
  have d4 : decide (Z1.length < Z0.length) = false := decide_eq_false (by omega)
  have HB0 : Hid (Box w.heap.size (w1.alloc (.cells #[.int .i64 4, .slice none 0 0, .slice none 0 0] 41)) 41 w1.heap.size [.int .i64 4, .slice none 0 0, .slice none 0 0]) := box_new w.heap.size w1 41 [.int .i64 4, .slice none 0 0, .slice none 0 0] K1.size (by simp)
  have KA := K1.alloc (.cells #[.int .i64 4, .slice none 0 0, .slice none 0 0] 41)
  obtain ⟨xb, hxb⟩ : ∃ sb, w1.heap.size = sb := ⟨_, rfl⟩
  rw [hxb] at HB0
  go_wp2_with fail
  go_loopg [6] Z0.length (fun gk is wr => ∃ (i : Nat) (v : Value) (pvs : List Value) (W : World), W = wr ∧ is = .int .i64 i ∧ i + gk = Z0.length ∧ Hid (TRow w.heap.size xb W v (tasksC (kC Z0) (rC Z1) i) pvs) ∧ Hid (Box w.heap.size W 41 xb [.int .i64 4, .slice none 0 0, v]) ∧ Hid (v.ownBlock ≠ some xb) ∧ Kept w W)
  case atStart => exact ⟨0, _, _, _, rfl, rfl, by omega, TRow.nil _ _ _, HB0, (by show _ ≠ _; simp [Value.ownBlock]), KA⟩
  case round =>
    obtain ⟨i, v, pvs, W, hW, rfl, hi, HT, HBX, HNE, K⟩ := hrel
    subst hW
    by_cases hin : i < Z0.length
    · have b1 : (i : Int) < (Z0.length : Int) := by omega
      have b2 : (0 : Int) ≤ (i : Int) := by omega
      have b3 : (i : Int) < (Z1.length : Int) := by omega
      have hi1 : i < Z1.length := by omega
      obtain ⟨gm, rfl⟩ : ∃ g, gk = g + 1 := ⟨gk - 1, by omega⟩
      obtain ⟨z, hzz⟩ : ∃ z, Z0[i]? = some z := ⟨_, List.getElem?_eq_getElem hin⟩
      obtain ⟨x, hxx⟩ : ∃ x, Z1[i]? = some x := ⟨_, List.getElem?_eq_getElem hi1⟩
      obtain ⟨q0, q1⟩ := HZ0.out z (List.mem_of_getElem? hzz)
      obtain ⟨p0, p1⟩ := HZ1.out x (List.mem_of_getElem? hxx)
      obtain ⟨b0, f0, rfl, cz0⟩ := H0.out i z hzz
      obtain ⟨b, f, rfl, hz⟩ := H1.out i x hxx
      have cz := K.cell cz0
      have hkk := kC_get hzz
      obtain ⟨kk, hkk2⟩ : ∃ k : Nat, kC Z0 i = k := ⟨_, rfl⟩
      rw [hkk2] at hkk
      have hlen : (tasksC (kC Z0) (rC Z1) i).length ≤ 1000000 := by rw [tasksC_len]; omega
      obtain ⟨nmv, hnm⟩ : ∃ y, [UInt8.ofNat (97 + i)] = y := ⟨_, rfl⟩
      have HTK : Hid (taskC (kC Z0) (rC Z1) i = ⟨nmv, 900, 300 + (i : Int), 300, pieceU (1 + x) kk⟩) := by
        show _ = _
        unfold taskC
        rw [hnm, hkk2, rC_get hxx p0 p1]
      obtain ⟨hw, hhw⟩ : ∃ y, W.heap.size = y := ⟨_, rfl⟩
      have hnb : ∀ pb, hw ≤ pb → ¬ ownB v xb pb := by
        intro pb hpb e
        have hxw := HBX.out.lt.2
        rcases e with e | e | e
        · have := (World.ownsRow.lt HT.out.row pb e).2
          omega
        · omega
        · omega
      have c2 : W.drew.cell? ⟨xb, 2, none⟩ = some v := HBX.out.cell 2 (by simp)
      have cx : W.drew.cell? ⟨b, f + i, none⟩ = some (.int .u8 x) := K.cell hz
      have y1 : IntKind.i64.wrap (97 + (i : Int)) = 97 + (i : Int) := wrapN (by omega) (by omega)
      have y2 : IntKind.u8.wrap (97 + (i : Int)) = 97 + (i : Int) := wrap8 (by omega) (by omega)
      have y3 : IntKind.i64.wrap x = x := wrapN (by omega) (by omega)
      have y4 : IntKind.i64.wrap (1 + x) = 1 + x := wrapN (by omega) (by omega)
      have y5 : IntKind.i64.wrap (300 + (i : Int)) = 300 + (i : Int) := wrapN (by omega) (by omega)
      clear hzz hxx cz0
      go_wp2_with fail
      rw [← hkk]
      clear hkk hkk2 q0 q1
      refine wp_region_S (by kernel_rfl) 25 (fun w' => w'.cell? ⟨xb, 2, none⟩ = some v ∧ w'.cell? ⟨b, f + i, none⟩ = some (.int .u8 x)) ?_
      have hS0 : W.drew.cell? ⟨xb, 2, none⟩ = some v ∧ W.drew.cell? ⟨b, f + i, none⟩ = some (.int .u8 x) := ⟨c2, cx⟩
      refine wpAnyS_take (i := 0) (v := .pointer (some ⟨xb, 2, none⟩)) rfl (by kernel_rfl) (by kernel_rfl) (by kernel_rfl) (by kernel_rfl) (fun _ _ _ h => h) hS0 rfl (fun wx hx => by obtain ⟨s1, s2⟩ := hx; go_simp) ?_
      refine wpAnyS_take (i := 1) (v := v) rfl (by kernel_rfl) (by kernel_rfl) (by kernel_rfl) (by kernel_rfl) (fun _ _ _ h => h) hS0 rfl (fun wx hx => by obtain ⟨s1, s2⟩ := hx; go_simp) ?_
      refine wpAnyS_take (i := 2) (v := .int .i64 (i : Int)) rfl (by kernel_rfl) (by kernel_rfl) (by kernel_rfl) (by kernel_rfl) (fun _ _ _ h => h) hS0 rfl (fun wx hx => by obtain ⟨s1, s2⟩ := hx; go_simp) ?_
      refine wpAnyS_take (i := 3) (v := .int .i64 (97 + (i : Int))) rfl (by kernel_rfl) (by kernel_rfl) (by kernel_rfl) (by kernel_rfl) (fun _ _ _ h => h) hS0 rfl (fun wx hx => by obtain ⟨s1, s2⟩ := hx; go_simp) ?_
      refine wpAnyS_take (i := 4) (v := .int .u8 (97 + (i : Int))) rfl (by kernel_rfl) (by kernel_rfl) (by kernel_rfl) (by kernel_rfl) (fun _ _ _ h => h) hS0 rfl (fun wx hx => by obtain ⟨s1, s2⟩ := hx; go_simp) ?_
      refine wpAnyS_take (i := 7) (v := .int .i64 (i : Int)) rfl (by kernel_rfl) (by kernel_rfl) (by kernel_rfl) (by kernel_rfl) (fun _ _ _ h => h) hS0 rfl (fun wx hx => by obtain ⟨s1, s2⟩ := hx; go_simp) ?_
      refine wpAnyS_take (i := 8) (v := .int .i64 (300 + (i : Int))) rfl (by kernel_rfl) (by kernel_rfl) (by kernel_rfl) (by kernel_rfl) (fun _ _ _ h => h) hS0 rfl (fun wx hx => by obtain ⟨s1, s2⟩ := hx; go_simp) ?_
      refine wpAnyS_take (i := 9) (v := .int .i64 kk) rfl (by kernel_rfl) (by kernel_rfl) (by kernel_rfl) (by kernel_rfl) (fun _ _ _ h => h) hS0 rfl (fun wx hx => by obtain ⟨s1, s2⟩ := hx; go_simp) ?_
      refine wpAnyS_take (i := 10) (v := .agg #[.int .i64 2, .int .i64 kk, .int .i64 0, .int .i64 0, .slice none 0 0]) rfl (by kernel_rfl) (by kernel_rfl) (by kernel_rfl) (by kernel_rfl) (fun _ _ _ h => h) hS0 rfl (fun wx hx => by obtain ⟨s1, s2⟩ := hx; go_simp) ?_
      refine wpAnyS_take (i := 11) (v := .slice (some ⟨b, f, none⟩) Z1.length c1) rfl (by kernel_rfl) (by kernel_rfl) (by kernel_rfl) (by kernel_rfl) (fun _ _ _ h => h) hS0 rfl (fun wx hx => by obtain ⟨s1, s2⟩ := hx; go_simp) ?_
      refine wpAnyS_take (i := 12) (v := .int .i64 (i : Int)) rfl (by kernel_rfl) (by kernel_rfl) (by kernel_rfl) (by kernel_rfl) (fun _ _ _ h => h) hS0 rfl (fun wx hx => by obtain ⟨s1, s2⟩ := hx; go_simp) ?_
      refine wpAnyS_take (i := 13) (v := .pointer (some ⟨b, f + i, none⟩)) rfl (by kernel_rfl) (by kernel_rfl) (by kernel_rfl) (by kernel_rfl) (fun _ _ _ h => h) hS0 rfl (fun wx hx => by obtain ⟨s1, s2⟩ := hx; go_simp) ?_
      refine wpAnyS_take (i := 14) (v := .int .u8 x) rfl (by kernel_rfl) (by kernel_rfl) (by kernel_rfl) (by kernel_rfl) (fun _ _ _ h => h) hS0 rfl (fun wx hx => by obtain ⟨s1, s2⟩ := hx; go_simp) ?_
      refine wpAnyS_take (i := 15) (v := .int .i64 x) rfl (by kernel_rfl) (by kernel_rfl) (by kernel_rfl) (by kernel_rfl) (fun _ _ _ h => h) hS0 rfl (fun wx hx => by obtain ⟨s1, s2⟩ := hx; go_simp) ?_
      refine wpAnyS_take (i := 16) (v := .int .i64 (1 + x)) rfl (by kernel_rfl) (by kernel_rfl) (by kernel_rfl) (by kernel_rfl) (fun _ _ _ h => h) hS0 rfl (fun wx hx => by obtain ⟨s1, s2⟩ := hx; go_simp) ?_
      refine wpAnyS_take (i := 17) (v := .agg #[.int .i64 1, .int .i64 (1 + x), .int .i64 0, .int .i64 0, .slice none 0 0]) rfl (by kernel_rfl) (by kernel_rfl) (by kernel_rfl) (by kernel_rfl) (fun _ _ _ h => h) hS0 rfl (fun wx hx => by obtain ⟨s1, s2⟩ := hx; go_simp) ?_
      refine wpAnyS_take (i := 18) (v := .int .i64 kk) rfl (by kernel_rfl) (by kernel_rfl) (by kernel_rfl) (by kernel_rfl) (fun _ _ _ h => h) hS0 rfl (fun wx hx => by obtain ⟨s1, s2⟩ := hx; go_simp) ?_
      refine wpAnyS_take (i := 19) (v := .agg #[.int .i64 3, .int .i64 kk, .int .i64 0, .int .i64 0, .slice none 0 0]) rfl (by kernel_rfl) (by kernel_rfl) (by kernel_rfl) (by kernel_rfl) (fun _ _ _ h => h) hS0 rfl (fun wx hx => by obtain ⟨s1, s2⟩ := hx; go_simp) ?_
      have BX0 : Box w.heap.size W.drew 41 xb [.int .i64 4, .slice none 0 0, v] := HBX.out.kept ((Kept.refl W).drew)
      have TR0 : TRow w.heap.size xb W.drew v (tasksC (kC Z0) (rC Z1) i) pvs := HT.out.kept ((Kept.refl W).drew)
      have KW0 : Kept w W.drew := K.drew
      have hz0 : hw ≤ W.drew.heap.size := by rw [← hhw]; exact ((Kept.refl W).drew).size
      clear HBX HT K c2 cx
      generalize W.drew = W0 at *
      refine wpAnyS_two (i := 5) (j := 20) rfl rfl (by kernel_rfl) (fun K hK => ?_) (fun K hK => ?_)
      · go_simp
        have A1 := (Kept.refl W0).alloc (.cells #[.int .u8 (97 + (i : Int))] 5)
        have hS1 := And.intro (A1.cell hS0.1) (A1.cell hS0.2)
        have BX1 := BX0.kept A1
        have TR1 := TR0.kept A1
        have KW1 := KW0.trans A1
        have hz1 : hw ≤ (W0.alloc (.cells #[.int .u8 (97 + (i : Int))] 5)).heap.size := Nat.le_trans hz0 A1.size
        have cb : (W0.alloc (.cells #[.int .u8 (97 + (i : Int))] 5)).cell? ⟨W0.heap.size, 0, none⟩ = some (.int .u8 (97 + (i : Int))) := by simp
        refine hK _ _ (fun _ => hS1) ?_
        clear hK K A1
        generalize W0.heap.size = bb at *
        generalize W0.alloc (.cells #[.int .u8 (97 + (i : Int))] 5) = W1 at *
        refine wpAnyS_two (i := 6) (j := 20) rfl rfl (by kernel_rfl) (fun K hK => ?_) (fun K hK => ?_)
        · have hcv := conv_at W1 bb i (by omega) cb
          rw [hnm] at hcv
          go_simp
          refine hK _ _ (fun _ => hS1) ?_
          clear hK K
          refine wpAnyS_one (i := 20) rfl (by kernel_rfl) (fun K hK => ?_)
          go_simp
          have A2 := (Kept.refl W1).alloc (.cells #[.int .i64 2, .int .i64 kk, .int .i64 0, .int .i64 0, .slice none 0 0, .int .i64 1, .int .i64 (1 + x), .int .i64 0, .int .i64 0, .slice none 0 0, .int .i64 3, .int .i64 kk, .int .i64 0, .int .i64 0, .slice none 0 0] 46)
          have hS2 := And.intro (A2.cell hS1.1) (A2.cell hS1.2)
          have BX2 := BX1.kept A2
          have TR2 := TR1.kept A2
          have KW2 := KW1.trans A2
          have hz2 : hw ≤ (W1.alloc (.cells #[.int .i64 2, .int .i64 kk, .int .i64 0, .int .i64 0, .slice none 0 0, .int .i64 1, .int .i64 (1 + x), .int .i64 0, .int .i64 0, .slice none 0 0, .int .i64 3, .int .i64 kk, .int .i64 0, .int .i64 0, .slice none 0 0] 46)).heap.size := Nat.le_trans hz1 A2.size
          have hpb : hw ≤ W1.heap.size := hz1
          have hpp2 : AtP (W1.alloc (.cells #[.int .i64 2, .int .i64 kk, .int .i64 0, .int .i64 0, .slice none 0 0, .int .i64 1, .int .i64 (1 + x), .int .i64 0, .int .i64 0, .slice none 0 0, .int .i64 3, .int .i64 kk, .int .i64 0, .int .i64 0, .slice none 0 0] 46)) (some ⟨W1.heap.size, 0, none⟩) (pieceU (1 + x) kk) := by
            obtain ⟨a', c', e', _, _, h⟩ := (orow_new w.heap.size W1 (pieceU (1 + x) kk) (by simp [pieceU, oLock, oRun, oUnl]) #[.int .i64 2, .int .i64 kk, .int .i64 0, .int .i64 0, .slice none 0 0, .int .i64 1, .int .i64 (1 + x), .int .i64 0, .int .i64 0, .slice none 0 0, .int .i64 3, .int .i64 kk, .int .i64 0, .int .i64 0, .slice none 0 0] rfl KW1.size (by simp [pieceU]) 3 rfl).view
            cases e'
            exact h
          refine hK _ _ (fun _ => hS2) ?_
          clear hK K A2
          generalize W1.heap.size = pb at *
          generalize W1.alloc (.cells #[.int .i64 2, .int .i64 kk, .int .i64 0, .int .i64 0, .slice none 0 0, .int .i64 1, .int .i64 (1 + x), .int .i64 0, .int .i64 0, .slice none 0 0, .int .i64 3, .int .i64 kk, .int .i64 0, .int .i64 0, .slice none 0 0] 46) = W2 at *
          refine wpAnyS_one (i := 21) rfl (by kernel_rfl) (fun K hK => ?_)
          go_simp
          refine hK _ _ (fun _ => hS2) ?_
          clear hK K
          refine wpAnyS_one (i := 22) rfl (by kernel_rfl) (fun K hK => ?_)
          go_simp
          have A3 := (Kept.refl W2).alloc (.cells #[.string (B nmv), .int .i64 900, .int .i64 (300 + (i : Int)), .int .i64 300, .slice (some ⟨pb, 0, none⟩) 3 3] 49)
          have hS3 := And.intro (A3.cell hS2.1) (A3.cell hS2.2)
          refine hK _ _ (fun _ => hS3) ?_
          clear hK K
          refine wpAnyS_one (i := 23) rfl (by kernel_rfl) (fun K hK => ?_)
          refine step_append_tk _ (by rfl) _ _ (by rfl) w.heap.size xb v (tasksC (kC Z0) (rC Z1) i) pvs ⟨nmv, 900, 300 + (i : Int), 300, pieceU (1 + x) kk⟩ (some ⟨pb, 0, none⟩) 3 _ rfl W2 (by rfl) (by rfl) W2.heap.size (by rfl) (by rfl) TR2 (Nat.le_refl _) (fun e => by cases e) (fun w' t => hpp2.turn0 t (hnb pb hpb) (by simp [pieceU, oLock, oRun, oUnl])) hlen KW2.size ?_
          intro g5 c5 w5 R5 t5 hg5
          have B5 := BX2.turns t5 (fun e => HNE.out e)
          have K5 : Kept w w5 := t5.kept KW2 (fun q hq => (World.ownsRow.lt TR2.row q hq).1)
          have z2 : w5.cell? ⟨xb, 2, none⟩ = some v := B5.cell 2 (by simp)
          have z3 : w5.frozen? ⟨xb, 2, none⟩ = false := B5.frozen 2
          have hS5 := And.intro z2 (K5.cell hz)
          have hgs : g5 ≠ xb := by
            intro e
            rcases hg5 with h | h
            · exact HNE.out (e ▸ h)
            · have := BX2.lt.2
              omega
          refine hK _ _ (fun _ => hS5) ?_
          clear hK K
          refine wpAnyS_one (i := 24) rfl (by kernel_rfl) (fun K hK => ?_)
          go_simp
          refine hK _ _ (fun _ => hS5) ?_
          clear hK K
          refine wpAnyS_one (i := 25) rfl (by kernel_rfl) (fun K hK => ?_)
          go_simp
          refine hK _ _ (fun h => absurd rfl h) ?_
          clear hK K
          refine wpAnyS_done (by kernel_rfl) ?_ _
          have tf := turn_set w5 xb 2 (.slice (some ⟨g5, 0, none⟩) ((tasksC (kC Z0) (rC Z1) i).length + 1) c5)
          have HBF : Hid (Box w.heap.size (w5.setCell ⟨xb, 2, none⟩ (.slice (some ⟨g5, 0, none⟩) ((tasksC (kC Z0) (rC Z1) i).length + 1) c5)) 41 xb [.int .i64 4, .slice none 0 0, .slice (some ⟨g5, 0, none⟩) ((tasksC (kC Z0) (rC Z1) i).length + 1) c5]) := B5.set 2 _
          have HTF : Hid (TRow w.heap.size xb (w5.setCell ⟨xb, 2, none⟩ (.slice (some ⟨g5, 0, none⟩) ((tasksC (kC Z0) (rC Z1) i).length + 1) c5)) (.slice (some ⟨g5, 0, none⟩) ((tasksC (kC Z0) (rC Z1) i).length + 1) c5) (tasksC (kC Z0) (rC Z1) (i + 1)) (pvs ++ [.slice (some ⟨pb, 0, none⟩) 3 3])) := by
            show TRow _ _ _ _ _ _
            rw [tasksC_next, HTK.out]
            exact R5.other tf (by simp [Value.ownBlock]; exact hgs)
          have HKF : Hid (Kept w (w5.setCell ⟨xb, 2, none⟩ (.slice (some ⟨g5, 0, none⟩) ((tasksC (kC Z0) (rC Z1) i).length + 1) c5))) := tf.kept K5 (fun q hq => by have := B5.lt.1; omega)
          have HNF : Hid ((Value.slice (some ⟨g5, 0, none⟩) ((tasksC (kC Z0) (rC Z1) i).length + 1) c5).ownBlock ≠ some xb) := by show _ ≠ _; simp [Value.ownBlock]; exact hgs
          clear B5 R5 t5 hg5 z2 z3 hS5 hS2 hS3 TR2 BX2 K5 hpp2 hcv
          go_wp2_with fail
          go_roundg gm
          case rel => exact ⟨i + 1, _, _, _, rfl, by go_num, by omega, HTF, HBF, HNF, HKF.out⟩
          case measure => omega
        · go_simp
          have A2 := (Kept.refl W1).alloc (.cells #[.int .i64 2, .int .i64 kk, .int .i64 0, .int .i64 0, .slice none 0 0, .int .i64 1, .int .i64 (1 + x), .int .i64 0, .int .i64 0, .slice none 0 0, .int .i64 3, .int .i64 kk, .int .i64 0, .int .i64 0, .slice none 0 0] 46)
          have hS2 := And.intro (A2.cell hS1.1) (A2.cell hS1.2)
          have BX2 := BX1.kept A2
          have TR2 := TR1.kept A2
          have KW2 := KW1.trans A2
          have hz2 : hw ≤ (W1.alloc (.cells #[.int .i64 2, .int .i64 kk, .int .i64 0, .int .i64 0, .slice none 0 0, .int .i64 1, .int .i64 (1 + x), .int .i64 0, .int .i64 0, .slice none 0 0, .int .i64 3, .int .i64 kk, .int .i64 0, .int .i64 0, .slice none 0 0] 46)).heap.size := Nat.le_trans hz1 A2.size
          have hpb : hw ≤ W1.heap.size := hz1
          have hpp2 : AtP (W1.alloc (.cells #[.int .i64 2, .int .i64 kk, .int .i64 0, .int .i64 0, .slice none 0 0, .int .i64 1, .int .i64 (1 + x), .int .i64 0, .int .i64 0, .slice none 0 0, .int .i64 3, .int .i64 kk, .int .i64 0, .int .i64 0, .slice none 0 0] 46)) (some ⟨W1.heap.size, 0, none⟩) (pieceU (1 + x) kk) := by
            obtain ⟨a', c', e', _, _, h⟩ := (orow_new w.heap.size W1 (pieceU (1 + x) kk) (by simp [pieceU, oLock, oRun, oUnl]) #[.int .i64 2, .int .i64 kk, .int .i64 0, .int .i64 0, .slice none 0 0, .int .i64 1, .int .i64 (1 + x), .int .i64 0, .int .i64 0, .slice none 0 0, .int .i64 3, .int .i64 kk, .int .i64 0, .int .i64 0, .slice none 0 0] rfl KW1.size (by simp [pieceU]) 3 rfl).view
            cases e'
            exact h
          have cb2 := A2.cell cb
          refine hK _ _ (fun _ => hS2) ?_
          clear hK K A2
          generalize W1.heap.size = pb at *
          generalize W1.alloc (.cells #[.int .i64 2, .int .i64 kk, .int .i64 0, .int .i64 0, .slice none 0 0, .int .i64 1, .int .i64 (1 + x), .int .i64 0, .int .i64 0, .slice none 0 0, .int .i64 3, .int .i64 kk, .int .i64 0, .int .i64 0, .slice none 0 0] 46) = W2 at *
          refine wpAnyS_one (i := 6) rfl (by kernel_rfl) (fun K hK => ?_)
          have hcv := conv_at W2 bb i (by omega) cb2
          rw [hnm] at hcv
          go_simp
          refine hK _ _ (fun _ => hS2) ?_
          clear hK K
          refine wpAnyS_one (i := 21) rfl (by kernel_rfl) (fun K hK => ?_)
          go_simp
          refine hK _ _ (fun _ => hS2) ?_
          clear hK K
          refine wpAnyS_one (i := 22) rfl (by kernel_rfl) (fun K hK => ?_)
          go_simp
          have A3 := (Kept.refl W2).alloc (.cells #[.string (B nmv), .int .i64 900, .int .i64 (300 + (i : Int)), .int .i64 300, .slice (some ⟨pb, 0, none⟩) 3 3] 49)
          have hS3 := And.intro (A3.cell hS2.1) (A3.cell hS2.2)
          refine hK _ _ (fun _ => hS3) ?_
          clear hK K
          refine wpAnyS_one (i := 23) rfl (by kernel_rfl) (fun K hK => ?_)
          refine step_append_tk _ (by rfl) _ _ (by rfl) w.heap.size xb v (tasksC (kC Z0) (rC Z1) i) pvs ⟨nmv, 900, 300 + (i : Int), 300, pieceU (1 + x) kk⟩ (some ⟨pb, 0, none⟩) 3 _ rfl W2 (by rfl) (by rfl) W2.heap.size (by rfl) (by rfl) TR2 (Nat.le_refl _) (fun e => by cases e) (fun w' t => hpp2.turn0 t (hnb pb hpb) (by simp [pieceU, oLock, oRun, oUnl])) hlen KW2.size ?_
          intro g5 c5 w5 R5 t5 hg5
          have B5 := BX2.turns t5 (fun e => HNE.out e)
          have K5 : Kept w w5 := t5.kept KW2 (fun q hq => (World.ownsRow.lt TR2.row q hq).1)
          have z2 : w5.cell? ⟨xb, 2, none⟩ = some v := B5.cell 2 (by simp)
          have z3 : w5.frozen? ⟨xb, 2, none⟩ = false := B5.frozen 2
          have hS5 := And.intro z2 (K5.cell hz)
          have hgs : g5 ≠ xb := by
            intro e
            rcases hg5 with h | h
            · exact HNE.out (e ▸ h)
            · have := BX2.lt.2
              omega
          refine hK _ _ (fun _ => hS5) ?_
          clear hK K
          refine wpAnyS_one (i := 24) rfl (by kernel_rfl) (fun K hK => ?_)
          go_simp
          refine hK _ _ (fun _ => hS5) ?_
          clear hK K
          refine wpAnyS_one (i := 25) rfl (by kernel_rfl) (fun K hK => ?_)
          go_simp
          refine hK _ _ (fun h => absurd rfl h) ?_
          clear hK K
          refine wpAnyS_done (by kernel_rfl) ?_ _
          have tf := turn_set w5 xb 2 (.slice (some ⟨g5, 0, none⟩) ((tasksC (kC Z0) (rC Z1) i).length + 1) c5)
          have HBF : Hid (Box w.heap.size (w5.setCell ⟨xb, 2, none⟩ (.slice (some ⟨g5, 0, none⟩) ((tasksC (kC Z0) (rC Z1) i).length + 1) c5)) 41 xb [.int .i64 4, .slice none 0 0, .slice (some ⟨g5, 0, none⟩) ((tasksC (kC Z0) (rC Z1) i).length + 1) c5]) := B5.set 2 _
          have HTF : Hid (TRow w.heap.size xb (w5.setCell ⟨xb, 2, none⟩ (.slice (some ⟨g5, 0, none⟩) ((tasksC (kC Z0) (rC Z1) i).length + 1) c5)) (.slice (some ⟨g5, 0, none⟩) ((tasksC (kC Z0) (rC Z1) i).length + 1) c5) (tasksC (kC Z0) (rC Z1) (i + 1)) (pvs ++ [.slice (some ⟨pb, 0, none⟩) 3 3])) := by
            show TRow _ _ _ _ _ _
            rw [tasksC_next, HTK.out]
            exact R5.other tf (by simp [Value.ownBlock]; exact hgs)
          have HKF : Hid (Kept w (w5.setCell ⟨xb, 2, none⟩ (.slice (some ⟨g5, 0, none⟩) ((tasksC (kC Z0) (rC Z1) i).length + 1) c5))) := tf.kept K5 (fun q hq => by have := B5.lt.1; omega)
          have HNF : Hid ((Value.slice (some ⟨g5, 0, none⟩) ((tasksC (kC Z0) (rC Z1) i).length + 1) c5).ownBlock ≠ some xb) := by show _ ≠ _; simp [Value.ownBlock]; exact hgs
          clear B5 R5 t5 hg5 z2 z3 hS5 hS2 hS3 TR2 BX2 K5 hpp2 hcv
          go_wp2_with fail
          go_roundg gm
          case rel => exact ⟨i + 1, _, _, _, rfl, by go_num, by omega, HTF, HBF, HNF, HKF.out⟩
          case measure => omega
      · go_simp
        have A1 := (Kept.refl W0).alloc (.cells #[.int .i64 2, .int .i64 kk, .int .i64 0, .int .i64 0, .slice none 0 0, .int .i64 1, .int .i64 (1 + x), .int .i64 0, .int .i64 0, .slice none 0 0, .int .i64 3, .int .i64 kk, .int .i64 0, .int .i64 0, .slice none 0 0] 46)
        have hS1 := And.intro (A1.cell hS0.1) (A1.cell hS0.2)
        have BX1 := BX0.kept A1
        have TR1 := TR0.kept A1
        have KW1 := KW0.trans A1
        have hz1 : hw ≤ (W0.alloc (.cells #[.int .i64 2, .int .i64 kk, .int .i64 0, .int .i64 0, .slice none 0 0, .int .i64 1, .int .i64 (1 + x), .int .i64 0, .int .i64 0, .slice none 0 0, .int .i64 3, .int .i64 kk, .int .i64 0, .int .i64 0, .slice none 0 0] 46)).heap.size := Nat.le_trans hz0 A1.size
        have hpb : hw ≤ W0.heap.size := hz0
        have hpp1 : AtP (W0.alloc (.cells #[.int .i64 2, .int .i64 kk, .int .i64 0, .int .i64 0, .slice none 0 0, .int .i64 1, .int .i64 (1 + x), .int .i64 0, .int .i64 0, .slice none 0 0, .int .i64 3, .int .i64 kk, .int .i64 0, .int .i64 0, .slice none 0 0] 46)) (some ⟨W0.heap.size, 0, none⟩) (pieceU (1 + x) kk) := by
          obtain ⟨a', c', e', _, _, h⟩ := (orow_new w.heap.size W0 (pieceU (1 + x) kk) (by simp [pieceU, oLock, oRun, oUnl]) #[.int .i64 2, .int .i64 kk, .int .i64 0, .int .i64 0, .slice none 0 0, .int .i64 1, .int .i64 (1 + x), .int .i64 0, .int .i64 0, .slice none 0 0, .int .i64 3, .int .i64 kk, .int .i64 0, .int .i64 0, .slice none 0 0] rfl KW0.size (by simp [pieceU]) 3 rfl).view
          cases e'
          exact h
        refine hK _ _ (fun _ => hS1) ?_
        clear hK K A1
        generalize W0.heap.size = pb at *
        generalize W0.alloc (.cells #[.int .i64 2, .int .i64 kk, .int .i64 0, .int .i64 0, .slice none 0 0, .int .i64 1, .int .i64 (1 + x), .int .i64 0, .int .i64 0, .slice none 0 0, .int .i64 3, .int .i64 kk, .int .i64 0, .int .i64 0, .slice none 0 0] 46) = W1 at *
        refine wpAnyS_one (i := 5) rfl (by kernel_rfl) (fun K hK => ?_)
        go_simp
        have A2 := (Kept.refl W1).alloc (.cells #[.int .u8 (97 + (i : Int))] 5)
        have hS2 := And.intro (A2.cell hS1.1) (A2.cell hS1.2)
        have BX2 := BX1.kept A2
        have TR2 := TR1.kept A2
        have KW2 := KW1.trans A2
        have hz2 : hw ≤ (W1.alloc (.cells #[.int .u8 (97 + (i : Int))] 5)).heap.size := Nat.le_trans hz1 A2.size
        have cb : (W1.alloc (.cells #[.int .u8 (97 + (i : Int))] 5)).cell? ⟨W1.heap.size, 0, none⟩ = some (.int .u8 (97 + (i : Int))) := by simp
        have hpp2 := hpp1.kept A2
        refine hK _ _ (fun _ => hS2) ?_
        clear hK K A2
        generalize W1.heap.size = bb at *
        generalize W1.alloc (.cells #[.int .u8 (97 + (i : Int))] 5) = W2 at *
        refine wpAnyS_one (i := 6) rfl (by kernel_rfl) (fun K hK => ?_)
        have hcv := conv_at W2 bb i (by omega) cb
        rw [hnm] at hcv
        go_simp
        refine hK _ _ (fun _ => hS2) ?_
        clear hK K
        refine wpAnyS_one (i := 21) rfl (by kernel_rfl) (fun K hK => ?_)
        go_simp
        refine hK _ _ (fun _ => hS2) ?_
        clear hK K
        refine wpAnyS_one (i := 22) rfl (by kernel_rfl) (fun K hK => ?_)
        go_simp
        have A3 := (Kept.refl W2).alloc (.cells #[.string (B nmv), .int .i64 900, .int .i64 (300 + (i : Int)), .int .i64 300, .slice (some ⟨pb, 0, none⟩) 3 3] 49)
        have hS3 := And.intro (A3.cell hS2.1) (A3.cell hS2.2)
        refine hK _ _ (fun _ => hS3) ?_
        clear hK K
        refine wpAnyS_one (i := 23) rfl (by kernel_rfl) (fun K hK => ?_)
        refine step_append_tk _ (by rfl) _ _ (by rfl) w.heap.size xb v (tasksC (kC Z0) (rC Z1) i) pvs ⟨nmv, 900, 300 + (i : Int), 300, pieceU (1 + x) kk⟩ (some ⟨pb, 0, none⟩) 3 _ rfl W2 (by rfl) (by rfl) W2.heap.size (by rfl) (by rfl) TR2 (Nat.le_refl _) (fun e => by cases e) (fun w' t => hpp2.turn0 t (hnb pb hpb) (by simp [pieceU, oLock, oRun, oUnl])) hlen KW2.size ?_
        intro g5 c5 w5 R5 t5 hg5
        have B5 := BX2.turns t5 (fun e => HNE.out e)
        have K5 : Kept w w5 := t5.kept KW2 (fun q hq => (World.ownsRow.lt TR2.row q hq).1)
        have z2 : w5.cell? ⟨xb, 2, none⟩ = some v := B5.cell 2 (by simp)
        have z3 : w5.frozen? ⟨xb, 2, none⟩ = false := B5.frozen 2
        have hS5 := And.intro z2 (K5.cell hz)
        have hgs : g5 ≠ xb := by
          intro e
          rcases hg5 with h | h
          · exact HNE.out (e ▸ h)
          · have := BX2.lt.2
            omega
        refine hK _ _ (fun _ => hS5) ?_
        clear hK K
        refine wpAnyS_one (i := 24) rfl (by kernel_rfl) (fun K hK => ?_)
        go_simp
        refine hK _ _ (fun _ => hS5) ?_
        clear hK K
        refine wpAnyS_one (i := 25) rfl (by kernel_rfl) (fun K hK => ?_)
        go_simp
        refine hK _ _ (fun h => absurd rfl h) ?_
        clear hK K
        refine wpAnyS_done (by kernel_rfl) ?_ _
        have tf := turn_set w5 xb 2 (.slice (some ⟨g5, 0, none⟩) ((tasksC (kC Z0) (rC Z1) i).length + 1) c5)
        have HBF : Hid (Box w.heap.size (w5.setCell ⟨xb, 2, none⟩ (.slice (some ⟨g5, 0, none⟩) ((tasksC (kC Z0) (rC Z1) i).length + 1) c5)) 41 xb [.int .i64 4, .slice none 0 0, .slice (some ⟨g5, 0, none⟩) ((tasksC (kC Z0) (rC Z1) i).length + 1) c5]) := B5.set 2 _
        have HTF : Hid (TRow w.heap.size xb (w5.setCell ⟨xb, 2, none⟩ (.slice (some ⟨g5, 0, none⟩) ((tasksC (kC Z0) (rC Z1) i).length + 1) c5)) (.slice (some ⟨g5, 0, none⟩) ((tasksC (kC Z0) (rC Z1) i).length + 1) c5) (tasksC (kC Z0) (rC Z1) (i + 1)) (pvs ++ [.slice (some ⟨pb, 0, none⟩) 3 3])) := by
          show TRow _ _ _ _ _ _
          rw [tasksC_next, HTK.out]
          exact R5.other tf (by simp [Value.ownBlock]; exact hgs)
        have HKF : Hid (Kept w (w5.setCell ⟨xb, 2, none⟩ (.slice (some ⟨g5, 0, none⟩) ((tasksC (kC Z0) (rC Z1) i).length + 1) c5))) := tf.kept K5 (fun q hq => by have := B5.lt.1; omega)
        have HNF : Hid ((Value.slice (some ⟨g5, 0, none⟩) ((tasksC (kC Z0) (rC Z1) i).length + 1) c5).ownBlock ≠ some xb) := by show _ ≠ _; simp [Value.ownBlock]; exact hgs
        clear B5 R5 t5 hg5 z2 z3 hS5 hS2 hS3 TR2 BX2 K5 hpp2 hcv
        go_wp2_with fail
        go_roundg gm
        case rel => exact ⟨i + 1, _, _, _, rfl, by go_num, by omega, HTF, HBF, HNF, HKF.out⟩
        case measure => omega
    · have b1 : ¬ (i : Int) < (Z0.length : Int) := by omega
      obtain rfl : i = Z0.length := by omega
      obtain ⟨ta, tc, rfl, hta, _⟩ := HT.out.view
      have HTT : Hid (AtT W ta (tasksC (kC Z0) (rC Z1) Z0.length)) := hta
      have hok : TsOk (tasksC (kC Z0) (rC Z1) Z0.length) := by
        intro t ht
        obtain ⟨j, hj, rfl⟩ := tasksC_mem ht
        exact ⟨by simp [taskC], by simp [taskC, pieceU], fun o ho => by simp [taskC, pieceU, oLock, oRun, oUnl] at ho; rcases ho with rfl | rfl | rfl <;> simp⟩
      have hpg : ∀ t ∈ tasksC (kC Z0) (rC Z1) Z0.length, checkP t.prog = (0, 0) := by
        intro t ht
        obtain ⟨j, hj, rfl⟩ := tasksC_mem ht
        exact piece_check (rC_bd Z1 j).1 (rC_bd Z1 j).2 (by have := kC_lt Z0 j; omega)
      have hbl : ∀ (j : Nat) (t : TaskD), (tasksC (kC Z0) (rC Z1) Z0.length)[j]? = some t → Bal 3 0 0 t.prog ((fun j => pieceU (rC Z1 j) (kC Z0 j)) j) := by
        intro j t hj
        have hj2 : j < Z0.length := by have := (List.getElem?_eq_some_iff.1 hj).1; rwa [tasksC_len] at this
        rw [tasksC_get hj2] at hj
        cases hj
        exact piece_bal (rC Z1 j) (kC Z0 j)
      have HBW : Hid (Box w.heap.size W 41 xb [.int .i64 4, .slice none 0 0, .slice ta Z0.length tc]) := by
        have h := HBX.out
        rw [tasksC_len] at h
        exact h
      have s0 : W.cell? ⟨xb, 0, none⟩ = some (.int .i64 4) := HBW.out.cell 0 (by simp)
      have s1 : W.cell? ⟨xb, 1, none⟩ = some (.slice none 0 0) := HBW.out.cell 1 (by simp)
      have s2 : W.cell? ⟨xb, 2, none⟩ = some (.slice ta Z0.length tc) := HBW.out.cell 2 (by simp)
      have hof := bof_any 4 none ta 0 0 tc (tasksC (kC Z0) (rC Z1) Z0.length) (fun j => pieceU (rC Z1 j) (kC Z0 j)) W (HR.out.kept K) HTT.out hok (by rw [tasksC_len]; omega) (by rw [tasksC_len]; omega) (by decide) hpg hbl
      rw [tasksC_len] at hof
      have HWA : Hid (∀ i, i < Z0.length → (blkS (fun j => pieceU (rC Z1 j) (kC Z0 j)) (tasksC (kC Z0) (rC Z1) Z0.length) 4)[i]? = some (wantC (kC Z0) (rC Z1) i Z0.length)) := by
        intro i hi
        have h := chain_eq (kC_lt Z0) (rC_bd Z1) hi
        unfold blkS
        rw [tasksC_len]
        have h2 := blkD_get (n := Z0.length) (p := prE (tasksC (kC Z0) (rC Z1) Z0.length)) (c := ceilF (tasksC (kC Z0) (rC Z1) Z0.length)) (l := fun q => secV (q : Int) (fun j => pieceU (rC Z1 j) (kC Z0 j)) (tasksC (kC Z0) (rC Z1) Z0.length)) (q := 4) hi
        rw [h2, ← h]
        unfold ceilF
        rw [tasksC_len]
      clear hok hpg hbl hta HBX HT HNE
      go_wp2_with fail
      refine hof.mono ?_
      rintro e w2 ⟨g2, rfl, -, C2, T2⟩
      have HC2 : Hid (AtI w2 (some ⟨g2, 0, none⟩) (blkS (fun j => pieceU (rC Z1 j) (kC Z0 j)) (tasksC (kC Z0) (rC Z1) Z0.length) 4)) := C2
      have K2 := K.trans T2
      have dnn : ((Z0.length : Int) != (Z0.length : Int)) = false := by simp
      have hZ01 : Z0.length ≤ Z1.length := by omega
      clear hof C2 T2 s0 s1 s2
      go_wp2_with fail
      go_loopg [9] Z0.length (fun gk is wr => ∃ (i : Nat), is = .int .i64 i ∧ i + gk = Z0.length ∧ Hid (Kept w2 wr))
      case atStart => exact ⟨0, rfl, by omega, Kept.refl _⟩
      case round =>
        obtain ⟨i, rfl, hi, HK⟩ := hrel
        by_cases hin : i < Z0.length
        · have b1 : (i : Int) < (Z0.length : Int) := by omega
          have b2 : (0 : Int) ≤ (i : Int) := by omega
          obtain ⟨gm, rfl⟩ : ∃ g, gk = g + 1 := ⟨gk - 1, by omega⟩
          have HWZ : Hid (wantC (kC Z0) (rC Z1) i (i + 1) = 0) := wantC_zero _ _ _
          go_wp2_with fail
          go_loopg [10, 11] Z0.length (fun gk ws ks wr => ∃ (k : Nat), ks = .int .i64 k ∧ ws = .int .i64 (wantC (kC Z0) (rC Z1) i k) ∧ k + gk = Z0.length + (i + 1) ∧ i < k ∧ k ≤ Z0.length ∧ Hid (Kept w2 wr))
          case atStart => exact ⟨i + 1, by go_num, by rw [HWZ.out], by omega, by omega, by omega, HK⟩
          case round =>
            obtain ⟨k, rfl, rfl, hk, hik, hkZ, HK3⟩ := hrel
            by_cases hkn : k < Z0.length
            · have b3 : (k : Int) < (Z0.length : Int) := by omega
              have b4 : (0 : Int) ≤ (k : Int) := by omega
              have b5 : (k : Int) < (Z1.length : Int) := by omega
              obtain ⟨gi, rfl⟩ : ∃ g, gk = g + 1 := ⟨gk - 1, by omega⟩
              obtain ⟨z, hzz⟩ : ∃ z, Z0[k]? = some z := ⟨_, List.getElem?_eq_getElem hkn⟩
              obtain ⟨x, hxx⟩ : ∃ x, Z1[k]? = some x := ⟨_, List.getElem?_eq_getElem (by omega)⟩
              obtain ⟨q0, q1⟩ := HZ0.out z (List.mem_of_getElem? hzz)
              obtain ⟨p0, p1⟩ := HZ1.out x (List.mem_of_getElem? hxx)
              obtain ⟨b0, f0, rfl, cz0⟩ := H0.out k z hzz
              obtain ⟨b, f, rfl, cx0⟩ := H1.out k x hxx
              have HKK : Hid ((kC Z0 k : Int) = z % 4) := kC_get hzz
              have HRR : Hid (rC Z1 k = 1 + x) := rC_get hxx p0 p1
              have HWN : Hid (wantC (kC Z0) (rC Z1) i (k + 1) = if grC (kC Z0) k (i + 1) = true then max (wantC (kC Z0) (rC Z1) i k) (rC Z1 k) else wantC (kC Z0) (rC Z1) i k) := wantC_next _ _ hik
              have HWB : Hid (0 ≤ wantC (kC Z0) (rC Z1) i k ∧ wantC (kC Z0) (rC Z1) i k ≤ 256) := wantC_bd _ (rC_bd Z1) i k
              clear hzz hxx
              go_wp2_with fail
              go_loopg [12, 13] (i + 1) (fun gj gs js wr => ∃ (j : Nat), js = .int .i64 j ∧ gs = .bool (grC (kC Z0) k j) ∧ j + gj = i + 1 ∧ Hid (Kept w2 wr))
              case atStart => exact ⟨0, rfl, rfl, by omega, HK3⟩
              case round =>
                obtain ⟨j, rfl, rfl, hj, HK4⟩ := hrel
                have KW := K2.trans HK4.out
                by_cases hji : j ≤ i
                · have b6 : (j : Int) ≤ (i : Int) := by omega
                  have b7 : (0 : Int) ≤ (j : Int) := by omega
                  have b8 : (j : Int) < (Z0.length : Int) := by omega
                  obtain ⟨gt, rfl⟩ : ∃ g, gk = g + 1 := ⟨gk - 1, by omega⟩
                  obtain ⟨y, hyy⟩ : ∃ y, Z0[j]? = some y := ⟨_, List.getElem?_eq_getElem (by omega)⟩
                  obtain ⟨t0, t1⟩ := HZ0.out y (List.mem_of_getElem? hyy)
                  obtain ⟨b', f', e', cy0⟩ := H0.out j y hyy
                  cases e'
                  have cy := KW.cell cy0
                  have cz := KW.cell cz0
                  have HKJ : Hid ((kC Z0 j : Int) = y % 4) := kC_get hyy
                  have HGN : Hid (grC (kC Z0) k (j + 1) = (grC (kC Z0) k j || decide (kC Z0 j = kC Z0 k))) := rfl
                  obtain ⟨gv, hgv⟩ : ∃ g, grC (kC Z0) k j = g := ⟨_, rfl⟩
                  rw [hgv] at HGN ⊢
                  clear hyy cy0 hgv
                  cases gv with
                  | true =>
                    go_wp2_with fail
                    go_big_region
                    all_goals go_wp2_with fail
                    go_roundg gt
                    case rel => exact ⟨j + 1, by go_num, by rw [HGN.out]; rfl, by omega, HK4.out.drew⟩
                    case measure => omega
                  | false =>
                    by_cases heq : y % 4 = z % 4
                    · have dq : (y % 4 == z % 4) = true := by simpa using heq
                      have HG2 : Hid (grC (kC Z0) k (j + 1) = true) := by
                        show _ = _
                        rw [HGN.out]
                        have h1 := HKJ.out
                        have h2 := HKK.out
                        simp
                        omega
                      go_wp2_with fail
                      go_big_region
                      all_goals go_wp2_with fail
                      go_roundg gt
                      case rel => exact ⟨j + 1, by go_num, by rw [HG2.out], by omega, HK4.out.drew⟩
                      case measure => omega
                    · have dq : (y % 4 == z % 4) = false := by simpa using heq
                      have HG2 : Hid (grC (kC Z0) k (j + 1) = false) := by
                        show _ = _
                        rw [HGN.out]
                        have h1 := HKJ.out
                        have h2 := HKK.out
                        simp
                        omega
                      go_wp2_with fail
                      go_big_region
                      all_goals go_wp2_with fail
                      go_roundg gt
                      case rel => exact ⟨j + 1, by go_num, by rw [HG2.out], by omega, HK4.out.drew⟩
                      case measure => omega
                · have b6 : ¬ (j : Int) ≤ (i : Int) := by omega
                  obtain rfl : j = i + 1 := by omega
                  have cx := KW.cell cx0
                  obtain ⟨gv, hgv⟩ : ∃ g, grC (kC Z0) k (i + 1) = g := ⟨_, rfl⟩
                  obtain ⟨wv, hwv⟩ : ∃ g, wantC (kC Z0) (rC Z1) i k = g := ⟨_, rfl⟩
                  rw [hgv, hwv, HRR.out] at HWN
                  rw [hwv] at HWB
                  have hwb := HWB.out
                  rw [hgv]
                  rw [hwv]
                  clear hgv hwv
                  cases gv with
                  | true =>
                    go_wp2_with fail
                    go_roundg gi
                    case rel => exact ⟨k + 1, by go_num, by rw [HWN.out]; simp, by omega, by omega, by omega, HK4⟩
                    case measure => omega
                  | false =>
                    go_wp2_with fail
                    go_roundg gi
                    case rel => exact ⟨k + 1, by go_num, by rw [HWN.out]; simp, by omega, by omega, by omega, HK4⟩
                    case measure => omega
            · have b3 : ¬ (k : Int) < (Z0.length : Int) := by omega
              obtain rfl : k = Z0.length := by omega
              obtain ⟨b', f', e', cb0⟩ := (HC2.out.kept HK3.out) i _ (HWA.out i hin)
              cases e'
              rw [Nat.zero_add] at cb0
              obtain ⟨wv, hwv⟩ : ∃ g, wantC (kC Z0) (rC Z1) i Z0.length = g := ⟨_, rfl⟩
              rw [hwv] at cb0 ⊢
              have dww : (wv != wv) = false := by simp
              clear hwv
              go_wp2_with fail
              go_roundg gm
              case rel => exact ⟨i + 1, by go_num, by omega, HK3⟩
              case measure => omega
        · have b1 : ¬ (i : Int) < (Z0.length : Int) := by omega
          go_wp2_with fail
          go_ret
          exact ⟨rfl, K2.trans HK.out⟩
end Go.Proofs.YtcbpbidimocpjaaDoor
