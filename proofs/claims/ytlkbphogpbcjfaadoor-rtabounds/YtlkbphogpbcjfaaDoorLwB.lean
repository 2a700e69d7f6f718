/- RtaBounds, walked. -/
import Derived.Test.YtlkbphogpbcjfaaDoorRtK
import Derived.Test.YtlkbphogpbcjfaaDoorRtB
import Derived.Test.YtlkbphogpbcjfaaDoorRtQ
namespace Go.Proofs.YtlkbphogpbcjfaaDoor
open Go.RowKit Go.Sort

theorem fixB_err {Z : List Int} (hZ : ∀ z ∈ Z, 0 ≤ z ∧ z ≤ 255) {own most : Int} (h0 : 0 ≤ own) (h1 : own ≤ 600) (hm : 0 ≤ most) (hm2 : most ≤ 70000) {k : Nat} (hk : k ≤ 20) : (fixT own (prL ldB Z k) most).2.2 = 0 ∨ fixT own (prL ldB Z k) most = (0, 0, 13) ∨ fixT own (prL ldB Z k) most = (0, 0, 15) := by
  refine fixT_err (C := 7) h0 (by omega) hm (ldB_ok hZ k) ?_
  rw [prL_len]
  have h2 : (k : Int) * (most * 7) ≤ 20 * (70000 * 7) := Int.mul_le_mul (by omega) (by omega) (by omega) (by omega)
  omega
set_option maxHeartbeats 8000000 in
set_option maxRecDepth 20000 in
theorem rbo_law (own : Int) (ho0 : 0 ≤ own) (ho1 : own ≤ 255) (a : Option Addr) (c : Nat) (Z : List Int) (most : Int) (hm0 : 0 ≤ most) (hm1 : most ≤ 65535) (w : World) (hr : Rdy w) (hA : AtB w a Z) (hZ : ∀ z ∈ Z, 0 ≤ z ∧ z ≤ 255) :
    Calls Tryd.prog 6 #[.int .u8 own, .slice a Z.length c, .int .u16 most] w fun e w' => e = .returned (.bool true) ∧ Kept w w' := by
  have HA : Hid (AtB w a Z) := hA
  have HZ : Hid (∀ z ∈ Z, 0 ≤ z ∧ z ≤ 255) := hZ
  have hk := lknown_true w hr
  clear hr hA hZ
  go_enter Tryd.func6, Tryd.ntmps6
  go_wp2_with fail
  refine hk.mono ?_
  rintro e w1 ⟨rfl, K1⟩
  clear hk
  by_cases hl : (Z.length : Int) > 20
  · go_wp2_with fail
    go_ret
    exact ⟨rfl, K1⟩
  have hl2 : Z.length ≤ 20 := by omega
  obtain ⟨N, hN⟩ : ∃ N, Z.length / 2 = N := ⟨_, rfl⟩
  have HN : Hid (2 * N ≤ Z.length ∧ Z.length ≤ 2 * N + 1 ∧ N ≤ 10) := ⟨by omega, by omega, by omega⟩
  clear hN
  go_wp2_with fail
  go_loopg [7, 8] N (fun gk v i wr => ∃ (k m : Nat) (v0 : Value) (W : World), W = wr ∧ v0 = v ∧ i = .int .i64 m ∧ k + gk = N ∧ Hid (m = 2 * k) ∧ Hid (LdRow 39 w1.heap.size W v0 (prL ldB Z k)) ∧ Hid (Kept w1 W))
  case atStart => exact ⟨0, 0, _, _, rfl, rfl, rfl, by omega, rfl, LdRow.nil _ _ _, Kept.refl _⟩
  case round =>
    obtain ⟨k, m, v0, W, hW, hv, rfl, hk, HM, HR, HK⟩ := hrel
    subst hW
    subst hv
    have KW := K1.trans HK.out
    have hnn := HN.out
    have hmm := HM.out
    by_cases hkn : k < N
    · have b1 : (m : Int) + 1 < (Z.length : Int) := by omega
      have b2 : (0 : Int) ≤ (m : Int) := by omega
      have b3 : (m : Int) < (Z.length : Int) := by omega
      have b4 : (0 : Int) ≤ (m : Int) + 1 := by omega
      obtain ⟨g, rfl⟩ : ∃ g, gk = g + 1 := ⟨gk - 1, by omega⟩
      obtain ⟨x0, hx0⟩ : ∃ y, Z[m]? = some y := ⟨_, List.getElem?_eq_getElem (by omega)⟩
      obtain ⟨x1, hx1⟩ : ∃ y, Z[m + 1]? = some y := ⟨_, List.getElem?_eq_getElem (by omega)⟩
      have q0 := HZ.out x0 (List.mem_of_getElem? hx0)
      have q1 := HZ.out x1 (List.mem_of_getElem? hx1)
      obtain ⟨y, hy⟩ : ∃ y, x1 % 8 = y := ⟨_, rfl⟩
      have hyb : 0 ≤ y ∧ y ≤ 7 := by omega
      have e5 : x1.tmod 8 = y := by rw [Int.tmod_eq_emod_of_nonneg q1.1, hy]
      have HPR : Hid (prL ldB Z (k + 1) = prL ldB Z k ++ [⟨2 + x0, y⟩]) := by
        show _ = _
        rw [prL_succ, ← hmm, List.getD_eq_getElem?_getD, List.getD_eq_getElem?_getD, hx0, hx1, ← hy]
        rfl
      obtain ⟨b, f, rfl, c0w⟩ := HA.out m x0 hx0
      obtain ⟨b', f', e', c1w⟩ := HA.out (m + 1) x1 hx1
      cases e'
      have c0 := KW.cell c0w
      have c1 := KW.cell c1w
      have hbw : b < W.heap.size := cell_lt c0
      have hlen : (prL ldB Z k).length ≤ 1000000 := by rw [prL_len]; omega
      have HRD : Hid (LdRow 39 w1.heap.size W.drew v0 (prL ldB Z k)) := HR.out.kept ((Kept.refl W).drew)
      have KD : Hid (Kept w1 W.drew) := HK.out.drew
      have hBD := KD.out.size
      have hvn : ∀ q, v0.ownBlock = some q → w1.heap.size ≤ q := fun q hq => (World.ownsRow.lt HR.out q hq).1
      have HCW : Hid (∀ wx, Kept w1 wx → wx.cell? ⟨b, f + m, none⟩ = some (.int .u8 x0) ∧ wx.cell? ⟨b, f + (m + 1), none⟩ = some (.int .u8 x1)) := fun wx kx => ⟨(K1.trans kx).cell c0w, (K1.trans kx).cell c1w⟩
      clear hx0 hx1 hmm hnn c0w c1w HR HK KW hy
      go_wp2_with fail
      have e1 : IntKind.i64.wrap ((m : Int) + 1) = (m : Int) + 1 := by simp [IntKind.wrap, IntKind.bits, IntKind.signed]; omega
      have e2 : IntKind.i64.wrap (2 + x0) = 2 + x0 := by simp [IntKind.wrap, IntKind.bits, IntKind.signed]; omega
      have e3 : ((m : Int) + 1).toNat = m + 1 := by omega
      have e4 : IntKind.i64.wrap x0 = x0 := by simp [IntKind.wrap, IntKind.bits, IntKind.signed]; omega
      have e6 : IntKind.i64.wrap y = y := by simp [IntKind.wrap, IntKind.bits, IntKind.signed]; omega
      go_region_held3 (fun w' => w'.cell? ⟨b, f + m, none⟩ = some (.int .u8 x0) ∧ w'.cell? ⟨b, f + (m + 1), none⟩ = some (.int .u8 x1)) (first | assumption | go_keep) (first | (refine step_append_ld lApi _ (by rfl) _ _ (by rfl) w1.heap.size v0 (prL ldB Z k) ⟨2 + x0, y⟩ _ rfl W.drew (by rfl) (by rfl) W.drew.heap.size (by rfl) (by rfl) HRD.out hlen hBD ?_; intro g5 c5 w5 R5 t5 hg5; have K5 : Kept w1 w5 := t5.kept KD.out (fun i hi => hvn i hi); have z0 := HCW.out w5 K5) | fail)
      clear e1 e2 e3 e4 e5 e6
      all_goals go_wp2_with fail
      go_roundg g
      case rel =>
        rw [← HPR.out] at R5
        exact ⟨k + 1, m + 2, .slice (some ⟨g5, 0, none⟩) ((prL ldB Z k).length + 1) c5, _, rfl, rfl, by go_num, by omega, (by have := HM.out; show _ = _; omega), R5, K5⟩
      case measure => omega
    · obtain rfl : k = N := by omega
      have b5 : (m : Int) ≤ 20 := by omega
      have b1 : ¬ (m : Int) + 1 < (Z.length : Int) := by omega
      have hk20 : k ≤ 20 := by omega
      obtain ⟨va, vc, rfl, hvc, A, _⟩ := HR.out.view
      have HV : Hid (AtL W va (prL ldB Z k)) := A
      have hl1 : (prL ldB Z k).length ≤ 1000 := by rw [prL_len]; omega
      have h1 := fix_any va vc (prL ldB Z k) own most W A hl1 (by omega)
      have herr := fixB_err HZ.out (most := most) ho0 (by omega) hm0 (by omega) hk20
      obtain ⟨L, hL⟩ : ∃ L, prL ldB Z k = L := ⟨_, rfl⟩
      rw [hL] at h1 herr HV hl1
      rw [hL]
      clear A hvc HR HK hmm hnn hL
      obtain ⟨⟨z1, z2, z3⟩, hz⟩ : ∃ z, fixT own L most = z := ⟨_, rfl⟩
      rw [hz] at h1 herr
      have HF : Hid (fixT own L most = (z1, z2, z3)) := hz
      clear hz
      go_wp2_with fail
      refine h1.mono ?_
      rintro e w2 ⟨rfl, T2⟩
      simp only [trio]
      have K2 := KW.trans T2
      have HV2 : Hid (AtL w2 va L) := HV.out.kept T2
      clear h1 HV T2 KW
      simp only [Prod.mk.injEq] at herr
      rcases herr with h | ⟨rfl, rfl, rfl⟩ | ⟨rfl, rfl, rfl⟩
      rotate_left
      · go_wp2_with fail
        go_ret
        exact ⟨rfl, K2⟩
      · go_wp2_with fail
        go_ret
        exact ⟨rfl, K2⟩
      · subst h
        obtain ⟨f1, f2, f3, f4, f5, -⟩ := fixT_out (by omega) HF.out
        have hb1 := fixT_bd (by omega) HF.out (most + 1000) (by omega)
        rw [if_pos (by omega)] at hb1
        have hb2 := fixT_bd (by omega) HF.out z1 (by omega)
        rw [if_pos (Int.le_refl _)] at hb2
        have hb3 : Hid (¬ z1 = 0 → fixT own L (z1 - 1) = (0, 0, 13)) := by
          intro h
          have h3 := fixT_bd (by omega) HF.out (z1 - 1) (by omega)
          rw [if_neg (by omega)] at h3
          exact h3
        have h1 := fix_any va vc L own (most + 1000) w2 HV2.out hl1 (by omega)
        rw [hb1] at h1
        have HB2 : Hid (fixT own L z1 = (z1, z2, 0)) := hb2
        have z0 : 0 ≤ z1 := by omega
        have z5 : z1 ≤ 65535 := by omega
        clear f2 hb1 hb2
        go_wp2_with fail
        refine h1.mono ?_
        rintro e w3 ⟨rfl, T3⟩
        simp only [trio]
        have K3 := K2.trans T3
        have HV3 : Hid (AtL w3 va L) := HV2.out.kept T3
        have h2 := fix_any va vc L own z1 w3 HV3.out hl1 (by omega)
        rw [HB2.out] at h2
        clear h1 T3 HV2 K2
        go_wp2_with fail
        refine h2.mono ?_
        rintro e w4 ⟨rfl, T4⟩
        simp only [trio]
        have K4 := K3.trans T4
        have HV4 : Hid (AtL w4 va L) := HV3.out.kept T4
        clear h2 T4 HV3 K3
        by_cases hz1 : z1 = 0
        · go_wp2_with fail
          go_ret
          exact ⟨rfl, K4⟩
        · have h3 := fix_any va vc L own (z1 - 1) w4 HV4.out hl1 (by omega)
          rw [hb3.out hz1] at h3
          go_wp2_with fail
          refine h3.mono ?_
          rintro e w5 ⟨rfl, T5⟩
          simp only [trio]
          have K5 := K4.trans T5
          clear h3
          go_wp2_with fail
          go_ret
          exact ⟨rfl, K5⟩
end Go.Proofs.YtlkbphogpbcjfaaDoor
