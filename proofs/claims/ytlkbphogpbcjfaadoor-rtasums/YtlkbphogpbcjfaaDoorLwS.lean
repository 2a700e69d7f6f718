/- RtaSums, walked. -/
import Derived.Test.YtlkbphogpbcjfaaDoorRtK
import Derived.Test.YtlkbphogpbcjfaaDoorRtB
import Derived.Test.YtlkbphogpbcjfaaDoorRtQ
namespace Go.Proofs.YtlkbphogpbcjfaaDoor
open Go.RowKit Go.Sort

theorem sumA_bd {Z : List Int} (hZ : ∀ z ∈ Z, 0 ≤ z ∧ z ≤ 255) {r own : Int} (h0 : 0 ≤ r) (h1 : r ≤ 65535) (k : Nat) : own ≤ sumR r own (prL ldA Z k) ∧ sumR r own (prL ldA Z k) ≤ own + k * 16711425 := by
  have ho := ldA_ok hZ k
  have := sum_small (r := r) (R := 65535) (C := 255) h0 h1 (prL ldA Z k) own ho
  rw [prL_len] at this
  exact ⟨sum_ge h0 _ _ (fun x hx => ⟨(ho x hx).1, (ho x hx).2.1⟩), by omega⟩
theorem next_lone {r : Int} {x : LoadD} (h0 : 0 ≤ r) (h1 : r ≤ 65535) (hx : 1 ≤ x.per ∧ 0 ≤ x.cost ∧ x.cost ≤ 255) : nextR r 0 [x] = (timesR r x.per * x.cost, 0) ∧ 0 ≤ timesR r x.per * x.cost ∧ timesR r x.per * x.cost ≤ 16711425 := by
  have h2 := term_nn (r := r) h0 ⟨hx.1, hx.2.1⟩
  have h3 : timesR r x.per * x.cost ≤ 65535 * 255 := Int.mul_le_mul (Int.le_trans (times_top h0 hx.1) h1) hx.2.2 hx.2.1 (by omega)
  refine ⟨?_, h2, by omega⟩
  rw [next_ok h0 (Int.le_refl 0) (by omega) (fun y hy => by rw [List.mem_singleton.1 hy]; exact ⟨hx.1, hx.2.1⟩)]
  have e : sumR r 0 [x] = timesR r x.per * x.cost := by show 0 + _ = _; omega
  rw [e, if_neg (by omega)]
theorem leastP_rng {Z : List Int} (hZ : ∀ z ∈ Z, 0 ≤ z ∧ z ≤ 255) : ∀ k, 1 ≤ leastP 1099511627776 (prL ldA Z k) ∧ leastP 1099511627776 (prL ldA Z k) ≤ 1099511627776
  | 0 => by rw [prL_zero]; simp [leastP]
  | k + 1 => by
    have ih := leastP_rng hZ k
    have h1 := getD_bd hZ (2 * k)
    rw [prL_succ, leastP_app]
    simp only [ldA]
    omega
set_option maxHeartbeats 8000000 in
set_option maxRecDepth 20000 in
theorem rsu_law (r : Int) (hr0 : 0 ≤ r) (hr1 : r ≤ 65535) (own : Int) (ho0 : 0 ≤ own) (ho1 : own ≤ 255) (a : Option Addr) (c : Nat) (Z : List Int) (w : World) (hr : Rdy w) (hA : AtB w a Z) (hZ : ∀ z ∈ Z, 0 ≤ z ∧ z ≤ 255) :
    Calls Tryd.prog 7 #[.int .u16 r, .int .u8 own, .slice a Z.length c] w fun e w' => e = .returned (.bool true) ∧ Kept w w' := by
  have HA : Hid (AtB w a Z) := hA
  have HZ : Hid (∀ z ∈ Z, 0 ≤ z ∧ z ≤ 255) := hZ
  have hk := lknown_true w hr
  clear hr hA hZ
  go_enter Tryd.func7, Tryd.ntmps7
  go_wp2_with fail
  refine hk.mono ?_
  rintro e w1 ⟨rfl, K1⟩
  clear hk
  by_cases hl : (Z.length : Int) > 40
  · go_wp2_with fail
    go_ret
    exact ⟨rfl, K1⟩
  have hl2 : Z.length ≤ 40 := by omega
  obtain ⟨N, hN⟩ : ∃ N, Z.length / 2 = N := ⟨_, rfl⟩
  have HN : Hid (2 * N ≤ Z.length ∧ Z.length ≤ 2 * N + 1 ∧ N ≤ 20) := ⟨by omega, by omega, by omega⟩
  clear hN
  go_wp2_with fail
  go_loopg [7, 8, 9, 10, 11] N (fun gk v s o p i wr => ∃ (k m : Nat) (v0 : Value) (sv ov pv : Int) (W : World), W = wr ∧ v0 = v ∧ s = .int .i64 sv ∧ o = .int .i64 ov ∧ p = .int .i64 pv ∧ i = .int .i64 m ∧ k + gk = N ∧ Hid (m = 2 * k) ∧ Hid (sumR r own (prL ldA Z k) = sv) ∧ Hid (onceS own (prL ldA Z k) = ov) ∧ Hid (leastP 1099511627776 (prL ldA Z k) = pv) ∧ Hid (LdRow 39 w1.heap.size W v0 (prL ldA Z k)) ∧ Hid (Kept w1 W))
  case atStart => exact ⟨0, 0, _, _, _, _, _, rfl, rfl, rfl, rfl, rfl, rfl, by omega, rfl, rfl, rfl, rfl, LdRow.nil _ _ _, Kept.refl _⟩
  case round =>
    obtain ⟨k, m, v0, sv, ov, pv, W, hW, hv, rfl, rfl, rfl, rfl, hk, HM, HS, HO, HP, HR, HK⟩ := hrel
    subst hW
    subst hv
    have KW := K1.trans HK.out
    have hsb := sumA_bd HZ.out (own := own) hr0 hr1 k
    rw [HS.out] at hsb
    have hpb := leastP_rng HZ.out k
    rw [HP.out] at hpb
    have hob := onceS_le 255 (prL ldA Z k) own (ldA_ok HZ.out k)
    rw [HO.out, prL_len] at hob
    have hnn := HN.out
    have hmm := HM.out
    by_cases hkn : k < N
    · have b1 : (m : Int) + 1 < (Z.length : Int) := by omega
      have b2 : (0 : Int) ≤ (m : Int) := by omega
      have b3 : (m : Int) < (Z.length : Int) := by omega
      have b4 : (0 : Int) ≤ (m : Int) + 1 := by omega
      obtain ⟨g, rfl⟩ : ∃ g, gk = g + 1 := ⟨gk - 1, by omega⟩
      obtain ⟨x0, hx0⟩ : ∃ y, Z[m]? = some y := ⟨_, List.getElem?_eq_getElem (by omega)⟩
      obtain ⟨x1, hx1⟩ : ∃ y, Z[m + 1]? = some y := ⟨_, List.getElem?_eq_getElem (by omega)⟩
      have q0 := HZ.out x0 (List.mem_of_getElem? hx0)
      have q1 := HZ.out x1 (List.mem_of_getElem? hx1)
      have HPR : Hid (prL ldA Z (k + 1) = prL ldA Z k ++ [⟨1 + x0, x1⟩]) := by
        show _ = _
        rw [prL_succ, ← hmm, List.getD_eq_getElem?_getD, List.getD_eq_getElem?_getD, hx0, hx1]
        rfl
      obtain ⟨b, f, rfl, c0⟩ := (HA.out.kept KW) m x0 hx0
      obtain ⟨b', f', e', c1⟩ := (HA.out.kept KW) (m + 1) x1 hx1
      cases e'
      have hbw : b < W.heap.size := cell_lt c0
      clear hx0 hx1 hmm hnn
      go_wp2_with fail
      have hvn : ∀ q, v0.ownBlock = some q → q < W.heap.size ∧ w1.heap.size ≤ q := fun q hq => ⟨(World.ownsRow.lt HR.out q hq).2, (World.ownsRow.lt HR.out q hq).1⟩
      have KX : Kept W (W.alloc (.cells #[.int .i64 (1 + x0), .int .i64 x1] 39)).drew := ((Kept.refl W).alloc _).drew
      have BX : Box W.heap.size (W.alloc (.cells #[.int .i64 (1 + x0), .int .i64 x1] 39)).drew 39 W.heap.size [.int .i64 (1 + x0), .int .i64 x1] := (box_new W.heap.size W 39 [.int .i64 (1 + x0), .int .i64 x1] (Nat.le_refl _) (by simp)).kept ((Kept.refl _).drew)
      have hlone := next_lone (r := r) (x := ⟨1 + x0, x1⟩) hr0 hr1 ⟨by simp only; omega, q1⟩
      simp only at hlone
      have HSN : Hid (sumR r own (prL ldA Z (k + 1)) = sv + timesR r (1 + x0) * x1) := by
        show _ = _
        rw [HPR.out, sum_snoc, HS.out]
      have HON : Hid (onceS own (prL ldA Z (k + 1)) = ov + x1) := by
        show _ = _
        rw [HPR.out, onceS_app, HO.out]
      have HPN : Hid (leastP 1099511627776 (prL ldA Z (k + 1)) = min pv (1 + x0)) := by
        show _ = _
        rw [HPR.out, leastP_app, HP.out]
      obtain ⟨tv, htv⟩ : ∃ z, timesR r (1 + x0) * x1 = z := ⟨_, rfl⟩
      rw [htv] at hlone HSN
      obtain ⟨pm, hpm⟩ : ∃ z, min pv (1 + x0) = z := ⟨_, rfl⟩
      rw [hpm] at HPN
      have hlen : (prL ldA Z k).length ≤ 1000000 := by rw [prL_len]; have := HN.out; omega
      clear htv
      go_region
      have HRX : Hid (LdRow 39 w1.heap.size (W.alloc (.cells #[.int .i64 (1 + x0), .int .i64 x1] 39)).drew v0 (prL ldA Z k)) := HR.out.kept KX
      have KX1 : Hid (Kept w1 (W.alloc (.cells #[.int .i64 (1 + x0), .int .i64 x1] 39)).drew) := HK.out.trans KX
      have hBX := KX1.out.size
      have HBX : Hid (Box W.heap.size (W.alloc (.cells #[.int .i64 (1 + x0), .int .i64 x1] 39)).drew 39 W.heap.size [.int .i64 (1 + x0), .int .i64 x1]) := BX
      have s0 := HBX.out.cell 0 (by simp)
      have s1 := HBX.out.cell 1 (by simp)
      simp only [List.getElem?_cons_zero, List.getElem?_cons_succ] at s0 s1
      clear HS HO HP HR HK KX BX KW c0 c1
      generalize (W.alloc (.cells #[.int .i64 (1 + x0), .int .i64 x1] 39)).drew = W2 at *
      generalize W.heap.size = xb at *
      go_wp2_with (at_builtin; refine wpList_append_ld lApi _ (by rfl) _ _ (by rfl) w1.heap.size v0 (prL ldA Z k) ⟨1 + x0, x1⟩ _ rfl W2 rfl (by rfl) W2.heap.size rfl (by rfl) HRX.out hlen hBX ?_; intro g5 c5 w5 R5 t5 hg5; have HB5 := HBX.out.turns t5 (fun e => by have := (hvn _ e).1; omega); have u0 := HB5.cell 0 (by simp); have u1 := HB5.cell 1 (by simp); have K5 : Kept w1 w5 := t5.kept KX1.out (fun i hi => (hvn i hi).2); simp only [List.getElem?_cons_zero, List.getElem?_cons_succ] at u0 u1; clear s0 s1)
      have KL : Kept w5 (w5.alloc (.cells #[.int .i64 (1 + x0), .int .i64 x1] 39)) := (Kept.refl w5).alloc _
      have hnx := next_any (some ⟨w5.heap.size, 0, none⟩) 1 [⟨1 + x0, x1⟩] r 0 (w5.alloc (.cells #[.int .i64 (1 + x0), .int .i64 x1] 39)) (lit_lds w5 39 [⟨1 + x0, x1⟩]) (by simp) (by omega) (by omega)
      rw [hlone.1] at hnx
      refine hnx.mono ?_
      rintro e w6 ⟨rfl, T6⟩
      have T56 := KL.trans T6
      have u0' := T56.cell u0
      have u1' := T56.cell u1
      have K6 := K5.trans T56
      have HR6 : Hid (LdRow 39 w1.heap.size w6 (.slice (some ⟨g5, 0, none⟩) ((prL ldA Z k).length + 1) c5) (prL ldA Z (k + 1))) := by
        have h := R5.kept T56
        rw [← HPR.out] at h
        exact h
      obtain ⟨-, t0, t1⟩ := hlone
      clear hnx KL T6 T56 u0 u1 R5 t5 HRX KX1 HBX HB5 hBX K5 hg5 hvn
      have HM2 : Hid (m + 2 = 2 * (k + 1)) := by have := HM.out; show _ = _; omega
      have hnk : N ≤ 20 := HN.out.2.2
      go_wp2_with fail
      go_roundg g
      case rel => exact ⟨k + 1, m + 2, _, sv + tv, ov + x1, pm, _, rfl, rfl, rfl, rfl, rfl, by go_num, by omega, HM2, HSN, HON, HPN, HR6, K6⟩
      case measure => omega
    · obtain rfl : k = N := by omega
      have b5 : (m : Int) ≤ 40 := by omega
      have b1 : ¬ (m : Int) + 1 < (Z.length : Int) := by omega
      have ho := ldA_ok HZ.out k
      obtain ⟨va, vc, rfl, hvc, A, _⟩ := HR.out.view
      have hnx := next_any va vc (prL ldA Z k) r own W A (by rw [prL_len]; omega) (by omega) (by omega)
      have hval : nextR r own (prL ldA Z k) = (sv, 0) := by
        rw [next_ok hr0 ho0 (by omega) (fun x hx => ⟨(ho x hx).1, (ho x hx).2.1⟩), HS.out, if_neg (by omega)]
      rw [hval] at hnx
      have HZR : Hid (r = 0 → sv = own) := by
        intro h
        rw [← HS.out, h]
        exact sum_zero _ _ (fun x hx => ⟨(ho x hx).1, (ho x hx).2.1⟩)
      have HON : Hid (0 < r → r ≤ pv → sv = ov) := by
        intro h h2
        rw [← HS.out, ← HO.out]
        exact once_sum h _ _ 1099511627776 (by rw [HP.out]; exact h2) (fun x hx => ⟨(ho x hx).1, (ho x hx).2.1⟩)
      clear hval A hvc HR HS HO HP ho hmm hnn
      go_wp2_with fail
      refine hnx.mono ?_
      rintro e w6 ⟨rfl, T6⟩
      have K6 := KW.trans T6
      clear hnx
      by_cases hz : r = 0
      · have hs := HZR.out hz
        subst hz
        subst hs
        clear HZR HON
        go_wp2_with fail
        go_ret
        exact ⟨rfl, K6⟩
      · have hpos : r > 0 := by omega
        have d1 : (r == 0) = false := by simpa using hz
        have d2 : decide (0 < r) = true := decide_eq_true hpos
        by_cases hgt : r > pv
        · have d3 : decide (pv < r) = true := decide_eq_true hgt
          clear HZR HON
          go_wp2_with fail
          go_ret
          exact ⟨rfl, K6⟩
        · have hs := HON.out hpos (by omega)
          subst hs
          have d3 : decide (pv < r) = false := decide_eq_false hgt
          clear HZR HON
          go_wp2_with fail
          go_ret
          exact ⟨rfl, K6⟩
end Go.Proofs.YtlkbphogpbcjfaaDoor
