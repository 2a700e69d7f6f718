/- RtaFix, walked. -/
import Derived.Test.YtlkbphogpbcjfaaDoorRtK
import Derived.Test.YtlkbphogpbcjfaaDoorRtL
namespace Go.Proofs.YtlkbphogpbcjfaaDoor
open Go.RowKit Go.Sort

theorem trio_ok {z : Int × Int × Int} : trio z = .tuple #[.int .i64 z.1, .int .i64 z.2.1, .int .i64 z.2.2] := rfl
theorem fixR_err {own : Int} {l : List LoadD} {most : Int} : ∀ (f : Nat) (r k : Int), (fixR own l most f r k).2.2 ≠ 0 → (fixR own l most f r k).1 = 0 ∧ (fixR own l most f r k).2.1 = 0
  | 0, r, k, h => by rw [fixR]; split <;> simp
  | f + 1, r, k, h => by
    rw [fixR_succ] at h ⊢
    split
    · simp
    · rename_i h1
      rw [if_neg h1] at h
      split
      · simp
      · rename_i h2
        rw [if_neg h2] at h
        split
        · rename_i h3
          rw [if_pos h3] at h
          simp at h
        · rename_i h3
          rw [if_neg h3] at h
          exact fixR_err f _ _ h
theorem fixT_err0 {own : Int} {l : List LoadD} {most : Int} (h : (fixT own l most).2.2 ≠ 0) : (fixT own l most).1 = 0 ∧ (fixT own l most).2.1 = 0 := by
  unfold fixT at h ⊢
  split
  · simp
  · rename_i h1
    rw [if_neg h1] at h
    split
    · simp
    · rename_i h2
      rw [if_neg h2] at h
      exact fixR_err 1000 own 0 h
set_option maxHeartbeats 8000000 in
set_option maxRecDepth 20000 in
theorem rfx_law (own : Int) (a : Option Addr) (c : Nat) (l : List LoadD) (most : Int) (w : World) (hr : Rdy w) (hA : AtL w a l) (h2 : own ≤ 9223372036854775807) (hm2 : most ≤ 9223372036854775807) :
    Calls Tryd.prog 4 #[.int .i64 own, .slice a l.length c, .int .i64 most] w fun e w' => e = .returned (.bool true) ∧ Kept w w' := by
  have HA : Hid (AtL w a l) := hA
  have hk := lknown_true w hr
  clear hr hA
  go_enter Tryd.func4, Tryd.ntmps4
  go_wp2_with fail
  refine hk.mono ?_
  rintro e w1 ⟨rfl, K1⟩
  clear hk
  by_cases hl : (l.length : Int) > 30
  · go_wp2_with fail
    go_ret
    exact ⟨rfl, K1⟩
  have hl2 : l.length ≤ 1000 := by omega
  have hn := fix_any a c l own most w1 (HA.out.kept K1) hl2 h2
  obtain ⟨⟨z1, z2, z3⟩, hz⟩ : ∃ z, fixT own l most = z := ⟨_, rfl⟩
  have HZ : Hid (fixT own l most = (z1, z2, z3)) := hz
  have HE0 : Hid (z3 ≠ 0 → z1 = 0 ∧ z2 = 0) := by
    intro h
    have h3 := fixT_err0 (own := own) (l := l) (most := most) (by rw [hz]; exact h)
    rw [hz] at h3
    exact h3
  rw [hz] at hn
  clear hz
  go_wp2_with fail
  refine hn.mono ?_
  rintro e w2 ⟨rfl, T2⟩
  simp only [trio]
  have K2 := K1.trans T2
  have hlo := loads_any a c l w2 (HA.out.kept K2) hl2
  clear hn T2 K1
  go_wp2_with fail
  refine hlo.mono ?_
  rintro e w3 ⟨b, c', rfl, A3, T3⟩
  have K3 := K2.trans T3
  have hn := rfix_any b c' l own most w3 A3 hl2 h2
  rw [HZ.out] at hn
  clear hlo T3 K2 A3
  go_wp2_with fail
  refine hn.mono ?_
  rintro e w4 ⟨rfl, T4⟩
  simp only [trio]
  have K4 := K3.trans T4
  clear hn T4 K3
  by_cases hz3 : z3 = 0
  · subst hz3
    obtain ⟨f1, f2, f3, f4, f5, f6, f7, f8, f9, f10⟩ := fixT_out h2 HZ.out
    have hn := next_any a c l z1 own w4 (HA.out.kept K4) hl2 (by omega) h2
    rw [f7] at hn
    have HF : Hid (∀ x, 0 ≤ x → x < z1 → nextR x own l = (sumR x own l, 0) ∧ x < sumR x own l) := f10
    have z0 : 0 ≤ z1 := by omega
    have g1 : ¬ z1 > most := by omega
    have g2 : ¬ z2 < 1 := by omega
    have g3 : ¬ z2 > 1000 := by omega
    have hz1m : z1 ≤ 9223372036854775807 := by omega
    clear f2 f6 f7 f8 f9 f10 HE0
    go_wp2_with fail
    refine hn.mono ?_
    rintro e w5 ⟨rfl, T5⟩
    have K5 := K4.trans T5
    clear hn T5 K4
    obtain ⟨s, hs⟩ : ∃ s, max 0 (z1 - 50) = s := ⟨_, rfl⟩
    have hs0 : 0 ≤ s := by omega
    have hs1 : s ≤ z1 := by omega
    go_wp2_with fail
    go_loopg [15] (z1 - s).toNat (fun gk kk wr => ∃ (x : Int) (W : World), W = wr ∧ kk = .int .i64 x ∧ 0 ≤ x ∧ x ≤ z1 ∧ x + gk = z1 ∧ Kept w W)
    case atStart => exact ⟨s, _, rfl, rfl, hs0, hs1, by omega, K5⟩
    case round =>
      obtain ⟨x, W, hW, rfl, hx0, hx1, hxg, K⟩ := hrel
      subst hW
      by_cases hxz : x < z1
      · obtain ⟨g, rfl⟩ : ∃ g, gk = g + 1 := ⟨gk - 1, by omega⟩
        obtain ⟨q1, q2⟩ := HF.out x hx0 hxz
        have hn := next_any a c l x own W (HA.out.kept K) hl2 (by omega) h2
        rw [q1] at hn
        obtain ⟨v, hv⟩ : ∃ v, sumR x own l = v := ⟨_, rfl⟩
        rw [hv] at hn q2
        have q3 : ¬ v ≤ x := by omega
        clear q1 hv
        go_wp2_with fail
        refine hn.mono ?_
        rintro e w6 ⟨rfl, T6⟩
        clear hn
        go_wp2_with fail
        go_roundg g
        case rel => exact ⟨x + 1, _, rfl, by go_num, by omega, by omega, by omega, K.trans T6⟩
        case measure => omega
      · go_wp2_with fail
        go_ret
        exact ⟨rfl, K⟩
  · obtain ⟨rfl, rfl⟩ := HE0.out hz3
    go_wp2_with fail
    go_ret
    exact ⟨rfl, K4⟩
end Go.Proofs.YtlkbphogpbcjfaaDoor
