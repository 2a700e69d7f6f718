/- ProgLoops, walked. -/
import Derived.Test.YtockpcoegdaipaaDoorApp4
import Derived.Test.YtockpcoegdaipaaDoorLooP
import Derived.Test.YtockpcoegdaipaaDoorKnw
import Derived.Test.YtockpcoegdaipaaDoorOpn
namespace Go.Proofs.YtockpcoegdaipaaDoor
open Go.RowKit

/-- A row of ops whose cases are nil, at a block. -/
def NRow (B : Nat) (w : World) (g n c : Nat) (p : List OpD) : Prop := n = p.length ∧ ORow B w (.slice (some ⟨g, 0, none⟩) n c) p (nils p)
theorem NRow.lo {B : Nat} {w : World} {g n c : Nat} {p : List OpD} (h : NRow B w g n c p) : B ≤ g ∧ g < w.heap.size := h.2.lt g rfl
theorem wrapI {z : Int} (h0 : -1000000000000 ≤ z) (h1 : z ≤ 1000000000000) : ∀ q, q = z → IntKind.i64.wrap q = q := by
  intro q hq
  simp [IntKind.wrap, IntKind.bits, IntKind.signed]
  omega
set_option maxHeartbeats 8000000 in
set_option maxRecDepth 20000 in
theorem loops_law (a : Option Addr) (Z : List Int) (c : Nat) (n : Int) (hn0 : 0 ≤ n) (hn1 : n ≤ 255) (w : World) (hr : Rdy w) (hZ : AtB w a Z) (hzb : ∀ z ∈ Z, 0 ≤ z ∧ z ≤ 255) : Calls Tryd.prog 4 #[.slice a Z.length c, .int .u8 n] w fun e w' => e = .returned (.bool true) ∧ Kept w w' := by
  have HR : Hid (Rdy w) := hr
  have HZ : Hid (AtB w a Z) := hZ
  have HZB : Hid (∀ z ∈ Z, 0 ≤ z ∧ z ≤ 255) := hzb
  clear hr hZ hzb
  by_cases h6 : Z.length > 6
  · have b6 : (Z.length : Int) > 6 := by omega
    go_enter Tryd.func4, Tryd.ntmps4
    go_wp2_with fail
    refine (known_true w HR.out).mono ?_
    rintro e w1 ⟨rfl, K1⟩
    go_wp2_with fail
    go_ret
    exact ⟨rfl, K1⟩
  have b6 : ¬ (Z.length : Int) > 6 := by omega
  obtain ⟨x, hx⟩ : ∃ x, 1 + n = x := ⟨_, rfl⟩
  have HX : Hid (1 ≤ x ∧ x ≤ 1000) := ⟨by omega, by omega⟩
  go_enter Tryd.func4, Tryd.ntmps4
  go_wp2_with fail
  refine (known_true w HR.out).mono ?_
  rintro e w1 ⟨rfl, K1⟩
  have KP := K1.alloc (.cells #[.int .i64 1, .int .i64 x, .int .i64 0, .int .i64 0, .slice none 0 0] 52)
  have HOL : Hid (NRow w.heap.size (w1.alloc (.cells #[.int .i64 1, .int .i64 x, .int .i64 0, .int .i64 0, .slice none 0 0] 52)) w1.heap.size 1 1 (nst x [])) := ⟨rfl, orow_litN w.heap.size w1 [⟨1, x, 0, 0, []⟩] (by simp) _ rfl K1.size (by simp) 1 rfl⟩
  go_wp2_with fail
  go_loopg [5, 6, 7] Z.length (fun gk x5 x6 i wr => ∃ j g m cp : Nat, x5 = .slice (some ⟨g, 0, none⟩) m cp ∧ x6 = .int .i64 (prodL (rnds (Z.take j)).reverse) ∧ i = .int .i64 j ∧ j + gk = Z.length ∧ Hid (NRow w.heap.size wr g m cp (nst x (rnds (Z.take j)).reverse)) ∧ Kept w wr)
  case atStart => exact ⟨0, _, _, _, rfl, rfl, rfl, by omega, HOL, KP⟩
  case round =>
    obtain ⟨j, g, m, cp, rfl, rfl, rfl, hj, HM, KK⟩ := hrel
    have hPB : 1 ≤ prodL (rnds (Z.take j)).reverse ∧ prodL (rnds (Z.take j)).reverse ≤ 1073741824 := by
      have h1 := prod_bd (rnds (Z.take j)).reverse (rnds_bd _) (by rw [rnds_len, List.length_take]; omega)
      have h2 := pow_bd (rnds (Z.take j)).reverse.length (by rw [rnds_len, List.length_take]; omega)
      omega
    by_cases hjZ : j < Z.length
    · have b1 : (j : Int) < (Z.length : Int) := by omega
      obtain ⟨z, hz⟩ : ∃ z, Z[j]? = some z := ⟨_, List.getElem?_eq_getElem hjZ⟩
      have hzr := HZB.out z (List.mem_of_getElem? hz)
      obtain ⟨b, f, rfl, hcell⟩ := (HZ.out.kept KK) j z hz
      have HN : Hid ((rnds (Z.take (j + 1))).reverse = (1 + z % 32) :: (rnds (Z.take j)).reverse) := rnds_next Z j z hz
      obtain ⟨k, hk⟩ : ∃ k, 1 + z % 32 = k := ⟨_, rfl⟩
      have hk32 : 1 ≤ k ∧ k ≤ 32 := by omega
      rw [hk] at HN
      obtain ⟨ks, hks⟩ : ∃ ks, (rnds (Z.take j)).reverse = ks := ⟨_, rfl⟩
      rw [hks] at HN HM hPB
      rw [hks]
      obtain ⟨P, hP⟩ : ∃ P, prodL ks = P := ⟨_, rfl⟩
      rw [hP] at hPB ⊢
      obtain ⟨P', hP'⟩ : ∃ P', P * k = P' := ⟨_, rfl⟩
      have hPB' : 0 ≤ P' ∧ P' ≤ 34359738368 := by
        rw [← hP']
        refine ⟨Int.mul_nonneg (by omega) (by omega), ?_⟩
        have := Int.mul_le_mul hPB.2 hk32.2 (by omega) (by omega)
        omega
      have hw' := wrapI (z := P') (by omega) (by omega)
      have HPP : Hid (prodL (k :: ks) = P') := by show _ = _; rw [prodL, hP, hP']
      have hgl := HM.out.lo
      obtain rfl : m = (nst x ks).length := HM.out.1
      have hmL : (nst x ks).length ≤ 13 := by
        rw [nst_len, ← hks, rnds_len, List.length_take]
        omega
      have HC1 : Hid (∀ (i : Nat) (u : Value), (flatO (nst x ks) (nils (nst x ks)))[i]? = some u → (wr.alloc (.cells #[.int .i64 8, .int .i64 k, .int .i64 0, .int .i64 0, .slice none 0 0] 52)).cell? ⟨g, i, none⟩ = some u) := fun i u hu => ((Kept.refl wr).alloc _).cell (ORow.cellsN HM.out.1 HM.out.2 i u hu)
      have HLT : Hid (ORow w.heap.size (wr.alloc (.cells #[.int .i64 8, .int .i64 k, .int .i64 0, .int .i64 0, .slice none 0 0] 52)) (.slice (some ⟨wr.heap.size, 0, none⟩) 1 1) [⟨8, k, 0, 0, []⟩] (nils [⟨8, k, 0, 0, []⟩])) := orow_litN w.heap.size wr [⟨8, k, 0, 0, []⟩] (by simp) _ rfl KK.size (by simp) 1 rfl
      have KA := KK.alloc (.cells #[.int .i64 8, .int .i64 k, .int .i64 0, .int .i64 0, .slice none 0 0] 52)
      have hszw := KK.size
      have HNIL : Hid (∀ o ∈ nst x ks, o.cases = []) := nst_nil x ks
      have hq1 : 1 ≤ (nst x ks).length := by rw [nst_len]; omega
      obtain ⟨g3', rfl⟩ : ∃ g, gk = g + 1 := ⟨gk - 1, by omega⟩
      clear hks hP
      go_wp2_with (at_builtin; first
        | (refine wpList_append_litsN _ (by rfl) _ _ rfl w.heap.size (.slice (some ⟨g5, 0, none⟩) (1 + (nst x ks).length) c5) ([⟨8, k, 0, 0, []⟩] ++ nst x ks) [⟨9, 0, 0, 0, []⟩] (by simp) (by simp) _ rfl w5 (by rfl) (by rfl) w5.heap.size (by rfl) 1 (by rfl) (by rfl) _ R5 (by simp; omega) K5.size ?_; intro g6 c6 w6 R6 t6 hg6; have K6 : Kept w w6 := t6.kept K5 (fun i hi => by simp [Value.ownBlock] at hi; omega))
        | (refine wpList_append_srcN _ (by rfl) _ _ rfl w.heap.size (.slice (some ⟨wr.heap.size, 0, none⟩) 1 1) [⟨8, k, 0, 0, []⟩] (nst x ks) HNIL.out hq1 (by rfl) g (nst x ks).length cp rfl (by rfl) HC1.out _ HLT.out (by simp; omega) KA.size ?_; intro g5 c5 w5 R5 t5 hg5; have hgg : w.heap.size ≤ g5 := (by rcases hg5 with h | h <;> simp [Value.ownBlock] at h <;> omega); have K5 : Kept w w5 := t5.kept KA (fun i hi => by simp [Value.ownBlock] at hi; omega); rw [show ([⟨8, k, 0, 0, []⟩] : List OpD).length + (nst x ks).length = 1 + (nst x ks).length from rfl] at *) | fail)
      go_roundg g3'
      case rel =>
        refine ⟨j + 1, g6, _, c6, rfl, ?_, by go_num, by omega, ?_, K6⟩
        · rw [HN.out, HPP.out]
        · rw [HN.out]
          refine ⟨by simp [nst], ?_⟩
          rw [nils_app, nils_app] at R6
          simpa [nst] using R6
      case measure => omega
    · have b1 : ¬ (j : Int) < (Z.length : Int) := by omega
      obtain rfl : j = Z.length := by omega
      rw [List.take_length] at HM hPB
      rw [List.take_length]
      have HK : Hid (∀ k ∈ (rnds Z).reverse, 1 ≤ k ∧ k ≤ 32) := rnds_bd Z
      have hlen := rnds_len Z
      obtain ⟨ks, hks⟩ : ∃ ks, (rnds Z).reverse = ks := ⟨_, rfl⟩
      rw [hks] at HM hPB HK hlen
      rw [hks]
      obtain rfl : m = (nst x ks).length := HM.out.1
      have HV := HM.out.2.view
      obtain ⟨a9, c9, e9, hc9, _, h9⟩ := HV
      have ea := (Value.slice.inj e9).1
      subst ea
      have HA9 : Hid (AtP wr (some ⟨g, 0, none⟩) (nst x ks)) := h9
      have hNL : (nst x ks).length ≤ 13 := by rw [nst_len]; omega
      have h7 := pcheck_any (some ⟨g, 0, none⟩) cp (nst x ks) wr (HR.out.kept KK) HA9.out (by omega) (fun o ho => by rw [nst_nil x ks o ho]; simp)
      rw [nst_check HX.out ks HK.out (by omega)] at h7
      obtain ⟨q1, hq1⟩ : ∃ q, (checkP (nst x ks)).1 = q := ⟨_, rfl⟩
      rw [hq1] at h7
      obtain ⟨P, hP⟩ : ∃ P, prodL ks = P := ⟨_, rfl⟩
      have HE : Hid (nstE ks = if 3 < ks.length then 11 else if 512 < P then 4 else 0) := by show _ = _; rw [nstE, hP]
      clear e9 h9 hq1 hks
      by_cases h3 : 3 < ks.length
      · have b3 : (Z.length : Int) > 3 := by omega
        rw [HE.out, if_pos h3] at h7
        rw [hP]
        go_wp2_with fail
        refine h7.mono ?_
        rintro e w7 ⟨rfl, t7⟩
        go_wp2_with fail
        go_ret
        exact ⟨rfl, KK.trans t7⟩
      · have b3 : ¬ (Z.length : Int) > 3 := by omega
        rw [HE.out, if_neg h3] at h7
        by_cases h5 : 512 < P
        · rw [if_pos h5] at h7
          rw [hP] at hPB ⊢
          go_wp2_with fail
          refine h7.mono ?_
          rintro e w7 ⟨rfl, t7⟩
          go_wp2_with fail
          go_ret
          exact ⟨rfl, KK.trans t7⟩
        · rw [if_neg h5] at h7
          obtain ⟨hrun, hcost, hsteps⟩ := nst_good HX.out ks HK.out (by omega)
          have hall := nst_all HX.out ks HK.out
          rw [hP] at hPB hcost hsteps ⊢
          obtain ⟨y, hy⟩ : ∃ y, P * x = y := ⟨_, rfl⟩
          rw [hy] at hcost
          have hyb : 0 ≤ y ∧ y ≤ 512000 := by
            rw [← hy]
            have h2 := HX.out
            refine ⟨Int.mul_nonneg (by omega) (by omega), ?_⟩
            have := Int.mul_le_mul (show P ≤ 512 by omega) h2.2 (by omega) (by omega)
            omega
          have hyw := wrapI (z := y) (by omega) (by omega)
          have hM0 : ks ≠ [] → matchD (nst x ks) 0 = 2 * (ks.length : Int) := fun hn => nst_match x ks (by omega) hn
          have HCO : Hid (∀ w', Kept wr w' → Calls Tryd.prog 17 #[.slice (some ⟨g, 0, none⟩) (nst x ks).length cp] w' fun e w'' => e = .returned (.int .i64 y) ∧ Kept w' w'') := fun w' t => by
            have := cost_any (some ⟨g, 0, none⟩) cp (nst x ks) w' (HA9.out.kept t) (by omega) hall hrun
            rw [hcost] at this
            exact this
          have HST : Hid (∀ w', Kept wr w' → Calls Tryd.prog 19 #[.slice (some ⟨g, 0, none⟩) (nst x ks).length cp] w' fun e w'' => e = .returned (.int .i64 P) ∧ Kept w' w'') := fun w' t => by
            have := steps_any (some ⟨g, 0, none⟩) cp (nst x ks) w' (HA9.out.kept t) (by omega) hall hrun
            rw [hsteps] at this
            exact this
          have HMT : Hid (∀ w', Kept wr w' → ks ≠ [] → Calls Tryd.prog 15 #[.slice (some ⟨g, 0, none⟩) (nst x ks).length cp, .int .i64 0] w' fun e w'' => e = .returned (.int .i64 (2 * (ks.length : Int))) ∧ w'' = w') := fun w' t hn => by
            have := match_any (some ⟨g, 0, none⟩) cp (nst x ks) 0 w' (HA9.out.kept t) (by omega) (by omega)
            rw [hM0 hn] at this
            exact this
          clear hrun hcost hsteps hall hM0
          go_wp2_with fail
          refine h7.mono ?_
          rintro e w7 ⟨rfl, t7⟩
          go_wp2_with fail
          refine (HCO.out w7 t7).mono ?_
          rintro e w8 ⟨rfl, t8⟩
          go_wp2_with fail
          refine (HST.out w8 (t7.trans t8)).mono ?_
          rintro e w9 ⟨rfl, t9⟩
          by_cases hk0 : ks = []
          · have bz : (Z.length : Int) = 0 := by rw [hk0] at hlen; simp at hlen; omega
            go_wp2_with fail
            go_ret
            exact ⟨rfl, KK.trans ((t7.trans t8).trans t9)⟩
          · have bz : ¬ (Z.length : Int) = 0 := by
              intro h
              apply hk0
              exact List.eq_nil_of_length_eq_zero (by omega)
            have bz2 : ¬ Z.length = 0 := by omega
            go_wp2_with fail
            refine (HMT.out w9 ((t7.trans t8).trans t9) hk0).mono ?_
            rintro e w10 ⟨rfl, hw10⟩
            subst hw10
            rw [hlen]
            go_wp2_with fail
            go_ret
            exact ⟨rfl, KK.trans ((t7.trans t8).trans t9)⟩
end Go.Proofs.YtockpcoegdaipaaDoor
