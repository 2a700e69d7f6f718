/- ProgTwice, walked. -/
import Derived.Test.YtohokkdlehahnaaDoorApp3
import Derived.Test.YtohokkdlehahnaaDoorTwcP
import Derived.Test.YtohokkdlehahnaaDoorKnw
import Derived.Test.YtohokkdlehahnaaDoorSam2
namespace Go.Proofs.YtohokkdlehahnaaDoor
open Go.RowKit

set_option maxHeartbeats 8000000 in
set_option maxRecDepth 20000 in
theorem twice_law (n a b : Int) (hn0 : 0 ≤ n) (hn1 : n ≤ 255) (ha0 : 0 ≤ a) (ha1 : a ≤ 255) (hb0 : 0 ≤ b) (hb1 : b ≤ 255) (w : World) (hr : Rdy w) : Calls Tryd.prog 8 #[.int .u8 n, .int .u8 a, .int .u8 b] w fun e w' => e = .returned (.bool true) ∧ Kept w w' := by
  have HR : Hid (Rdy w) := hr
  clear hr
  obtain ⟨R, hR⟩ : ∃ R : Nat, 1 + n % 32 = (R : Int) := ⟨(1 + n % 32).toNat, by omega⟩
  obtain ⟨x, hx⟩ : ∃ x, 1 + a = x := ⟨_, rfl⟩
  obtain ⟨y, hy⟩ : ∃ y, 1 + b = y := ⟨_, rfl⟩
  have HK : Hid (1 ≤ (R : Int) ∧ (R : Int) ≤ 32) := ⟨by omega, by omega⟩
  have HX : Hid (1 ≤ x ∧ x ≤ 1000) := ⟨by omega, by omega⟩
  have HY : Hid (1 ≤ y ∧ y ≤ 1000) := ⟨by omega, by omega⟩
  have hR1 : 1 ≤ R := by omega
  have hR32 : R ≤ 32 := by omega
  go_enter Tryd.func8, Tryd.ntmps8
  go_wp2_with fail
  refine (known_true w HR.out).mono ?_
  rintro e w1 ⟨rfl, K1⟩
  have KP := K1.alloc (.cells #[.int .i64 1, .int .i64 x, .int .i64 0, .int .i64 0, .slice none 0 0, .int .i64 2, .int .i64 3, .int .i64 0, .int .i64 0, .slice none 0 0, .int .i64 1, .int .i64 y, .int .i64 0, .int .i64 0, .slice none 0 0, .int .i64 3, .int .i64 3, .int .i64 0, .int .i64 0, .slice none 0 0] 52)
  have HAP : Hid (AtP (w1.alloc (.cells #[.int .i64 1, .int .i64 x, .int .i64 0, .int .i64 0, .slice none 0 0, .int .i64 2, .int .i64 3, .int .i64 0, .int .i64 0, .slice none 0 0, .int .i64 1, .int .i64 y, .int .i64 0, .int .i64 0, .slice none 0 0, .int .i64 3, .int .i64 3, .int .i64 0, .int .i64 0, .slice none 0 0] 52)) (some ⟨w1.heap.size, 0, none⟩) (twB x y)) := lit_ops w1 (twB x y) (by simp [twB]) _ rfl
  have HOL : Hid (∃ svs, ORow w.heap.size ((w1.alloc (.cells #[.int .i64 1, .int .i64 x, .int .i64 0, .int .i64 0, .slice none 0 0, .int .i64 2, .int .i64 3, .int .i64 0, .int .i64 0, .slice none 0 0, .int .i64 1, .int .i64 y, .int .i64 0, .int .i64 0, .slice none 0 0, .int .i64 3, .int .i64 3, .int .i64 0, .int .i64 0, .slice none 0 0] 52)).alloc (.cells #[.int .i64 8, .int .i64 (R : Int), .int .i64 0, .int .i64 0, .slice none 0 0] 52)) (.slice (some ⟨w1.heap.size + 1, 0, none⟩) 1 1) [⟨8, (R : Int), 0, 0, []⟩] svs) := by
    have h := orow_lit w.heap.size (w1.alloc (.cells #[.int .i64 1, .int .i64 x, .int .i64 0, .int .i64 0, .slice none 0 0, .int .i64 2, .int .i64 3, .int .i64 0, .int .i64 0, .slice none 0 0, .int .i64 1, .int .i64 y, .int .i64 0, .int .i64 0, .slice none 0 0, .int .i64 3, .int .i64 3, .int .i64 0, .int .i64 0, .slice none 0 0] 52)) [⟨8, (R : Int), 0, 0, []⟩] (by simp) #[.int .i64 8, .int .i64 (R : Int), .int .i64 0, .int .i64 0, .slice none 0 0] rfl KP.size (by simp) 1 rfl
    rw [show (w1.alloc (.cells #[.int .i64 1, .int .i64 x, .int .i64 0, .int .i64 0, .slice none 0 0, .int .i64 2, .int .i64 3, .int .i64 0, .int .i64 0, .slice none 0 0, .int .i64 1, .int .i64 y, .int .i64 0, .int .i64 0, .slice none 0 0, .int .i64 3, .int .i64 3, .int .i64 0, .int .i64 0, .slice none 0 0] 52)).heap.size = w1.heap.size + 1 by simp] at h
    exact h
  have HCC : Hid (∀ (j : Nat) (u : Value), (flatO (twB x y) (nils (twB x y)))[j]? = some u → ((w1.alloc (.cells #[.int .i64 1, .int .i64 x, .int .i64 0, .int .i64 0, .slice none 0 0, .int .i64 2, .int .i64 3, .int .i64 0, .int .i64 0, .slice none 0 0, .int .i64 1, .int .i64 y, .int .i64 0, .int .i64 0, .slice none 0 0, .int .i64 3, .int .i64 3, .int .i64 0, .int .i64 0, .slice none 0 0] 52)).alloc (.cells #[.int .i64 8, .int .i64 (R : Int), .int .i64 0, .int .i64 0, .slice none 0 0] 52)).cell? ⟨w1.heap.size, j, none⟩ = some u) := by
    intro j u hu
    refine ((Kept.refl _).alloc _).cell ?_
    rw [World.cell?_alloc_at _ _ _ _ rfl]
    simpa [flatO, nils, twB, opV] using hu
  have hszL : w.heap.size ≤ ((w1.alloc (.cells #[.int .i64 1, .int .i64 x, .int .i64 0, .int .i64 0, .slice none 0 0, .int .i64 2, .int .i64 3, .int .i64 0, .int .i64 0, .slice none 0 0, .int .i64 1, .int .i64 y, .int .i64 0, .int .i64 0, .slice none 0 0, .int .i64 3, .int .i64 3, .int .i64 0, .int .i64 0, .slice none 0 0] 52)).alloc (.cells #[.int .i64 8, .int .i64 (R : Int), .int .i64 0, .int .i64 0, .slice none 0 0] 52)).heap.size := (KP.alloc _).size
  have hbl : w.heap.size ≤ w1.heap.size + 1 := by have := K1.size; omega
  go_wp2_with (at_builtin; first
    | (refine wpList_append_lits _ (by rfl) _ _ rfl w.heap.size (.slice (some ⟨g5, 0, none⟩) 5 c5) ([⟨8, (R : Int), 0, 0, []⟩] ++ twB x y) [⟨9, 0, 0, 0, []⟩] (by simp) (by simp) _ rfl w5 (by rfl) (by rfl) w5.heap.size (by rfl) 1 (by rfl) (by rfl) R5 (by simp [twB]) K5.size ?_; intro g6 c6 w6 R6 t6; have K6 : Kept w w6 := t6.kept K5 (fun i hi => by simp [Value.ownBlock] at hi; omega); have KQ6 : Kept (w1.alloc (.cells #[.int .i64 1, .int .i64 x, .int .i64 0, .int .i64 0, .slice none 0 0, .int .i64 2, .int .i64 3, .int .i64 0, .int .i64 0, .slice none 0 0, .int .i64 1, .int .i64 y, .int .i64 0, .int .i64 0, .slice none 0 0, .int .i64 3, .int .i64 3, .int .i64 0, .int .i64 0, .slice none 0 0] 52)) w6 := t6.kept KQ5 (fun i hi => by simp [Value.ownBlock] at hi; simp; omega))
    | (refine wpList_append_src _ (by rfl) _ _ rfl w.heap.size (.slice (some ⟨w1.heap.size + 1, 0, none⟩) 1 1) [⟨8, (R : Int), 0, 0, []⟩] (twB x y) (by simp [twB]) (by simp [twB]) (by rfl) w1.heap.size 4 4 rfl (by rfl) HCC.out HOL.out (by simp [twB]) hszL ?_; intro g5 c5 w5 R5 t5 hg5; have hgg : w1.heap.size + 1 ≤ g5 := (by rcases hg5 with h | h <;> simp [Value.ownBlock] at h <;> omega); have K5 : Kept w w5 := t5.kept (KP.alloc _) (fun i hi => by simp [Value.ownBlock] at hi; omega); have KQ5 : Kept (w1.alloc (.cells #[.int .i64 1, .int .i64 x, .int .i64 0, .int .i64 0, .slice none 0 0, .int .i64 2, .int .i64 3, .int .i64 0, .int .i64 0, .slice none 0 0, .int .i64 1, .int .i64 y, .int .i64 0, .int .i64 0, .slice none 0 0, .int .i64 3, .int .i64 3, .int .i64 0, .int .i64 0, .slice none 0 0] 52)) w5 := t5.kept ((Kept.refl _).alloc _) (fun i hi => by simp [Value.ownBlock] at hi; simp; omega)) | fail)
  rw [show (twB x y).length + 1 + 1 = 6 from rfl]
  have HQ6 : Hid (AtP w6 (some ⟨g6, 0, none⟩) (twP R x y) ∧ 6 ≤ c6) := by
    obtain ⟨svs, h⟩ := R6
    obtain ⟨a9, c9, e9, hc9, _, h9⟩ := h.view
    have ea := (Value.slice.inj e9).1
    have ec := (Value.slice.inj e9).2.2
    subst ea
    subst ec
    exact ⟨h9, hc9⟩
  have hc6 : (twP R x y).length ≤ c6 := HQ6.out.2
  have HCK : Hid (checkP (twP R x y) = (0, 0)) := tw_check HK.out HX.out HY.out
  have HBL : Hid (Bal 3 0 0 (twP R x y) (rep R (twB x y))) := tw_bal (R : Int) x y
  have HTP := taken_prog HCK.out
  have T6 := Kept.refl w6
  clear R6 R5 t5 t6 hszL HOL HCC hgg
  obtain ⟨z, hz⟩ : ∃ z, (R : Int) * (x + y) = z := ⟨_, rfl⟩
  have hzb : 0 ≤ z ∧ z ≤ 64000 := by
    rw [← hz]
    have h1 := HX.out
    have h2 := HY.out
    have h3 := HK.out
    refine ⟨Int.mul_nonneg (by omega) (by omega), ?_⟩
    have : (R : Int) * (x + y) ≤ 32 * 2000 := Int.mul_le_mul h3.2 (by omega) (by omega) (by omega)
    omega
  have hzz : ∀ q, q = z → IntKind.i64.wrap q = q := by
    intro q hq
    simp [IntKind.wrap, IntKind.bits, IntKind.signed]
    omega
  have HFL : Hid ((rep R (twB x y)).length = 4 * R) := by show _ = _; rw [rep_len]; simp [twB]; omega
  have h7 := pcheck_any (some ⟨g6, 0, none⟩) c6 (twP R x y) w6 (HR.out.kept K6) HQ6.out.1 (by simp [twP]) (fun o ho => op_few (HTP.2.1 o ho))
  rw [HCK.out, show (twP R x y).length = 6 from rfl] at h7
  go_wp2_with fail
  refine h7.mono ?_
  rintro e w7 ⟨rfl, t7⟩
  have K7 := K6.trans t7
  have T7 := T6.trans t7
  clear h7
  have h8 := flat_any (some ⟨g6, 0, none⟩) c6 (twP R x y) (rep R (twB x y)) w7 (HR.out.kept K7) (HQ6.out.1.kept T7) hc6 HCK.out HBL.out
  rw [show (twP R x y).length = 6 from rfl] at h8
  go_wp2_with fail
  refine h8.mono ?_
  rintro e w8 ⟨v8, rfl, ⟨svs8, R8⟩, t8⟩
  obtain ⟨fa, fc, hv8, _, _, hat8⟩ := R8.view
  rw [HFL.out] at hv8
  subst hv8
  have HF8 : Hid (AtP w8 fa (rep R (twB x y))) := hat8
  have K8 := K7.trans t8
  have T8 := T7.trans t8
  clear h8 R8 hat8
  have h9 := cost_any (some ⟨g6, 0, none⟩) c6 (twP R x y) w8 (HQ6.out.1.kept T8) (by simp [twP]) HTP.2.1 HTP.2.2.1
  rw [tw_cost, hz, show (twP R x y).length = 6 from rfl] at h9
  go_wp2_with fail
  refine h9.mono ?_
  rintro e w9 ⟨rfl, t9⟩
  have K9 := K8.trans t9
  have T9 := T8.trans t9
  clear h9
  have h10 := steps_any (some ⟨g6, 0, none⟩) c6 (twP R x y) w9 (HQ6.out.1.kept T9) (by simp [twP]) HTP.2.1 HTP.2.2.1
  rw [tw_steps, show (twP R x y).length = 6 from rfl] at h10
  go_wp2_with fail
  refine h10.mono ?_
  rintro e w10 ⟨rfl, t10⟩
  have K10 := K9.trans t10
  have T10 := T9.trans t10
  clear h10
  have HS3 : Hid (secGo 3 0 0 (rep R (twB x y)) = y) := by
    show _ = _
    have h2 := HY.out
    rw [tw_sec3 (by omega) R 0 0 (by omega) (by omega), if_neg (by omega)]
  have h11 := section_any (some ⟨g6, 0, none⟩) c6 (twP R x y) (rep R (twB x y)) 3 w10 (HR.out.kept K10) (HQ6.out.1.kept T10) hc6 HCK.out HBL.out
  rw [HS3.out, show (twP R x y).length = 6 from rfl] at h11
  go_wp2_with fail
  refine h11.mono ?_
  rintro e w11 ⟨rfl, t11⟩
  have K11 := K10.trans t11
  have T11 := T10.trans t11
  clear h11
  have h12 := section_any (some ⟨g6, 0, none⟩) c6 (twP R x y) (rep R (twB x y)) 2 w11 (HR.out.kept K11) (HQ6.out.1.kept T11) hc6 HCK.out HBL.out
  rw [tw_sec2, show (twP R x y).length = 6 from rfl] at h12
  go_wp2_with fail
  refine h12.mono ?_
  rintro e w12 ⟨rfl, t12⟩
  have K12 := K11.trans t12
  have T12 := T11.trans t12
  clear h12
  have hm := match_any (some ⟨g6, 0, none⟩) c6 (twP R x y) 0 w12 (HQ6.out.1.kept T12) (by simp [twP]) (by omega)
  rw [tw_m0, show (twP R x y).length = 6 from rfl] at hm
  go_wp2_with fail
  refine hm.mono ?_
  rintro e w13 ⟨rfl, hw13⟩
  subst w13
  clear hm
  have hm := match_any (some ⟨g6, 0, none⟩) c6 (twP R x y) 5 w12 (HQ6.out.1.kept T12) (by simp [twP]) (by omega)
  rw [tw_m5, show (twP R x y).length = 6 from rfl] at hm
  go_wp2_with fail
  refine hm.mono ?_
  rintro e w13 ⟨rfl, hw13⟩
  subst w13
  clear hm
  have HF12 : Hid (AtP w12 fa (rep R (twB x y))) := HF8.out.kept (((t9.trans t10).trans t11).trans t12)
  have HP12 : Hid (AtP w12 (some ⟨w1.heap.size, 0, none⟩) (twB x y)) := HAP.out.kept (KQ6.trans T12)
  clear hR hx hy hz hzz
  go_wp2_with fail
  go_loopg [15] (4 * R) (fun gk i wr => ∃ j : Nat, i = .int .i64 j ∧ j + gk = 4 * R ∧ Kept w12 wr)
  case atStart => exact ⟨0, rfl, by omega, Kept.refl _⟩
  case round =>
    obtain ⟨j, rfl, hj, KK⟩ := hrel
    by_cases hjp : j < 4 * R
    · have r1 : (j : Int) < ((4 * R : Nat) : Int) := by omega
      have r2 : (j : Int) < 4 * (R : Int) := by omega
      have r3 : (0 : Int) ≤ (j : Int) := by omega
      obtain ⟨bb, ff, k, n2, v2, wt, l, ca, cc, hfa, hpj, g0, g1, g2, g3, g4, hcc, hat, hbl2, _⟩ := (HF12.out.kept KK).get j (by rw [HFL.out]; exact hjp)
      subst hfa
      have hq0 := tw_get R j _ hpj
      obtain ⟨q, hq⟩ : ∃ q, j % 4 = q := ⟨_, rfl⟩
      rw [hq] at hq0
      have hq4 : q < 4 := by omega
      obtain ⟨b9, f9, e9, ho⟩ := (HP12.out.kept KK) q _ hq0
      obtain ⟨rfl, rfl⟩ : w1.heap.size = b9 ∧ 0 = f9 := by cases e9; exact ⟨rfl, rfl⟩
      obtain ⟨ca2, cc2, p4, _, _, hat2⟩ := ho.cs
      have p0 := ho.k
      have p1 := ho.n
      have p2 := ho.v
      have p3 := ho.wt
      simp only [Nat.zero_add] at p0 p1 p2 p3 p4
      have hm1 : (j : Int).tmod 4 = (q : Int) := by rw [Int.tmod_eq_emod_of_nonneg (by omega)]; omega
      have hm2 : (j : Int) % 4 = (q : Int) := by omega
      have r4 : (q : Int) < 4 := by omega
      have r5 : (0 : Int) ≤ (q : Int) := by omega
      have hll : l.length ≤ 1000000 := op_few (HTP.2.1 _ (bal_mem HBL.out _ (List.mem_of_getElem? hpj)).1)
      have hsa := same_any k n2 v2 wt k n2 v2 wt ca ca2 l.length l.length cc cc2 l l wr.drew (hat.kept ((Kept.refl wr).drew)) (hat2.kept ((Kept.refl wr).drew)) hll
      rw [sameD_self] at hsa
      obtain ⟨g3', rfl⟩ : ∃ g, gk = g + 1 := ⟨gk - 1, by omega⟩
      clear hq0 hpj hat hat2 ho e9 hq
      go_wp2_with fail
      go_region_held3 (fun w' => w'.cell? ⟨bb, ff + j * 5, none⟩ = some (.int .i64 k) ∧ w'.cell? ⟨bb, ff + j * 5 + 1, none⟩ = some (.int .i64 n2) ∧ w'.cell? ⟨bb, ff + j * 5 + 2, none⟩ = some (.int .i64 v2) ∧ w'.cell? ⟨bb, ff + j * 5 + 3, none⟩ = some (.int .i64 wt) ∧ w'.cell? ⟨bb, ff + j * 5 + 4, none⟩ = some (.slice ca l.length cc) ∧ w'.cell? ⟨w1.heap.size, q * 5, none⟩ = some (.int .i64 k) ∧ w'.cell? ⟨w1.heap.size, q * 5 + 1, none⟩ = some (.int .i64 n2) ∧ w'.cell? ⟨w1.heap.size, q * 5 + 2, none⟩ = some (.int .i64 v2) ∧ w'.cell? ⟨w1.heap.size, q * 5 + 3, none⟩ = some (.int .i64 wt) ∧ w'.cell? ⟨w1.heap.size, q * 5 + 4, none⟩ = some (.slice ca2 l.length cc2)) (go_keep) (first | (go_at_call 30; refine hsa.mono ?_; rintro e w14 ⟨rfl, t14⟩; have K14 := ((Kept.refl wr).drew).trans t14; have z0 := K14.cell g0; have z1 := K14.cell g1; have z2 := K14.cell g2; have z3 := K14.cell g3; have z4 := K14.cell g4; have u0z := K14.cell p0; have u1z := K14.cell p1; have u2z := K14.cell p2; have u3z := K14.cell p3; have u4z := K14.cell p4) | fail)
      go_wp2_with fail
      go_roundg g3'
      case rel => exact ⟨j + 1, by go_num, by omega, KK.trans K14⟩
      case measure => omega
    · have r1 : ¬ (j : Int) < ((4 * R : Nat) : Int) := by omega
      have r2 : ¬ (j : Int) < 4 * (R : Int) := by omega
      go_wp2_with fail
      go_ret
      exact ⟨rfl, K12.trans KK⟩
end Go.Proofs.YtohokkdlehahnaaDoor
