/- ProgLocks, walked. -/
import Derived.Test.YtockpcoegdaipaaDoorLooW
import Derived.Test.YtockpcoegdaipaaDoorLkP
import Derived.Test.YtockpcoegdaipaaDoorSrt
import Derived.Test.YtockpcoegdaipaaDoorKnw
import Derived.Test.YtockpcoegdaipaaDoorOpn
namespace Go.Proofs.YtockpcoegdaipaaDoor
open Go.RowKit

def prs : List Int → List Int → List (Int × Int)
  | z :: Z, n :: N => (1 + n % 9, z % 8) :: prs Z N
  | _, _ => []
theorem prs_len : ∀ (Z N : List Int), Z.length ≤ N.length → (prs Z N).length = Z.length
  | [], _, _ => by simp [prs]
  | _ :: _, [], h => by simp at h
  | z :: Z, n :: N, h => by simp [prs, prs_len Z N (by simpa using h)]
theorem prs_get : ∀ (Z N : List Int) (j : Nat) (z n : Int), Z[j]? = some z → N[j]? = some n → (prs Z N)[j]? = some (1 + n % 9, z % 8)
  | [], _, _, _, _, h, _ => by simp at h
  | _ :: _, [], _, _, _, _, h => by simp at h
  | z0 :: Z, n0 :: N, 0, z, n, h1, h2 => by simp at h1 h2; simp [prs, h1, h2]
  | z0 :: Z, n0 :: N, j + 1, z, n, h1, h2 => by
    simp only [prs, List.getElem?_cons_succ] at h1 h2 ⊢
    exact prs_get Z N j z n h1 h2
theorem prs_ok (r : Int) (hr : 1 ≤ r ∧ r ≤ 9) : ∀ (Z N : List Int), LkOk r (prs Z N)
  | [], _ => ⟨hr, fun x hx => by simp [prs] at hx⟩
  | _ :: _, [] => ⟨hr, fun x hx => by simp [prs] at hx⟩
  | z :: Z, n :: N => by
    refine ⟨hr, fun x hx => ?_⟩
    simp only [prs, List.mem_cons] at hx
    rcases hx with rfl | hx
    · refine ⟨?_, ?_⟩ <;> simp only <;> omega
    · exact (prs_ok r hr Z N).2 x hx
theorem zs_next {zs : List (Int × Int)} {j : Nat} {r k : Int} (h : zs[j]? = some (r, k)) : zs.take (j + 1) = zs.take j ++ [(r, k)] := by
  rw [List.take_add_one, h]
  rfl
theorem lkK_app (a : List (Int × Int)) (r k : Int) : lkK (a ++ [(r, k)]) = lkK a ++ [k] := by simp [lkK]
theorem last_bd : ∀ (l : List Int) (last : Int), -1 ≤ last → last ≤ 7 → (∀ k ∈ l, 0 ≤ k ∧ k ≤ 7) → -1 ≤ lastI last l ∧ lastI last l ≤ 7
  | [], _, h1, h2, _ => ⟨h1, h2⟩
  | x :: r, _, _, _, h => last_bd r x (by have := h x (by simp); omega) (by have := h x (by simp); omega) (fun k hk => h k (by simp [hk]))
def sumS (r : Int) (zs : List (Int × Int)) (m : Nat) : Int := if zs.length ≤ m then 0 else totL r (zs.drop (m + 1))
theorem sum_step (r : Int) (zs : List (Int × Int)) (m : Nat) (q : Int) (hm : m ≤ zs.length) (h : m < zs.length → ∃ k, zs[m]? = some (q, k)) (h2 : m = zs.length → q = r) : sumS r zs m + q = totL r (zs.drop m) := by
  unfold sumS
  by_cases hl : m < zs.length
  · obtain ⟨k, hk⟩ := h hl
    rw [if_neg (by omega), List.drop_eq_getElem_cons hl]
    have : zs[m] = (q, k) := by rw [List.getElem?_eq_getElem hl] at hk; exact Option.some.inj hk
    rw [this, totL]
    omega
  · obtain rfl : m = zs.length := by omega
    rw [if_pos (Nat.le_refl _), List.drop_length, totL, h2 rfl]
    omega
theorem sum_last (r : Int) (zs : List (Int × Int)) (m : Nat) (hm : m < zs.length) : sumS r zs m = totL r (zs.drop (m + 1)) := by
  unfold sumS
  rw [if_neg (by omega)]
theorem tot_bd (r : Int) : ∀ zs, LkOk r zs → 0 ≤ totL r zs ∧ totL r zs ≤ 9 * (zs.length + 1)
  | [], h => by have := h.1; simp [totL]; omega
  | (r0, k) :: z, h => by
    have h1 := (h.2 (r0, k) (by simp)).1
    have := tot_bd r z ⟨h.1, fun x hx => h.2 x (by simp [hx])⟩
    simp only [totL, List.length_cons] at h1 ⊢
    omega
theorem ok_drop {r : Int} {zs : List (Int × Int)} (h : LkOk r zs) (m : Nat) : LkOk r (zs.drop m) := ⟨h.1, fun x hx => h.2 x (List.mem_of_mem_drop hx)⟩
theorem sum_bd (r : Int) (zs : List (Int × Int)) (h : LkOk r zs) (m : Nat) : 0 ≤ sumS r zs m ∧ sumS r zs m ≤ 9 * (zs.length + 1) := by
  unfold sumS
  split
  · omega
  · have := tot_bd r _ (ok_drop h (m + 1))
    have h2 : (zs.drop (m + 1)).length ≤ zs.length := by simp
    omega
theorem unl_step {ks : List Int} {m : Nat} {k : Int} (h : ks[m]? = some k) : (ks.drop m).reverse.map oUnl = (ks.drop (m + 1)).reverse.map oUnl ++ [oUnl k] := by
  have hm : m < ks.length := (List.getElem?_eq_some_iff.1 h).1
  rw [List.drop_eq_getElem_cons hm]
  have : ks[m] = k := by rw [List.getElem?_eq_getElem hm] at h; exact Option.some.inj h
  rw [this]
  simp
theorem lkK_get {zs : List (Int × Int)} {j : Nat} {r k : Int} (h : zs[j]? = some (r, k)) : (lkK zs)[j]? = some k := by
  unfold lkK
  rw [List.getElem?_map, h]
  rfl
theorem lkN_ld {r : Int} {zs : List (Int × Int)} (hr : risB (-1) (lkK zs) = true) : (locksD (lkN r zs)).length = zs.length := by
  have : locksD (lkN r zs) = lkK zs := strict_ext _ _ (locksD_strict _) (ris_pair _ _ hr) (fun x => by rw [locksD_mem, lkN_locks])
  rw [this]
  simp [lkK]

set_option maxHeartbeats 8000000 in
set_option maxRecDepth 20000 in
theorem llocks_law (a : Option Addr) (Z : List Int) (c : Nat) (a' : Option Addr) (M : List Int) (c' : Nat) (w : World) (hr : Rdy w) (hZ : AtB w a Z) (hzb : ∀ z ∈ Z, 0 ≤ z ∧ z ≤ 255) (hM : AtB w a' M) (hmb : ∀ z ∈ M, 0 ≤ z ∧ z ≤ 255) : Calls Tryd.prog 6 #[.slice a Z.length c, .slice a' M.length c'] w fun e w' => e = .returned (.bool true) ∧ Kept w w' := by
  have HR : Hid (Rdy w) := hr
  have HZ : Hid (AtB w a Z) := hZ
  have HZB : Hid (∀ z ∈ Z, 0 ≤ z ∧ z ≤ 255) := hzb
  have HM : Hid (AtB w a' M) := hM
  have HMB : Hid (∀ z ∈ M, 0 ≤ z ∧ z ≤ 255) := hmb
  clear hr hZ hzb hM hmb
  by_cases h8 : Z.length > 8
  · have b8 : (Z.length : Int) > 8 := by omega
    go_enter Tryd.func6, Tryd.ntmps6
    go_wp2_with fail
    refine (known_true w HR.out).mono ?_
    rintro e w1 ⟨rfl, K1⟩
    go_wp2_with fail
    go_ret
    exact ⟨rfl, K1⟩
  have b8 : ¬ (Z.length : Int) > 8 := by omega
  by_cases hml : M.length < Z.length + 1
  · have b9 : (M.length : Int) < (Z.length : Int) + 1 := by omega
    go_enter Tryd.func6, Tryd.ntmps6
    go_wp2_with fail
    refine (known_true w HR.out).mono ?_
    rintro e w1 ⟨rfl, K1⟩
    go_wp2_with fail
    go_ret
    exact ⟨rfl, K1⟩
  have b9 : ¬ (M.length : Int) < (Z.length : Int) + 1 := by omega
  obtain ⟨mL, hmL⟩ : ∃ q, M[Z.length]? = some q := ⟨_, List.getElem?_eq_getElem (show Z.length < M.length by omega)⟩
  have hmLb := HMB.out mL (List.mem_of_getElem? hmL)
  obtain ⟨r, hrr⟩ : ∃ r, 1 + mL % 9 = r := ⟨_, rfl⟩
  have hrb : 1 ≤ r ∧ r ≤ 9 := by omega
  obtain ⟨zs, hzs⟩ : ∃ zs, prs Z M = zs := ⟨_, rfl⟩
  have hzl : zs.length = Z.length := by rw [← hzs]; exact prs_len Z M (by omega)
  have HOK : Hid (LkOk r zs) := by rw [← hzs]; exact prs_ok r hrb Z M
  have HGT : Hid (∀ (j : Nat) (z n : Int), Z[j]? = some z → M[j]? = some n → zs[j]? = some (1 + n % 9, z % 8)) := by rw [← hzs]; exact prs_get Z M
  clear hzs
  go_enter Tryd.func6, Tryd.ntmps6
  go_wp2_with fail
  refine (known_true w HR.out).mono ?_
  rintro e w1 ⟨rfl, K1⟩
  have M0 : ∀ w', Hid (∃ svs, ORow w.heap.size w' (.slice none 0 0) (lkU (zs.take 0)) svs) := fun w' => ⟨[], ORow.nil _ _⟩
  go_wp2_with fail
  go_loopg [5, 6, 7, 8] Z.length (fun gk x5 x6 x7 i wr => ∃ (j : Nat) (v : Value), v = x5 ∧ x6 = .int .i64 (lastI (-1) (lkK (zs.take j))) ∧ x7 = .bool (risB (-1) (lkK (zs.take j))) ∧ i = .int .i64 j ∧ j + gk = Z.length ∧ Hid (∃ svs, ORow w.heap.size wr v (lkU (zs.take j)) svs) ∧ Kept w wr)
  case atStart => exact ⟨0, _, rfl, rfl, rfl, rfl, by omega, M0 w1, K1⟩
  case round =>
    obtain ⟨j, v5, hx5, rfl, rfl, rfl, hj, HV, KK⟩ := hrel
    subst hx5
    by_cases hjZ : j < Z.length
    · have b1 : (j : Int) < (Z.length : Int) := by omega
      have b2 : (j : Int) < (M.length : Int) := by omega
      obtain ⟨z, hz⟩ : ∃ z, Z[j]? = some z := ⟨_, List.getElem?_eq_getElem hjZ⟩
      obtain ⟨q, hq⟩ : ∃ q, M[j]? = some q := ⟨_, List.getElem?_eq_getElem (show j < M.length by omega)⟩
      have hzr := HZB.out z (List.mem_of_getElem? hz)
      have hqr := HMB.out q (List.mem_of_getElem? hq)
      obtain ⟨b, f, rfl, hcell⟩ := (HZ.out.kept KK) j z hz
      obtain ⟨b', f', rfl, hcell'⟩ := (HM.out.kept KK) j q hq
      have hge := HGT.out j z q hz hq
      obtain ⟨k, hk⟩ : ∃ k, z % 8 = k := ⟨_, rfl⟩
      obtain ⟨r0, hr0⟩ : ∃ r0, 1 + q % 9 = r0 := ⟨_, rfl⟩
      rw [hk, hr0] at hge
      have hkb : 0 ≤ k ∧ k ≤ 7 := by omega
      have hr0b : 1 ≤ r0 ∧ r0 ≤ 9 := by omega
      have HN : Hid (zs.take (j + 1) = zs.take j ++ [(r0, k)]) := zs_next hge
      obtain ⟨la, hla⟩ : ∃ la, lastI (-1) (lkK (zs.take j)) = la := ⟨_, rfl⟩
      have hlab : -1 ≤ la ∧ la ≤ 7 := by
        rw [← hla]
        refine last_bd _ _ (by omega) (by omega) (fun k' hk' => ?_)
        obtain ⟨x', hx', rfl⟩ := List.mem_map.1 hk'
        exact (HOK.out.2 x' (List.mem_of_mem_take hx')).2
      have HLA : Hid (lastI (-1) (lkK (zs.take (j + 1))) = k) := by show _ = _; rw [HN.out, lkK_app, lastI_app]
      have HRI : Hid (risB (-1) (lkK (zs.take (j + 1))) = (risB (-1) (lkK (zs.take j)) && decide (k > la))) := by show _ = _; rw [HN.out, lkK_app, risB_app, hla]
      have HU : Hid (lkU (zs.take (j + 1)) = lkU (zs.take j) ++ [oRun r0, oLock k]) := by show _ = _; rw [HN.out, lkU_app]
      have HOWN : Hid (∀ i, v5.ownBlock = some i → w.heap.size ≤ i) := fun i hi => by obtain ⟨svs, h⟩ := HV.out; exact (h.lt i hi).1
      have hll : (lkU (zs.take j)).length + ([oRun r0, oLock k] : List OpD).length ≤ 1000000 := by
        rw [lkU_len, List.length_take]
        simp
        omega
      obtain ⟨g3', rfl⟩ : ∃ g, gk = g + 1 := ⟨gk - 1, by omega⟩
      rw [hla]
      obtain ⟨rb, hrbb⟩ : ∃ rb, risB (-1) (lkK (zs.take j)) = rb := ⟨_, rfl⟩
      rw [hrbb] at HRI ⊢
      clear hla hrbb hge hz hq
      cases rb with
      | false =>
        go_wp2_with (at_builtin; refine wpList_append_lits _ (by rfl) _ _ rfl w.heap.size v5 (lkU (zs.take j)) [oRun r0, oLock k] (by simp [oRun, oLock]) (by simp) _ rfl wr (by rfl) (by rfl) wr.heap.size (by rfl) 2 (by rfl) (by rfl) HV.out hll KK.size ?_; intro g5 c5 w5 R5 t5; have K5 := t5.kept KK HOWN.out)
        go_roundg g3'
        case rel =>
          refine ⟨j + 1, _, rfl, ?_, ?_, by go_num, by omega, ?_, K5⟩
          · rw [HLA.out]
          · rw [HRI.out]
            first | rfl | simp
          · rw [HU.out]
            exact R5
        case measure => omega
      | true =>
        go_wp2_with (at_builtin; refine wpList_append_lits _ (by rfl) _ _ rfl w.heap.size v5 (lkU (zs.take j)) [oRun r0, oLock k] (by simp [oRun, oLock]) (by simp) _ rfl wr (by rfl) (by rfl) wr.heap.size (by rfl) 2 (by rfl) (by rfl) HV.out hll KK.size ?_; intro g5 c5 w5 R5 t5; have K5 := t5.kept KK HOWN.out)
        go_roundg g3'
        case rel =>
          refine ⟨j + 1, _, rfl, ?_, ?_, by go_num, by omega, ?_, K5⟩
          · rw [HLA.out]
          · rw [HRI.out]
            first | rfl | simp
          · rw [HU.out]
            exact R5
        case measure => omega
    · have b1 : ¬ (j : Int) < (Z.length : Int) := by omega
      obtain rfl : j = Z.length := by omega
      rw [show zs.take Z.length = zs by rw [← hzl, List.take_length]] at HV ⊢
      obtain ⟨b', f', rfl, hcell'⟩ := (HM.out.kept KK) Z.length mL hmL
      have b2 : (Z.length : Int) < (M.length : Int) := by omega
      have HOWN : Hid (∀ i, v5.ownBlock = some i → w.heap.size ≤ i) := fun i hi => by obtain ⟨svs, h⟩ := HV.out; exact (h.lt i hi).1
      have hll : (lkU zs).length + ([oRun r] : List OpD).length ≤ 1000000 := by
        rw [lkU_len]
        simp
        omega
      obtain ⟨la, hla⟩ : ∃ la, lastI (-1) (lkK zs) = la := ⟨_, rfl⟩
      obtain ⟨rb, hrbb⟩ : ∃ rb, risB (-1) (lkK zs) = rb := ⟨_, rfl⟩
      rw [hla, hrbb]
      have hkl : (lkK zs).length = Z.length := by rw [lkK, List.length_map, hzl]
      go_wp2_with (at_builtin; refine wpList_append_lits _ (by rfl) _ _ rfl w.heap.size v5 (lkU zs) [oRun r] (by simp [oRun]) (by simp) _ rfl wr (by rfl) (by rfl) wr.heap.size (by rfl) 1 (by rfl) (by rfl) HV.out hll KK.size ?_; intro g5 c5 w5 R5 t5; have K5 := t5.kept KK HOWN.out)
      have HD0 : Hid ((lkK zs).drop Z.length = []) := by show _ = _; rw [← hkl, List.drop_length]
      go_loopg [5, 10] Z.length (fun gk x5 i wr => ∃ v : Value, v = x5 ∧ i = .int .i64 ((gk : Int) - 1) ∧ gk ≤ Z.length ∧ Hid (∃ svs, ORow w.heap.size wr v (lkU zs ++ [oRun r] ++ ((lkK zs).drop gk).reverse.map oUnl) svs) ∧ Kept w wr)
      case atStart =>
        refine ⟨_, rfl, rfl, Nat.le_refl _, ?_, K5⟩
        rw [HD0.out]
        simpa [Hid] using R5
      case round =>
        obtain ⟨v6, hx6, rfl, hgk, HV6, KK6⟩ := hrel
        subst hx6
        by_cases hg0 : gk = 0
        · subst hg0
          have b3 : ¬ ((0 : Nat) : Int) - 1 ≥ 0 := by omega
          rw [List.drop_zero, ← lkN_eq] at HV6
          obtain ⟨a9, c9, hv9, hc9, _, h9⟩ : ∃ a c, v6 = .slice a (lkN r zs).length c ∧ (lkN r zs).length ≤ c ∧ (a = none → c = 0) ∧ AtP wr a (lkN r zs) := by
            obtain ⟨svs, h⟩ := HV6.out
            exact h.view
          subst hv9
          have HA9 : Hid (AtP wr a9 (lkN r zs)) := h9
          have hNL : (lkN r zs).length ≤ 25 := by rw [lkN_len]; omega
          have hall := lkN_all r zs HOK.out
          have h7 := pcheck_any a9 c9 (lkN r zs) wr (HR.out.kept KK6) HA9.out (by omega) (fun o ho => by rw [lkN_nil r zs o ho]; simp)
          rw [lkN_check r zs HOK.out (by omega), hrbb] at h7
          obtain ⟨q1, hq1⟩ : ∃ q, (checkP (lkN r zs)).1 = q := ⟨_, rfl⟩
          rw [hq1] at h7
          cases rb with
          | false =>
            clear hq1
            simp only [Bool.false_eq_true, if_false] at h7
            go_wp2_with fail
            refine h7.mono ?_
            rintro e w7 ⟨rfl, t7⟩
            go_wp2_with fail
            go_ret
            exact ⟨rfl, KK6.trans t7⟩
          | true =>
            have hbal := lkN_bal r zs (-1) 0 (fun x hx => (HOK.out.2 x hx).2.1) hrbb (by omega) (by simp)
            have hCK : checkP (lkN r zs) = (0, 0) := bal_check hbal (by omega) hall (by omega)
            have hTP := taken_prog hCK
            have HSE : Hid (∀ (w' : World) (i : Nat) (r0 k : Int), Kept wr w' → zs[i]? = some (r0, k) → Calls Tryd.prog 22 #[.slice a9 (lkN r zs).length c9, .int .i64 k] w' fun e w'' => e = .returned (.int .i64 (totL r (zs.drop (i + 1)))) ∧ Kept w' w'') := fun w' i r0 k t hi => by
              have := section_any a9 c9 (lkN r zs) (lkN r zs) k w' (HR.out.kept (KK6.trans t)) (HA9.out.kept t) hc9 hCK hbal
              rw [lkN_sec HOK.out hrbb hi] at this
              exact this
            have HCO : Hid (∀ w', Kept wr w' → Calls Tryd.prog 17 #[.slice a9 (lkN r zs).length c9] w' fun e w'' => e = .returned (.int .i64 (totL r zs)) ∧ Kept w' w'') := fun w' t => by
              have := cost_any a9 c9 (lkN r zs) w' (HA9.out.kept t) (by omega) hall hTP.2.2.1
              rw [cost_len hbal hall, lkN_cost] at this
              exact this
            have HLO : Hid (∀ w', Kept wr w' → Calls Tryd.prog 25 #[.slice a9 (lkN r zs).length c9] w' fun e w'' => ∃ va vc, e = .returned (.slice va Z.length vc) ∧ Kept w' w'') := fun w' t => by
              refine (locks_any a9 c9 (lkN r zs) w' (HA9.out.kept t) (by omega)).mono ?_
              rintro e w'' ⟨va, vc, rfl, _, t2⟩
              rw [lkN_ld hrbb, hzl]
              exact ⟨va, vc, rfl, t2⟩
            obtain ⟨L, hL⟩ : ∃ L, (lkN r zs).length = L := ⟨_, rfl⟩
            rw [hL] at h7 HSE HCO HLO hNL
            rw [hL]
            clear hq1 hbal hCK hTP hall hL HA9 h9 HV6 HV hc9 HD0
            simp only [if_true] at h7
            go_wp2_with fail
            refine h7.mono ?_
            rintro e w7 ⟨rfl, t7⟩
            go_wp2_with fail
            go_loopg [13, 14] Z.length (fun gk x13 i wq => ∃ W, W = wq ∧ x13 = .int .i64 (sumS r zs gk) ∧ i = .int .i64 (gk : Int) ∧ gk ≤ Z.length ∧ Kept w7 W)
            case atStart =>
              refine ⟨_, rfl, ?_, rfl, Nat.le_refl _, Kept.refl _⟩
              rw [sumS, if_pos (by omega)]
            case round =>
              obtain ⟨W, hWW, rfl, rfl, hgl, KQ⟩ := hrel
              subst hWW
              have hsb := sum_bd r zs HOK.out gk
              obtain ⟨S, hS⟩ : ∃ S, sumS r zs gk = S := ⟨_, rfl⟩
              have KW : Kept w W := (KK6.trans t7).trans KQ
              by_cases hgz : gk = 0
              · subst hgz
                have b10 : ¬ ((0 : Nat) : Int) > 0 := by omega
                have b11 : (0 : Int) < (M.length : Int) := by omega
                have b12 : 0 < M.length := by omega
                have b13 : M ≠ [] := by intro h; rw [h] at b12; simp at b12
                have b14 : ¬ M = [] := b13
                obtain ⟨u, hu⟩ : ∃ u, M[0]? = some u := ⟨_, List.getElem?_eq_getElem (show 0 < M.length by omega)⟩
                have hur := HMB.out u (List.mem_of_getElem? hu)
                obtain ⟨b1', f1', e1', hcell1⟩ := (HM.out.kept KW) 0 u hu
                have eb : b' = b1' ∧ f' = f1' := by cases e1'; exact ⟨rfl, rfl⟩
                obtain ⟨rfl, rfl⟩ := eb
                rw [Nat.add_zero] at hcell1
                have hst := sum_step r zs 0 (1 + u % 9) (by omega) (fun hlt => by
                    obtain ⟨z', hz'⟩ : ∃ z, Z[0]? = some z := ⟨_, List.getElem?_eq_getElem (by omega)⟩
                    exact ⟨_, HGT.out 0 z' u hz' hu⟩) (fun he => by
                    rw [show 0 = Z.length by omega, hmL] at hu
                    cases hu
                    exact hrr)
                rw [List.drop_zero] at hst
                have hTb := tot_bd r zs HOK.out
                obtain ⟨T, hT⟩ : ∃ T, totL r zs = T := ⟨_, rfl⟩
                rw [hT] at HCO hst hTb
                rw [hS] at hst hsb ⊢
                obtain ⟨U, hU⟩ : ∃ U, u.tmod 9 = U := ⟨_, rfl⟩
                have hU2 : U = u % 9 := by rw [← hU, Int.tmod_eq_emod_of_nonneg (by omega)]
                have hS90 : 0 ≤ S ∧ S ≤ 90 := by omega
                have hU9 : 0 ≤ U ∧ U ≤ 8 := by omega
                obtain rfl : T = S + 1 + U := by omega
                have hw0 : IntKind.i64.wrap U = U := wrapI (z := U) (by omega) (by omega) _ rfl
                have hw1 : IntKind.i64.wrap (S + 1) = S + 1 := wrapI (z := S + 1) (by omega) (by omega) _ rfl
                have hw2 : IntKind.i64.wrap (S + 1 + U) = S + 1 + U := wrapI (z := S + 1 + U) (by omega) (by omega) _ rfl
                clear hst hU2
                have KD : Kept wr W.drew := (t7.trans KQ).drew
                clear hT hS hu e1'
                go_wp2_with fail
                go_region_held3 (fun w' => w'.cell? ⟨b', f', none⟩ = some (.int .u8 u)) (go_keep) (first | (go_at_call 17; refine (HCO.out _ KD).mono ?_; rintro e w14 ⟨rfl, t14⟩; have K14 := ((Kept.refl W).drew).trans t14; have KD14 := KD.trans t14; have z0 := K14.cell hcell1) | (go_at_call 25; refine (HLO.out _ KD14).mono ?_; rintro e w15 ⟨va, vc, rfl, t15⟩; have K15 := K14.trans t15; have z15 := K15.cell hcell1) | fail)
                go_wp2_with fail
                go_ret
                exact ⟨rfl, KW.trans K15⟩
              · obtain ⟨g4, rfl⟩ : ∃ g, gk = g + 1 := ⟨gk - 1, by omega⟩
                have b10 : ((g4 + 1 : Nat) : Int) > 0 := by omega
                have b11 : ((g4 + 1 : Nat) : Int) < (M.length : Int) := by omega
                have b12 : ((g4 + 1 : Nat) : Int) - 1 = (g4 : Int) := by omega
                have b13 : (g4 : Int) < (Z.length : Int) := by omega
                obtain ⟨z, hz⟩ : ∃ z, Z[g4]? = some z := ⟨_, List.getElem?_eq_getElem (by omega)⟩
                obtain ⟨q, hq⟩ : ∃ q, M[g4]? = some q := ⟨_, List.getElem?_eq_getElem (show g4 < M.length by omega)⟩
                obtain ⟨u, hu⟩ : ∃ u, M[g4 + 1]? = some u := ⟨_, List.getElem?_eq_getElem (show g4 + 1 < M.length by omega)⟩
                have hzr := HZB.out z (List.mem_of_getElem? hz)
                have hur := HMB.out u (List.mem_of_getElem? hu)
                obtain ⟨b, f, rfl, hcell⟩ := (HZ.out.kept KW) g4 z hz
                obtain ⟨b1', f1', e1', hcell1⟩ := (HM.out.kept KW) (g4 + 1) u hu
                have eb : b' = b1' ∧ f' = f1' := by cases e1'; exact ⟨rfl, rfl⟩
                obtain ⟨rfl, rfl⟩ := eb
                have hge := HGT.out g4 z q hz hq
                obtain ⟨k, hk⟩ : ∃ k, z % 8 = k := ⟨_, rfl⟩
                rw [hk] at hge
                have hst := sum_step r zs (g4 + 1) (1 + u % 9) (by omega) (fun hlt => by
                    obtain ⟨z', hz'⟩ : ∃ z, Z[g4 + 1]? = some z := ⟨_, List.getElem?_eq_getElem (by omega)⟩
                    exact ⟨_, HGT.out (g4 + 1) z' u hz' hu⟩) (fun he => by
                    rw [show g4 + 1 = Z.length by omega, hmL] at hu
                    cases hu
                    exact hrr)
                obtain ⟨T, hT⟩ : ∃ T, totL r (zs.drop (g4 + 1)) = T := ⟨_, rfl⟩
                rw [hS, hT] at hst
                have hTb : 0 ≤ T ∧ T ≤ 90 := by
                  rw [← hT]
                  have := tot_bd r _ (ok_drop HOK.out (g4 + 1))
                  have h2 : (zs.drop (g4 + 1)).length ≤ zs.length := by simp
                  omega
                have HSL : Hid (sumS r zs g4 = T) := by show _ = _; rw [sum_last r zs g4 (by omega), hT]
                have hse := HSE.out W g4 _ k (t7.trans KQ) hge
                rw [hT] at hse
                rw [hS] at hsb ⊢
                clear hT hS hge hz hq hu e1'
                go_wp2_with fail
                refine hse.mono ?_
                rintro e w8 ⟨rfl, t8⟩
                go_wp2_with fail
                go_roundg g4
                case rel =>
                  refine ⟨_, rfl, ?_, by go_num, by omega, KQ.trans t8⟩
                  rw [HSL.out]
                  first | rfl | (congr 1; omega)
                case measure => omega
        · obtain ⟨g4, rfl⟩ : ∃ g, gk = g + 1 := ⟨gk - 1, by omega⟩
          have b3 : ((g4 + 1 : Nat) : Int) - 1 ≥ 0 := by omega
          have b4 : ((g4 + 1 : Nat) : Int) - 1 = (g4 : Int) := by omega
          have b5 : (g4 : Int) < (Z.length : Int) := by omega
          rw [b4]
          obtain ⟨z, hz⟩ : ∃ z, Z[g4]? = some z := ⟨_, List.getElem?_eq_getElem (by omega)⟩
          obtain ⟨q, hq⟩ : ∃ q, M[g4]? = some q := ⟨_, List.getElem?_eq_getElem (show g4 < M.length by omega)⟩
          have hzr := HZB.out z (List.mem_of_getElem? hz)
          obtain ⟨b, f, rfl, hcell⟩ := (HZ.out.kept KK6) g4 z hz
          have hge := lkK_get (HGT.out g4 z q hz hq)
          obtain ⟨k, hk⟩ : ∃ k, z % 8 = k := ⟨_, rfl⟩
          rw [hk] at hge
          have HUN : Hid (((lkK zs).drop g4).reverse.map oUnl = ((lkK zs).drop (g4 + 1)).reverse.map oUnl ++ [oUnl k]) := unl_step hge
          have HOWN6 : Hid (∀ i, v6.ownBlock = some i → w.heap.size ≤ i) := fun i hi => by obtain ⟨svs, h⟩ := HV6.out; exact (h.lt i hi).1
          have hll6 : (lkU zs ++ [oRun r] ++ ((lkK zs).drop (g4 + 1)).reverse.map oUnl).length + ([oUnl k] : List OpD).length ≤ 1000000 := by
            simp [lkU_len, hkl]
            omega
          clear hge hz hq
          go_wp2_with (at_builtin; refine wpList_append_lits _ (by rfl) _ _ rfl w.heap.size v6 (lkU zs ++ [oRun r] ++ ((lkK zs).drop (g4 + 1)).reverse.map oUnl) [oUnl k] (by simp [oUnl]) (by simp) _ rfl wr (by rfl) (by rfl) wr.heap.size (by rfl) 1 (by rfl) (by rfl) HV6.out hll6 KK6.size ?_; intro g7 c7 w7 R7 t7; have K7 := t7.kept KK6 HOWN6.out)
          go_roundg g4
          case rel =>
            refine ⟨_, rfl, by go_num, by omega, ?_, K7⟩
            rw [HUN.out, ← List.append_assoc]
            rw [show (lkU zs ++ [oRun r] ++ List.map oUnl (List.drop (g4 + 1) (lkK zs)).reverse).length = (lkU zs).length + (Z.length - (g4 + 1) + 1) by simp [hkl]] at R7
            exact R7
          case measure => omega
end Go.Proofs.YtockpcoegdaipaaDoor
