/- Steps, Cost, Check. -/
import Derived.Test.YtembbhbbmkijcaaDoorTim2
namespace Go.Proofs.YtembbhbbmkijcaaDoor
open Go.RowKit

theorem times_bds : ∀ (p : List OpD) (m : Nat) (lp : List Nat) (st : List Int), runM m lp p = some (0, []) → (∀ o ∈ p, checkD o = 0) → st.length = lp.length + 1 → lp.length ≤ 3 → Bds st → ∀ x ∈ timesGo st p, 0 ≤ x ∧ x ≤ 32768
  | [], _, _, _, _, _, _, _, _, x, hx => by simp [timesGo] at hx
  | o :: p, m, lp, st, hr, hc, hs, hl, hb, x, hx => by
    obtain ⟨m1, lp1, ht, hru⟩ := run_cons hr
    have hc2 : ∀ o ∈ p, checkD o = 0 := fun q hq => hc q (by simp [hq])
    cases st with
    | nil => simp at hs
    | cons y r =>
      have hr3 : r.length = lp.length := by simpa using hs
      rw [timesGo] at hx
      split at hx
      · rename_i h8
        obtain ⟨h3, e⟩ := take_loop h8 ht
        cases e
        rcases List.mem_cons.1 hx with rfl | hx
        · omega
        · have hn : 1 ≤ o.n ∧ o.n ≤ 32 := by
            obtain ⟨k, n, v, wt, l⟩ := o
            simp only at h8
            subst h8
            exact loop_n (hc ⟨8, n, v, wt, l⟩ List.mem_cons_self)
          exact times_bds p m (m :: lp) (y * o.n :: y :: r) hru hc2 (by simp; omega) (by simp; omega) (bds_push hb hn.1 hn.2) x (by simpa using hx)
      · rename_i h8
        split at hx
        · rename_i h9
          obtain ⟨r', hlp, e⟩ := take_end h9 ht
          cases e
          rcases List.mem_cons.1 hx with rfl | hx
          · omega
          · rw [hlp] at hr3 hl
            simp only [List.length_cons] at hr3 hl
            rw [if_pos (by simp; omega)] at hx
            exact times_bds p m lp1 r hru hc2 (by omega) (by omega) hb.2.2 x (by simpa using hx)
        · rename_i h9
          obtain ⟨_, e⟩ := take_plain h8 h9 ht
          simp only at e
          subst e
          have hb1 := bds_top hb (by omega)
          rcases List.mem_cons.1 hx with e | hx
          · rw [show x = y from e]
            omega
          · exact times_bds p m1 lp1 (y :: r) hru hc2 hs hl hb x hx
theorem sum_next : ∀ (T : List Int) (j : Nat) (x : Int), T[j]? = some x → sumL (T.take (j + 1)) = sumL (T.take j) + x
  | [], _, _, h => by simp at h
  | y :: r, 0, x, h => by
    simp at h
    subst h
    simp [sumL]
  | y :: r, j + 1, x, h => by
    have := sum_next r j x (by simpa using h)
    simp only [List.take_succ_cons, sumL]
    rw [this]
    omega
theorem sum_bds (M : Int) (hM : 0 ≤ M) : ∀ (T : List Int), (∀ x ∈ T, 0 ≤ x ∧ x ≤ M) → 0 ≤ sumL T ∧ sumL T ≤ M * T.length
  | [], _ => by simp [sumL]
  | y :: r, h => by
    have h1 := sum_bds M hM r (fun x hx => h x (by simp [hx]))
    have h2 := h y (by simp)
    rw [sumL, List.length_cons]
    have : M * ((r.length + 1 : Nat) : Int) = M * (r.length : Int) + M := by rw [Int.natCast_add, Int.mul_add]; simp
    omega
/-- What each op costs. -/
def costs : List OpD → List Int → List Int
  | o :: p, x :: t => (if o.kind = 1 then x * o.n else 0) :: costs p t
  | _, _ => []
theorem costs_get : ∀ (p : List OpD) (T : List Int) (j : Nat) (o : OpD) (x : Int), p[j]? = some o → T[j]? = some x → (costs p T)[j]? = some (if o.kind = 1 then x * o.n else 0)
  | [], _, _, _, _, h, _ => by simp at h
  | _ :: _, [], _, _, _, _, h => by simp at h
  | q :: p, y :: t, 0, o, x, h1, h2 => by
    simp at h1 h2
    subst h1 h2
    rfl
  | q :: p, y :: t, j + 1, o, x, h1, h2 => by
    simp only [costs, List.getElem?_cons_succ] at h1 h2 ⊢
    exact costs_get p t j o x h1 h2
theorem run_n {n v wt : Int} {l : List CaseD} (h : checkD ⟨1, n, v, wt, l⟩ = 0) : 1 ≤ n ∧ n ≤ 1000 := by
  have := (taken_of h).takes
  simp [takesB, shapeOf] at this
  omega
theorem costs_bds : ∀ (p : List OpD) (T : List Int), (∀ o ∈ p, checkD o = 0) → (∀ x ∈ T, 0 ≤ x ∧ x ≤ 32768) → ∀ y ∈ costs p T, 0 ≤ y ∧ y ≤ 32768000
  | [], _, _, _, y, hy => by simp [costs] at hy
  | _ :: _, [], _, _, y, hy => by simp [costs] at hy
  | o :: p, x :: t, hc, ht, y, hy => by
    rw [costs] at hy
    rcases List.mem_cons.1 hy with rfl | hy
    · split
      · rename_i h1
        obtain ⟨k, n, v, wt, l⟩ := o
        simp only at h1
        subst h1
        have hn := run_n (hc ⟨1, n, v, wt, l⟩ List.mem_cons_self)
        have hx := ht x (by simp)
        refine ⟨Int.mul_nonneg hx.1 (by simp only; omega), ?_⟩
        have : x * n ≤ 32768 * 1000 := Int.mul_le_mul hx.2 hn.2 (by omega) (by omega)
        simp only
        omega
      · omega
    · exact costs_bds p t (fun o ho => hc o (by simp [ho])) (fun x hx => ht x (by simp [hx])) y hy
theorem costs_len : ∀ (p : List OpD) (T : List Int), T.length = p.length → (costs p T).length = p.length
  | [], _, _ => by simp [costs]
  | _ :: _, [], h => by simp at h
  | o :: p, x :: t, h => by rw [costs]; simp [costs_len p t (by simpa using h)]
def costD (p : List OpD) : Int := sumL (costs p (timesGo [1] p))
theorem bds1 : Bds [1] := by simp [Bds]

set_option maxHeartbeats 2000000 in
theorem steps_any (a : Option Addr) (c : Nat) (p : List OpD) (w : World) (hA : AtP w a p) (hp : p.length ≤ 100) (hc : ∀ o ∈ p, checkD o = 0) (hrun : runM 0 [] p = some (0, [])) :
    Calls Tryd.prog 51 #[.slice a p.length c] w fun e w' => e = .returned (.int .i64 (stepsD p)) ∧ Kept w w' := by
  have HB : Hid (∀ x ∈ timesGo [1] p, 0 ≤ x ∧ x ≤ 32768) := times_bds p 0 [] [1] hrun hc rfl (by simp) bds1
  have htm := times_any a c p w hA (by omega) hc hrun
  have HD : Hid (stepsD p = sumL (timesGo [1] p)) := rfl
  obtain ⟨T, hT⟩ : ∃ T, timesGo [1] p = T := ⟨_, rfl⟩
  have hTl : T.length = p.length := by rw [← hT, times_len]
  rw [hT] at htm HB HD
  clear hA hc hrun hT
  go_enter Tryd.func51, Tryd.ntmps51
  go_wp2_with fail
  refine htm.mono ?_
  rintro e w1 ⟨v, rfl, R, K1⟩
  obtain ⟨va, vc, hv, _⟩ := R.form
  subst hv
  have HR : Hid (IRow 2 w.heap.size w1 (.slice va T.length vc) T) := R
  clear R htm
  go_wp2_with fail
  go_loopg [3, 9] T.length (fun gk s i wr => ∃ j : Nat, i = .int .i64 j ∧ s = .int .i64 (sumL (T.take j)) ∧ j + gk = T.length ∧ wr = w1)
  case atStart => exact ⟨0, rfl, by simp [sumL], by omega, rfl⟩
  case round =>
    obtain ⟨j, rfl, rfl, hj, hw⟩ := hrel
    subst wr
    by_cases hjp : j < T.length
    · have b1 : (j : Int) < (T.length : Int) := by omega
      have b2 : (0 : Int) ≤ (j : Int) := by omega
      obtain ⟨g, cp, hv, _, _, hgl⟩ := HR.out.some (by omega)
      obtain ⟨rfl, hcp⟩ : va = some ⟨g, 0, none⟩ ∧ vc = cp := by cases hv; exact ⟨rfl, rfl⟩
      clear hv
      obtain ⟨x, hx⟩ : ∃ x, T[j]? = some x := ⟨_, List.getElem?_eq_getElem hjp⟩
      have cx : w1.cell? ⟨g, j, none⟩ = some (.int .i64 x) := HR.out.cell j x hx
      have hxb := HB.out x (List.mem_of_getElem? hx)
      have hsb := sum_bds 32768 (by omega) (T.take j) (fun y hy => HB.out y (List.mem_of_mem_take hy))
      have hlt : ((T.take j).length : Int) ≤ 100 := by rw [List.length_take]; omega
      have HN : Hid (sumL (T.take (j + 1)) = sumL (T.take j) + x) := sum_next T j x hx
      obtain ⟨sj, hsj⟩ : ∃ z, sumL (T.take j) = z := ⟨_, rfl⟩
      rw [hsj] at hsb HN ⊢
      have hs0 : 0 ≤ sj := hsb.1
      have hs1 : sj ≤ 3276800 := by omega
      obtain ⟨hx0, hx1⟩ := hxb
      clear hsb hlt hsj hx
      obtain ⟨g3', rfl⟩ : ∃ g, gk = g + 1 := ⟨gk - 1, by omega⟩
      go_wp2_with fail
      go_roundg g3'
      case rel => exact ⟨j + 1, by go_num, by rw [HN.out], by omega, rfl⟩
      case measure => omega
    · have b1 : ¬ (j : Int) < (T.length : Int) := by omega
      have e : T.take j = T := List.take_of_length_le (by omega)
      rw [e, ← HD.out]
      go_wp2_with fail
      go_ret
      exact ⟨rfl, K1⟩

set_option maxHeartbeats 2000000 in
theorem cost_any (a : Option Addr) (c : Nat) (p : List OpD) (w : World) (hA : AtP w a p) (hp : p.length ≤ 100) (hc : ∀ o ∈ p, checkD o = 0) (hrun : runM 0 [] p = some (0, [])) :
    Calls Tryd.prog 23 #[.slice a p.length c] w fun e w' => e = .returned (.int .i64 (costD p)) ∧ Kept w w' := by
  have HB : Hid (∀ x ∈ timesGo [1] p, 0 ≤ x ∧ x ≤ 32768) := times_bds p 0 [] [1] hrun hc rfl (by simp) bds1
  have HCB : Hid (∀ y ∈ costs p (timesGo [1] p), 0 ≤ y ∧ y ≤ 32768000) := costs_bds p _ hc HB.out
  have htm := times_any a c p w hA (by omega) hc hrun
  have HA : Hid (AtP w a p) := hA
  have HC : Hid (∀ o ∈ p, checkD o = 0) := hc
  obtain ⟨T, hT⟩ : ∃ T, timesGo [1] p = T := ⟨_, rfl⟩
  have hTl : T.length = p.length := by rw [← hT, times_len]
  have HD : Hid (costD p = sumL (costs p T)) := by show _ = _; rw [← hT]; rfl
  rw [hT] at htm HB HCB
  have HCL : Hid ((costs p T).length = p.length) := costs_len p T hTl
  clear hA hc hrun hT
  go_enter Tryd.func23, Tryd.ntmps23
  go_wp2_with fail
  refine htm.mono ?_
  rintro e w1 ⟨v, rfl, R, K1⟩
  obtain ⟨va, vc, hv, _⟩ := R.form
  subst hv
  have HR : Hid (IRow 2 w.heap.size w1 (.slice va T.length vc) T) := R
  clear R htm
  go_wp2_with fail
  go_loopg [3, 9] T.length (fun gk s i wr => ∃ j : Nat, i = .int .i64 j ∧ s = .int .i64 (sumL ((costs p T).take j)) ∧ j + gk = T.length ∧ wr = w1)
  case atStart => exact ⟨0, rfl, by simp [sumL], by omega, rfl⟩
  case round =>
    obtain ⟨j, rfl, rfl, hj, hw⟩ := hrel
    subst wr
    by_cases hjp : j < T.length
    · have b1 : (j : Int) < (T.length : Int) := by omega
      have b2 : (0 : Int) ≤ (j : Int) := by omega
      have b3 : (j : Int) < (p.length : Int) := by omega
      obtain ⟨g, cp, hv, _, _, hgl⟩ := HR.out.some (by omega)
      obtain ⟨rfl, hcp⟩ : va = some ⟨g, 0, none⟩ ∧ vc = cp := by cases hv; exact ⟨rfl, rfl⟩
      clear hv
      obtain ⟨x, hx⟩ : ∃ x, T[j]? = some x := ⟨_, List.getElem?_eq_getElem hjp⟩
      have cx : w1.cell? ⟨g, j, none⟩ = some (.int .i64 x) := HR.out.cell j x hx
      obtain ⟨b, f, k, n, v, wt, l, ca, cc, rfl, hpj, g0, g1, g2, g3, g4, hcc, hat, hbl, hdr⟩ := (HA.out.kept K1).get j (by omega)
      have hgj := costs_get p T j _ x hpj hx
      simp only at hgj
      have hsb := sum_bds 32768000 (by omega) ((costs p T).take j) (fun y hy => HCB.out y (List.mem_of_mem_take hy))
      have hlt : (((costs p T).take j).length : Int) ≤ 100 := by rw [List.length_take]; omega
      have HN := sum_next (costs p T) j _ hgj
      have hyb := HCB.out _ (List.mem_of_getElem? hgj)
      obtain ⟨sj, hsj⟩ : ∃ z, sumL ((costs p T).take j) = z := ⟨_, rfl⟩
      rw [hsj] at hsb HN ⊢
      have hs0 : 0 ≤ sj := hsb.1
      have hs1 : sj ≤ 3276800000 := by omega
      obtain ⟨g3', rfl⟩ : ∃ g, gk = g + 1 := ⟨gk - 1, by omega⟩
      clear hsb hlt hsj hdr hat hgj
      by_cases h1 : k = 1
      · subst h1
        rw [if_pos rfl] at HN hyb
        obtain ⟨y, hy⟩ : ∃ y, x * n = y := ⟨_, rfl⟩
        rw [hy] at HN hyb
        have HN2 : Hid (sumL ((costs p T).take (j + 1)) = sj + y) := HN
        obtain ⟨hy0, hy1⟩ := hyb
        have hwy : IntKind.i64.wrap y = y := by simp [IntKind.wrap, IntKind.bits, IntKind.signed]; omega
        clear HN hx hpj
        go_wp2_with fail
        go_roundg g3'
        case rel => exact ⟨j + 1, by go_num, by rw [HN2.out], by omega, rfl⟩
        case measure => omega
      · rw [if_neg h1] at HN
        have HN2 : Hid (sumL ((costs p T).take (j + 1)) = sj) := by show _ = _; rw [HN]; omega
        have k1 : (k == 1) = false := beq_eq_false_iff_ne.2 h1
        clear HN hx hpj hyb
        go_wp2_with fail
        go_roundg g3'
        case rel => exact ⟨j + 1, by go_num, by rw [HN2.out], by omega, rfl⟩
        case measure => omega
    · have b1 : ¬ (j : Int) < (T.length : Int) := by omega
      have e : (costs p T).take j = costs p T := List.take_of_length_le (by rw [HCL.out]; omega)
      rw [e, ← HD.out]
      go_wp2_with fail
      go_ret
      exact ⟨rfl, K1⟩

theorem run_of_ord {p : List OpD} (h : (ordGo 0 0 [] p).2 = 0) : runM 0 [] p = some (0, []) := by
  by_cases hp : p = []
  · subst hp; rfl
  · exact ord_run p 0 0 [] hp h
theorem ord_err : ∀ (p : List OpD) (i m : Nat) (lp : List Nat), ordGo i m lp p = (0, 0) ∨ (ordGo i m lp p).2 = 11
  | [], _, _, _ => .inl rfl
  | o :: r, i, m, lp => by
    rw [ordGo]
    cases takeM m lp o with
    | none => exact .inr rfl
    | some y =>
      simp only
      split
      · exact .inr rfl
      · exact ord_err r (i + 1) y.1 y.2
theorem each_zero : ∀ (p : List OpD) (i : Nat), (eachGo i p).2 = 0 → eachGo i p = (0, 0)
  | [], _, _ => rfl
  | o :: r, i, h => by
    rw [eachGo] at h ⊢
    split at h
    · rename_i hz
      rw [if_pos hz]
      exact each_zero r (i + 1) h
    · rename_i hz
      exact absurd h hz

set_option maxHeartbeats 2000000 in
theorem pcheck_any (a : Option Addr) (c : Nat) (p : List OpD) (w : World) (hr : Rdy w) (hA : AtP w a p) (hp : p.length ≤ 100000) (hcs : ∀ o ∈ p, o.cases.length ≤ 1000000) :
    Calls Tryd.prog 33 #[.slice a p.length c] w fun e w' => e = .returned (.tuple #[.int .i64 (checkP p).1, .int .i64 (checkP p).2]) ∧ Kept w w' := by
  by_cases h48 : 48 < p.length
  · have HP : Hid (checkP p = (0, 18)) := by show _ = _; unfold checkP; rw [if_pos h48]
    have b1 : (p.length : Int) > 48 := by omega
    go_enter Tryd.func33, Tryd.ntmps33
    go_wp2_with fail
    go_ret2
    rw [HP.out]
    exact ⟨rfl, Kept.refl w⟩
  · have b1 : ¬ (p.length : Int) > 48 := by omega
    have hea := each_any a c p w hr hA hp hcs
    by_cases he : (eachGo 0 p).2 = 0
    · have hz := each_zero p 0 he
      rw [hz] at hea
      have hall := each_all p 0 he
      have hoa := fun w' (k : Kept w w') => order_any a c p w' (hr.kept k) (hA.kept k) hp hall
      by_cases ho : (ordGo 0 0 [] p).2 = 0
      · have hz2 : ordGo 0 0 [] p = (0, 0) := by
          rcases ord_err p 0 0 [] with h | h
          · exact h
          · rw [h] at ho; simp at ho
        rw [hz2] at hoa
        have hsa := fun w' (k : Kept w w') => steps_any a c p w' (hA.kept k) (by omega) hall (run_of_ord ho)
        by_cases hs : 512 < stepsD p
        · have HP : Hid (checkP p = (0, 4)) := by show _ = _; unfold checkP; rw [if_neg h48, if_pos he, if_pos ho, if_pos hs]
          have b2 : stepsD p > 512 := hs
          clear he ho hs hall hz hz2
          go_enter Tryd.func33, Tryd.ntmps33
          go_wp2_with fail
          refine hea.mono ?_
          rintro e w1 ⟨rfl, K1⟩
          go_wp2_with fail
          refine (hoa w1 K1).mono ?_
          rintro e w2 ⟨rfl, t2⟩
          go_wp2_with fail
          refine (hsa w2 (K1.trans t2)).mono ?_
          rintro e w3 ⟨rfl, t3⟩
          go_wp2_with fail
          go_ret2
          rw [HP.out]
          exact ⟨rfl, (K1.trans t2).trans t3⟩
        · have HP : Hid (checkP p = (0, 0)) := by show _ = _; unfold checkP; rw [if_neg h48, if_pos he, if_pos ho, if_neg hs]
          have b2 : ¬ stepsD p > 512 := hs
          clear he ho hs hall hz hz2
          go_enter Tryd.func33, Tryd.ntmps33
          go_wp2_with fail
          refine hea.mono ?_
          rintro e w1 ⟨rfl, K1⟩
          go_wp2_with fail
          refine (hoa w1 K1).mono ?_
          rintro e w2 ⟨rfl, t2⟩
          go_wp2_with fail
          refine (hsa w2 (K1.trans t2)).mono ?_
          rintro e w3 ⟨rfl, t3⟩
          go_wp2_with fail
          go_ret2
          rw [HP.out]
          exact ⟨rfl, (K1.trans t2).trans t3⟩
      · have HP : Hid (checkP p = ordGo 0 0 [] p) := by show _ = _; unfold checkP; rw [if_neg h48, if_pos he, if_neg ho]
        have hne : ((ordGo 0 0 [] p).2 == 0) = false := beq_eq_false_iff_ne.2 ho
        clear he ho hall hz
        go_enter Tryd.func33, Tryd.ntmps33
        go_wp2_with fail
        refine hea.mono ?_
        rintro e w1 ⟨rfl, K1⟩
        go_wp2_with fail
        refine (hoa w1 K1).mono ?_
        rintro e w2 ⟨rfl, t2⟩
        go_wp2_with fail
        go_ret2
        rw [HP.out]
        exact ⟨rfl, K1.trans t2⟩
    · have HP : Hid (checkP p = eachGo 0 p) := by show _ = _; unfold checkP; rw [if_neg h48, if_neg he]
      have hne : ((eachGo 0 p).2 == 0) = false := beq_eq_false_iff_ne.2 he
      clear he
      go_enter Tryd.func33, Tryd.ntmps33
      go_wp2_with fail
      refine hea.mono ?_
      rintro e w1 ⟨rfl, K1⟩
      go_wp2_with fail
      go_ret2
      rw [HP.out]
      exact ⟨rfl, K1⟩
end Go.Proofs.YtembbhbbmkijcaaDoor
