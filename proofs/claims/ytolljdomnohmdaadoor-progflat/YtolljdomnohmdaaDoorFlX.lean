/- The law of two programs one behind the other: as plain data, in memory, and its walk. -/
import Derived.Test.YtolljdomnohmdaaDoorBpp
import Derived.Test.YtolljdomnohmdaaDoorRFt
import Derived.Test.YtolljdomnohmdaaDoorPpO
import Derived.Test.YtolljdomnohmdaaDoorRcY
import Derived.Test.YtolljdomnohmdaaDoorRPg
import Derived.Test.YtolljdomnohmdaaDoorKnw
import Derived.Test.YtolljdomnohmdaaDoorCst
namespace Go.Proofs.YtolljdomnohmdaaDoor

/-- All that is done is in order by itself. -/
theorem bal_flat {d m m' : Nat} {p f : List OpD} (h : Bal d m m' p f) : Bal 0 m m' f f := by
  induction h with
  | nil => exact .nil _ _
  | one h8 h9 ht _ ih => exact .one h8 h9 ht ih
  | @loop d m m' o e b g p f h8 h9 hb _ ihb ihp =>
    have hr : ∀ n : Nat, Bal 0 m m (rep n g) (rep n g) := by
      intro n
      induction n with
      | zero => exact .nil _ _
      | succ n ih => rw [rep_succ]; exact bal_app ih ihb
    exact bal_app (hr _) ihp
theorem sec_max (lock : Int) : ∀ (f : List OpD) (x y c : Int), secGo lock (max x y) c f = max x (secGo lock y c f)
  | [], x, y, c => rfl
  | o :: r, x, y, c => by
    rw [secGo, secGo]
    split
    · exact sec_max lock r x y _
    · split
      · exact sec_max lock r x y _
      · split
        · rw [Int.max_assoc]
          exact sec_max lock r x _ _
        · exact sec_max lock r x y _
theorem sec_app (lock : Int) : ∀ (f g : List OpD) (x c : Int), ∃ c', secGo lock x c (f ++ g) = secGo lock (secGo lock x c f) c' g
  | [], g, x, c => ⟨c, rfl⟩
  | o :: r, g, x, c => by
    rw [List.cons_append, secGo, secGo]
    split
    · exact sec_app lock r g _ _
    · split
      · exact sec_app lock r g _ _
      · split
        · exact sec_app lock r g _ _
        · exact sec_app lock r g _ _
theorem sec_free (lock : Nat) : ∀ (f : List OpD) (m m' : Nat) (x c c2 : Int), Bal 0 m m' f f → (∀ o ∈ f, 0 ≤ o.n) → m.testBit lock = false → secGo lock x c f = secGo lock x c2 f
  | [], _, _, _, _, _, _, _, _ => rfl
  | o :: r, m, m', x, c, c2, h, hn, hm => by
    cases h with
    | @one _ _ m1 _ _ _ _ h8 h9 ht hp =>
      have hn0 := hn o (by simp)
      have hnr : ∀ o ∈ r, 0 ≤ o.n := fun o ho => hn o (by simp [ho])
      obtain ⟨N, hN⟩ : ∃ N : Nat, o.n = (N : Int) := ⟨o.n.toNat, by omega⟩
      unfold takeM at ht
      rw [hN, show ((N : Int)).toNat = N from rfl] at ht
      rw [secGo, secGo]
      by_cases h1 : o.kind = 1
      · rw [if_pos h1, if_pos h1]
        rw [if_neg (by omega), if_neg (by omega), if_neg h8, if_neg h9] at ht
        split at ht
        · simp at ht
          subst ht
          exact sec_free lock r m m' _ _ _ hp hnr hm
        · cases ht
      · rw [if_neg h1, if_neg h1]
        by_cases h2 : o.kind = 2
        · rw [if_pos h2] at ht
          split at ht
          · rename_i hlt
            simp at ht
            subst ht
            by_cases hl : o.n = (lock : Int)
            · rw [if_pos ⟨h2, hl⟩, if_pos ⟨h2, hl⟩]
            · rw [if_neg (fun e => hl e.2), if_neg (fun e => hl e.2), if_neg (by omega), if_neg (by omega)]
              refine sec_free lock r _ m' _ _ _ hp hnr ?_
              have hne : N ≠ lock := by omega
              rcases Nat.lt_or_gt_of_ne hne with hlt2 | hgt
              · refine Nat.testBit_lt_two_pow ?_
                have : 2 ^ (N + 1) ≤ 2 ^ lock := Nat.pow_le_pow_right (by omega) hlt2
                rw [Nat.pow_succ] at this
                omega
              · rw [Nat.add_comm, Nat.testBit_two_pow_add_gt hgt]
                exact hm
          · cases ht
        · simp only [h2, false_and, if_false]
          rw [if_neg h2] at ht
          by_cases h3 : o.kind = 3
          · rw [if_pos h3] at ht
            split at ht
            · rename_i hlt
              simp at ht
              obtain ⟨y, rfl⟩ : ∃ y, m = 2 ^ N + y := ⟨m - 2 ^ N, by omega⟩
              have hy : y < 2 ^ N := by omega
              have e1 : m1 = y := by omega
              subst e1
              by_cases hl : o.n = (lock : Int)
              · exfalso
                have e2 : N = lock := by omega
                subst e2
                rw [Nat.testBit_two_pow_add_eq, Nat.testBit_lt_two_pow hy] at hm
                cases hm
              · rw [if_neg (fun e => hl e.2), if_neg (fun e => hl e.2)]
                refine sec_free lock r _ m' _ _ _ hp hnr ?_
                have hne : N ≠ lock := by omega
                rcases Nat.lt_or_gt_of_ne hne with hlt2 | hgt
                · refine Nat.testBit_lt_two_pow ?_
                  have : 2 ^ N ≤ 2 ^ lock := Nat.pow_le_pow_right (by omega) (by omega)
                  omega
                · rw [Nat.testBit_two_pow_add_gt hgt] at hm
                  exact hm
            · cases ht
          · simp only [h3, false_and, if_false]
            rw [if_neg h3, if_neg h8, if_neg h9] at ht
            split at ht
            · simp at ht
              subst ht
              exact sec_free lock r m m' _ _ _ hp hnr hm
            · cases ht
theorem sec_two {q g : List OpD} (f : List OpD) (lock : Nat) (h2 : Bal 3 0 0 q g) (hc : ∀ o ∈ q, checkD o = 0) : secGo lock 0 0 (f ++ g) = max (secGo lock 0 0 f) (secGo lock 0 0 g) := by
  obtain ⟨c', e⟩ := sec_app lock f g 0 0
  rw [e, sec_free lock g 0 0 _ c' 0 (bal_flat h2) (fun o ho => op_pos (hc o (bal_mem h2 o ho).1)) (by simp)]
  have h0 : 0 ≤ secGo lock 0 0 f := by
    have := sec_max lock f 0 0 0
    rw [Int.max_self] at this
    omega
  have := sec_max lock g (secGo lock 0 0 f) 0 0
  rw [Int.max_eq_left h0] at this
  exact this
theorem anyW_app : ∀ a b : List OpD, anyW (a ++ b) = (anyW a || anyW b)
  | [], b => by simp [anyW]
  | o :: r, b => by rw [List.cons_append, anyW, anyW, anyW_app r b, Bool.or_assoc]
theorem bal_runs {p f : List OpD} (h : Bal 3 0 0 p f) : runM 0 [] p = some (0, []) := by
  have := bal_run h [] [] (by simp)
  rw [List.append_nil] at this
  rw [this]
  rfl
end Go.Proofs.YtolljdomnohmdaaDoor
namespace Go.Proofs.YtolljdomnohmdaaDoor
open Go.ChangeShapes Go.WideShapes Go.ChangeAt Go.RowKit Go.Deep

/-- The slices of cases of a row of ops, in an old world. -/
def CsA (w : World) (F : List OpD) (svs : List Value) : Prop := ∀ (j : Nat) (o : OpD) (sv : Value), F[j]? = some o → svs[j]? = some sv → ∃ ca cc, sv = .slice ca o.cases.length cc ∧ o.cases.length ≤ cc ∧ (ca = Option.none → cc = 0) ∧ AtC w ca o.cases.length o.cases
/-- A row of ops of the call's own, its cases lying in w. -/
def RW (w wr : World) (v : Value) (F : List OpD) : Prop := ∃ svs : List Value, svs.length = F.length ∧ wr.ownsRow w.heap.size 81 5 v F.length (flatO F svs) ∧ CsA w F svs
theorem CsA.app {w : World} {F G : List OpD} {s t : List Value} (h1 : CsA w F s) (h2 : CsA w G t) (hl : s.length = F.length) : CsA w (F ++ G) (s ++ t) := by
  intro j o sv hj hs
  by_cases h : j < F.length
  · rw [List.getElem?_append_left h] at hj
    rw [List.getElem?_append_left (by omega)] at hs
    exact h1 j o sv hj hs
  · rw [List.getElem?_append_right (by omega)] at hj
    rw [List.getElem?_append_right (by omega), hl] at hs
    exact h2 _ o sv hj hs
theorem CsA.one {w : World} {F : List OpD} {s : List Value} (h : CsA w F s) (hl : s.length = F.length) : ∀ sv ∈ s, sv.oneCell' = true := by
  intro sv hs
  obtain ⟨j, hj, e⟩ := List.getElem_of_mem hs
  obtain ⟨ca, cc, e1, _⟩ := h j F[j] sv (List.getElem?_eq_getElem (by omega)) (by rw [List.getElem?_eq_getElem hj, e])
  rw [e1]
  rfl
/-- The cells of what came in. -/
theorem AtP.cells {w : World} {b f0 : Nat} {p : List OpD} (h : AtP w (some ⟨b, f0, none⟩) p) : ∃ svs : List Value, svs.length = p.length ∧ CsA w p svs ∧ ∀ (j : Nat) (u : Value), (flatO p svs)[j]? = some u → w.cell? ⟨b, f0 + j, none⟩ = some u := by
  have hc : ∀ i, i < p.length → ∃ sv : Value, w.cell? ⟨b, f0 + i * 5 + 4, none⟩ = some sv ∧ ∀ o, p[i]? = some o → ∃ ca cc, sv = .slice ca o.cases.length cc ∧ o.cases.length ≤ cc ∧ (ca = Option.none → cc = 0) ∧ AtC w ca o.cases.length o.cases := by
    intro i hi
    obtain ⟨b', f', e, ho⟩ := h i p[i] (List.getElem?_eq_getElem hi)
    cases e
    obtain ⟨ca, cc, h1, h2, h3, h4⟩ := ho.cs
    refine ⟨_, h1, fun o hh => ?_⟩
    rw [List.getElem?_eq_getElem hi] at hh
    cases hh
    exact ⟨ca, cc, rfl, h2, h3, h4⟩
  haveI : Inhabited Value := ⟨.bool false⟩
  obtain ⟨g, hg⟩ := choose_lt hc
  have hlen : ((List.range p.length).map g).length = p.length := by simp
  have hgj : ∀ j, j < p.length → ((List.range p.length).map g)[j]? = some (g j) := fun j hj => by simp [hj]
  refine ⟨(List.range p.length).map g, hlen, ?_, ?_⟩
  · intro j o sv hj hs
    have hjl := (List.getElem?_eq_some_iff.1 hj).1
    rw [hgj j hjl] at hs
    cases hs
    exact (hg j hjl).2 o hj
  · intro j u hu
    have hl := (List.getElem?_eq_some_iff.1 hu).1
    rw [flatO_len _ _ hlen] at hl
    obtain ⟨q, r, e, hr⟩ : ∃ q r, j = q * 5 + r ∧ r < 5 := ⟨j / 5, j % 5, by omega, by omega⟩
    subst e
    have hq : q < p.length := by omega
    rw [flatO_get p _ q r p[q] (g q) (List.getElem?_eq_getElem hq) (hgj q hq) hr] at hu
    obtain ⟨b', f', e, ho⟩ := h q p[q] (List.getElem?_eq_getElem hq)
    cases e
    have hc4 := (hg q hq).1
    rw [← Nat.add_assoc]
    match r, hr with
    | 0, _ => rw [← hu]; exact ho.k
    | 1, _ => rw [← hu]; exact ho.n
    | 2, _ => rw [← hu]; exact ho.v
    | 3, _ => rw [← hu]; exact ho.wt
    | 4, _ => rw [← hu]; exact hc4
/-- append(v, p...). -/
theorem wpList_append_ratp (w0 w : World) {ops : Array Oper} {rest : List Oper} {o : Oper} {a : Act} {Q : Exit → Act → World → Prop} (hw : Region.wanted o (yielded ops a.tmps) = true) (s x : Operand)
    (ho : o.op = .call { callee := .builtin .append, args := #[s, x], argTypes := #[22, 22] })
    (v1 : Value) (F p : List OpD) (ca : Option Addr) (c : Nat) (hs : a.eval s = v1) (hx : a.eval x = .slice ca p.length c) (hn : ca = none → c = 0) (hA : AtP w0 ca p) (K0 : Kept w0 w)
    (h1 : RW w0 w v1 F) (hl : F.length + p.length ≤ 1000000)
    (h : ∀ v' w', RW w0 w' v' (F ++ p) → Kept w0 w' → wpList Tryd.prog ops Q rest (a.put o.dst v') w') :
    wpList Tryd.prog ops Q (o :: rest) a w := by
  obtain ⟨svs, hsl, hrow, hcs⟩ := h1
  cases ca with
  | none =>
    have hp : p = [] := by
      cases p with
      | nil => rfl
      | cons o r => obtain ⟨b, f, e, _⟩ := hA 0 o rfl; cases e
    subst hp
    have hc0 := hn rfl
    subst hc0
    refine wpList_append_rnone w hw s x ho w0.heap.size v1 F.length (flatO F svs) hs hx hrow ?_
    exact h v1 w (by rw [List.append_nil]; exact ⟨svs, hsl, hrow, hcs⟩) K0
  | some ad =>
    obtain ⟨tvs, htl, htc, hcc'⟩ : ∃ tvs : List Value, tvs.length = p.length ∧ CsA w0 p tvs ∧ ∀ j u, (flatO p tvs)[j]? = some u → w.cell? (Addr.add ad j) = some u := by
      cases p with
      | nil => exact ⟨[], rfl, fun j o sv hj _ => by simp at hj, fun j u hu => by simp [flatO] at hu⟩
      | cons o1 r1 =>
        obtain ⟨b, f0, e, _⟩ := hA 0 o1 rfl
        cases e
        obtain ⟨tvs, htl, htc, hcell⟩ := hA.cells
        refine ⟨tvs, htl, htc, fun j u hu => ?_⟩
        rw [Addr.add_lit]
        exact K0.cell (hcell j u hu)
    refine wpList_step fun K hK => ?_
    rw [if_pos hw]
    obtain ⟨i, hi, hz0, hz1, hz2⟩ := info_parts infoR
    obtain ⟨v', w', hr, k1, k2, k3, k4⟩ := run_append_own_at (P := Tryd.prog) w w0.heap.size 22 o.type 81 i _ 5 56 Tryd.underlying22 hi hz0 hz1 hz2 rfl (by omega) _ F.length (flatO F svs) hrow ad p.length c (flatO p tvs) (flatO_len _ _ htl) hcc' (flatO_one _ _ (htc.one htl)) (by unfold maxLen; omega) (by omega) K0.size
    have t : Turns (fun k => v1.ownBlock = some k) w w' := Turns.grown k2 (fun k e => e)
    unfold Oper.wp
    simp [execOp, ho, resolve, invoke, builtin, hs, hx, hr, Result.andThen]
    refine hK _ _ (h v' w' ⟨svs ++ tvs, by simp [hsl, htl], ?_, hcs.app htc hsl⟩ (t.kept K0 (fun q hq => (World.ownsRow.lt hrow q hq).1)))
    rw [flatO_app _ _ _ _ hsl, List.length_append]
    exact k1
theorem RW.view {w wr : World} {v : Value} {F : List OpD} (h : RW w wr v F) (K : Kept w wr) : ∃ a' c, v = .slice a' F.length c ∧ F.length ≤ c ∧ AtP wr a' F := by
  obtain ⟨svs, hl, hrow, hcs⟩ := h
  rcases hrow.2 with ⟨h1, h2⟩ | ⟨g, cap, cur, h1, _, _, h3, _⟩
  · refine ⟨none, 0, by rw [h1, h2], by omega, ?_⟩
    rw [List.eq_nil_of_length_eq_zero h2]
    exact AtP.nil _ _
  · refine ⟨some ⟨g, 0, none⟩, cap, h1, h3, ?_⟩
    intro j o hj
    have hjl := (List.getElem?_eq_some_iff.1 hj).1
    have hsv : svs[j]? = some svs[j] := List.getElem?_eq_getElem (by omega)
    rw [h1] at hrow
    have hc : ∀ i, i < 5 → wr.cell? ⟨g, 0 + j * 5 + i, none⟩ = (opV o svs[j])[i]? := by
      intro i hi
      rw [Nat.zero_add, hrow.cellAt (j * 5 + i) (by omega), flatO_get F svs j i o svs[j] hj hsv hi]
    obtain ⟨ca, cc, q1, q2, q3, q4⟩ := hcs j o svs[j] hj hsv
    refine ⟨g, 0, rfl, hc 0 (by omega), hc 1 (by omega), hc 2 (by omega), hc 3 (by omega), ca, cc, ?_, q2, q3, q4.kept K⟩
    rw [hc 4 (by omega), q1]
    rfl
end Go.Proofs.YtolljdomnohmdaaDoor
namespace Go.Proofs.YtolljdomnohmdaaDoor
open Go.RowKit

theorem checkP_0 {p : List OpD} (h : (checkP p).2 = 0) : checkP p = (0, 0) := by
  unfold checkP at h ⊢
  split
  · rename_i h1; rw [if_pos h1] at h; simp at h
  · rename_i h1
    rw [if_neg h1] at h
    split
    · rename_i h2
      rw [if_pos h2] at h
      split
      · rename_i h3
        rw [if_pos h3] at h
        split
        · rename_i h4; rw [if_pos h4] at h; simp at h
        · rfl
      · rename_i h3; rw [if_neg h3] at h; exact absurd h h3
    · rename_i h2; rw [if_neg h2] at h; exact absurd h h2
theorem few_len {p : List OpD} (h : fewP p = true) : p.length ≤ 60 ∧ ∀ o ∈ p, o.cases.length ≤ 20 := by
  unfold fewP at h
  split at h
  · cases h
  · exact ⟨by omega, few_all p h⟩
theorem few_great {p : List OpD} (h : 60 < p.length) : fewP p = false := by
  unfold fewP
  rw [if_pos h]
theorem rw_none {w w5 : World} (K : Kept w w5) : RW w (w5.alloc (.cells #[] 81)) (.slice (some ⟨w5.heap.size, 0, none⟩) 0 0) [] := by
  refine ⟨[], rfl, ?_, fun j o sv hj _ => by simp at hj⟩
  have := World.ownsRow_lit (base := w.heap.size) (e := 81) (size := 5) w5 #[] 0 K.size (by unfold maxLen; omega) (by simp)
  simpa [flatO] using this
theorem cost_bds {p : List OpD} (hk : checkP p = (0, 0)) : 0 ≤ costD p ∧ costD p ≤ 1572864000 := by
  obtain ⟨h48, hc, hrun, _⟩ := taken_prog hk
  have HB : ∀ x ∈ timesGo [1] p, 0 ≤ x ∧ x ≤ 32768 := times_bds p 0 [] [1] hrun hc rfl (by simp) bds1
  have HCB : ∀ y ∈ costs p (timesGo [1] p), 0 ≤ y ∧ y ≤ 32768000 := costs_bds p _ hc HB
  have h := sum_bds 32768000 (by omega) _ HCB
  have hl : (costs p (timesGo [1] p)).length ≤ p.length := by
    have : ∀ (p : List OpD) (T : List Int), (costs p T).length ≤ p.length := by
      intro p
      induction p with
      | nil => intro T; simp [costs]
      | cons o r ih => intro T; cases T with
        | nil => simp [costs]
        | cons t T => simp [costs]; exact ih T
    exact this _ _
  unfold costD
  omega
/-- What is told of a program that lies there. -/
def HasC (w : World) (a : Option Addr) (n c : Nat) (co st se : Int) (wa : Bool) (lk : Int) : Prop := ∀ W, Kept w W →
    Calls Tryd.prog 14 #[.slice a n c] W (fun e w' => e = .returned (.int .i64 co) ∧ Kept W w') ∧
    Calls Tryd.prog 16 #[.slice a n c] W (fun e w' => e = .returned (.int .i64 st) ∧ Kept W w') ∧
    Calls Tryd.prog 19 #[.slice a n c, .int .i64 lk] W (fun e w' => e = .returned (.int .i64 se) ∧ Kept W w') ∧
    Calls Tryd.prog 17 #[.slice a n c] W (fun e w' => e = .returned (.bool wa) ∧ Kept W w')
theorem hasC_of {w : World} {a : Option Addr} {c : Nat} {p f : List OpD} (lk : Int) (hr : Rdy w) (hA : AtP w a p) (hcap : p.length ≤ c) (hk : checkP p = (0, 0)) (hb : Bal 3 0 0 p f) : HasC w a p.length c (costF f) (f.length : Int) (secGo lk 0 0 f) (anyW p) lk := by
  obtain ⟨h48, hc, hrun, _⟩ := taken_prog hk
  intro W K
  refine ⟨?_, ?_, section_any a c p f lk W (hr.kept K) (hA.kept K) hcap hk hb, pwaits_any a c p W (hr.kept K) (hA.kept K) (by omega)⟩
  · rw [← cost_len hb hc]
    exact cost_any a c p W (hA.kept K) (by omega) hc hrun
  · rw [← steps_len hb hc]
    exact steps_any a c p W (hA.kept K) (by omega) hc hrun
set_option maxHeartbeats 4000000 in
theorem flat_big (a : Option Addr) (P : List OpD) (c : Nat) (a' : Option Addr) (Q : List OpD) (c' : Nat) (lk : Int) (w : World) (hr : Rdy w) (hP : AtP w a P) (hQ : AtP w a' Q) (hb : 60 < P.length ∨ 60 < Q.length) :
    Calls Tryd.prog 4 #[.slice a P.length c, .slice a' Q.length c', .int .u8 lk] w fun e w' => e = .returned (.bool true) ∧ Kept w w' := by
  have HR : Hid (Rdy w) := hr
  have HP : Hid (AtP w a P) := hP
  have HQ : Hid (AtP w a' Q) := hQ
  have HF : Hid (fewP P = false ∨ fewP Q = false) := by
    rcases hb with h | h
    · exact .inl (few_great h)
    · exact .inr (few_great h)
  clear hr hP hQ hb
  obtain ⟨z, hz⟩ : ∃ z, wrap64 ((P.length : Int) + (Q.length : Int)) = z := ⟨_, rfl⟩
  go_enter Tryd.func4, Tryd.ntmps4
  go_wp2_with fail
  refine (known_true w HR.out).mono ?_
  rintro e w1 ⟨rfl, K1⟩
  have h1 := pfew_any a c P w1 (HP.out.kept K1)
  by_cases hs : z > 48
  · go_wp2_with fail
    go_ret
    exact ⟨rfl, K1⟩
  cases hfP : fewP P with
  | false =>
    rw [hfP] at h1
    go_wp2_with (go_at_call 7; refine h1.mono ?_; rintro e w2 ⟨rfl, t2⟩)
    go_ret
    exact ⟨rfl, K1.trans t2⟩
  | true =>
    rw [hfP] at h1
    have hfQ : fewP Q = false := by
      rcases HF.out with h | h
      · rw [hfP] at h; cases h
      · exact h
    go_wp2_with (first | (go_at_call 7; refine h1.mono ?_; rintro e w2 ⟨rfl, t2⟩; have h2 := pfew_any a' c' Q w2 (HQ.out.kept (K1.trans t2)); rw [hfQ] at h2; clear h1) | (go_at_call 7; refine h2.mono ?_; rintro e w3 ⟨rfl, t3⟩) | fail)
    go_ret
    exact ⟨rfl, (K1.trans t2).trans t3⟩
end Go.Proofs.YtolljdomnohmdaaDoor
namespace Go.Proofs.YtolljdomnohmdaaDoor
open Go.RowKit

set_option maxHeartbeats 16000000 in
set_option maxRecDepth 20000 in
theorem flat_p (a : Option Addr) (P : List OpD) (c : Nat) (a' : Option Addr) (Q : List OpD) (c' : Nat) (lk : Int) (_lo : 0 ≤ lk) (_hi : lk ≤ 255) (w : World) (hr : Rdy w) (hP : AtP w a P) (hzP : P.length ≤ c ∧ (a = none → c = 0) ∧ ∀ o ∈ P, In64 o) (hQ : AtP w a' Q) (hzQ : Q.length ≤ c' ∧ (a' = none → c' = 0) ∧ ∀ o ∈ Q, In64 o) (lPQ : P.length + Q.length ≤ 48) (hfP : fewP P = true) (hfQ : fewP Q = true) (hne : (checkP P).2 ≠ 0) :
    Calls Tryd.prog 4 #[.slice a P.length c, .slice a' Q.length c', .int .u8 lk] w fun e w' => e = .returned (.bool true) ∧ Kept w w' := by
  have HR : Hid (Rdy w) := hr
  have HP : Hid (AtP w a P) := hP
  have HQ : Hid (AtP w a' Q) := hQ
  have HZP : Hid (P.length ≤ c ∧ (a = none → c = 0) ∧ ∀ o ∈ P, In64 o) := hzP
  have HZQ : Hid (Q.length ≤ c' ∧ (a' = none → c' = 0) ∧ ∀ o ∈ Q, In64 o) := hzQ
  clear hr hP hQ hzP hzQ
  go_enter Tryd.func4, Tryd.ntmps4
  go_wp2_with fail
  refine (known_true w HR.out).mono ?_
  rintro e w1 ⟨rfl, K1⟩
  have h1 := pfew_any a c P w1 (HP.out.kept K1)
  have hs : ¬ (P.length : Int) + (Q.length : Int) > 48 := by omega
  rw [hfP] at h1
  obtain ⟨_, cP⟩ := few_len hfP
  obtain ⟨_, cQ⟩ := few_len hfQ
  have hPQ : P.length + Q.length ≤ 48 := by omega
  have HCP : Hid (∀ o ∈ P, o.cases.length ≤ 1000000) := fun o ho => by have := cP o ho; omega
  have HCQ : Hid (∀ o ∈ Q, o.cases.length ≤ 1000000) := fun o ho => by have := cQ o ho; omega
  obtain ⟨p1, p2, hp⟩ : ∃ p1 p2, checkP P = (p1, p2) := ⟨_, _, rfl⟩
  obtain ⟨q1, q2, hq⟩ : ∃ q1 q2, checkP Q = (q1, q2) := ⟨_, _, rfl⟩
  have HKP : Hid (checkP P = (p1, p2)) := hp
  have HKQ : Hid (checkP Q = (q1, q2)) := hq
  clear cP cQ hp hq hfP
  have hp0 : ¬ p2 = 0 := by rw [HKP.out] at hne; exact hne
  clear hne
  go_wp2_with (first | (go_at_call 7; refine h1.mono ?_; rintro e w2 ⟨rfl, t2⟩; have h2 := pfew_any a' c' Q w2 (HQ.out.kept (K1.trans t2)); rw [hfQ] at h2; clear h1) | (go_at_call 7; refine h2.mono ?_; rintro e w3 ⟨rfl, t3⟩; clear h2; have K3 := (K1.trans t2).trans t3; have h3 := rcheckP_any a c P w3 (HP.out.kept K3) HCP.out; rw [HKP.out] at h3) | (go_at_call 10; refine h3.mono ?_; rintro e w4 ⟨rfl, t4⟩; clear h3; have K4 := K3.trans t4; have h4 := rcheckP_any a' c' Q w4 (HQ.out.kept K4) HCQ.out; rw [HKQ.out] at h4) | (go_at_call 10; refine h4.mono ?_; rintro e w5 ⟨rfl, t5⟩; clear h4; have K5 := K4.trans t5; have KA := K5.alloc (.cells #[] 81); have HR0 : Hid (RW w (w5.alloc (.cells #[] 81)) (.slice (some ⟨w5.heap.size, 0, none⟩) 0 0) []) := rw_none K5) | (at_builtin; refine wpList_append_ratp w _ (by rfl) _ _ rfl _ [] P a c (by rfl) (by rfl) HZP.out.2.1 HP.out KA HR0.out (by simp; omega) ?_; intro v6 w6 R6 K6; have HR6 : Hid (RW w w6 v6 P) := R6; clear R6) | (at_builtin; refine wpList_append_ratp w _ (by rfl) _ _ rfl v6 P Q a' c' (by rfl) (by rfl) HZQ.out.2.1 HQ.out K6 HR6.out (by omega) ?_; intro v7 w7 R7 K7; obtain ⟨a7, c7, e7, l7, A7⟩ := R7.view K7; subst e7; have HA7 : Hid (AtP w7 a7 (P ++ Q)) := A7; clear A7 R7 HR6 HR0) | fail)
  go_ret
  exact ⟨rfl, K7⟩
end Go.Proofs.YtolljdomnohmdaaDoor
namespace Go.Proofs.YtolljdomnohmdaaDoor
open Go.RowKit

set_option maxHeartbeats 16000000 in
set_option maxRecDepth 20000 in
theorem flat_q (a : Option Addr) (P : List OpD) (c : Nat) (a' : Option Addr) (Q : List OpD) (c' : Nat) (lk : Int) (_lo : 0 ≤ lk) (_hi : lk ≤ 255) (w : World) (hr : Rdy w) (hP : AtP w a P) (hzP : P.length ≤ c ∧ (a = none → c = 0) ∧ ∀ o ∈ P, In64 o) (hQ : AtP w a' Q) (hzQ : Q.length ≤ c' ∧ (a' = none → c' = 0) ∧ ∀ o ∈ Q, In64 o) (lPQ : P.length + Q.length ≤ 48) (hfP : fewP P = true) (hfQ : fewP Q = true) (hnp : (checkP P).2 = 0) (hne : (checkP Q).2 ≠ 0) :
    Calls Tryd.prog 4 #[.slice a P.length c, .slice a' Q.length c', .int .u8 lk] w fun e w' => e = .returned (.bool true) ∧ Kept w w' := by
  have HR : Hid (Rdy w) := hr
  have HP : Hid (AtP w a P) := hP
  have HQ : Hid (AtP w a' Q) := hQ
  have HZP : Hid (P.length ≤ c ∧ (a = none → c = 0) ∧ ∀ o ∈ P, In64 o) := hzP
  have HZQ : Hid (Q.length ≤ c' ∧ (a' = none → c' = 0) ∧ ∀ o ∈ Q, In64 o) := hzQ
  clear hr hP hQ hzP hzQ
  go_enter Tryd.func4, Tryd.ntmps4
  go_wp2_with fail
  refine (known_true w HR.out).mono ?_
  rintro e w1 ⟨rfl, K1⟩
  have h1 := pfew_any a c P w1 (HP.out.kept K1)
  have hs : ¬ (P.length : Int) + (Q.length : Int) > 48 := by omega
  rw [hfP] at h1
  obtain ⟨_, cP⟩ := few_len hfP
  obtain ⟨_, cQ⟩ := few_len hfQ
  have hPQ : P.length + Q.length ≤ 48 := by omega
  have HCP : Hid (∀ o ∈ P, o.cases.length ≤ 1000000) := fun o ho => by have := cP o ho; omega
  have HCQ : Hid (∀ o ∈ Q, o.cases.length ≤ 1000000) := fun o ho => by have := cQ o ho; omega
  obtain ⟨p1, p2, hp⟩ : ∃ p1 p2, checkP P = (p1, p2) := ⟨_, _, rfl⟩
  obtain ⟨q1, q2, hq⟩ : ∃ q1 q2, checkP Q = (q1, q2) := ⟨_, _, rfl⟩
  have HKP : Hid (checkP P = (p1, p2)) := hp
  have HKQ : Hid (checkP Q = (q1, q2)) := hq
  clear cP cQ hp hq hfP
  have hp0 : p2 = 0 := by rw [HKP.out] at hnp; exact hnp
  have hq0 : ¬ q2 = 0 := by rw [HKQ.out] at hne; exact hne
  clear hne hnp
  subst hp0
  go_wp2_with (first | (go_at_call 7; refine h1.mono ?_; rintro e w2 ⟨rfl, t2⟩; have h2 := pfew_any a' c' Q w2 (HQ.out.kept (K1.trans t2)); rw [hfQ] at h2; clear h1) | (go_at_call 7; refine h2.mono ?_; rintro e w3 ⟨rfl, t3⟩; clear h2; have K3 := (K1.trans t2).trans t3; have h3 := rcheckP_any a c P w3 (HP.out.kept K3) HCP.out; rw [HKP.out] at h3) | (go_at_call 10; refine h3.mono ?_; rintro e w4 ⟨rfl, t4⟩; clear h3; have K4 := K3.trans t4; have h4 := rcheckP_any a' c' Q w4 (HQ.out.kept K4) HCQ.out; rw [HKQ.out] at h4) | (go_at_call 10; refine h4.mono ?_; rintro e w5 ⟨rfl, t5⟩; clear h4; have K5 := K4.trans t5; have KA := K5.alloc (.cells #[] 81); have HR0 : Hid (RW w (w5.alloc (.cells #[] 81)) (.slice (some ⟨w5.heap.size, 0, none⟩) 0 0) []) := rw_none K5) | (at_builtin; refine wpList_append_ratp w _ (by rfl) _ _ rfl _ [] P a c (by rfl) (by rfl) HZP.out.2.1 HP.out KA HR0.out (by simp; omega) ?_; intro v6 w6 R6 K6; have HR6 : Hid (RW w w6 v6 P) := R6; clear R6) | (at_builtin; refine wpList_append_ratp w _ (by rfl) _ _ rfl v6 P Q a' c' (by rfl) (by rfl) HZQ.out.2.1 HQ.out K6 HR6.out (by omega) ?_; intro v7 w7 R7 K7; obtain ⟨a7, c7, e7, l7, A7⟩ := R7.view K7; subst e7; have HA7 : Hid (AtP w7 a7 (P ++ Q)) := A7; clear A7 R7 HR6 HR0) | fail)
  go_ret
  exact ⟨rfl, K7⟩
end Go.Proofs.YtolljdomnohmdaaDoor
namespace Go.Proofs.YtolljdomnohmdaaDoor
open Go.RowKit

set_option maxHeartbeats 16000000 in
set_option maxRecDepth 20000 in
theorem flat_l (a : Option Addr) (P : List OpD) (c : Nat) (a' : Option Addr) (Q : List OpD) (c' : Nat) (lk : Int) (_lo : 0 ≤ lk) (_hi : lk ≤ 255) (w : World) (hr : Rdy w) (hP : AtP w a P) (hzP : P.length ≤ c ∧ (a = none → c = 0) ∧ ∀ o ∈ P, In64 o) (hQ : AtP w a' Q) (hzQ : Q.length ≤ c' ∧ (a' = none → c' = 0) ∧ ∀ o ∈ Q, In64 o) (lPQ : P.length + Q.length ≤ 48) (hfP : fewP P = true) (hfQ : fewP Q = true) (hnp : (checkP P).2 = 0) (hnq : (checkP Q).2 = 0) (f g : List OpD) (bP : Bal 3 0 0 P f) (fl : f.length ≤ 512) (bQ : Bal 3 0 0 Q g) (gl : g.length ≤ 512) (b16 : (f.length : Int) + (g.length : Int) > 512) :
    Calls Tryd.prog 4 #[.slice a P.length c, .slice a' Q.length c', .int .u8 lk] w fun e w' => e = .returned (.bool true) ∧ Kept w w' := by
  have HR : Hid (Rdy w) := hr
  have HP : Hid (AtP w a P) := hP
  have HQ : Hid (AtP w a' Q) := hQ
  have HZP : Hid (P.length ≤ c ∧ (a = none → c = 0) ∧ ∀ o ∈ P, In64 o) := hzP
  have HZQ : Hid (Q.length ≤ c' ∧ (a' = none → c' = 0) ∧ ∀ o ∈ Q, In64 o) := hzQ
  clear hr hP hQ hzP hzQ
  go_enter Tryd.func4, Tryd.ntmps4
  go_wp2_with fail
  refine (known_true w HR.out).mono ?_
  rintro e w1 ⟨rfl, K1⟩
  have h1 := pfew_any a c P w1 (HP.out.kept K1)
  have hs : ¬ (P.length : Int) + (Q.length : Int) > 48 := by omega
  rw [hfP] at h1
  obtain ⟨_, cP⟩ := few_len hfP
  obtain ⟨_, cQ⟩ := few_len hfQ
  have hPQ : P.length + Q.length ≤ 48 := by omega
  have HCP : Hid (∀ o ∈ P, o.cases.length ≤ 1000000) := fun o ho => by have := cP o ho; omega
  have HCQ : Hid (∀ o ∈ Q, o.cases.length ≤ 1000000) := fun o ho => by have := cQ o ho; omega
  obtain ⟨p1, p2, hp⟩ : ∃ p1 p2, checkP P = (p1, p2) := ⟨_, _, rfl⟩
  obtain ⟨q1, q2, hq⟩ : ∃ q1 q2, checkP Q = (q1, q2) := ⟨_, _, rfl⟩
  have HKP : Hid (checkP P = (p1, p2)) := hp
  have HKQ : Hid (checkP Q = (q1, q2)) := hq
  clear cP cQ hp hq hfP
  have hp0 : p2 = 0 := by rw [HKP.out] at hnp; exact hnp
  have hq0 : q2 = 0 := by rw [HKQ.out] at hnq; exact hnq
  clear hnp hnq
  subst hp0 hq0
  have hkP : checkP P = (0, 0) := checkP_0 (by rw [HKP.out])
  have hkQ : checkP Q = (0, 0) := checkP_0 (by rw [HKQ.out])
  obtain ⟨_, dP, _⟩ := taken_prog hkP
  obtain ⟨_, dQ, _⟩ := taken_prog hkQ
  have HBP : Hid (Bal 3 0 0 P f) := bP
  have HBQ : Hid (Bal 3 0 0 Q g) := bQ
  have HBB : Hid (Bal 3 0 0 (P ++ Q) (f ++ g)) := bal_app bP bQ
  have HDP : Hid (∀ o ∈ P, checkD o = 0) := dP
  have HDQ : Hid (∀ o ∈ Q, checkD o = 0) := dQ
  have HDB : Hid (∀ o ∈ P ++ Q, checkD o = 0) := fun o ho => by
    rcases List.mem_append.1 ho with h | h
    · exact dP o h
    · exact dQ o h
  have HK1 : Hid (checkP P = (0, 0)) := hkP
  have HK2 : Hid (checkP Q = (0, 0)) := hkQ
  clear hkP hkQ bP bQ dP dQ
  go_wp2_with (first | (go_at_call 7; refine h1.mono ?_; rintro e w2 ⟨rfl, t2⟩; have h2 := pfew_any a' c' Q w2 (HQ.out.kept (K1.trans t2)); rw [hfQ] at h2; clear h1) | (go_at_call 7; refine h2.mono ?_; rintro e w3 ⟨rfl, t3⟩; clear h2; have K3 := (K1.trans t2).trans t3; have h3 := rcheckP_any a c P w3 (HP.out.kept K3) HCP.out; rw [HKP.out] at h3) | (go_at_call 10; refine h3.mono ?_; rintro e w4 ⟨rfl, t4⟩; clear h3; have K4 := K3.trans t4; have h4 := rcheckP_any a' c' Q w4 (HQ.out.kept K4) HCQ.out; rw [HKQ.out] at h4) | (go_at_call 10; refine h4.mono ?_; rintro e w5 ⟨rfl, t5⟩; clear h4; have K5 := K4.trans t5; have KA := K5.alloc (.cells #[] 81); have HR0 : Hid (RW w (w5.alloc (.cells #[] 81)) (.slice (some ⟨w5.heap.size, 0, none⟩) 0 0) []) := rw_none K5) | (at_builtin; refine wpList_append_ratp w _ (by rfl) _ _ rfl _ [] P a c (by rfl) (by rfl) HZP.out.2.1 HP.out KA HR0.out (by simp; omega) ?_; intro v6 w6 R6 K6; have HR6 : Hid (RW w w6 v6 P) := R6; clear R6) | (at_builtin; refine wpList_append_ratp w _ (by rfl) _ _ rfl v6 P Q a' c' (by rfl) (by rfl) HZQ.out.2.1 HQ.out K6 HR6.out (by omega) ?_; intro v7 w7 R7 K7; obtain ⟨a7, c7, e7, l7, A7⟩ := R7.view K7; subst e7; have HA7 : Hid (AtP w7 a7 (P ++ Q)) := A7; clear A7 R7 HR6 HR0) | (go_at_call 11; have h8 := rflat_any 3 0 0 (P ++ Q) (f ++ g) a7 c7 w7 HBB.out HA7.out l7 HDB.out (by rw [List.length_append]; omega) (by rw [List.length_append]; omega); rw [List.length_append] at h8; refine h8.mono ?_; rintro e w8 ⟨v8, rfl, R8, t8⟩; obtain ⟨a8, c8, e8, l8, A8⟩ := R8.view HA7.out t8; rw [List.length_append] at e8; subst e8; have K8 := K7.trans t8; clear h8 R8 A8 l8) | fail)
  go_ret
  exact ⟨rfl, K8⟩
end Go.Proofs.YtolljdomnohmdaaDoor
namespace Go.Proofs.YtolljdomnohmdaaDoor
open Go.RowKit

set_option maxHeartbeats 16000000 in
set_option maxRecDepth 20000 in
theorem flat_m (a : Option Addr) (P : List OpD) (c : Nat) (a' : Option Addr) (Q : List OpD) (c' : Nat) (lk : Int) (lo : 0 ≤ lk) (hi : lk ≤ 255) (w : World) (hr : Rdy w) (hP : AtP w a P) (hzP : P.length ≤ c ∧ (a = none → c = 0) ∧ ∀ o ∈ P, In64 o) (hQ : AtP w a' Q) (hzQ : Q.length ≤ c' ∧ (a' = none → c' = 0) ∧ ∀ o ∈ Q, In64 o) (lPQ : P.length + Q.length ≤ 48) (hfP : fewP P = true) (hfQ : fewP Q = true) (hnp : (checkP P).2 = 0) (hnq : (checkP Q).2 = 0) (f g : List OpD) (bP : Bal 3 0 0 P f) (fl : f.length ≤ 512) (bQ : Bal 3 0 0 Q g) (gl : g.length ≤ 512) (b16 : ¬ (f.length : Int) + (g.length : Int) > 512) :
    Calls Tryd.prog 4 #[.slice a P.length c, .slice a' Q.length c', .int .u8 lk] w fun e w' => e = .returned (.bool true) ∧ Kept w w' := by
  have HR : Hid (Rdy w) := hr
  have HP : Hid (AtP w a P) := hP
  have HQ : Hid (AtP w a' Q) := hQ
  have HZP : Hid (P.length ≤ c ∧ (a = none → c = 0) ∧ ∀ o ∈ P, In64 o) := hzP
  have HZQ : Hid (Q.length ≤ c' ∧ (a' = none → c' = 0) ∧ ∀ o ∈ Q, In64 o) := hzQ
  clear hr hP hQ hzP hzQ
  go_enter Tryd.func4, Tryd.ntmps4
  go_wp2_with fail
  refine (known_true w HR.out).mono ?_
  rintro e w1 ⟨rfl, K1⟩
  have h1 := pfew_any a c P w1 (HP.out.kept K1)
  have hs : ¬ (P.length : Int) + (Q.length : Int) > 48 := by omega
  rw [hfP] at h1
  obtain ⟨_, cP⟩ := few_len hfP
  obtain ⟨_, cQ⟩ := few_len hfQ
  have hPQ : P.length + Q.length ≤ 48 := by omega
  have HCP : Hid (∀ o ∈ P, o.cases.length ≤ 1000000) := fun o ho => by have := cP o ho; omega
  have HCQ : Hid (∀ o ∈ Q, o.cases.length ≤ 1000000) := fun o ho => by have := cQ o ho; omega
  obtain ⟨p1, p2, hp⟩ : ∃ p1 p2, checkP P = (p1, p2) := ⟨_, _, rfl⟩
  obtain ⟨q1, q2, hq⟩ : ∃ q1 q2, checkP Q = (q1, q2) := ⟨_, _, rfl⟩
  have HKP : Hid (checkP P = (p1, p2)) := hp
  have HKQ : Hid (checkP Q = (q1, q2)) := hq
  clear cP cQ hp hq hfP
  have hp0 : p2 = 0 := by rw [HKP.out] at hnp; exact hnp
  have hq0 : q2 = 0 := by rw [HKQ.out] at hnq; exact hnq
  clear hnp hnq
  subst hp0 hq0
  have hkP : checkP P = (0, 0) := checkP_0 (by rw [HKP.out])
  have hkQ : checkP Q = (0, 0) := checkP_0 (by rw [HKQ.out])
  obtain ⟨_, dP, _⟩ := taken_prog hkP
  obtain ⟨_, dQ, _⟩ := taken_prog hkQ
  have HBP : Hid (Bal 3 0 0 P f) := bP
  have HBQ : Hid (Bal 3 0 0 Q g) := bQ
  have HBB : Hid (Bal 3 0 0 (P ++ Q) (f ++ g)) := bal_app bP bQ
  have HDP : Hid (∀ o ∈ P, checkD o = 0) := dP
  have HDQ : Hid (∀ o ∈ Q, checkD o = 0) := dQ
  have HDB : Hid (∀ o ∈ P ++ Q, checkD o = 0) := fun o ho => by
    rcases List.mem_append.1 ho with h | h
    · exact dP o h
    · exact dQ o h
  have HK1 : Hid (checkP P = (0, 0)) := hkP
  have HK2 : Hid (checkP Q = (0, 0)) := hkQ
  clear hkP hkQ bP bQ dP dQ
  have HK3 : Hid (checkP (P ++ Q) = (0, 0)) := bal_check HBB.out (by rw [List.length_append]; omega) HDB.out (by rw [List.length_append]; omega)
  obtain ⟨L, hL⟩ : ∃ L : Nat, lk % 8 = (L : Int) := ⟨(lk % 8).toNat, by omega⟩
  obtain ⟨x1, hx1⟩ : ∃ x, costF f = x := ⟨_, rfl⟩
  obtain ⟨x2, hx2⟩ : ∃ x, costF g = x := ⟨_, rfl⟩
  obtain ⟨e1, he1⟩ : ∃ x, secGo L 0 0 f = x := ⟨_, rfl⟩
  obtain ⟨e2, he2⟩ : ∃ x, secGo L 0 0 g = x := ⟨_, rfl⟩
  obtain ⟨b1, hb1⟩ : ∃ x, anyW P = x := ⟨_, rfl⟩
  obtain ⟨b2, hb2⟩ : ∃ x, anyW Q = x := ⟨_, rfl⟩
  have bx1 : 0 ≤ x1 ∧ x1 ≤ 1572864000 := by rw [← hx1, ← cost_len HBP.out HDP.out]; exact cost_bds HK1.out
  have bx2 : 0 ≤ x2 ∧ x2 ≤ 1572864000 := by rw [← hx2, ← cost_len HBQ.out HDQ.out]; exact cost_bds HK2.out
  have GX : Hid (∀ W a c, Kept w W → AtP W a P → P.length ≤ c → HasC W a P.length c x1 (f.length : Int) e1 b1 L) := fun W a c k h1 h2 => by
    have := hasC_of (L : Int) (HR.out.kept k) h1 h2 HK1.out HBP.out
    rw [hx1, he1, hb1] at this
    exact this
  have GY : Hid (∀ W a c, Kept w W → AtP W a Q → Q.length ≤ c → HasC W a Q.length c x2 (g.length : Int) e2 b2 L) := fun W a c k h1 h2 => by
    have := hasC_of (L : Int) (HR.out.kept k) h1 h2 HK2.out HBQ.out
    rw [hx2, he2, hb2] at this
    exact this
  have GZ : Hid (∀ W a c, Kept w W → AtP W a (P ++ Q) → (P ++ Q).length ≤ c → HasC W a (P.length + Q.length) c (x1 + x2) ((f.length : Int) + (g.length : Int)) (max e1 e2) (b1 || b2) L) := fun W a c k h1 h2 => by
    have := hasC_of (L : Int) (HR.out.kept k) h1 h2 HK3.out HBB.out
    rw [costF_append, sec_two f L HBQ.out HDQ.out, anyW_app, hx1, hx2, he1, he2, hb1, hb2, List.length_append, List.length_append, Int.natCast_add] at this
    exact this
  clear hx1 hx2 he1 he2 hb1 hb2
  go_wp2_with (first | (go_at_call 7; refine h1.mono ?_; rintro e w2 ⟨rfl, t2⟩; have h2 := pfew_any a' c' Q w2 (HQ.out.kept (K1.trans t2)); rw [hfQ] at h2; clear h1) | (go_at_call 7; refine h2.mono ?_; rintro e w3 ⟨rfl, t3⟩; clear h2; have K3 := (K1.trans t2).trans t3; have h3 := rcheckP_any a c P w3 (HP.out.kept K3) HCP.out; rw [HKP.out] at h3) | (go_at_call 10; refine h3.mono ?_; rintro e w4 ⟨rfl, t4⟩; clear h3; have K4 := K3.trans t4; have h4 := rcheckP_any a' c' Q w4 (HQ.out.kept K4) HCQ.out; rw [HKQ.out] at h4) | (go_at_call 10; refine h4.mono ?_; rintro e w5 ⟨rfl, t5⟩; clear h4; have K5 := K4.trans t5; have KA := K5.alloc (.cells #[] 81); have HR0 : Hid (RW w (w5.alloc (.cells #[] 81)) (.slice (some ⟨w5.heap.size, 0, none⟩) 0 0) []) := rw_none K5) | (at_builtin; refine wpList_append_ratp w _ (by rfl) _ _ rfl _ [] P a c (by rfl) (by rfl) HZP.out.2.1 HP.out KA HR0.out (by simp; omega) ?_; intro v6 w6 R6 K6; have HR6 : Hid (RW w w6 v6 P) := R6; clear R6) | (at_builtin; refine wpList_append_ratp w _ (by rfl) _ _ rfl v6 P Q a' c' (by rfl) (by rfl) HZQ.out.2.1 HQ.out K6 HR6.out (by omega) ?_; intro v7 w7 R7 K7; obtain ⟨a7, c7, e7, l7, A7⟩ := R7.view K7; subst e7; have HA7 : Hid (AtP w7 a7 (P ++ Q)) := A7; clear A7 R7 HR6 HR0) | (go_at_call 11; have h8 := rflat_any 3 0 0 (P ++ Q) (f ++ g) a7 c7 w7 HBB.out HA7.out l7 HDB.out (by rw [List.length_append]; omega) (by rw [List.length_append]; omega); rw [List.length_append] at h8; refine h8.mono ?_; rintro e w8 ⟨v8, rfl, R8, t8⟩; obtain ⟨a8, c8, e8, l8, A8⟩ := R8.view HA7.out t8; rw [List.length_append] at e8; subst e8; have K8 := K7.trans t8; clear h8 R8 A8 l8) | (go_at_call 8; have hgx := GX.out; refine (toAll_any a c P w8 (HP.out.kept K8) (by omega) HCP.out).mono ?_; rintro e w9 ⟨v9, rfl, R9, t9⟩; have K9 := K8.trans t9; obtain ⟨s9, R9⟩ := R9; obtain ⟨a9, c9, e9, l9, _, A9⟩ := R9.view; subst e9; have HCX : Hid (HasC w9 a9 P.length c9 x1 (f.length : Int) e1 b1 L) := GX.out w9 a9 c9 K9 A9 l9; clear R9 A9 GX hgx) | (go_at_call 8; have hgy := GY.out; refine (toAll_any a' c' Q w9 (HQ.out.kept K9) (by omega) HCQ.out).mono ?_; rintro e w10 ⟨v10, rfl, R10, t10⟩; have K10 := K9.trans t10; obtain ⟨s10, R10⟩ := R10; obtain ⟨a10, c10, e10, l10, _, A10⟩ := R10.view; subst e10; have HCY : Hid (HasC w10 a10 Q.length c10 x2 (g.length : Int) e2 b2 L) := GY.out w10 a10 c10 K10 A10 l10; clear R10 A10 GY hgy) | (go_at_call 8; have hgz := GZ.out; have h11 := toAll_any a7 c7 (P ++ Q) w10 (HA7.out.kept ((t8.trans t9).trans t10)) (by rw [List.length_append]; omega) (fun o ho => by rcases List.mem_append.1 ho with h | h; exact HCP.out o h; exact HCQ.out o h); rw [List.length_append] at h11; refine h11.mono ?_; rintro e w11 ⟨v11, rfl, R11, t11⟩; clear h11; have K11 := K10.trans t11; obtain ⟨s11, R11⟩ := R11; obtain ⟨a11, c11, e11, l11, _, A11⟩ := R11.view; rw [List.length_append] at e11; subst e11; have HCZ : Hid (HasC w11 a11 (P.length + Q.length) c11 (x1 + x2) ((f.length : Int) + (g.length : Int)) (max e1 e2) (b1 || b2) L) := GZ.out w11 a11 c11 K11 A11 l11; have HA11 : Hid (AtP w11 a11 (P ++ Q)) := A11; clear R11 A11 GZ hgz) | (go_at_call 9; have h12 := pcheck_any a11 c11 (P ++ Q) w11 (HR.out.kept K11) HA11.out (by rw [List.length_append]; omega) (fun o ho => by rcases List.mem_append.1 ho with h | h; exact HCP.out o h; exact HCQ.out o h); rw [HK3.out, List.length_append] at h12; refine h12.mono ?_; rintro e w12 ⟨rfl, t12⟩; clear h12; have K12 := K11.trans t12) | fail)
  have HX : Hid (HasC w12 a9 P.length c9 x1 (f.length : Int) e1 b1 L) := fun W k => HCX.out W (((t10.trans t11).trans t12).trans k)
  have HY : Hid (HasC w12 a10 Q.length c10 x2 (g.length : Int) e2 b2 L) := fun W k => HCY.out W ((t11.trans t12).trans k)
  have HZ : Hid (HasC w12 a11 (P.length + Q.length) c11 (x1 + x2) ((f.length : Int) + (g.length : Int)) (max e1 e2) (b1 || b2) L) := fun W k => HCZ.out W (t12.trans k)
  clear HCX HCY HCZ
  have k0 := Kept.refl w12
  obtain ⟨e3, hm⟩ : ∃ e3, max e1 e2 = e3 := ⟨_, rfl⟩
  rw [hm] at HZ
  cases b1 with
  | true =>
    refine ((HZ.out _ k0).1).mono ?_
    rintro e u1 ⟨rfl, s1⟩
    have k1 := k0.trans s1
    clear k0
    go_wp2_with (first | (go_at_call 14; refine ((HX.out _ k1).1).mono ?_; rintro e u2 ⟨rfl, s2⟩; have k2 := k1.trans s2; clear k1) | (go_at_call 14; refine ((HY.out _ k2).1).mono ?_; rintro e u3 ⟨rfl, s3⟩; have k3 := k2.trans s3; clear k2) | (go_at_call 16; refine ((HZ.out _ k3).2.1).mono ?_; rintro e u4 ⟨rfl, s4⟩; have k4 := k3.trans s4; clear k3) | (go_at_call 16; refine ((HX.out _ k4).2.1).mono ?_; rintro e u5 ⟨rfl, s5⟩; have k5 := k4.trans s5; clear k4) | (go_at_call 16; refine ((HY.out _ k5).2.1).mono ?_; rintro e u6 ⟨rfl, s6⟩; have k6 := k5.trans s6; clear k5) | (go_at_call 19; refine ((HZ.out _ k6).2.2.1).mono ?_; rintro e u7 ⟨rfl, s7⟩; have k7 := k6.trans s7; clear k6) | (go_at_call 19; refine ((HX.out _ k7).2.2.1).mono ?_; rintro e u8 ⟨rfl, s8⟩; have k8 := k7.trans s8; clear k7) | (go_at_call 19; refine ((HY.out _ k8).2.2.1).mono ?_; rintro e u9 ⟨rfl, s9⟩; have k9 := k8.trans s9; clear k8) | (go_at_call 17; refine ((HZ.out _ k9).2.2.2).mono ?_; rintro e u10 ⟨rfl, s10⟩; have k10 := k9.trans s10; clear k9) | (go_at_call 17; refine ((HX.out _ k10).2.2.2).mono ?_; rintro e u11 ⟨rfl, s11⟩; have k11 := k10.trans s11; clear k10) | (go_at_call 17; refine ((HY.out _ k11).2.2.2).mono ?_; rintro e u12 ⟨rfl, s12⟩; have k12 := k11.trans s12; clear k11) | fail)
    go_ret
    exact ⟨rfl, K12.trans k11⟩
  | false =>
    refine ((HZ.out _ k0).1).mono ?_
    rintro e u1 ⟨rfl, s1⟩
    have k1 := k0.trans s1
    clear k0
    go_wp2_with (first | (go_at_call 14; refine ((HX.out _ k1).1).mono ?_; rintro e u2 ⟨rfl, s2⟩; have k2 := k1.trans s2; clear k1) | (go_at_call 14; refine ((HY.out _ k2).1).mono ?_; rintro e u3 ⟨rfl, s3⟩; have k3 := k2.trans s3; clear k2) | (go_at_call 16; refine ((HZ.out _ k3).2.1).mono ?_; rintro e u4 ⟨rfl, s4⟩; have k4 := k3.trans s4; clear k3) | (go_at_call 16; refine ((HX.out _ k4).2.1).mono ?_; rintro e u5 ⟨rfl, s5⟩; have k5 := k4.trans s5; clear k4) | (go_at_call 16; refine ((HY.out _ k5).2.1).mono ?_; rintro e u6 ⟨rfl, s6⟩; have k6 := k5.trans s6; clear k5) | (go_at_call 19; refine ((HZ.out _ k6).2.2.1).mono ?_; rintro e u7 ⟨rfl, s7⟩; have k7 := k6.trans s7; clear k6) | (go_at_call 19; refine ((HX.out _ k7).2.2.1).mono ?_; rintro e u8 ⟨rfl, s8⟩; have k8 := k7.trans s8; clear k7) | (go_at_call 19; refine ((HY.out _ k8).2.2.1).mono ?_; rintro e u9 ⟨rfl, s9⟩; have k9 := k8.trans s9; clear k8) | (go_at_call 17; refine ((HZ.out _ k9).2.2.2).mono ?_; rintro e u10 ⟨rfl, s10⟩; have k10 := k9.trans s10; clear k9) | (go_at_call 17; refine ((HX.out _ k10).2.2.2).mono ?_; rintro e u11 ⟨rfl, s11⟩; have k11 := k10.trans s11; clear k10) | (go_at_call 17; refine ((HY.out _ k11).2.2.2).mono ?_; rintro e u12 ⟨rfl, s12⟩; have k12 := k11.trans s12; clear k11) | fail)
    go_ret
    exact ⟨rfl, K12.trans k12⟩

end Go.Proofs.YtolljdomnohmdaaDoor
namespace Go.Proofs.YtolljdomnohmdaaDoor
open Go.RowKit

set_option maxHeartbeats 4000000 in
theorem flat_few (a : Option Addr) (P : List OpD) (c : Nat) (a' : Option Addr) (Q : List OpD) (c' : Nat) (lk : Int) (w : World) (hr : Rdy w) (hP : AtP w a P) (hQ : AtP w a' Q) (lP : P.length ≤ 60) (lQ : Q.length ≤ 60) (hb : 48 < P.length + Q.length ∨ fewP P = false ∨ fewP Q = false) :
    Calls Tryd.prog 4 #[.slice a P.length c, .slice a' Q.length c', .int .u8 lk] w fun e w' => e = .returned (.bool true) ∧ Kept w w' := by
  have HR : Hid (Rdy w) := hr
  have HP : Hid (AtP w a P) := hP
  have HQ : Hid (AtP w a' Q) := hQ
  have HB : Hid (48 < P.length + Q.length ∨ fewP P = false ∨ fewP Q = false) := hb
  clear hr hP hQ hb
  go_enter Tryd.func4, Tryd.ntmps4
  go_wp2_with fail
  refine (known_true w HR.out).mono ?_
  rintro e w1 ⟨rfl, K1⟩
  have h1 := pfew_any a c P w1 (HP.out.kept K1)
  by_cases hs : (P.length : Int) + (Q.length : Int) > 48
  · go_wp2_with fail
    go_ret
    exact ⟨rfl, K1⟩
  cases hfP : fewP P with
  | false =>
    rw [hfP] at h1
    go_wp2_with (go_at_call 7; refine h1.mono ?_; rintro e w2 ⟨rfl, t2⟩)
    go_ret
    exact ⟨rfl, K1.trans t2⟩
  | true =>
    rw [hfP] at h1
    have hfQ : fewP Q = false := by
      rcases HB.out with h | h | h
      · omega
      · rw [hfP] at h; cases h
      · exact h
    go_wp2_with (first | (go_at_call 7; refine h1.mono ?_; rintro e w2 ⟨rfl, t2⟩; have h2 := pfew_any a' c' Q w2 (HQ.out.kept (K1.trans t2)); rw [hfQ] at h2; clear h1) | (go_at_call 7; refine h2.mono ?_; rintro e w3 ⟨rfl, t3⟩) | fail)
    go_ret
    exact ⟨rfl, (K1.trans t2).trans t3⟩
theorem flat_law (a : Option Addr) (P : List OpD) (c : Nat) (a' : Option Addr) (Q : List OpD) (c' : Nat) (lk : Int) (lo : 0 ≤ lk) (hi : lk ≤ 255) (w : World) (hr : Rdy w) (hP : AtP w a P) (hzP : P.length ≤ c ∧ (a = none → c = 0) ∧ ∀ o ∈ P, In64 o) (hQ : AtP w a' Q) (hzQ : Q.length ≤ c' ∧ (a' = none → c' = 0) ∧ ∀ o ∈ Q, In64 o) :
    Calls Tryd.prog 4 #[.slice a P.length c, .slice a' Q.length c', .int .u8 lk] w fun e w' => e = .returned (.bool true) ∧ Kept w w' := by
  by_cases h60 : 60 < P.length ∨ 60 < Q.length
  · exact flat_big a P c a' Q c' lk w hr hP hQ h60
  by_cases hb : 48 < P.length + Q.length ∨ fewP P = false ∨ fewP Q = false
  · exact flat_few a P c a' Q c' lk w hr hP hQ (by omega) (by omega) hb
  have lPQ : P.length + Q.length ≤ 48 := by
    by_cases h : 48 < P.length + Q.length
    · exact absurd (.inl h) hb
    · omega
  have fP : fewP P = true := by
    cases h : fewP P with
    | true => rfl
    | false => exact absurd (.inr (.inl h)) hb
  have fQ : fewP Q = true := by
    cases h : fewP Q with
    | true => rfl
    | false => exact absurd (.inr (.inr h)) hb
  by_cases np : (checkP P).2 = 0
  case neg => exact flat_p a P c a' Q c' lk lo hi w hr hP hzP hQ hzQ lPQ fP fQ np
  by_cases nq : (checkP Q).2 = 0
  case neg => exact flat_q a P c a' Q c' lk lo hi w hr hP hzP hQ hzQ lPQ fP fQ np nq
  obtain ⟨_, _, _, f, bP, fl⟩ := taken_prog (checkP_0 np)
  obtain ⟨_, _, _, g, bQ, gl⟩ := taken_prog (checkP_0 nq)
  by_cases b16 : (f.length : Int) + (g.length : Int) > 512
  · exact flat_l a P c a' Q c' lk lo hi w hr hP hzP hQ hzQ lPQ fP fQ np nq f g bP fl bQ gl b16
  · exact flat_m a P c a' Q c' lk lo hi w hr hP hzP hQ hzQ lPQ fP fQ np nq f g bP fl bQ gl b16
end Go.Proofs.YtolljdomnohmdaaDoor
