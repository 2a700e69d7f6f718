/- Rows of ops of the call's own; cases copied; one op behind a row. -/
import Derived.Test.YtlkbphogpbcjfaaGreatDoorCaA
namespace Go.Proofs.YtlkbphogpbcjfaaGreatDoor
open Go.RowKit

theorem AtC.src {w : World} {ad : Addr} {l : List CaseD} (h : AtC w (some ad) l.length l) : ∀ j u, (flatC l)[j]? = some u → w.cell? (ad.add j) = some u := by
  intro j u hu
  have hj : j < l.length * 3 := by
    have := (List.getElem?_eq_some_iff.1 hu).1
    rwa [flatC_length] at this
  obtain ⟨b, f, e, h0, h1, h2⟩ := h.2 (j / 3) (by omega)
  cases e
  have hq := flatC_get l (j / 3) (j % 3) (by omega) (by omega)
  rw [show j / 3 * 3 + j % 3 = j by omega, hu] at hq
  rw [Addr.add_lit]
  have hr : j % 3 = 0 ∨ j % 3 = 1 ∨ j % 3 = 2 := by omega
  rcases hr with e | e | e
  · rw [e] at hq
    rw [show f + j = f + j / 3 * 3 by omega, h0]
    exact hq.symm
  · rw [e] at hq
    rw [show f + j = f + j / 3 * 3 + 1 by omega, h1]
    exact hq.symm
  · rw [e] at hq
    rw [show f + j = f + j / 3 * 3 + 2 by omega, h2]
    exact hq.symm
/-- Cases copied into new memory. -/
theorem wpList_copy_cases (w : World) {ops : Array Oper} {rest : List Oper} {o : Oper} {a : Act} {Q : Exit → Act → World → Prop} (hw : Region.wanted o (yielded ops a.tmps) = true) (s x : Operand)
    (ho : o.op = .call { callee := .builtin .append, args := #[s, x], argTypes := #[75, 75] }) (ca : Option Addr) (cc : Nat) (l : List CaseD) (hs : a.eval s = .slice none 0 0) (hx : a.eval x = .slice ca l.length cc) (hn : ca = none → cc = 0) (hA : AtC w ca l.length l) (hl : l.length ≤ 1000000)
    (h : ∀ sv w', CRow 108 w.heap.size w' sv l → Kept w w' → wpList Tryz.prog ops Q rest (a.put o.dst sv) w') : wpList Tryz.prog ops Q (o :: rest) a w := by
  refine wpList_step fun K hK => ?_
  rw [if_pos hw]
  obtain ⟨i, hi, hz0, hz1, hz2⟩ := info_parts kP.inf
  cases ca with
  | none =>
    have hl0 : l = [] := by
      cases l with
      | nil => rfl
      | cons c r =>
        obtain ⟨b, f, e, _⟩ := hA.2 0 (by simp)
        cases e
    subst hl0
    have hc0 := hn rfl
    subst hc0
    have hrun := run_append_owned_none (P := Tryz.prog) w w.heap.size 75 o.type 108 i 3 kP.und hi (.slice none 0 0) 0 [] (World.ownsRow_nil _ _ _ _)
    unfold Oper.wp
    simp [execOp, ho, resolve, invoke, builtin, hs, hx, hrun, Result.andThen]
    exact hK _ _ (h _ w (CRow.nil _ _ _) (Kept.refl w))
  | some ad =>
    obtain ⟨v', w', hr, k1, k2, k3, k4⟩ := run_append_own_at (P := Tryz.prog) w w.heap.size 75 o.type 108 i _ 3 24 kP.und hi hz0 hz1 hz2 rfl (by omega) (.slice none 0 0) 0 [] (World.ownsRow_nil _ _ _ _) ad l.length cc (flatC l) (flatC_length l) hA.src (flatC_one l) (by unfold maxLen; omega) (by omega) (Nat.le_refl _)
    unfold Oper.wp
    simp [execOp, ho, resolve, invoke, builtin, hs, hx, hr, Result.andThen]
    refine hK _ _ (h v' w' ?_ ?_)
    · unfold CRow
      simpa using k1
    · exact (Turns.grown (S := fun _ => False) k2 (fun k e => by cases e)).kept (Kept.refl w) (fun i hi => hi.elim)

def opV (o : OpD) (sv : Value) : List Value := [.int .i64 o.kind, .int .i64 o.n, .int .i64 o.v, .int .i64 o.wait, sv]
def flatO : List OpD → List Value → List Value
  | o :: p, sv :: t => opV o sv ++ flatO p t
  | _, _ => []
theorem flatO_append : ∀ (p : List OpD) (t : List Value) (o : OpD) (sv : Value), t.length = p.length → flatO (p ++ [o]) (t ++ [sv]) = flatO p t ++ opV o sv
  | [], [], o, sv, _ => by simp [flatO]
  | [], _ :: _, _, _, h => by simp at h
  | _ :: _, [], _, _, h => by simp at h
  | q :: p, x :: t, o, sv, h => by
    simp only [List.cons_append, flatO]
    rw [flatO_append p t o sv (by simpa using h)]
    simp
theorem flatO_get : ∀ (p : List OpD) (t : List Value) (j i : Nat) (o : OpD) (sv : Value), p[j]? = some o → t[j]? = some sv → i < 5 → (flatO p t)[j * 5 + i]? = (opV o sv)[i]?
  | [], _, _, _, _, _, h, _, _ => by simp at h
  | _ :: _, [], _, _, _, _, _, h, _ => by simp at h
  | q :: p, x :: t, 0, i, o, sv, h1, h2, hi => by
    simp at h1 h2
    subst h1 h2
    simp only [flatO, Nat.zero_mul, Nat.zero_add]
    rw [List.getElem?_append_left (by simp [opV]; omega)]
  | q :: p, x :: t, j + 1, i, o, sv, h1, h2, hi => by
    simp only [flatO]
    rw [List.getElem?_append_right (by simp [opV]; omega)]
    have := flatO_get p t j i o sv (by simpa using h1) (by simpa using h2) hi
    rw [show (j + 1) * 5 + i - (opV q x).length = j * 5 + i by simp [opV]; omega, this]
/-- A row of ops that the call owns, each with cases of its own. -/
structure ORow (B : Nat) (w : World) (v : Value) (p : List OpD) (svs : List Value) : Prop where
  len : svs.length = p.length
  row : w.ownsRow B 77 5 v p.length (flatO p svs)
  cs : ∀ (j : Nat) (o : OpD) (sv : Value), p[j]? = some o → svs[j]? = some sv → CRow 108 B w sv o.cases ∧ ∀ q, sv.ownBlock = some q → v.ownBlock ≠ some q
theorem ORow.nil (B : Nat) (w : World) : ORow B w (.slice none 0 0) [] [] := ⟨rfl, World.ownsRow_nil _ _ _ _, fun j o sv h _ => by simp at h⟩
theorem ORow.kept {B : Nat} {w w' : World} {v : Value} {p : List OpD} {svs : List Value} (h : ORow B w v p svs) (t : Kept w w') : ORow B w' v p svs := ⟨h.len, own_kept h.row t, fun j o sv h1 h2 => ⟨(h.cs j o sv h1 h2).1.kept t, (h.cs j o sv h1 h2).2⟩⟩
theorem ORow.base {B B' : Nat} {w : World} {v : Value} {p : List OpD} {svs : List Value} (h : ORow B w v p svs) (hB : B' ≤ B) : ORow B' w v p svs := by
  have lift : ∀ {e : TypeId} {size : Nat} {v : Value} {n : Nat} {xs : List Value}, w.ownsRow B e size v n xs → w.ownsRow B' e size v n xs := by
    intro e size v n xs h
    refine ⟨h.1, ?_⟩
    rcases h.2 with hn | ⟨g, cap, cur, h1, hb, rest⟩
    · exact .inl hn
    · exact .inr ⟨g, cap, cur, h1, by omega, rest⟩
  exact ⟨h.len, lift h.row, fun j o sv h1 h2 => ⟨lift (h.cs j o sv h1 h2).1, (h.cs j o sv h1 h2).2⟩⟩
theorem ORow.view {B : Nat} {w : World} {v : Value} {p : List OpD} {svs : List Value} (h : ORow B w v p svs) : ∃ a c, v = .slice a p.length c ∧ p.length ≤ c ∧ (a = none → c = 0) ∧ AtP w a p := by
  rcases h.row.2 with ⟨h1, h2⟩ | ⟨g, cap, cur, h1, _, _, h3, _⟩
  · refine ⟨none, 0, by rw [h1, h2], by omega, fun _ => rfl, ?_⟩
    rw [List.eq_nil_of_length_eq_zero h2]
    exact AtP.nil _ _
  · refine ⟨some ⟨g, 0, none⟩, cap, h1, h3, (fun e => by cases e), ?_⟩
    intro j o hj
    refine ⟨g, 0, rfl, ?_⟩
    have hjl : j < svs.length := by rw [h.len]; exact (List.getElem?_eq_some_iff.1 hj).1
    have hsv : svs[j]? = some svs[j] := List.getElem?_eq_getElem hjl
    have hrow := h.row
    rw [h1] at hrow
    have hc : ∀ i, i < 5 → w.cell? ⟨g, 0 + j * 5 + i, none⟩ = (opV o svs[j])[i]? := by
      intro i hi
      have hjp := h.len
      rw [Nat.zero_add, hrow.cellAt (j * 5 + i) (by omega), flatO_get p svs j i o svs[j] hj hsv hi]
    obtain ⟨hcr, _⟩ := h.cs j o svs[j] hj hsv
    obtain ⟨ca, cc, e1, e2, e3⟩ := hcr.at
    have e4 : ca = none → cc = 0 := by
      intro e
      rcases hcr.2 with ⟨h1, _⟩ | ⟨g', cap', cur', h1, _⟩
      · exact (Value.slice.inj (e1.symm.trans h1)).2.2
      · have h5 := (Value.slice.inj (e1.symm.trans h1)).1
        rw [e] at h5
        cases h5
    refine ⟨hc 0 (by omega), hc 1 (by omega), hc 2 (by omega), hc 3 (by omega), ca, cc, ?_, e2, e4, e3⟩
    rw [hc 4 (by omega), ← e1]
    rfl
theorem flatO_one : ∀ (p : List OpD) (t : List Value), (∀ sv ∈ t, sv.oneCell' = true) → ∀ u ∈ flatO p t, u.oneCell' = true
  | [], _, _, u, hu => by simp [flatO] at hu
  | _ :: _, [], _, u, hu => by simp [flatO] at hu
  | o :: p, sv :: t, h, u, hu => by
    simp only [flatO, List.mem_append] at hu
    rcases hu with hu | hu
    · simp [opV] at hu
      rcases hu with rfl | rfl | rfl | rfl | rfl
      · rfl
      · rfl
      · rfl
      · rfl
      · exact h _ (by simp)
    · exact flatO_one p t (fun s hs => h s (by simp [hs])) u hu
theorem infoO : (Tryz.prog.info? 77).map (fun i => (i.zero, i.size, i.bytes)) = some (some (.agg #[.int .i64 0, .int .i64 0, .int .i64 0, .int .i64 0, .slice none 0 0]), 5, 56) := by kernel_rfl
/-- One op behind a row of ops. -/
theorem wpList_append_op (w : World) {ops : Array Oper} {rest : List Oper} {o : Oper} {a : Act} {Q : Exit → Act → World → Prop} (hw : Region.wanted o (yielded ops a.tmps) = true) (s x : Operand)
    (ho : o.op = .call { callee := .builtin .append, args := #[s, x], argTypes := #[56, 56] })
    (B : Nat) (v1 : Value) (p : List OpD) (svs : List Value) (k n v wt : Int) (l : List CaseD) (sv : Value) (W : World) (hw1 : w = W.alloc (.cells #[.int .i64 k, .int .i64 n, .int .i64 v, .int .i64 wt, sv] 77)) (hs : a.eval s = v1) (nb : Nat) (hnb : nb = W.heap.size) (hx : a.eval x = .slice (some ⟨nb, 0, none⟩) 1 1)
    (h1 : ORow B W v1 p svs) (hc : CRow 108 B W sv l) (hq : ∀ q, sv.ownBlock = some q → v1.ownBlock ≠ some q) (hl : p.length ≤ 1000000) (hB : B ≤ W.heap.size)
    (h : ∀ g cap w', ORow B w' (.slice (some ⟨g, 0, none⟩) (p.length + 1) cap) (p ++ [⟨k, n, v, wt, l⟩]) (svs ++ [sv]) → Turns (fun k => v1.ownBlock = some k) W w' → (v1.ownBlock = some g ∨ W.heap.size < g) → wpList Tryz.prog ops Q rest (a.put o.dst (.slice (some ⟨g, 0, none⟩) (p.length + 1) cap)) w') :
    wpList Tryz.prog ops Q (o :: rest) a w := by
  subst hw1
  subst hnb
  refine wpList_step fun K hK => ?_
  rw [if_pos hw]
  obtain ⟨i, hi, hz0, hz1, hz2⟩ := info_parts infoO
  obtain ⟨sa, sc, hsv, _, _⟩ := hc.at
  have hone : sv.oneCell' = true := by rw [hsv]; rfl
  have hcc : ∀ j u, (flatO [⟨k, n, v, wt, l⟩] [sv])[j]? = some u → (W.alloc (.cells #[.int .i64 k, .int .i64 n, .int .i64 v, .int .i64 wt, sv] 77)).cell? (Addr.add ⟨W.heap.size, 0, none⟩ j) = some u := by
    intro j u hu
    rw [Addr.add_lit, Nat.zero_add, World.cell?_alloc_at _ _ _ _ rfl]
    simpa [flatO, opV] using hu
  have h1' : (W.alloc (.cells #[.int .i64 k, .int .i64 n, .int .i64 v, .int .i64 wt, sv] 77)).ownsRow B 77 5 v1 p.length (flatO p svs) := World.ownsRow.alloc h1.row _
  have hB' := le_alloc (.cells #[.int .i64 k, .int .i64 n, .int .i64 v, .int .i64 wt, sv] 77) hB
  obtain ⟨v', w', hr, k1, k2, k3, k4⟩ := run_append_own_at (P := Tryz.prog) (W.alloc (.cells #[.int .i64 k, .int .i64 n, .int .i64 v, .int .i64 wt, sv] 77)) B 56 o.type 77 i _ 5 56 Tryz.underlying56 hi hz0 hz1 hz2 rfl (by omega) _ p.length (flatO p svs) h1' ⟨W.heap.size, 0, none⟩ 1 1 (flatO [⟨k, n, v, wt, l⟩] [sv]) (by simp [flatO, opV]) hcc (flatO_one _ _ (fun s hs => by simp at hs; subst hs; exact hone)) (by unfold maxLen; omega) (by omega) hB'
  obtain ⟨g, cap, rfl⟩ := own_form k1 (fun e => by have := k3.1 e; have := this.2; omega)
  have t : Turns (fun k => v1.ownBlock = some k) W w' := ((Turns.refl _ W).alloc _).trans (Turns.grown k2 (fun k e => e))
  have hg : v1.ownBlock = some g ∨ W.heap.size < g := by
    rcases k4 with k4 | k4
    · exact .inl k4.symm
    · right; simp [Value.ownBlock] at k4; omega
  have far : ∀ (s : Value) (c : List CaseD), CRow 108 B W s c → (∀ q, s.ownBlock = some q → v1.ownBlock ≠ some q) → CRow 108 B w' s c ∧ ∀ q, s.ownBlock = some q → (Value.slice (some ⟨g, 0, none⟩) (p.length + 1) cap).ownBlock ≠ some q := by
    intro s c h2 h3
    refine ⟨h2.turns t (fun q hq e => h3 q hq e), fun q hq e => ?_⟩
    simp [Value.ownBlock] at e
    subst e
    have hlt := (World.ownsRow.lt h2 g hq).2
    rcases hg with h4 | h4
    · exact h3 g hq h4
    · omega
  unfold Oper.wp
  simp [execOp, ho, resolve, invoke, builtin, hs, hx, hr, Result.andThen]
  refine hK _ _ (h g cap w' ⟨by simp [h1.len], ?_, ?_⟩ t hg)
  · rw [flatO_append p svs _ _ h1.len, List.length_append]
    simpa [flatO] using k1
  · intro j o' s' hj hs'
    by_cases hjp : j < p.length
    · rw [List.getElem?_append_left hjp] at hj
      rw [List.getElem?_append_left (by rw [h1.len]; exact hjp)] at hs'
      obtain ⟨c1, c2⟩ := h1.cs j o' s' hj hs'
      exact far s' _ c1 c2
    · have hj2 : j = p.length := by
        have := (List.getElem?_eq_some_iff.1 hj).1
        simp at this
        omega
      subst hj2
      rw [List.getElem?_append_right (by omega)] at hj
      rw [List.getElem?_append_right (by rw [h1.len]; omega), h1.len] at hs'
      simp at hj hs'
      subst hj hs'
      exact far _ _ hc hq
end Go.Proofs.YtlkbphogpbcjfaaGreatDoor
