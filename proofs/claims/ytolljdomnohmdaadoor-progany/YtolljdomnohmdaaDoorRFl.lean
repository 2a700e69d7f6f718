/- Rows of the reference's ops; how they grow. -/
import Derived.Test.YtolljdomnohmdaaDoorRMt
import Derived.Test.YtolljdomnohmdaaDoorApp2
namespace Go.Proofs.YtolljdomnohmdaaDoor
open Go.RowKit

theorem infoR : (Tryd.prog.info? 81).map (fun i => (i.zero, i.size, i.bytes)) = some (some (.agg #[.int .i64 0, .int .i64 0, .int .i64 0, .int .i64 0, .slice none 0 0]), 5, 56) := by kernel_rfl
/-- Ops that lie somewhere behind a row of the call's own. -/
theorem wpList_append_rops (w : World) {ops : Array Oper} {rest : List Oper} {o : Oper} {a : Act} {Q : Exit → Act → World → Prop} (hw : Region.wanted o (yielded ops a.tmps) = true) (s x : Operand)
    (ho : o.op = .call { callee := .builtin .append, args := #[s, x], argTypes := #[22, 22] })
    (Bd : Nat) (v1 : Value) (n : Nat) (xs : List Value) (ys : List Value) (m c : Nat) (hy : ys.length = m * 5) (hone : ∀ u ∈ ys, u.oneCell' = true) (hs : a.eval s = v1) (nb : Nat) (hx : a.eval x = .slice (some ⟨nb, 0, none⟩) m c)
    (hcc : ∀ (j : Nat) (u : Value), ys[j]? = some u → w.cell? ⟨nb, j, none⟩ = some u)
    (h1 : w.ownsRow Bd 81 5 v1 n xs) (hl : n + m ≤ 1000000) (hB : Bd ≤ w.heap.size)
    (h : ∀ v' w', w'.ownsRow Bd 81 5 v' (n + m) (xs ++ ys) → Turns (fun k => v1.ownBlock = some k) w w' → (v'.ownBlock = v1.ownBlock ∨ ∀ q, v'.ownBlock = some q → w.heap.size ≤ q) → wpList Tryd.prog ops Q rest (a.put o.dst v') w') :
    wpList Tryd.prog ops Q (o :: rest) a w := by
  refine wpList_step fun K hK => ?_
  rw [if_pos hw]
  obtain ⟨i, hi, hz0, hz1, hz2⟩ := info_parts infoR
  have hcc' : ∀ j u, ys[j]? = some u → w.cell? (Addr.add ⟨nb, 0, none⟩ j) = some u := by
    intro j u hu
    rw [Addr.add_lit, Nat.zero_add]
    exact hcc j u hu
  obtain ⟨v', w', hr, k1, k2, k3, k4⟩ := run_append_own_at (P := Tryd.prog) w Bd 22 o.type 81 i _ 5 56 Tryd.underlying22 hi hz0 hz1 hz2 rfl (by omega) _ n xs h1 ⟨nb, 0, none⟩ m c ys hy hcc' hone (by unfold maxLen; omega) (by omega) hB
  have t : Turns (fun k => v1.ownBlock = some k) w w' := Turns.grown k2 (fun k e => e)
  unfold Oper.wp
  simp [execOp, ho, resolve, invoke, builtin, hs, hx, hr, Result.andThen]
  refine hK _ _ (h v' w' k1 t ?_)
  rcases k4 with k4 | k4
  · exact .inl k4
  · right
    intro q hq
    rw [k4] at hq
    simp at hq
    omega
theorem wpList_append_rnone (w : World) {ops : Array Oper} {rest : List Oper} {o : Oper} {a : Act} {Q : Exit → Act → World → Prop} (hw : Region.wanted o (yielded ops a.tmps) = true) (s x : Operand)
    (ho : o.op = .call { callee := .builtin .append, args := #[s, x], argTypes := #[22, 22] })
    (Bd : Nat) (v1 : Value) (n : Nat) (xs : List Value) (hs : a.eval s = v1) (hx : a.eval x = .slice none 0 0) (h1 : w.ownsRow Bd 81 5 v1 n xs)
    (h : wpList Tryd.prog ops Q rest (a.put o.dst v1) w) :
    wpList Tryd.prog ops Q (o :: rest) a w := by
  refine wpList_step fun K hK => ?_
  rw [if_pos hw]
  obtain ⟨i, hi, hz0, hz1, hz2⟩ := info_parts infoR
  have hrun := run_append_owned_none (P := Tryd.prog) w Bd 22 o.type 81 i 5 Tryd.underlying22 hi v1 n xs h1
  unfold Oper.wp
  simp [execOp, ho, resolve, invoke, builtin, hs, hx, hrun, Result.andThen]
  exact hK _ _ h
/-- Each op is one of p's, with its own cases. -/
def CSp (w : World) (a : Option Addr) (p : List OpD) (F : List OpD) (svs : List Value) : Prop := ∀ (j : Nat) (o : OpD) (sv : Value), F[j]? = some o → svs[j]? = some sv → ∃ i b f0, p[i]? = some o ∧ a = some ⟨b, f0, none⟩ ∧ w.cell? ⟨b, f0 + i * 5 + 4, none⟩ = some sv
theorem CSp.app {w : World} {a : Option Addr} {p F G : List OpD} {s t : List Value} (h1 : CSp w a p F s) (h2 : CSp w a p G t) (hl : s.length = F.length) : CSp w a p (F ++ G) (s ++ t) := by
  intro j o sv hj hs
  by_cases hjF : j < F.length
  · rw [List.getElem?_append_left hjF] at hj
    rw [List.getElem?_append_left (by omega)] at hs
    exact h1 j o sv hj hs
  · rw [List.getElem?_append_right (by omega)] at hj
    rw [List.getElem?_append_right (by omega), hl] at hs
    exact h2 _ o sv hj hs
theorem CSp.sub {w wo : World} {b f0 : Nat} {p bb qq gg : List OpD} {svs : List Value} {j : Nat} (hA : AtP w (some ⟨b, f0, none⟩) p) (K : Kept w wo) (hp : p.drop (j + 1) = bb ++ qq) (h : CSp wo (some ⟨b, f0 + (j + 1) * 5, none⟩) bb gg svs) : CSp w (some ⟨b, f0, none⟩) p gg svs := by
  intro q o sv hq hs
  obtain ⟨i, b', f', hi, e, hc⟩ := h q o sv hq hs
  cases e
  have hil := (List.getElem?_eq_some_iff.1 hi).1
  have hpi : p[j + 1 + i]? = some o := by
    rw [← List.getElem?_drop, hp, List.getElem?_append_left hil]
    exact hi
  obtain ⟨b2, f2, e2, ho⟩ := hA (j + 1 + i) o hpi
  cases e2
  obtain ⟨ca, cc, h1, _⟩ := ho.cs
  have h1' := K.cell h1
  rw [show f0 + (j + 1 + i) * 5 + 4 = f0 + (j + 1) * 5 + i * 5 + 4 by omega] at h1 h1'
  rw [hc] at h1'
  refine ⟨j + 1 + i, b, f0, hpi, rfl, ?_⟩
  rw [show f0 + (j + 1 + i) * 5 + 4 = f0 + (j + 1) * 5 + i * 5 + 4 by omega, h1, h1']
def RR (w : World) (a : Option Addr) (p : List OpD) (wr : World) (v : Value) (F : List OpD) : Prop := ∃ svs : List Value, svs.length = F.length ∧ wr.ownsRow w.heap.size 81 5 v F.length (flatO F svs) ∧ CSp w a p F svs
theorem csp_one {w : World} {a : Option Addr} {p F : List OpD} {svs : List Value} (hA : AtP w a p) (h : CSp w a p F svs) : ∀ sv ∈ svs, (∃ j, j < F.length ∧ svs[j]? = some sv) → sv.oneCell' = true := by
  intro sv _ ⟨j, hj, hs⟩
  obtain ⟨i, b, f0, hi, e, hc⟩ := h j F[j] sv (List.getElem?_eq_getElem hj) hs
  subst e
  obtain ⟨b2, f2, e2, ho⟩ := hA i _ hi
  cases e2
  obtain ⟨ca, cc, h1, _⟩ := ho.cs
  rw [hc] at h1
  cases h1
  rfl
/-- What such a row shows. -/
theorem RR.view {w : World} {a : Option Addr} {p : List OpD} {wr : World} {v : Value} {F : List OpD} (h : RR w a p wr v F) (hA : AtP w a p) (K : Kept w wr) : ∃ a' c, v = .slice a' F.length c ∧ F.length ≤ c ∧ AtP wr a' F := by
  obtain ⟨svs, hl, hrow, hcs⟩ := h
  rcases hrow.2 with ⟨h1, h2⟩ | ⟨g, cap, cur, h1, _, _, h3, _⟩
  · refine ⟨none, 0, by rw [h1, h2], by omega, ?_⟩
    rw [List.eq_nil_of_length_eq_zero h2]
    exact AtP.nil _ _
  · refine ⟨some ⟨g, 0, none⟩, cap, h1, h3, ?_⟩
    intro j o hj
    have hjl := (List.getElem?_eq_some_iff.1 hj).1
    have hsv : svs[j]? = some svs[j] := List.getElem?_eq_getElem (by omega)
    rw [h1] at hrow
    have hc : ∀ i, i < 5 → wr.cell? ⟨g, 0 + j * 5 + i, none⟩ = (opV o svs[j])[i]? := by
      intro i hi
      rw [Nat.zero_add, hrow.cellAt (j * 5 + i) (by omega), flatO_get F svs j i o svs[j] hj hsv hi]
    obtain ⟨i, b, f0, hi, e, hce⟩ := hcs j o svs[j] hj hsv
    subst e
    obtain ⟨b2, f2, e2, ho⟩ := hA i _ hi
    cases e2
    obtain ⟨ca, cc, q1, q2, q3, q4⟩ := ho.cs
    rw [hce] at q1
    have q1' := Option.some.inj q1
    refine ⟨g, 0, rfl, hc 0 (by omega), hc 1 (by omega), hc 2 (by omega), hc 3 (by omega), ca, cc, ?_, q2, q3, q4.kept K⟩
    rw [hc 4 (by omega), q1']
    rfl
end Go.Proofs.YtolljdomnohmdaaDoor
