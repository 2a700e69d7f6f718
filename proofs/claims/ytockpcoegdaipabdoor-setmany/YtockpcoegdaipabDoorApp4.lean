/- Ops behind a row whose cases are nil, that told too. -/
import Derived.Test.YtockpcoegdaipabDoorApp3
namespace Go.Proofs.YtockpcoegdaipabDoor
open Go.RowKit

/-- Written ops behind a row of ops. -/
theorem wpList_append_litsN (w : World) {ops : Array Oper} {rest : List Oper} {o : Oper} {a : Act} {Q : Exit → Act → World → Prop} (hw : Region.wanted o (yielded ops a.tmps) = true) (s x : Operand)
    (ho : o.op = .call { callee := .builtin .append, args := #[s, x], argTypes := #[33, 33] })
    (B : Nat) (v1 : Value) (p : List OpD) (qs : List OpD) (hqs : ∀ o ∈ qs, o.cases = []) (hq1 : 1 ≤ qs.length) (cells : Array Value) (hcells : cells = (flatO qs (nils qs)).toArray) (W : World) (hw1 : w = W.alloc (.cells cells 32)) (hs : a.eval s = v1) (nb : Nat) (hnb : nb = W.heap.size) (k : Nat) (hk : k = qs.length) (hx : a.eval x = .slice (some ⟨nb, 0, none⟩) k k)
    (svs : List Value) (h1 : ORow B W v1 p svs) (hl : p.length + qs.length ≤ 1000000) (hB : B ≤ W.heap.size)
    (h : ∀ g cap w', ORow B w' (.slice (some ⟨g, 0, none⟩) (p.length + k) cap) (p ++ qs) (svs ++ nils qs) → Turns (fun k => v1.ownBlock = some k) W w' → (v1.ownBlock = some g ∨ W.heap.size < g) → wpList Tryd.prog ops Q rest (a.put o.dst (.slice (some ⟨g, 0, none⟩) (p.length + k) cap)) w') :
    wpList Tryd.prog ops Q (o :: rest) a w := by
  subst hw1
  subst hnb
  subst hk
  refine wpList_step fun K hK => ?_
  rw [if_pos hw]
  obtain ⟨i, hi, hz0, hz1, hz2⟩ := info_parts infoO
  have hnl : (nils qs).length = qs.length := by simp [nils]
  have hcc : ∀ j u, (flatO qs (nils qs))[j]? = some u → (W.alloc (.cells cells 32)).cell? (Addr.add ⟨W.heap.size, 0, none⟩ j) = some u := by
    intro j u hu
    rw [Addr.add_lit, Nat.zero_add, World.cell?_alloc_at _ _ _ _ rfl, hcells]
    simpa using hu
  have h1' : (W.alloc (.cells cells 32)).ownsRow B 32 5 v1 p.length (flatO p svs) := World.ownsRow.alloc h1.row _
  have hB' := le_alloc (.cells cells 32) hB
  obtain ⟨v', w', hr, k1, k2, k3, k4⟩ := run_append_own_at (P := Tryd.prog) (W.alloc (.cells cells 32)) B 33 o.type 32 i _ 5 56 Tryd.underlying33 hi hz0 hz1 hz2 rfl (by omega) _ p.length (flatO p svs) h1' ⟨W.heap.size, 0, none⟩ qs.length qs.length (flatO qs (nils qs)) (flatO_len _ _ hnl) hcc (flatO_one _ _ (fun s hs => by simp [nils] at hs; rw [← hs.2]; rfl)) (by unfold maxLen; omega) (by omega) hB'
  obtain ⟨g, cap, rfl⟩ := own_form k1 (fun e => by have := k3.1 e; have := this.2; omega)
  have t : Turns (fun k => v1.ownBlock = some k) W w' := ((Turns.refl _ W).alloc _).trans (Turns.grown k2 (fun k e => e))
  have hg : v1.ownBlock = some g ∨ W.heap.size < g := by
    rcases k4 with k4 | k4
    · exact .inl k4.symm
    · right; simp [Value.ownBlock] at k4; omega
  unfold Oper.wp
  simp [execOp, ho, resolve, invoke, builtin, hs, hx, hr, Result.andThen]
  refine hK _ _ (h g cap w' ⟨by simp [h1.len, hnl], ?_, ?_⟩ t hg)
  · rw [flatO_app p svs _ _ h1.len, List.length_append]
    exact k1
  · intro j o' s' hj hs'
    by_cases hjp : j < p.length
    · rw [List.getElem?_append_left hjp] at hj
      rw [List.getElem?_append_left (by rw [h1.len]; exact hjp)] at hs'
      obtain ⟨c1, c2⟩ := h1.cs j o' s' hj hs'
      refine ⟨c1.turns t (fun q hq e => c2 q hq e), fun q hq e => ?_⟩
      simp [Value.ownBlock] at e
      subst e
      have hlt := (World.ownsRow.lt c1 g hq).2
      rcases hg with h4 | h4
      · exact c2 g hq h4
      · omega
    · rw [List.getElem?_append_right (by omega)] at hj
      rw [List.getElem?_append_right (by rw [h1.len]; omega), h1.len] at hs'
      have hs2 : s' = .slice none 0 0 := by
        unfold nils at hs'
        rw [List.getElem?_map, hj] at hs'
        exact (Option.some.inj hs').symm
      rw [hs2, hqs o' (List.mem_of_getElem? hj)]
      exact ⟨CRow.nil _ _ _, fun q hq => by simp [Value.ownBlock] at hq⟩
/-- Ops that lie somewhere, their cases nil, behind a row of ops. -/
theorem wpList_append_srcN (w : World) {ops : Array Oper} {rest : List Oper} {o : Oper} {a : Act} {Q : Exit → Act → World → Prop} (hw : Region.wanted o (yielded ops a.tmps) = true) (s x : Operand)
    (ho : o.op = .call { callee := .builtin .append, args := #[s, x], argTypes := #[33, 33] })
    (B : Nat) (v1 : Value) (p : List OpD) (qs : List OpD) (hqs : ∀ o ∈ qs, o.cases = []) (hq1 : 1 ≤ qs.length) (hs : a.eval s = v1) (nb k c : Nat) (hk : k = qs.length) (hx : a.eval x = .slice (some ⟨nb, 0, none⟩) k c)
    (hcc : ∀ (j : Nat) (u : Value), (flatO qs (nils qs))[j]? = some u → w.cell? ⟨nb, j, none⟩ = some u)
    (svs : List Value) (h1 : ORow B w v1 p svs) (hl : p.length + qs.length ≤ 1000000) (hB : B ≤ w.heap.size)
    (h : ∀ g cap w', ORow B w' (.slice (some ⟨g, 0, none⟩) (p.length + k) cap) (p ++ qs) (svs ++ nils qs) → Turns (fun k => v1.ownBlock = some k) w w' → (v1.ownBlock = some g ∨ w.heap.size ≤ g) → wpList Tryd.prog ops Q rest (a.put o.dst (.slice (some ⟨g, 0, none⟩) (p.length + k) cap)) w') :
    wpList Tryd.prog ops Q (o :: rest) a w := by
  subst hk
  refine wpList_step fun K hK => ?_
  rw [if_pos hw]
  obtain ⟨i, hi, hz0, hz1, hz2⟩ := info_parts infoO
  have hnl : (nils qs).length = qs.length := by simp [nils]
  have hcc' : ∀ j u, (flatO qs (nils qs))[j]? = some u → w.cell? (Addr.add ⟨nb, 0, none⟩ j) = some u := by
    intro j u hu
    rw [Addr.add_lit, Nat.zero_add]
    exact hcc j u hu
  obtain ⟨v', w', hr, k1, k2, k3, k4⟩ := run_append_own_at (P := Tryd.prog) w B 33 o.type 32 i _ 5 56 Tryd.underlying33 hi hz0 hz1 hz2 rfl (by omega) _ p.length (flatO p svs) h1.row ⟨nb, 0, none⟩ qs.length c (flatO qs (nils qs)) (flatO_len _ _ hnl) hcc' (flatO_one _ _ (fun s hs => by simp [nils] at hs; rw [← hs.2]; rfl)) (by unfold maxLen; omega) (by omega) hB
  obtain ⟨g, cap, rfl⟩ := own_form k1 (fun e => by have := k3.1 e; have := this.2; omega)
  have t : Turns (fun k => v1.ownBlock = some k) w w' := Turns.grown k2 (fun k e => e)
  have hg : v1.ownBlock = some g ∨ w.heap.size ≤ g := by
    rcases k4 with k4 | k4
    · exact .inl k4.symm
    · right; simp [Value.ownBlock] at k4; omega
  unfold Oper.wp
  simp [execOp, ho, resolve, invoke, builtin, hs, hx, hr, Result.andThen]
  refine hK _ _ (h g cap w' ⟨by simp [h1.len, hnl], ?_, ?_⟩ t hg)
  · rw [flatO_app p svs _ _ h1.len, List.length_append]
    exact k1
  · intro j o' s' hj hs'
    by_cases hjp : j < p.length
    · rw [List.getElem?_append_left hjp] at hj
      rw [List.getElem?_append_left (by rw [h1.len]; exact hjp)] at hs'
      obtain ⟨c1, c2⟩ := h1.cs j o' s' hj hs'
      refine ⟨c1.turns t (fun q hq e => c2 q hq e), fun q hq e => ?_⟩
      simp [Value.ownBlock] at e
      subst e
      have hlt := (World.ownsRow.lt c1 g hq).2
      rcases hg with h4 | h4
      · exact c2 g hq h4
      · omega
    · rw [List.getElem?_append_right (by omega)] at hj
      rw [List.getElem?_append_right (by rw [h1.len]; omega), h1.len] at hs'
      have hs2 : s' = .slice none 0 0 := by
        unfold nils at hs'
        rw [List.getElem?_map, hj] at hs'
        exact (Option.some.inj hs').symm
      rw [hs2, hqs o' (List.mem_of_getElem? hj)]
      exact ⟨CRow.nil _ _ _, fun q hq => by simp [Value.ownBlock] at hq⟩
/-- Ops that are written: a row of the call's own. -/
theorem orow_litN (B : Nat) (w : World) (qs : List OpD) (hqs : ∀ o ∈ qs, o.cases = []) (cells : Array Value) (hcells : cells = (flatO qs (nils qs)).toArray) (hB : B ≤ w.heap.size) (hl : qs.length ≤ 1000) (n : Nat) (hn : n = qs.length) : ORow B (w.alloc (.cells cells 32)) (.slice (some ⟨w.heap.size, 0, none⟩) n n) qs (nils qs) := by
  subst hn
  have hnl : (nils qs).length = qs.length := by simp [nils]
  refine ⟨hnl, ?_, ?_⟩
  · have := World.ownsRow_lit (base := B) (e := 32) (size := 5) w cells qs.length hB (by unfold maxLen; omega) (by rw [hcells]; simp [flatO_len _ _ hnl])
    rw [hcells] at this ⊢
    simpa using this
  · intro j o s hj hs
    have hs2 : s = .slice none 0 0 := by
      unfold nils at hs
      rw [List.getElem?_map, hj] at hs
      exact (Option.some.inj hs).symm
    rw [hs2, hqs o (List.mem_of_getElem? hj)]
    exact ⟨CRow.nil _ _ _, fun q hq => by simp [Value.ownBlock] at hq⟩
theorem nils_app (a b : List OpD) : nils a ++ nils b = nils (a ++ b) := by simp [nils]
/-- The cells of a row whose cases are nil. -/
theorem ORow.cellsN {B : Nat} {w : World} {g n c : Nat} {p : List OpD} (hn : n = p.length) (h : ORow B w (.slice (some ⟨g, 0, none⟩) n c) p (nils p)) : ∀ (j : Nat) (u : Value), (flatO p (nils p))[j]? = some u → w.cell? ⟨g, j, none⟩ = some u := by
  subst hn
  intro j u hu
  have hnl : (nils p).length = p.length := by simp [nils]
  have hj : j < (flatO p (nils p)).length := by
    rcases Nat.lt_or_ge j (flatO p (nils p)).length with h | h
    · exact h
    · rw [List.getElem?_eq_none h] at hu; cases hu
  rw [flatO_len _ _ hnl] at hj
  rw [h.row.cellAt j hj]
  exact hu
end Go.Proofs.YtockpcoegdaipabDoor
