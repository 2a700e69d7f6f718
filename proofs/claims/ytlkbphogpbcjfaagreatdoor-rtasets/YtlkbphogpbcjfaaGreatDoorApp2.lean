/- Several ops, as they are written, behind a row of ops. -/
import Derived.Test.YtlkbphogpbcjfaaGreatDoorCop
import Derived.Test.YtlkbphogpbcjfaaGreatDoorLcI
namespace Go.Proofs.YtlkbphogpbcjfaaGreatDoor
open Go.RowKit

def nils (qs : List OpD) : List Value := qs.map fun _ => .slice none 0 0
theorem flatO_app : ∀ (p : List OpD) (t : List Value) (q : List OpD) (u : List Value), t.length = p.length → flatO (p ++ q) (t ++ u) = flatO p t ++ flatO q u
  | [], [], _, _, _ => by simp [flatO]
  | [], _ :: _, _, _, h => by simp at h
  | _ :: _, [], _, _, h => by simp at h
  | q :: p, x :: t, r, u, h => by
    simp only [List.cons_append, flatO]
    rw [flatO_app p t r u (by simpa using h)]
    simp
theorem flatO_len : ∀ (p : List OpD) (t : List Value), t.length = p.length → (flatO p t).length = p.length * 5
  | [], [], _ => by simp [flatO]
  | [], _ :: _, h => by simp at h
  | _ :: _, [], h => by simp at h
  | q :: p, x :: t, h => by
    have := flatO_len p t (by simpa using h)
    simp only [flatO, List.length_append, List.length_cons, this]
    simp [opV]
    omega
/-- Written ops behind a row of ops. -/
theorem wpList_append_lits (w : World) {ops : Array Oper} {rest : List Oper} {o : Oper} {a : Act} {Q : Exit → Act → World → Prop} (hw : Region.wanted o (yielded ops a.tmps) = true) (s x : Operand)
    (ho : o.op = .call { callee := .builtin .append, args := #[s, x], argTypes := #[56, 56] })
    (B : Nat) (v1 : Value) (p : List OpD) (qs : List OpD) (hqs : ∀ o ∈ qs, o.cases = []) (hq1 : 1 ≤ qs.length) (cells : Array Value) (hcells : cells = (flatO qs (nils qs)).toArray) (W : World) (hw1 : w = W.alloc (.cells cells 77)) (hs : a.eval s = v1) (nb : Nat) (hnb : nb = W.heap.size) (k : Nat) (hk : k = qs.length) (hx : a.eval x = .slice (some ⟨nb, 0, none⟩) k k)
    (h1 : ∃ svs, ORow B W v1 p svs) (hl : p.length + qs.length ≤ 1000000) (hB : B ≤ W.heap.size)
    (h : ∀ g cap w', (∃ svs, ORow B w' (.slice (some ⟨g, 0, none⟩) (p.length + k) cap) (p ++ qs) svs) → Turns (fun k => v1.ownBlock = some k) W w' → wpList Tryz.prog ops Q rest (a.put o.dst (.slice (some ⟨g, 0, none⟩) (p.length + k) cap)) w') :
    wpList Tryz.prog ops Q (o :: rest) a w := by
  subst hw1
  subst hnb
  subst hk
  obtain ⟨svs, h1⟩ := h1
  refine wpList_step fun K hK => ?_
  rw [if_pos hw]
  obtain ⟨i, hi, hz0, hz1, hz2⟩ := info_parts infoO
  have hnl : (nils qs).length = qs.length := by simp [nils]
  have hcc : ∀ j u, (flatO qs (nils qs))[j]? = some u → (W.alloc (.cells cells 77)).cell? (Addr.add ⟨W.heap.size, 0, none⟩ j) = some u := by
    intro j u hu
    rw [Addr.add_lit, Nat.zero_add, World.cell?_alloc_at _ _ _ _ rfl, hcells]
    simpa using hu
  have h1' : (W.alloc (.cells cells 77)).ownsRow B 77 5 v1 p.length (flatO p svs) := World.ownsRow.alloc h1.row _
  have hB' := le_alloc (.cells cells 77) hB
  obtain ⟨v', w', hr, k1, k2, k3, k4⟩ := run_append_own_at (P := Tryz.prog) (W.alloc (.cells cells 77)) B 56 o.type 77 i _ 5 56 Tryz.underlying56 hi hz0 hz1 hz2 rfl (by omega) _ p.length (flatO p svs) h1' ⟨W.heap.size, 0, none⟩ qs.length qs.length (flatO qs (nils qs)) (flatO_len _ _ hnl) hcc (flatO_one _ _ (fun s hs => by simp [nils] at hs; rw [← hs.2]; rfl)) (by unfold maxLen; omega) (by omega) hB'
  obtain ⟨g, cap, rfl⟩ := own_form k1 (fun e => by have := k3.1 e; have := this.2; omega)
  have t : Turns (fun k => v1.ownBlock = some k) W w' := ((Turns.refl _ W).alloc _).trans (Turns.grown k2 (fun k e => e))
  have hg : v1.ownBlock = some g ∨ W.heap.size < g := by
    rcases k4 with k4 | k4
    · exact .inl k4.symm
    · right; simp [Value.ownBlock] at k4; omega
  unfold Oper.wp
  simp [execOp, ho, resolve, invoke, builtin, hs, hx, hr, Result.andThen]
  refine hK _ _ (h g cap w' ⟨svs ++ nils qs, by simp [h1.len, hnl], ?_, ?_⟩ t)
  · rw [flatO_app p svs _ _ h1.len, List.length_append]
    exact k1
  · intro j o' s' hj hs'
    by_cases hjp : j < p.length
    · rw [List.getElem?_append_left hjp] at hj
      rw [List.getElem?_append_left (by rw [h1.len]; exact hjp)] at hs'
      obtain ⟨c1, c2⟩ := h1.cs j o' s' hj hs'
      refine ⟨c1.turns t (fun q hq e => c2 q hq e), fun q hq e => ?_⟩
      simp [Value.ownBlock] at e
      subst e
      have hlt := (World.ownsRow.lt c1 g hq).2
      rcases hg with h4 | h4
      · exact c2 g hq h4
      · omega
    · rw [List.getElem?_append_right (by omega)] at hj
      rw [List.getElem?_append_right (by rw [h1.len]; omega), h1.len] at hs'
      have hs2 : s' = .slice none 0 0 := by
        unfold nils at hs'
        rw [List.getElem?_map, hj] at hs'
        exact (Option.some.inj hs').symm
      rw [hs2, hqs o' (List.mem_of_getElem? hj)]
      exact ⟨CRow.nil _ _ _, fun q hq => by simp [Value.ownBlock] at hq⟩
end Go.Proofs.YtlkbphogpbcjfaaGreatDoor
