/- appendCopies. -/
import Derived.Test.YtlkbphogpbcjfaaGreatDoorORw
import Derived.Deep.LoopGhost
namespace Go.Proofs.YtlkbphogpbcjfaaGreatDoor
open Go.RowKit

theorem ORow.turns {S : Nat → Prop} {B : Nat} {w w' : World} {v : Value} {p : List OpD} {svs : List Value} (h : ORow B w v p svs) (t : Turns S w w') (hS : ∀ q, S q → ¬ (B ≤ q ∧ q < w.heap.size)) : ORow B w' v p svs :=
  ⟨h.len, owns_turns h.row t (fun k hk e => hS k e (World.ownsRow.lt h.row k hk)), fun j o sv h1 h2 => ⟨(h.cs j o sv h1 h2).1.turns t (fun k hk e => hS k e (World.ownsRow.lt (h.cs j o sv h1 h2).1 k hk)), (h.cs j o sv h1 h2).2⟩⟩
theorem ORow.lt {B : Nat} {w : World} {v : Value} {p : List OpD} {svs : List Value} (h : ORow B w v p svs) : ∀ k, v.ownBlock = some k → B ≤ k ∧ k < w.heap.size := fun k hk => World.ownsRow.lt h.row k hk
theorem CRow.base {e : TypeId} {B B' : Nat} {w : World} {v : Value} {l : List CaseD} (h : CRow e B w v l) (hB : B' ≤ B) : CRow e B' w v l := by
  refine ⟨h.1, ?_⟩
  rcases h.2 with hn | ⟨g, cap, cur, h1, hb, rest⟩
  · exact .inl hn
  · exact .inr ⟨g, cap, cur, h1, by omega, rest⟩
theorem take_snoc {r : List OpD} {j : Nat} {o : OpD} (h : r[j]? = some o) (p : List OpD) : p ++ r.take (j + 1) = (p ++ r.take j) ++ [o] := by
  rw [List.take_add_one, h]
  simp
/-- What there is in the midst of appendCopies. -/
structure Cp (B : Nat) (v1 : Value) (w wr : World) (vj : Value) (p : List OpD) : Prop where
  row : ∃ svs, ORow B wr vj p svs
  old : vj.ownBlock = v1.ownBlock ∨ ∀ q, vj.ownBlock = some q → w.heap.size ≤ q
  trn : Turns (fun k => v1.ownBlock = some k) w wr
theorem Cp.next {B : Nat} {v1 : Value} {w wr w2 w5 : World} {vj : Value} {p : List OpD} {o : OpD} {g n c sb : Nat} {v : Value} {svs : List Value} (h : Cp B v1 w wr vj p) (t1 : Kept wr w2) (hsb : wr.heap.size ≤ sb) (t2 : Turns (fun k => vj.ownBlock = some k) (w2.setCell ⟨sb, 4, none⟩ v) w5) (hg : vj.ownBlock = some g ∨ (w2.setCell ⟨sb, 4, none⟩ v).heap.size < g)
    (r : ORow B w5 (.slice (some ⟨g, 0, none⟩) n c) (p ++ [o]) svs) : Cp B v1 w w5 (.slice (some ⟨g, 0, none⟩) n c) (p ++ [o]) := by
  have hsz : (w2.setCell ⟨sb, 4, none⟩ v).heap.size = w2.heap.size := by simp [World.setCell]
  have h1 := h.trn.size
  have h2 := t1.size
  refine ⟨⟨svs, r⟩, ?_, ?_⟩
  · rcases hg with hg | hg
    · rcases h.old with h3 | h3
      · left; rw [← h3, hg]; rfl
      · right; intro q hq; simp [Value.ownBlock] at hq; subst hq; exact h3 g hg
    · right; intro q hq; simp [Value.ownBlock] at hq; omega
  · refine ((h.trn.next t1.turns (fun i _ hi => hi.elim)).next (turn_set w2 sb 4 v) (fun i hi e => by omega)).next t2 (fun i hi e => ?_)
    rcases h.old with h3 | h3
    · rw [← h3]; exact e
    · have := h3 i e; omega

theorem cop_mid {B : Nat} {wr w2 : World} {vj : Value} {p : List OpD} {svs : List Value} {l : List CaseD} {sv : Value} (h : ORow B wr vj p svs) (hB : B ≤ wr.heap.size) (K : Kept wr w2) (R : CRow 108 (wr.heap.size + 1) w2 sv l) :
    ORow B (w2.setCell ⟨wr.heap.size, 4, none⟩ sv) vj p svs ∧ CRow 108 B (w2.setCell ⟨wr.heap.size, 4, none⟩ sv) sv l ∧ (∀ q, sv.ownBlock = some q → vj.ownBlock ≠ some q) ∧ B ≤ (w2.setCell ⟨wr.heap.size, 4, none⟩ sv).heap.size := by
  have t1 : Turns (fun k => k = wr.heap.size) wr (w2.setCell ⟨wr.heap.size, 4, none⟩ sv) := (K.turns.mono (fun _ _ h => h.elim)).trans (turn_set w2 wr.heap.size 4 sv)
  have hsz : (w2.setCell ⟨wr.heap.size, 4, none⟩ sv).heap.size = w2.heap.size := by simp [World.setCell]
  have hk := K.size
  refine ⟨h.turns t1 (fun q hq h => by omega), (R.turns (turn_set w2 wr.heap.size 4 sv) (fun q hq e => by have := (World.ownsRow.lt R q hq).1; omega)).base (by omega), fun q hq e => ?_, by omega⟩
  have h1 := (World.ownsRow.lt R q hq).1
  have h2 := (h.lt q e).2
  omega
end Go.Proofs.YtlkbphogpbcjfaaGreatDoor
