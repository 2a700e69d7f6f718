/- Rows of tasks of the call's own; a task behind one. -/
import Derived.Test.YtockpcoegdaipabDoorTwo
namespace Go.Proofs.YtockpcoegdaipabDoor
open Go.RowKit

def oRun (r : Int) : OpD := ⟨1, r, 0, 0, []⟩
/-- A task of a name, all its times P, with a run in block e.2. -/
def entE (P : Int) (e : List UInt8 × Nat) : List Value := [.string (B e.1), .int .i64 P, .int .i64 P, .int .i64 P, .slice (some ⟨e.2, 0, none⟩) 1 1]
def flatE (P : Int) (es : List (List UInt8 × Nat)) : List Value := es.flatMap (entE P)
def mkT (P : Int) (ns : List (List UInt8)) : List TaskD := ns.map fun n => ⟨n, P, P, P, [oRun 1]⟩
theorem flatE_app (P : Int) (a b : List (List UInt8 × Nat)) : flatE P (a ++ b) = flatE P a ++ flatE P b := by simp [flatE]
theorem flatE_len (P : Int) (es : List (List UInt8 × Nat)) : (flatE P es).length = es.length * 5 := by
  induction es with
  | nil => rfl
  | cons x r ih => simp only [flatE, List.flatMap_cons, List.length_append, List.length_cons] at *; simp [entE, ih]; omega
theorem flatE_get (P : Int) : ∀ (es : List (List UInt8 × Nat)) (j i : Nat) (e : List UInt8 × Nat), es[j]? = some e → i < 5 → (flatE P es)[j * 5 + i]? = (entE P e)[i]?
  | [], _, _, _, h, _ => by simp at h
  | x :: r, 0, i, e, h, hi => by
    simp at h
    subst h
    simp only [flatE, List.flatMap_cons]
    rw [List.getElem?_append_left (by simp [entE]; omega)]
    simp
  | x :: r, j + 1, i, e, h, hi => by
    simp only [flatE, List.flatMap_cons]
    rw [List.getElem?_append_right (by simp [entE]; omega)]
    have := flatE_get P r j i e (by simpa using h) hi
    rw [show (j + 1) * 5 + i - (entE P x).length = j * 5 + i by simp [entE]; omega]
    exact this
theorem flatE_set (P : Int) : ∀ (es : List (List UInt8 × Nat)) (j : Nat) (n : List UInt8) (e : List UInt8 × Nat), es[j]? = some e → (flatE P es).set (j * 5) (.string (B n)) = flatE P (es.set j (n, e.2))
  | [], _, _, _, h => by simp at h
  | x :: r, 0, n, e, h => by
    simp at h
    subst h
    simp [flatE, entE]
  | x :: r, j + 1, n, e, h => by
    have := flatE_set P r j n e (by simpa using h)
    simp only [flatE, List.flatMap_cons, List.set_cons_succ] at this ⊢
    rw [List.set_append_right _ _ (by simp [entE]; omega), ← this]
    congr 2
    simp [entE]
    omega
theorem flatE_one (P : Int) (es : List (List UInt8 × Nat)) : ∀ u ∈ flatE P es, u.oneCell' = true := by
  intro u hu
  simp only [flatE, List.mem_flatMap] at hu
  obtain ⟨e, _, he⟩ := hu
  simp [entE] at he
  rcases he with rfl | rfl | rfl <;> rfl
/-- A row of such tasks of the call's own. -/
structure TE (Bd : Nat) (w : World) (v : Value) (P : Int) (es : List (List UInt8 × Nat)) : Prop where
  row : w.ownsRow Bd 35 5 v es.length (flatE P es)
  pg : ∀ e ∈ es, AtP w (some ⟨e.2, 0, none⟩) [oRun 1] ∧ v.ownBlock ≠ some e.2 ∧ Bd ≤ e.2 ∧ e.2 < w.heap.size
theorem TE.nil (Bd : Nat) (w : World) (P : Int) : TE Bd w (.slice none 0 0) P [] := ⟨World.ownsRow_nil _ _ _ _, fun e he => by cases he⟩
theorem TE.turns {S : Nat → Prop} {Bd : Nat} {w w' : World} {v : Value} {P : Int} {es : List (List UInt8 × Nat)} (h : TE Bd w v P es) (t : Turns S w w') (hv : ∀ q, v.ownBlock = some q → ¬ S q) (he : ∀ e ∈ es, ¬ S e.2) : TE Bd w' v P es :=
  ⟨owns_turns h.row t hv, fun e hm => ⟨(h.pg e hm).1.turn0 t (he e hm) (by simp [oRun]), (h.pg e hm).2.1, (h.pg e hm).2.2.1, by have := (h.pg e hm).2.2.2; have := t.size; omega⟩⟩
theorem TE.kept {Bd : Nat} {w w' : World} {v : Value} {P : Int} {es : List (List UInt8 × Nat)} (h : TE Bd w v P es) (k : Kept w w') : TE Bd w' v P es := h.turns k.turns (fun _ _ x => x) (fun _ _ x => x)
theorem TE.tasks {Bd : Nat} {w : World} {g n c : Nat} {P : Int} {es : List (List UInt8 × Nat)} (h : TE Bd w (.slice (some ⟨g, 0, none⟩) n c) P es) (hn : n = es.length) : AtT w (some ⟨g, 0, none⟩) (mkT P (es.map (·.1))) := by
  subst hn
  intro j t hj
  simp only [mkT, List.map_map, List.getElem?_map] at hj
  cases he : es[j]? with
  | none => rw [he] at hj; simp at hj
  | some e =>
    rw [he] at hj
    simp at hj
    subst hj
    have hjl : j < es.length := (List.getElem?_eq_some_iff.1 he).1
    have hc : ∀ i, i < 5 → w.cell? ⟨g, 0 + j * 5 + i, none⟩ = (entE P e)[i]? := by
      intro i hi
      rw [Nat.zero_add, h.row.cellAt (j * 5 + i) (by omega), flatE_get P es j i e he hi]
    exact ⟨g, 0, rfl, hc 0 (by omega), hc 1 (by omega), hc 2 (by omega), hc 3 (by omega), some ⟨e.2, 0, none⟩, 1, hc 4 (by omega), by simp, (h.pg e (List.mem_of_getElem? he)).1⟩
theorem infoT : (Tryd.prog.info? 35).map (fun i => (i.zero, i.size, i.bytes)) = some (some (.agg #[.string ⟨#[]⟩, .int .i64 0, .int .i64 0, .int .i64 0, .slice none 0 0]), 5, 64) := by kernel_rfl
/-- One task behind a row of tasks. -/
theorem wpList_append_task (w : World) {ops : Array Oper} {rest : List Oper} {o : Oper} {a : Act} {Q : Exit → Act → World → Prop} (hw : Region.wanted o (yielded ops a.tmps) = true) (s x : Operand)
    (ho : o.op = .call { callee := .builtin .append, args := #[s, x], argTypes := #[24, 24] })
    (Bd : Nat) (v1 : Value) (P : Int) (es : List (List UInt8 × Nat)) (n : List UInt8) (pb : Nat) (W : World) (cells : Array Value) (hcells : cells = (entE P (n, pb)).toArray) (hw1 : w = W.alloc (.cells cells 35)) (hs : a.eval s = v1) (nb : Nat) (hnb : nb = W.heap.size) (hx : a.eval x = .slice (some ⟨nb, 0, none⟩) 1 1)
    (h1 : TE Bd W v1 P es) (hp : AtP W (some ⟨pb, 0, none⟩) [oRun 1] ∧ v1.ownBlock ≠ some pb ∧ Bd ≤ pb ∧ pb < W.heap.size) (hl : es.length ≤ 1000000) (hB : Bd ≤ W.heap.size)
    (h : ∀ g cap w', TE Bd w' (.slice (some ⟨g, 0, none⟩) (es.length + 1) cap) P (es ++ [(n, pb)]) → Turns (fun k => v1.ownBlock = some k) W w' → (v1.ownBlock = some g ∨ W.heap.size < g) → wpList Tryd.prog ops Q rest (a.put o.dst (.slice (some ⟨g, 0, none⟩) (es.length + 1) cap)) w') :
    wpList Tryd.prog ops Q (o :: rest) a w := by
  subst hw1
  subst hnb
  refine wpList_step fun K hK => ?_
  rw [if_pos hw]
  obtain ⟨i, hi, hz0, hz1, hz2⟩ := info_parts infoT
  have hcc : ∀ j u, (entE P (n, pb))[j]? = some u → (W.alloc (.cells cells 35)).cell? (Addr.add ⟨W.heap.size, 0, none⟩ j) = some u := by
    intro j u hu
    rw [Addr.add_lit, Nat.zero_add, World.cell?_alloc_at _ _ _ _ rfl, hcells]
    simpa using hu
  have h1' : (W.alloc (.cells cells 35)).ownsRow Bd 35 5 v1 es.length (flatE P es) := World.ownsRow.alloc h1.row _
  have hB' := le_alloc (.cells cells 35) hB
  obtain ⟨v', w', hr, k1, k2, k3, k4⟩ := run_append_own_at (P := Tryd.prog) (W.alloc (.cells cells 35)) Bd 24 o.type 35 i _ 5 64 Tryd.underlying24 hi hz0 hz1 hz2 rfl (by omega) _ es.length (flatE P es) h1' ⟨W.heap.size, 0, none⟩ 1 1 (entE P (n, pb)) (by simp [entE]) hcc (fun u hu => flatE_one P [(n, pb)] u (by simpa [flatE] using hu)) (by unfold maxLen; omega) (by omega) hB'
  obtain ⟨g, cap, rfl⟩ := own_form k1 (fun e => by have := k3.1 e; have := this.2; omega)
  have t : Turns (fun k => v1.ownBlock = some k) W w' := ((Turns.refl _ W).alloc _).trans (Turns.grown k2 (fun k e => e))
  have hg : v1.ownBlock = some g ∨ W.heap.size < g := by
    rcases k4 with k4 | k4
    · exact .inl k4.symm
    · right; simp [Value.ownBlock] at k4; omega
  have far : ∀ q, q < W.heap.size → v1.ownBlock ≠ some q → (Value.slice (some ⟨g, 0, none⟩) (es.length + 1) cap).ownBlock ≠ some q := by
    intro q hq hne e
    simp [Value.ownBlock] at e
    subst e
    rcases hg with h4 | h4
    · exact hne h4
    · omega
  have hts := t.size
  unfold Oper.wp
  simp [execOp, ho, resolve, invoke, builtin, hs, hx, hr, Result.andThen]
  refine hK _ _ (h g cap w' ⟨?_, ?_⟩ t hg)
  · rw [flatE_app, List.length_append]
    simpa [flatE] using k1
  · intro e he
    rcases List.mem_append.1 he with he | he
    · obtain ⟨c1, c2, c3, c4⟩ := h1.pg e he
      exact ⟨c1.turn0 t (fun e2 => c2 e2) (by simp [oRun]), far e.2 c4 c2, c3, by omega⟩
    · simp at he
      subst he
      exact ⟨hp.1.turn0 t (fun e2 => hp.2.1 e2) (by simp [oRun]), far pb hp.2.2.2 hp.2.1, hp.2.2.1, by have := hp.2.2.2; simp only; omega⟩
/-- A name stored into a row of tasks. -/
theorem TE.set {Bd : Nat} {w : World} {g n c : Nat} {P : Int} {es : List (List UInt8 × Nat)} (h : TE Bd w (.slice (some ⟨g, 0, none⟩) n c) P es) (hn : n = es.length) {j : Nat} {e : List UInt8 × Nat} (he : es[j]? = some e) (nm : List UInt8) : TE Bd (w.setCell ⟨g, j * 5, none⟩ (.string (B nm))) (.slice (some ⟨g, 0, none⟩) n c) P (es.set j (nm, e.2)) := by
  subst hn
  have t := turn_set w g (j * 5) (.string (B nm))
  refine ⟨?_, fun x hx => ?_⟩
  · rw [List.length_set, ← flatE_set P es j nm e he]
    exact (World.ownsRow.stored h.row (j * 5) _).1
  · have key : ∀ y ∈ es, AtP (w.setCell ⟨g, j * 5, none⟩ (.string (B nm))) (some ⟨y.2, 0, none⟩) [oRun 1] ∧ (Value.slice (some ⟨g, 0, none⟩) es.length c).ownBlock ≠ some y.2 ∧ Bd ≤ y.2 ∧ y.2 < (w.setCell ⟨g, j * 5, none⟩ (.string (B nm))).heap.size := by
      intro y hy
      obtain ⟨c1, c2, c3, c4⟩ := h.pg y hy
      exact ⟨c1.turn0 t (fun e2 => c2 (by rw [e2]; rfl)) (by simp [oRun]), c2, c3, by simp [World.setCell]; exact c4⟩
    rcases List.mem_or_eq_of_mem_set hx with hx | hx
    · exact key x hx
    · subst hx
      exact key e (List.mem_of_getElem? he)
end Go.Proofs.YtockpcoegdaipabDoor
