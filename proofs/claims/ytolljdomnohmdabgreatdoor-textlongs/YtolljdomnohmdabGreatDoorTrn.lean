/- What a call may have turned, and structs of the call's own. -/
import Derived.Deep.LoopGhost
import Derived.Test.YtolljdomnohmdabGreatDoorCas
namespace Go.Proofs.YtolljdomnohmdabGreatDoor
open Go.RowKit

/-- Of what was there nothing has turned but blocks of S. -/
structure Turns (S : Nat → Prop) (w w' : World) : Prop where
  os : w'.os = w.os
  tape : w'.tape = w.tape
  output : w'.output = w.output
  size : w.heap.size ≤ w'.heap.size
  block : ∀ k, k < w.heap.size → ¬ S k → w'.heap[k]? = w.heap[k]?

theorem Turns.refl (S : Nat → Prop) (w : World) : Turns S w w := ⟨rfl, rfl, rfl, Nat.le_refl _, fun _ _ _ => rfl⟩
theorem Turns.trans {S : Nat → Prop} {a b c : World} (h : Turns S a b) (k : Turns S b c) : Turns S a c :=
  ⟨k.os.trans h.os, k.tape.trans h.tape, k.output.trans h.output, Nat.le_trans h.size k.size, fun i hi hs => (k.block i (Nat.lt_of_lt_of_le hi h.size) hs).trans (h.block i hi hs)⟩
/-- A step more: what it turned of the old is within S. -/
theorem Turns.next {S T : Nat → Prop} {a b c : World} (h : Turns S a b) (k : Turns T b c) (hs : ∀ i, i < a.heap.size → T i → S i) : Turns S a c :=
  ⟨k.os.trans h.os, k.tape.trans h.tape, k.output.trans h.output, Nat.le_trans h.size k.size, fun i hi hn => (k.block i (Nat.lt_of_lt_of_le hi h.size) (fun x => hn (hs i hi x))).trans (h.block i hi hn)⟩
theorem Turns.mono {S T : Nat → Prop} {a b : World} (h : Turns S a b) (hs : ∀ k, k < a.heap.size → S k → T k) : Turns T a b :=
  ⟨h.os, h.tape, h.output, h.size, fun k hk hn => h.block k hk (fun x => hn (hs k hk x))⟩
theorem Turns.grown {S : Nat → Prop} {w w' : World} {row : Option Nat} (hg : w.grownBy w' row) (hr : ∀ k, row = some k → S k) : Turns S w w' :=
  ⟨hg.os, hg.tape, hg.output, hg.size, fun k hk hs => hg.block k hk (fun e => hs (hr k e.symm))⟩
theorem Turns.drewN {S : Nat → Prop} {a w : World} (h : Turns S a w) (n : Nat) : Turns S a (w.drewN n) := ⟨h.os, h.tape, h.output, h.size, h.block⟩
theorem Turns.drew {S : Nat → Prop} {a w : World} (h : Turns S a w) : Turns S a w.drew := ⟨h.os, h.tape, h.output, h.size, h.block⟩
theorem Turns.alloc {S : Nat → Prop} {a w : World} (h : Turns S a w) (o : Obj) : Turns S a (w.alloc o) :=
  h.trans ⟨rfl, rfl, rfl, by simp, fun k hk _ => Below.heap_alloc _ _ _ hk⟩
theorem Turns.setCell {S : Nat → Prop} {a w : World} (h : Turns S a w) {p : Addr} (hp : S p.block) (u : Value) : Turns S a (w.setCell p u) :=
  h.trans ⟨rfl, rfl, rfl, by simp [World.setCell], fun k _ hk => Below.heap_setCell _ _ _ _ (fun e => hk (e ▸ hp))⟩
theorem Turns.below {S : Nat → Prop} {w w' : World} {B : Nat} (h : Turns S w w') (hS : ∀ k, S k → B ≤ k) (hB : B ≤ w.heap.size) : Below B w w' :=
  ⟨h.os, h.tape, h.output, h.size, fun k hk => h.block k (by omega) (fun x => by have := hS k x; omega)⟩
theorem Turns.cell {S : Nat → Prop} {w w' : World} (t : Turns S w w') {p : Addr} {v : Value} (h : w.cell? p = some v) (hlt : p.block < w.heap.size) (hn : ¬ S p.block) : w'.cell? p = some v := by
  rw [World.cell?_of_block (w := w) (t.block p.block hlt hn)]; exact h
/-- What is owned stays owned where its block has not turned. -/
theorem owns_turns {S : Nat → Prop} {w w' : World} {base : Nat} {e : TypeId} {size : Nat} {v : Value} {n : Nat} {xs : List Value} (h : w.ownsRow base e size v n xs) (t : Turns S w w') (hv : ∀ k, v.ownBlock = some k → ¬ S k) : w'.ownsRow base e size v n xs := by
  refine ⟨h.1, ?_⟩
  rcases h.2 with hn | ⟨g, cap, cur, rfl, hb, hgg, rest⟩
  · exact .inl hn
  · refine .inr ⟨g, cap, cur, rfl, hb, ?_, rest⟩
    rw [t.block g (Array.getElem?_eq_some_iff.1 hgg).1 (hv g rfl)]
    exact hgg
theorem Turns.kept {S : Nat → Prop} {w w' b : World} (h : Turns S w w') (k : Kept b w) (hS : ∀ i, S i → b.heap.size ≤ i) : Kept b w' :=
  Below.trans k (h.below hS k.size)
theorem Kept.turns {w w' : World} (k : Kept w w') : Turns (fun _ => False) w w' := ⟨k.1, k.2, k.3, k.4, fun i hi _ => k.5 i hi⟩

/-- A struct of the call's own, its cells in a block of their own. -/
def Box (B : Nat) (w : World) (e : TypeId) (b : Nat) (cs : List Value) : Prop := w.ownsRow B e cs.length (.slice (some ⟨b, 0, none⟩) 1 1) 1 cs
theorem Box.turns {S : Nat → Prop} {B : Nat} {w w' : World} {e : TypeId} {b : Nat} {cs : List Value} (h : Box B w e b cs) (t : Turns S w w') (hb : ¬ S b) : Box B w' e b cs :=
  owns_turns h t (fun k hk => by simp [Value.ownBlock] at hk; subst hk; exact hb)
theorem Box.kept {B : Nat} {w w' : World} {e : TypeId} {b : Nat} {cs : List Value} (h : Box B w e b cs) (t : Kept w w') : Box B w' e b cs := own_kept h t
theorem Box.cell {B : Nat} {w : World} {e : TypeId} {b : Nat} {cs : List Value} (h : Box B w e b cs) (j : Nat) (hj : j < cs.length) : w.cell? ⟨b, j, none⟩ = cs[j]? := h.cellAt j (by omega)
theorem Box.lt {B : Nat} {w : World} {e : TypeId} {b : Nat} {cs : List Value} (h : Box B w e b cs) : B ≤ b ∧ b < w.heap.size := World.ownsRow.lt h b rfl
theorem Box.frozen {B : Nat} {w : World} {e : TypeId} {b : Nat} {cs : List Value} (h : Box B w e b cs) (j : Nat) : w.frozen? ⟨b, j, none⟩ = false := h.frozenAt j
theorem Box.set {B : Nat} {w : World} {e : TypeId} {b : Nat} {cs : List Value} (h : Box B w e b cs) (j : Nat) (v : Value) : Box B (w.setCell ⟨b, j, none⟩ v) e b (cs.set j v) := by
  unfold Box
  rw [List.length_set]
  exact (World.ownsRow.stored h j v).1
theorem box_new (B : Nat) (w : World) (e : TypeId) (cs : List Value) (hB : B ≤ w.heap.size) (_hl : cs.length ≤ 1000) : Box B (w.alloc (.cells cs.toArray e)) e w.heap.size cs := by
  have := World.ownsRow_lit (base := B) (e := e) (size := cs.length) w cs.toArray 1 hB (by unfold maxLen; omega) (by simp)
  simpa [Box] using this
theorem boxes3 (w : World) (t1 t2 t3 : TypeId) (c1 c2 c3 : List Value) (h1 : c1.length ≤ 1000) (h2 : c2.length ≤ 1000) (h3 : c3.length ≤ 1000) :
    Box w.heap.size (((w.alloc (.cells c1.toArray t1)).alloc (.cells c2.toArray t2)).alloc (.cells c3.toArray t3)) t1 w.heap.size c1 ∧
    Box w.heap.size (((w.alloc (.cells c1.toArray t1)).alloc (.cells c2.toArray t2)).alloc (.cells c3.toArray t3)) t2 (w.heap.size + 1) c2 ∧
    Box w.heap.size (((w.alloc (.cells c1.toArray t1)).alloc (.cells c2.toArray t2)).alloc (.cells c3.toArray t3)) t3 (w.heap.size + 2) c3 ∧
    Kept w (((w.alloc (.cells c1.toArray t1)).alloc (.cells c2.toArray t2)).alloc (.cells c3.toArray t3)) := by
  have k1 := (Kept.refl w).alloc (.cells c1.toArray t1)
  have k2 := k1.alloc (.cells c2.toArray t2)
  have k3 := k2.alloc (.cells c3.toArray t3)
  have x1 := box_new w.heap.size w t1 c1 (Nat.le_refl _) h1
  have x2 := box_new w.heap.size (w.alloc (.cells c1.toArray t1)) t2 c2 k1.size h2
  have x3 := box_new w.heap.size ((w.alloc (.cells c1.toArray t1)).alloc (.cells c2.toArray t2)) t3 c3 k2.size h3
  have e1 : (w.alloc (.cells c1.toArray t1)).heap.size = w.heap.size + 1 := by simp
  have e2 : ((w.alloc (.cells c1.toArray t1)).alloc (.cells c2.toArray t2)).heap.size = w.heap.size + 2 := by simp
  rw [e1] at x2
  rw [e2] at x3
  exact ⟨x1.kept (((Kept.refl _).alloc _).alloc _), x2.kept ((Kept.refl _).alloc _), x3, k3⟩
theorem turn_set (w : World) (b j : Nat) (v : Value) : Turns (fun k => k = b) w (w.setCell ⟨b, j, none⟩ v) := Turns.setCell (S := fun k => k = b) (Turns.refl _ _) rfl _
theorem results_cell1 {fn : Func} {p : Tmp} {ty : TypeId} (h : fn.results = #[.cell p ty]) (tmps : Array Value) (P : Program) (w : World) :
    (results fn tmps).run P w = ((asAddr (tmps.getD p undef)).run P w).andThen fun a w1 => (loadVar ty a).run P w1 := by
  simp only [results, h]
  simp [Sem.run_bind, Result.andThen]
/-- Five cells of one struct stored. -/
theorem turn_set5 (w : World) (b : Nat) (v0 v1 v2 v3 v4 : Value) : Turns (fun k => k = b) w (((((w.setCell ⟨b, 0, none⟩ v0).setCell ⟨b, 1, none⟩ v1).setCell ⟨b, 2, none⟩ v2).setCell ⟨b, 3, none⟩ v3).setCell ⟨b, 4, none⟩ v4) :=
  (((((turn_set w b 0 v0).setCell (p := ⟨b, 1, none⟩) rfl v1).setCell (p := ⟨b, 2, none⟩) rfl v2).setCell (p := ⟨b, 3, none⟩) rfl v3).setCell (p := ⟨b, 4, none⟩) rfl v4)
/-- What the variables hold is kept where only later blocks have turned. -/
theorem Rdy.turns {S : Nat → Prop} {w w' : World} (h : Rdy w) (t : Turns S w w') (hS : ∀ k, S k → 7 ≤ k) : Rdy w' := by
  obtain ⟨m, hm⟩ := h.m
  obtain ⟨tp, p, hv⟩ := h.er
  have l1 := var_lt gTab h.tab
  have l2 := var_lt gErr hv
  have b1 := t.block 2 l1 (fun hs => by have := hS _ hs; omega)
  have b6 := t.block 6 l2 (fun hs => by have := hS _ hs; omega)
  refine ⟨⟨m, t.cell hm (cell_lt hm) (fun hs => by have := hS _ hs; simp at this)⟩, ?_, ⟨tp, p, ?_⟩, fun k hk i v hv => t.cell (h.sh k hk i v hv) (cell_lt (h.sh k hk i v hv)) (fun hs => by have := hS _ hs; simp at this)⟩
  · have ht := h.tab
    unfold Lib.TabIs World.var? at ht ⊢
    rw [gTab] at ht ⊢
    simpa [b1] using ht
  · unfold World.var? at hv ⊢
    rw [gErr] at hv ⊢
    simpa [b6] using hv
theorem CRow.turns {S : Nat → Prop} {e : TypeId} {B : Nat} {w w' : World} {v : Value} {l : List CaseD} (h : CRow e B w v l) (t : Turns S w w') (hv : ∀ k, v.ownBlock = some k → ¬ S k) : CRow e B w' v l := owns_turns h t hv
end Go.Proofs.YtolljdomnohmdabGreatDoor
