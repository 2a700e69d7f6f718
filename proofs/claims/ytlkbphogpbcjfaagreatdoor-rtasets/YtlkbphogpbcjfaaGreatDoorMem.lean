/- How rows of numbers and structs lie in memory, and what a call may have turned. -/
import Derived.Test.YtlkbphogpbcjfaaGreatDoorRows
import Derived.Test.YtlkbphogpbcjfaaGreatDoorShelf
import Derived.WalkKit
import Derived.WalkSpells
import Derived.WalkSmall
import Derived.WalkLawsBesides
import Derived.Deep.QuietTactic
import Derived.Deep.LoopGhost
import Derived.OwnWalk
import Derived.BigRegion
import Derived.BigQuiet
import Derived.Maps.AppendAt
import Derived.Lib.SliceRun
import Derived.Deep.RegionHeld3
import Derived.Deep.RegionLaw
import Derived.Laws.DeepStrings4
import Derived.Laws.Concat
namespace Go.Proofs.YtlkbphogpbcjfaaGreatDoor
open Go.RowKit

/-- Nothing of what was there has turned. -/
def Kept (w w' : World) : Prop := Below w.heap.size w w'
theorem Kept.refl (w : World) : Kept w w := Below.refl _ _
theorem Kept.size {a b : World} (h : Kept a b) : a.heap.size ≤ b.heap.size := Below.size h
theorem Kept.trans {a b c : World} (h : Kept a b) (k : Kept b c) : Kept a c := Below.trans h (Below.mono k (Below.size h))
theorem Kept.drewN {a w : World} (h : Kept a w) (n : Nat) : Kept a (w.drewN n) := ⟨h.1, h.2, h.3, h.4, h.5⟩
theorem Kept.drew {a w : World} (h : Kept a w) : Kept a w.drew := ⟨h.1, h.2, h.3, h.4, h.5⟩
theorem Kept.alloc {a w : World} (h : Kept a w) (o : Obj) : Kept a (w.alloc o) := h.trans ((Below.refl _ w).alloc (Nat.le_refl _) o)
theorem cell_lt {w : World} {p : Addr} {v : Value} (h : w.cell? p = some v) : p.block < w.heap.size := by
  by_cases hlt : p.block < w.heap.size
  · exact hlt
  · have : w.heap[p.block]? = none := Array.getElem?_eq_none (by omega)
    simp [World.cell?, this] at h
theorem Kept.cell {w w' : World} (t : Kept w w') {p : Addr} {v : Value} (h : w.cell? p = some v) : w'.cell? p = some v := (Below.cell t (cell_lt h)).trans h

/-- A text as a string. -/
def B (l : List UInt8) : ByteArray := ⟨l.toArray⟩
theorem B_list (l : List UInt8) : (B l).data.toList = l := rfl
theorem B_size (l : List UInt8) : (B l).size = l.length := by simp [B, ByteArray.size]
theorem own_kept {w w' : World} {base : Nat} {e : TypeId} {size : Nat} {v : Value} {n : Nat} {xs : List Value} (h : w.ownsRow base e size v n xs) (t : Kept w w') : w'.ownsRow base e size v n xs := by
  refine ⟨h.1, ?_⟩
  rcases h.2 with hn | ⟨g, cap, cur, rfl, hb, hgg, rest⟩
  · exact .inl hn
  · refine .inr ⟨g, cap, cur, rfl, hb, ?_, rest⟩
    rw [t.5 g (Array.getElem?_eq_some_iff.1 hgg).1]
    exact hgg
theorem drewN_add (w : World) (a b : Nat) : (w.drewN a).drewN b = w.drewN (a + b) := by simp [World.drewN, Nat.add_assoc]
theorem le_alloc {b0 : Nat} {w : World} (o : Obj) (h : b0 ≤ w.heap.size) : b0 ≤ (w.alloc o).heap.size := by
  have : (w.alloc o).heap.size = w.heap.size + 1 := by simp
  omega
theorem own_form {w : World} {base : Nat} {e : TypeId} {size : Nat} {v : Value} {n : Nat} {xs : List Value} (h : w.ownsRow base e size v n xs) (hv : v ≠ .slice Option.none 0 0) : ∃ g cap, v = .slice (some ⟨g, 0, Option.none⟩) n cap := by
  rcases h.2 with ⟨h1, _⟩ | ⟨g, cap, cur, h1, _⟩
  · exact absurd h1 hv
  · exact ⟨g, cap, h1⟩

/-- Of what was there nothing has turned but blocks of S. -/
structure Turns (S : Nat → Prop) (w w' : World) : Prop where
  os : w'.os = w.os
  tape : w'.tape = w.tape
  output : w'.output = w.output
  size : w.heap.size ≤ w'.heap.size
  block : ∀ k, k < w.heap.size → ¬ S k → w'.heap[k]? = w.heap[k]?

theorem Turns.refl (S : Nat → Prop) (w : World) : Turns S w w := ⟨rfl, rfl, rfl, Nat.le_refl _, fun _ _ _ => rfl⟩
theorem Turns.trans {S : Nat → Prop} {a b c : World} (h : Turns S a b) (k : Turns S b c) : Turns S a c :=
  ⟨k.os.trans h.os, k.tape.trans h.tape, k.output.trans h.output, Nat.le_trans h.size k.size, fun i hi hs => (k.block i (Nat.lt_of_lt_of_le hi h.size) hs).trans (h.block i hi hs)⟩
/-- A step more: what it turned of the old is within S. -/
theorem Turns.next {S T : Nat → Prop} {a b c : World} (h : Turns S a b) (k : Turns T b c) (hs : ∀ i, i < a.heap.size → T i → S i) : Turns S a c :=
  ⟨k.os.trans h.os, k.tape.trans h.tape, k.output.trans h.output, Nat.le_trans h.size k.size, fun i hi hn => (k.block i (Nat.lt_of_lt_of_le hi h.size) (fun x => hn (hs i hi x))).trans (h.block i hi hn)⟩
theorem Turns.mono {S T : Nat → Prop} {a b : World} (h : Turns S a b) (hs : ∀ k, k < a.heap.size → S k → T k) : Turns T a b :=
  ⟨h.os, h.tape, h.output, h.size, fun k hk hn => h.block k hk (fun x => hn (hs k hk x))⟩
theorem Turns.grown {S : Nat → Prop} {w w' : World} {row : Option Nat} (hg : w.grownBy w' row) (hr : ∀ k, row = some k → S k) : Turns S w w' :=
  ⟨hg.os, hg.tape, hg.output, hg.size, fun k hk hs => hg.block k hk (fun e => hs (hr k e.symm))⟩
theorem Turns.drewN {S : Nat → Prop} {a w : World} (h : Turns S a w) (n : Nat) : Turns S a (w.drewN n) := ⟨h.os, h.tape, h.output, h.size, h.block⟩
theorem Turns.drew {S : Nat → Prop} {a w : World} (h : Turns S a w) : Turns S a w.drew := ⟨h.os, h.tape, h.output, h.size, h.block⟩
theorem Turns.alloc {S : Nat → Prop} {a w : World} (h : Turns S a w) (o : Obj) : Turns S a (w.alloc o) :=
  h.trans ⟨rfl, rfl, rfl, by simp, fun k hk _ => Below.heap_alloc _ _ _ hk⟩
theorem Turns.setCell {S : Nat → Prop} {a w : World} (h : Turns S a w) {p : Addr} (hp : S p.block) (u : Value) : Turns S a (w.setCell p u) :=
  h.trans ⟨rfl, rfl, rfl, by simp [World.setCell], fun k _ hk => Below.heap_setCell _ _ _ _ (fun e => hk (e ▸ hp))⟩
theorem Turns.below {S : Nat → Prop} {w w' : World} {B : Nat} (h : Turns S w w') (hS : ∀ k, S k → B ≤ k) (hB : B ≤ w.heap.size) : Below B w w' :=
  ⟨h.os, h.tape, h.output, h.size, fun k hk => h.block k (by omega) (fun x => by have := hS k x; omega)⟩
theorem Turns.cell {S : Nat → Prop} {w w' : World} (t : Turns S w w') {p : Addr} {v : Value} (h : w.cell? p = some v) (hlt : p.block < w.heap.size) (hn : ¬ S p.block) : w'.cell? p = some v := by
  rw [World.cell?_of_block (w := w) (t.block p.block hlt hn)]; exact h
/-- What is owned stays owned where its block has not turned. -/
theorem owns_turns {S : Nat → Prop} {w w' : World} {base : Nat} {e : TypeId} {size : Nat} {v : Value} {n : Nat} {xs : List Value} (h : w.ownsRow base e size v n xs) (t : Turns S w w') (hv : ∀ k, v.ownBlock = some k → ¬ S k) : w'.ownsRow base e size v n xs := by
  refine ⟨h.1, ?_⟩
  rcases h.2 with hn | ⟨g, cap, cur, rfl, hb, hgg, rest⟩
  · exact .inl hn
  · refine .inr ⟨g, cap, cur, rfl, hb, ?_, rest⟩
    rw [t.block g (Array.getElem?_eq_some_iff.1 hgg).1 (hv g rfl)]
    exact hgg
theorem Turns.kept {S : Nat → Prop} {w w' b : World} (h : Turns S w w') (k : Kept b w) (hS : ∀ i, S i → b.heap.size ≤ i) : Kept b w' :=
  Below.trans k (h.below hS k.size)
theorem Kept.turns {w w' : World} (k : Kept w w') : Turns (fun _ => False) w w' := ⟨k.1, k.2, k.3, k.4, fun i hi _ => k.5 i hi⟩

/-- A struct of the call's own, its cells in a block of their own. -/
def Box (B : Nat) (w : World) (e : TypeId) (b : Nat) (cs : List Value) : Prop := w.ownsRow B e cs.length (.slice (some ⟨b, 0, none⟩) 1 1) 1 cs
theorem Box.turns {S : Nat → Prop} {B : Nat} {w w' : World} {e : TypeId} {b : Nat} {cs : List Value} (h : Box B w e b cs) (t : Turns S w w') (hb : ¬ S b) : Box B w' e b cs :=
  owns_turns h t (fun k hk => by simp [Value.ownBlock] at hk; subst hk; exact hb)
theorem Box.kept {B : Nat} {w w' : World} {e : TypeId} {b : Nat} {cs : List Value} (h : Box B w e b cs) (t : Kept w w') : Box B w' e b cs := own_kept h t
theorem Box.cell {B : Nat} {w : World} {e : TypeId} {b : Nat} {cs : List Value} (h : Box B w e b cs) (j : Nat) (hj : j < cs.length) : w.cell? ⟨b, j, none⟩ = cs[j]? := h.cellAt j (by omega)
theorem Box.lt {B : Nat} {w : World} {e : TypeId} {b : Nat} {cs : List Value} (h : Box B w e b cs) : B ≤ b ∧ b < w.heap.size := World.ownsRow.lt h b rfl
theorem Box.frozen {B : Nat} {w : World} {e : TypeId} {b : Nat} {cs : List Value} (h : Box B w e b cs) (j : Nat) : w.frozen? ⟨b, j, none⟩ = false := h.frozenAt j
theorem Box.set {B : Nat} {w : World} {e : TypeId} {b : Nat} {cs : List Value} (h : Box B w e b cs) (j : Nat) (v : Value) : Box B (w.setCell ⟨b, j, none⟩ v) e b (cs.set j v) := by
  unfold Box
  rw [List.length_set]
  exact (World.ownsRow.stored h j v).1
theorem box_new (B : Nat) (w : World) (e : TypeId) (cs : List Value) (hB : B ≤ w.heap.size) (_hl : cs.length ≤ 1000) : Box B (w.alloc (.cells cs.toArray e)) e w.heap.size cs := by
  have := World.ownsRow_lit (base := B) (e := e) (size := cs.length) w cs.toArray 1 hB (by unfold maxLen; omega) (by simp)
  simpa [Box] using this
theorem boxes3 (w : World) (t1 t2 t3 : TypeId) (c1 c2 c3 : List Value) (h1 : c1.length ≤ 1000) (h2 : c2.length ≤ 1000) (h3 : c3.length ≤ 1000) :
    Box w.heap.size (((w.alloc (.cells c1.toArray t1)).alloc (.cells c2.toArray t2)).alloc (.cells c3.toArray t3)) t1 w.heap.size c1 ∧
    Box w.heap.size (((w.alloc (.cells c1.toArray t1)).alloc (.cells c2.toArray t2)).alloc (.cells c3.toArray t3)) t2 (w.heap.size + 1) c2 ∧
    Box w.heap.size (((w.alloc (.cells c1.toArray t1)).alloc (.cells c2.toArray t2)).alloc (.cells c3.toArray t3)) t3 (w.heap.size + 2) c3 ∧
    Kept w (((w.alloc (.cells c1.toArray t1)).alloc (.cells c2.toArray t2)).alloc (.cells c3.toArray t3)) := by
  have k1 := (Kept.refl w).alloc (.cells c1.toArray t1)
  have k2 := k1.alloc (.cells c2.toArray t2)
  have k3 := k2.alloc (.cells c3.toArray t3)
  have x1 := box_new w.heap.size w t1 c1 (Nat.le_refl _) h1
  have x2 := box_new w.heap.size (w.alloc (.cells c1.toArray t1)) t2 c2 k1.size h2
  have x3 := box_new w.heap.size ((w.alloc (.cells c1.toArray t1)).alloc (.cells c2.toArray t2)) t3 c3 k2.size h3
  have e1 : (w.alloc (.cells c1.toArray t1)).heap.size = w.heap.size + 1 := by simp
  have e2 : ((w.alloc (.cells c1.toArray t1)).alloc (.cells c2.toArray t2)).heap.size = w.heap.size + 2 := by simp
  rw [e1] at x2
  rw [e2] at x3
  exact ⟨x1.kept (((Kept.refl _).alloc _).alloc _), x2.kept ((Kept.refl _).alloc _), x3, k3⟩
theorem turn_set (w : World) (b j : Nat) (v : Value) : Turns (fun k => k = b) w (w.setCell ⟨b, j, none⟩ v) := Turns.setCell (S := fun k => k = b) (Turns.refl _ _) rfl _
def intV (x : Int) : Value := .int .i64 x
/-- A row of numbers that the call owns (e: their type). -/
def IRow (e : TypeId) (B : Nat) (w : World) (v : Value) (l : List Int) : Prop := w.ownsRow B e 1 v l.length (l.map intV)
theorem IRow.nil (e : TypeId) (B : Nat) (w : World) : IRow e B w (.slice Option.none 0 0) [] := World.ownsRow_nil _ _ _ _
theorem IRow.turns {S : Nat → Prop} {e : TypeId} {B : Nat} {w w' : World} {v : Value} {l : List Int} (h : IRow e B w v l) (t : Turns S w w') (hv : ∀ k, v.ownBlock = some k → ¬ S k) : IRow e B w' v l := owns_turns h t hv
theorem IRow.kept {e : TypeId} {B : Nat} {w w' : World} {v : Value} {l : List Int} (h : IRow e B w v l) (t : Kept w w') : IRow e B w' v l := own_kept h t
theorem IRow.cell {e : TypeId} {B : Nat} {w : World} {g c : Nat} {l : List Int} (h : IRow e B w (.slice (some ⟨g, 0, none⟩) l.length c) l) (j : Nat) (x : Int) (hx : l[j]? = some x) : w.cell? ⟨g, j, none⟩ = some (.int .i64 x) := by
  have hj : j < l.length := (List.getElem?_eq_some_iff.1 hx).1
  unfold IRow at h
  rw [h.cellAt j (by omega), List.getElem?_map, hx]
  rfl
theorem IRow.form {e : TypeId} {B : Nat} {w : World} {v : Value} {l : List Int} (h : IRow e B w v l) : ∃ a c, v = .slice a l.length c ∧ l.length ≤ c := by
  rcases h.2 with ⟨h1, h2⟩ | ⟨g, cap, cur, h1, _, _, h3, _⟩
  · exact ⟨none, 0, by rw [h1, h2], by omega⟩
  · exact ⟨_, _, h1, h3⟩
theorem IRow.some {e : TypeId} {B : Nat} {w : World} {v : Value} {l : List Int} (h : IRow e B w v l) (hl : 0 < l.length) : ∃ g c, v = .slice (some ⟨g, 0, Option.none⟩) l.length c ∧ l.length ≤ c ∧ B ≤ g ∧ g < w.heap.size := by
  rcases h.2 with ⟨h1, h2⟩ | ⟨g, cap, cur, h1, _, _, h3, _⟩
  · omega
  · have := World.ownsRow.lt h g (by rw [h1]; rfl)
    exact ⟨g, cap, h1, h3, this.1, this.2⟩
theorem IRow.base {e : TypeId} {B B' : Nat} {w : World} {v : Value} {l : List Int} (h : IRow e B w v l) (hB : B' ≤ B) : IRow e B' w v l := by
  refine ⟨h.1, ?_⟩
  rcases h.2 with hn | ⟨g, cap, cur, h1, hb, rest⟩
  · exact .inl hn
  · exact .inr ⟨g, cap, cur, h1, by omega, rest⟩
/-- t is a slice of e, and e a number of 64 bits. -/
structure NumOf (t e : TypeId) : Prop where
  und : Tryz.prog.underlying t = some (.slice e)
  inf : (Tryz.prog.info? e).map (fun i => (i.zero, i.size, i.bytes)) = some (some (.int .i64 0), 1, 8)
theorem nInt : NumOf 66 3 := ⟨Tryz.underlying66, by kernel_rfl⟩
theorem int_ones (l : List Int) : ∀ u ∈ l.map intV, u.oneCell' = true := by
  intro u hu
  simp only [List.mem_map] at hu
  obtain ⟨x, _, rfl⟩ := hu
  rfl
/-- One number behind a row of numbers. -/
theorem wp_append_int {t e : TypeId} (kk : NumOf t e) (w : World) {o : Oper} {a : Act} {K : Act → World → Prop} {Q : Exit → Act → World → Prop} (s x : Operand)
    (ho : o.op = .call { callee := .builtin .append, args := #[s, x], argTypes := #[t, t] })
    (base : Nat) (v1 : Value) (l1 : List Int) (y : Int) (W : World) (hw1 : w = W.alloc (.cells #[.int .i64 y] e)) (hs : a.eval s = v1) (nb : Nat) (hnb : nb = W.heap.size) (hx : a.eval x = .slice (some ⟨nb, 0, none⟩) 1 1) (h1 : IRow e base W v1 l1) (hl : l1.length ≤ 1000000) (hB : base ≤ W.heap.size)
    (h : ∀ g cap w', IRow e base w' (.slice (some ⟨g, 0, none⟩) (l1.length + 1) cap) (l1 ++ [y]) → w.grownBy w' v1.ownBlock → (v1.ownBlock = some g ∨ W.heap.size < g) → K (a.put o.dst (.slice (some ⟨g, 0, none⟩) (l1.length + 1) cap)) w') :
    o.wp Tryz.prog a w K Q := by
  subst hw1
  subst hnb
  obtain ⟨i, hi, hz0, hz1, hz2⟩ := info_parts kk.inf
  have hc : ∀ j u, ([y].map intV)[j]? = some u → (W.alloc (.cells #[.int .i64 y] e)).cell? (Addr.add ⟨W.heap.size, 0, none⟩ j) = some u := by
    intro j u hu
    rw [Addr.add_lit, Nat.zero_add, World.cell?_alloc_at _ _ _ _ rfl]
    simpa [intV] using hu
  have h1' : (W.alloc (.cells #[.int .i64 y] e)).ownsRow base e 1 v1 l1.length (l1.map intV) := World.ownsRow.alloc h1 _
  have hB' := le_alloc (.cells #[.int .i64 y] e) hB
  obtain ⟨v', w', hr, k1, k2, k3, k4⟩ := run_append_own_at (P := Tryz.prog) (W.alloc (.cells #[.int .i64 y] e)) base t o.type e i _ 1 8 kk.und hi hz0 hz1 hz2 rfl (by omega) _ l1.length (l1.map intV) h1' ⟨W.heap.size, 0, none⟩ 1 1 ([y].map intV) (by simp) hc (int_ones [y]) (by unfold maxLen; omega) (by omega) hB'
  obtain ⟨g, cap, rfl⟩ := own_form k1 (fun e => by have := k3.1 e; have := this.2; omega)
  unfold Oper.wp
  simp [execOp, ho, resolve, invoke, builtin, hs, hx, hr, Result.andThen]
  refine h g cap w' ?_ k2 ?_
  · unfold IRow
    rw [List.length_append, List.map_append]
    exact k1
  · rcases k4 with k4 | k4
    · exact .inl k4.symm
    · right; simp [Value.ownBlock] at k4; omega
theorem step_append_int {t e : TypeId} (kk : NumOf t e) (w : World) {ops : Array Oper} {o : Oper} {a : Act} {K : Act → World → Prop} {Q : Exit → Act → World → Prop} {E : Prop} (hgd : o.guard = none) (s x : Operand)
    (ho : o.op = .call { callee := .builtin .append, args := #[s, x], argTypes := #[t, t] })
    (base : Nat) (v1 : Value) (l1 : List Int) (y : Int) (W : World) (hw1 : w = W.alloc (.cells #[.int .i64 y] e)) (hs : a.eval s = v1) (nb : Nat) (hnb : nb = W.heap.size) (hx : a.eval x = .slice (some ⟨nb, 0, none⟩) 1 1) (h1 : IRow e base W v1 l1) (hl : l1.length ≤ 1000000) (hB : base ≤ W.heap.size)
    (h : ∀ g cap w', IRow e base w' (.slice (some ⟨g, 0, none⟩) (l1.length + 1) cap) (l1 ++ [y]) → w.grownBy w' v1.ownBlock → (v1.ownBlock = some g ∨ W.heap.size < g) → K (a.put o.dst (.slice (some ⟨g, 0, none⟩) (l1.length + 1) cap)) w') :
    if Region.wanted o (yielded ops a.tmps) = true then Oper.wp Tryz.prog o a w K Q else E := by
  have hw : Region.wanted o (yielded ops a.tmps) = true := by simp [Region.wanted, hgd]
  rw [if_pos hw]
  exact wp_append_int kk w s x ho base v1 l1 y W hw1 hs nb hnb hx h1 hl hB h
theorem wpList_append_int {t e : TypeId} (kk : NumOf t e) (w : World) {ops : Array Oper} {rest : List Oper} {o : Oper} {a : Act} {Q : Exit → Act → World → Prop} (hw : Region.wanted o (yielded ops a.tmps) = true) (s x : Operand)
    (ho : o.op = .call { callee := .builtin .append, args := #[s, x], argTypes := #[t, t] })
    (base : Nat) (v1 : Value) (l1 : List Int) (y : Int) (W : World) (hw1 : w = W.alloc (.cells #[.int .i64 y] e)) (hs : a.eval s = v1) (nb : Nat) (hnb : nb = W.heap.size) (hx : a.eval x = .slice (some ⟨nb, 0, none⟩) 1 1) (h1 : IRow e base W v1 l1) (hl : l1.length ≤ 1000000) (hB : base ≤ W.heap.size)
    (h : ∀ g cap w', IRow e base w' (.slice (some ⟨g, 0, none⟩) (l1.length + 1) cap) (l1 ++ [y]) → w.grownBy w' v1.ownBlock → (v1.ownBlock = some g ∨ W.heap.size < g) → wpList Tryz.prog ops Q rest (a.put o.dst (.slice (some ⟨g, 0, none⟩) (l1.length + 1) cap)) w') :
    wpList Tryz.prog ops Q (o :: rest) a w := by
  refine wpList_step fun K hK => ?_
  rw [if_pos hw]
  exact wp_append_int kk w s x ho base v1 l1 y W hw1 hs nb hnb hx h1 hl hB fun g cap w' k1 k2 k3 => hK _ _ (h g cap w' k1 k2 k3)

/-- What a slice of numbers shows. -/
def AtI (w : World) (a : Option Addr) (l : List Int) : Prop := ∀ (j : Nat) (x : Int), l[j]? = some x → ∃ b f, a = some ⟨b, f, none⟩ ∧ w.cell? ⟨b, f + j, none⟩ = some (.int .i64 x)
theorem AtI.kept {w w' : World} {a : Option Addr} {l : List Int} (h : AtI w a l) (t : Kept w w') : AtI w' a l := by
  intro j x hj
  obtain ⟨b, f, e, hc⟩ := h j x hj
  exact ⟨b, f, e, t.cell hc⟩
theorem turns_put {α : Type} [Inhabited α] (enc : α → Value) (w : World) (n g off : Nat) (d : Array α) : Turns (fun k => k = g) w (Sort.putRow enc (Sort.ahead w n) g off d) := by
  refine ⟨rfl, rfl, rfl, by simp [Sort.ahead], fun k _ hk => ?_⟩
  unfold Sort.putRow Sort.mapBlock
  show ((Sort.ahead w n).heap.modify g _)[k]? = _
  rw [Array.getElem?_modify, if_neg (fun e => hk e.symm)]
  rfl
theorem turns_grow {S : Nat → Prop} {w w1 : World} (h : Turns S w w1) (os : Array Obj) : Turns S w (Sort.grow w1 os) := by
  refine ⟨h.os, h.tape, h.output, by have := h.size; simp; omega, fun k hk hs => ?_⟩
  rw [← h.block k hk hs]
  show (w1.heap ++ os)[k]? = _
  rw [Array.getElem?_append_left (by have := h.size; omega)]
theorem holds_row {e : TypeId} {B : Nat} {w : World} {g c : Nat} {l : List Int} (h : IRow e B w (.slice (some ⟨g, 0, none⟩) l.length c) l) : Sort.Holds (Value.int .i64) w g 0 l.toArray := by
  intro j hj
  have hj2 : j < l.length := by simpa using hj
  rw [Nat.zero_add]
  refine ⟨?_, ?_⟩
  · rw [h.cell j l[j] (List.getElem?_eq_getElem hj2)]
    simp [hj2]
  · unfold IRow at h
    exact h.frozenAt j
end Go.Proofs.YtlkbphogpbcjfaaGreatDoor
