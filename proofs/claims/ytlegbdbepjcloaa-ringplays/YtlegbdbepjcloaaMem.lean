/- How a ring lies in memory (its channel's block), how the reference's does, and what a call may have turned. -/
import Derived.Test.YtlegbdbepjcloaaRows
import Derived.WalkKit
import Derived.WalkSpells
import Derived.WalkSmall
import Derived.WalkLawsBesides
import Derived.Deep.QuietTactic
import Derived.BigRegion
import Derived.BigQuiet
import Derived.Maps.AppendAt
import Derived.Lib.SliceRun
import Derived.Deep.RegionHeld3
import Derived.Deep.RegionLaw
import Derived.Conc.LoneCalls
import Derived.Conc.LoneSelect
import Derived.Conc.LoneSelectN
namespace Go.Proofs.Ytlegbdbepjcloaa
open Go.RowKit Go.Conc

/-- Of what was there nothing has turned but blocks of S. -/
structure Turns (S : Nat → Prop) (w w' : World) : Prop where
  os : w'.os = w.os
  tape : w'.tape = w.tape
  output : w'.output = w.output
  size : w.heap.size ≤ w'.heap.size
  block : ∀ k, k < w.heap.size → ¬ S k → w'.heap[k]? = w.heap[k]?

theorem Turns.refl (S : Nat → Prop) (w : World) : Turns S w w := ⟨rfl, rfl, rfl, Nat.le_refl _, fun _ _ _ => rfl⟩
theorem Turns.trans {S : Nat → Prop} {a b c : World} (h : Turns S a b) (k : Turns S b c) : Turns S a c :=
  ⟨k.os.trans h.os, k.tape.trans h.tape, k.output.trans h.output, Nat.le_trans h.size k.size, fun i hi hs => (k.block i (Nat.lt_of_lt_of_le hi h.size) hs).trans (h.block i hi hs)⟩
/-- A step more: what it turned of the old is within S. -/
theorem Turns.next {S T : Nat → Prop} {a b c : World} (h : Turns S a b) (k : Turns T b c) (hs : ∀ i, i < a.heap.size → T i → S i) : Turns S a c :=
  ⟨k.os.trans h.os, k.tape.trans h.tape, k.output.trans h.output, Nat.le_trans h.size k.size, fun i hi hn => (k.block i (Nat.lt_of_lt_of_le hi h.size) (fun x => hn (hs i hi x))).trans (h.block i hi hn)⟩
theorem Turns.mono {S T : Nat → Prop} {a b : World} (h : Turns S a b) (hs : ∀ k, k < a.heap.size → S k → T k) : Turns T a b :=
  ⟨h.os, h.tape, h.output, h.size, fun k hk hn => h.block k hk (fun x => hn (hs k hk x))⟩
theorem Turns.grown {S : Nat → Prop} {w w' : World} {row : Option Nat} (hg : w.grownBy w' row) (hr : ∀ k, row = some k → S k) : Turns S w w' :=
  ⟨hg.os, hg.tape, hg.output, hg.size, fun k hk hs => hg.block k hk (fun e => hs (hr k e.symm))⟩
theorem Turns.drewN {S : Nat → Prop} {a w : World} (h : Turns S a w) (n : Nat) : Turns S a (w.drewN n) := ⟨h.os, h.tape, h.output, h.size, h.block⟩
theorem Turns.drew {S : Nat → Prop} {a w : World} (h : Turns S a w) : Turns S a w.drew := ⟨h.os, h.tape, h.output, h.size, h.block⟩
theorem Turns.alloc {S : Nat → Prop} {a w : World} (h : Turns S a w) (o : Obj) : Turns S a (w.alloc o) :=
  h.trans ⟨rfl, rfl, rfl, by simp, fun k hk _ => Below.heap_alloc _ _ _ hk⟩
theorem Turns.setCell {S : Nat → Prop} {a w : World} (h : Turns S a w) {p : Addr} (hp : S p.block) (u : Value) : Turns S a (w.setCell p u) :=
  h.trans ⟨rfl, rfl, rfl, by simp [World.setCell], fun k _ hk => Below.heap_setCell _ _ _ _ (fun e => hk (e ▸ hp))⟩
theorem Turns.below {S : Nat → Prop} {w w' : World} {B : Nat} (h : Turns S w w') (hS : ∀ k, S k → B ≤ k) (hB : B ≤ w.heap.size) : Below B w w' :=
  ⟨h.os, h.tape, h.output, h.size, fun k hk => h.block k (by omega) (fun x => by have := hS k x; omega)⟩
theorem Turns.cell {S : Nat → Prop} {w w' : World} (t : Turns S w w') {p : Addr} {v : Value} (h : w.cell? p = some v) (hlt : p.block < w.heap.size) (hn : ¬ S p.block) : w'.cell? p = some v := by
  rw [World.cell?_of_block (w := w) (t.block p.block hlt hn)]; exact h
theorem cell_lt {w : World} {p : Addr} {v : Value} (h : w.cell? p = some v) : p.block < w.heap.size := by
  by_cases hlt : p.block < w.heap.size
  · exact hlt
  · have : w.heap[p.block]? = none := Array.getElem?_eq_none (by omega)
    simp [World.cell?, this] at h

/-- What is owned stays owned where its block has not turned. -/
theorem owns_turns {S : Nat → Prop} {w w' : World} {base : Nat} {e : TypeId} {size : Nat} {v : Value} {n : Nat} {xs : List Value} (h : w.ownsRow base e size v n xs) (t : Turns S w w') (hv : ∀ k, v.ownBlock = some k → ¬ S k) : w'.ownsRow base e size v n xs := by
  refine ⟨h.1, ?_⟩
  rcases h.2 with hn | ⟨g, cap, cur, rfl, hb, hgg, rest⟩
  · exact .inl hn
  · refine .inr ⟨g, cap, cur, rfl, hb, ?_, rest⟩
    rw [t.block g (Array.getElem?_eq_some_iff.1 hgg).1 (hv g rfl)]
    exact hgg
theorem own_form {w : World} {base : Nat} {e : TypeId} {size : Nat} {v : Value} {n : Nat} {xs : List Value} (h : w.ownsRow base e size v n xs) (hv : v ≠ .slice none 0 0) : ∃ g cap, v = .slice (some ⟨g, 0, none⟩) n cap := by
  rcases h.2 with ⟨h1, _⟩ | ⟨g, cap, cur, h1, _⟩
  · exact absurd h1 hv
  · exact ⟨g, cap, h1⟩
/-- A shorter slice of the same row. -/
theorem own_take {w : World} {base : Nat} {e : TypeId} {size g n cap r : Nat} {xs : List Value} (h : w.ownsRow base e size (.slice (some ⟨g, 0, none⟩) n cap) n xs) (hr : r ≤ n) : w.ownsRow base e size (.slice (some ⟨g, 0, none⟩) r cap) r (xs.take (r * size)) := by
  have hm : r * size ≤ n * size := Nat.mul_le_mul_right _ hr
  refine ⟨by rw [List.length_take, h.1]; omega, ?_⟩
  rcases h.2 with ⟨hn, _⟩ | ⟨g', cap', cur, he, hb, hgg, h1, h2, h3, h4⟩
  · cases hn
  · cases he
    refine .inr ⟨_, _, cur, rfl, hb, hgg, by omega, h2, h3, ?_⟩
    rw [← h4, List.take_take, Nat.min_eq_left hm]

def intV (n : Int) : Value := .int .i64 n

theorem Turns.setChan {S : Nat → Prop} {a w : World} (h : Turns S a w) {c : Nat} (hc : S c) (cap : Nat) (buf : Array Value) (cl : Bool) (s r : Nat) (tm : Bool) : Turns S a (w.setChan c cap buf cl s r tm) :=
  h.trans ⟨rfl, rfl, rfl, by simp [World.setChan], fun k _ hk => by
    have hne : c ≠ k := fun e => hk (e ▸ hc)
    simp only [World.setChan]
    rw [Array.getElem?_setIfInBounds_ne hne]⟩

/-- A ring in memory: rb its struct's block, c its channel's, room how many there may be, row those that are there. -/
structure RP (B : Nat) (w : World) (rb c room : Nat) (row : List Int) : Prop where
  hd : w.ownsRow B 46 1 (.slice (some ⟨rb, 0, none⟩) 1 1) 1 [.chan (some c)]
  ch : ∃ s r, w.heap[c]? = some (.chan room (row.map intV).toArray false s r false)
  cB : B ≤ c
  d : c ≠ rb
  len : row.length ≤ room
  most : room ≤ 16

/-- The blocks of a ring. -/
def RFoot (rb c : Nat) (k : Nat) : Prop := k = rb ∨ k = c

section
variable {B : Nat} {w w' : World} {rb c room : Nat} {row : List Int}
theorem RP.c_lt (h : RP B w rb c room row) : c < w.heap.size := by
  obtain ⟨s, r, h1⟩ := h.ch
  exact (Array.getElem?_eq_some_iff.1 h1).1
theorem RP.foot (h : RP B w rb c room row) : ∀ k, RFoot rb c k → B ≤ k ∧ k < w.heap.size := by
  intro k hk
  rcases hk with rfl | rfl
  · exact h.hd.lt _ rfl
  · exact ⟨h.cB, h.c_lt⟩
theorem RP.turns {S : Nat → Prop} (h : RP B w rb c room row) (t : Turns S w w') (hS : ∀ k, S k → ¬ RFoot rb c k) : RP B w' rb c room row := by
  refine ⟨owns_turns h.hd t (fun k hk hs => hS k hs (.inl (by simpa [Value.ownBlock] using hk.symm))), ?_, h.cB, h.d, h.len, h.most⟩
  obtain ⟨s, r, h1⟩ := h.ch
  exact ⟨s, r, (t.block c h.c_lt (fun x => hS c x (.inr rfl))).trans h1⟩
theorem RP.keep (h : RP B w rb c room row) (t : Turns (fun _ => False) w w') : RP B w' rb c room row := h.turns t (fun _ x => x.elim)
theorem RP.c0 (h : RP B w rb c room row) : w.cell? ⟨rb, 0, none⟩ = some (.chan (some c)) := by
  rw [h.hd.cellAt 0 (by omega)]; rfl
theorem RP.f0 (h : RP B w rb c room row) (j : Nat) : w.frozen? ⟨rb, j, none⟩ = false := h.hd.frozenAt j
theorem RP.rb_lt (h : RP B w rb c room row) : rb < w.heap.size := (h.foot rb (.inl rfl)).2
theorem RP.frame {w0 : World} (h : RP B w rb c room row) (hB : w0.heap.size ≤ B) (T : Turns (fun _ => False) w0 w) (t : Turns (fun k => k = c) w w') : Turns (fun _ => False) w0 w' :=
  T.next t (fun k hk hf => by have := (h.foot k (.inr hf)).1; omega)
theorem RP.drewN (h : RP B w rb c room row) (q : Nat) : RP B (w.drewN q) rb c room row := ⟨h.hd, h.ch, h.cB, h.d, h.len, h.most⟩
theorem RP.drew (h : RP B w rb c room row) : RP B w.drew rb c room row := ⟨h.hd, h.ch, h.cB, h.d, h.len, h.most⟩
/-- Behind a communication. -/
theorem RP.comm (h : RP B w rb c room row) (row' : List Int) (s r : Nat) (hl : row'.length ≤ room) : RP B (w.setChan c room (row'.map intV).toArray false s r false) rb c room row' := by
  refine ⟨owns_turns h.hd (Turns.setChan (S := fun k => k = c) (Turns.refl _ _) rfl _ _ _ _ _ _) ?_, ⟨s, r, heap_setChan _ _ _ _ _ _ _ _ h.c_lt⟩, h.cB, h.d, hl, h.most⟩
  intro k hk
  simp [Value.ownBlock] at hk
  subst hk
  exact fun e => h.d e.symm
end

/-- A row of numbers that the call owns. -/
def IntRow (B : Nat) (w : World) (v : Value) (l : List Int) : Prop := w.ownsRow B 2 1 v l.length (l.map intV)

theorem IntRow.sl {B : Nat} {w : World} {v : Value} {l : List Int} (h : IntRow B w v l) : ∃ a c, v = .slice a l.length c ∧ (∀ i, i < l.length → ∃ g, a = some ⟨g, 0, none⟩ ∧ ∀ j, j < l.length → w.cell? ⟨g, j, none⟩ = some (.int .i64 (l.getD j 0))) := by
  rcases h.2 with ⟨h1, h2⟩ | ⟨g, cap, cur, h1, _⟩
  · refine ⟨none, 0, by rw [h1, h2], ?_⟩
    intro i hi; omega
  · refine ⟨some ⟨g, 0, none⟩, cap, h1, ?_⟩
    intro i hi
    refine ⟨g, rfl, ?_⟩
    intro j hj
    have h' := h
    unfold IntRow at h'
    rw [h1] at h'
    rw [h'.cellAt j (by omega), List.getElem?_map]
    simp [hj, intV]
theorem IntRow.turns {B : Nat} {w w' : World} {v : Value} {l : List Int} {S : Nat → Prop} (h : IntRow B w v l) (t : Turns S w w') (hv : ∀ k, v.ownBlock = some k → ¬ S k) : IntRow B w' v l := owns_turns h t hv
theorem IntRow.keep {B : Nat} {w w' : World} {v : Value} {l : List Int} (h : IntRow B w v l) (t : Turns (fun _ => False) w w') : IntRow B w' v l := owns_turns h t (fun _ _ x => x)
theorem ints_ones (l : List Int) : ∀ u ∈ l.map intV, u.oneCell' = true := by
  intro u hu
  simp only [List.mem_map] at hu
  obtain ⟨e, _, rfl⟩ := hu
  rfl
theorem lit_ints (B : Nat) (w : World) (l : List Int) (hB : B ≤ w.heap.size) (hl : l.length ≤ maxLen) : IntRow B (w.alloc (.cells (l.map intV).toArray 2)) (.slice (some ⟨w.heap.size, 0, none⟩) l.length l.length) l := by
  unfold IntRow
  have := World.ownsRow_lit (base := B) (e := 2) (size := 1) w (l.map intV).toArray l.length hB hl (by simp)
  simpa using this
theorem drewN_add (w : World) (a b : Nat) : (w.drewN a).drewN b = w.drewN (a + b) := by simp [World.drewN, Nat.add_assoc]
theorem le_alloc {B : Nat} {w : World} (o : Obj) (h : B ≤ w.heap.size) : B ≤ (w.alloc o).heap.size := by
  have : (w.alloc o).heap.size = w.heap.size + 1 := by simp
  omega
end Go.Proofs.Ytlegbdbepjcloaa
