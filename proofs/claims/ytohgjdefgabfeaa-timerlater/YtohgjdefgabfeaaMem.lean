/- How a timer lies in memory, and what a call may have turned. -/
import Derived.Test.YtohgjdefgabfeaaRows
import Derived.Test.YtohgjdefgabfeaaPure
import Derived.WalkKit
import Derived.WalkSpells
import Derived.WalkSmall
import Derived.WalkLawsBesides
import Derived.Deep.QuietTactic
import Derived.BigRegion
import Derived.BigQuiet
import Derived.Maps.AppendAt
import Derived.Lib.SliceRun
import Derived.Deep.RegionHeld3
import Derived.Deep.RegionLaw
namespace Go.Proofs.Ytohgjdefgabfeaa
open Go.RowKit Tm

/-- Of what was there nothing has turned but blocks of S. -/
structure Turns (S : Nat → Prop) (w w' : World) : Prop where
  os : w'.os = w.os
  tape : w'.tape = w.tape
  output : w'.output = w.output
  size : w.heap.size ≤ w'.heap.size
  block : ∀ k, k < w.heap.size → ¬ S k → w'.heap[k]? = w.heap[k]?

theorem Turns.refl (S : Nat → Prop) (w : World) : Turns S w w := ⟨rfl, rfl, rfl, Nat.le_refl _, fun _ _ _ => rfl⟩
theorem Turns.trans {S : Nat → Prop} {a b c : World} (h : Turns S a b) (k : Turns S b c) : Turns S a c :=
  ⟨k.os.trans h.os, k.tape.trans h.tape, k.output.trans h.output, Nat.le_trans h.size k.size, fun i hi hs => (k.block i (Nat.lt_of_lt_of_le hi h.size) hs).trans (h.block i hi hs)⟩
/-- A step more: what it turned of the old is within S. -/
theorem Turns.next {S T : Nat → Prop} {a b c : World} (h : Turns S a b) (k : Turns T b c) (hs : ∀ i, i < a.heap.size → T i → S i) : Turns S a c :=
  ⟨k.os.trans h.os, k.tape.trans h.tape, k.output.trans h.output, Nat.le_trans h.size k.size, fun i hi hn => (k.block i (Nat.lt_of_lt_of_le hi h.size) (fun x => hn (hs i hi x))).trans (h.block i hi hn)⟩
theorem Turns.mono {S T : Nat → Prop} {a b : World} (h : Turns S a b) (hs : ∀ k, k < a.heap.size → S k → T k) : Turns T a b :=
  ⟨h.os, h.tape, h.output, h.size, fun k hk hn => h.block k hk (fun x => hn (hs k hk x))⟩
theorem Turns.grown {S : Nat → Prop} {w w' : World} {row : Option Nat} (hg : w.grownBy w' row) (hr : ∀ k, row = some k → S k) : Turns S w w' :=
  ⟨hg.os, hg.tape, hg.output, hg.size, fun k hk hs => hg.block k hk (fun e => hs (hr k e.symm))⟩
theorem Turns.drewN {S : Nat → Prop} {a w : World} (h : Turns S a w) (n : Nat) : Turns S a (w.drewN n) := ⟨h.os, h.tape, h.output, h.size, h.block⟩
theorem Turns.drew {S : Nat → Prop} {a w : World} (h : Turns S a w) : Turns S a w.drew := ⟨h.os, h.tape, h.output, h.size, h.block⟩
theorem Turns.alloc {S : Nat → Prop} {a w : World} (h : Turns S a w) (o : Obj) : Turns S a (w.alloc o) :=
  h.trans ⟨rfl, rfl, rfl, by simp, fun k hk _ => Below.heap_alloc _ _ _ hk⟩
theorem Turns.setCell {S : Nat → Prop} {a w : World} (h : Turns S a w) {p : Addr} (hp : S p.block) (u : Value) : Turns S a (w.setCell p u) :=
  h.trans ⟨rfl, rfl, rfl, by simp [World.setCell], fun k _ hk => Below.heap_setCell _ _ _ _ (fun e => hk (e ▸ hp))⟩
theorem Turns.below {S : Nat → Prop} {w w' : World} {B : Nat} (h : Turns S w w') (hS : ∀ k, S k → B ≤ k) (hB : B ≤ w.heap.size) : Below B w w' :=
  ⟨h.os, h.tape, h.output, h.size, fun k hk => h.block k (by omega) (fun x => by have := hS k x; omega)⟩
theorem Turns.cell {S : Nat → Prop} {w w' : World} (t : Turns S w w') {p : Addr} {v : Value} (h : w.cell? p = some v) (hlt : p.block < w.heap.size) (hn : ¬ S p.block) : w'.cell? p = some v := by
  rw [World.cell?_of_block (w := w) (t.block p.block hlt hn)]; exact h
theorem cell_lt {w : World} {p : Addr} {v : Value} (h : w.cell? p = some v) : p.block < w.heap.size := by
  by_cases hlt : p.block < w.heap.size
  · exact hlt
  · have : w.heap[p.block]? = none := Array.getElem?_eq_none (by omega)
    simp [World.cell?, this] at h

/-- What is owned stays owned where its block has not turned. -/
theorem owns_turns {S : Nat → Prop} {w w' : World} {base : Nat} {e : TypeId} {size : Nat} {v : Value} {n : Nat} {xs : List Value} (h : w.ownsRow base e size v n xs) (t : Turns S w w') (hv : ∀ k, v.ownBlock = some k → ¬ S k) : w'.ownsRow base e size v n xs := by
  refine ⟨h.1, ?_⟩
  rcases h.2 with hn | ⟨g, cap, cur, rfl, hb, hgg, rest⟩
  · exact .inl hn
  · refine .inr ⟨g, cap, cur, rfl, hb, ?_, rest⟩
    rw [t.block g (Array.getElem?_eq_some_iff.1 hgg).1 (hv g rfl)]
    exact hgg
theorem own_form {w : World} {base : Nat} {e : TypeId} {size : Nat} {v : Value} {n : Nat} {xs : List Value} (h : w.ownsRow base e size v n xs) (hv : v ≠ .slice none 0 0) : ∃ g cap, v = .slice (some ⟨g, 0, none⟩) n cap := by
  rcases h.2 with ⟨h1, _⟩ | ⟨g, cap, cur, h1, _⟩
  · exact absurd h1 hv
  · exact ⟨g, cap, h1⟩
/-- A shorter slice of the same row. -/
theorem own_take {w : World} {base : Nat} {e : TypeId} {size g n cap r : Nat} {xs : List Value} (h : w.ownsRow base e size (.slice (some ⟨g, 0, none⟩) n cap) n xs) (hr : r ≤ n) : w.ownsRow base e size (.slice (some ⟨g, 0, none⟩) r cap) r (xs.take (r * size)) := by
  have hm : r * size ≤ n * size := Nat.mul_le_mul_right _ hr
  refine ⟨by rw [List.length_take, h.1]; omega, ?_⟩
  rcases h.2 with ⟨hn, _⟩ | ⟨g', cap', cur, he, hb, hgg, h1, h2, h3, h4⟩
  · cases hn
  · cases he
    refine .inr ⟨_, _, cur, rfl, hb, hgg, by omega, h2, h3, ?_⟩
    rw [← h4, List.take_take, Nat.min_eq_left hm]

def duV (e : Du) : List Value := [.int .i64 e.id, .int .i64 e.left]
def flat (row : List Du) : List Value := row.flatMap duV

theorem flat_append (a b : List Du) : flat (a ++ b) = flat a ++ flat b := by simp [flat]
theorem flat_length (row : List Du) : (flat row).length = row.length * 2 := by
  induction row with
  | nil => rfl
  | cons x r ih => simp only [flat, List.flatMap_cons, List.length_append, List.length_cons] at *; simp [duV, ih]; omega
theorem flat_take (row : List Du) (r : Nat) : (flat row).take (r * 2) = flat (row.take r) := by
  induction row generalizing r with
  | nil => simp [flat]
  | cons x l ih =>
    cases r with
    | zero => simp [flat]
    | succ r =>
      have := ih r
      simp only [flat, List.flatMap_cons, List.take_succ_cons] at this ⊢
      rw [show (r + 1) * 2 = (duV x).length + r * 2 from by simp [duV]; omega, List.take_length_add_append, this]
theorem flat_get (row : List Du) : ∀ (i j : Nat), i < row.length → j < 2 → (flat row)[i * 2 + j]? = (duV (at' row i))[j]? := by
  induction row with
  | nil => intro i j h; simp at h
  | cons x r ih =>
    intro i j h hj
    simp only [flat, List.flatMap_cons]
    cases i with
    | zero =>
      rw [List.getElem?_append_left (by simp [duV]; omega)]
      simp [at']
    | succ i =>
      rw [List.getElem?_append_right (by simp [duV]; omega)]
      have := ih i j (by simpa using h) hj
      simp only [flat] at this
      rw [show (i + 1) * 2 + j - (duV x).length = i * 2 + j from by simp [duV]; omega, this]
      simp [at']
theorem flat_get' (row : List Du) (i j : Nat) (h : i < row.length) (hj : j < 2) : (flat row)[i * 2 + j]? = some ((duV (at' row i)).getD j (.bool false)) := by
  rw [flat_get row i j h hj, List.getD_eq_getElem?_getD]
  have : j < (duV (at' row i)).length := by simp [duV]; omega
  simp [this]
/-- A row with one entry changed: two cells. -/
theorem flat_set (row : List Du) (i : Nat) (x : Du) (h : i < row.length) :
    ((flat row).set (i * 2) (.int .i64 x.id)).set (i * 2 + 1) (.int .i64 x.left) = flat (row.set i x) := by
  induction row generalizing i with
  | nil => simp at h
  | cons y r ih =>
    cases i with
    | zero => simp [flat, duV]
    | succ i =>
      have := ih i (by simpa using h)
      simp only [flat, List.set_cons_succ, List.flatMap_cons] at this ⊢
      rw [← this]
      rw [List.set_append_right (h := by simp [duV]; omega), List.set_append_right (h := by simp [duV]; omega)]
      simp only [duV, List.length_cons, List.length_nil]
      rw [show (i + 1) * 2 - (0 + 1 + 1) = i * 2 from by omega, show (i + 1) * 2 + 1 - (0 + 1 + 1) = i * 2 + 1 from by omega]
theorem flat_one (row : List Du) : ∀ u ∈ flat row, u.oneCell' = true := by
  intro u hu
  simp only [flat, List.mem_flatMap] at hu
  obtain ⟨e, _, he⟩ := hu
  simp [duV] at he
  rcases he with rfl | rfl <;> rfl

/-- A timer in memory: e its entries' type, s its own. -/
structure TP (e s : TypeId) (B : Nat) (w : World) (tb : Nat) (rv : Value) (row : List Du) : Prop where
  own : w.ownsRow B e 2 rv row.length (flat row)
  hd : w.ownsRow B s 1 (.slice (some ⟨tb, 0, none⟩) 1 1) 1 [rv]
  d : rv.ownBlock ≠ some tb
  pos : Pos row
  len : row.length ≤ 1000

/-- The blocks of a timer. -/
def Foot (tb : Nat) (rv : Value) (k : Nat) : Prop := k = tb ∨ rv.ownBlock = some k

section
variable {e s : TypeId} {B : Nat} {w w' : World} {tb : Nat} {rv : Value} {row : List Du}
theorem TP.turns {S : Nat → Prop} (h : TP e s B w tb rv row) (t : Turns S w w') (hS : ∀ k, S k → ¬ Foot tb rv k) : TP e s B w' tb rv row :=
  ⟨owns_turns h.own t (fun k hk hs => hS k hs (.inr hk)), owns_turns h.hd t (fun k hk hs => hS k hs (.inl (by simpa [Value.ownBlock] using hk.symm))), h.d, h.pos, h.len⟩
theorem TP.keep (h : TP e s B w tb rv row) (t : Turns (fun _ => False) w w') : TP e s B w' tb rv row := h.turns t (fun _ x => x.elim)
theorem TP.foot (h : TP e s B w tb rv row) : ∀ k, Foot tb rv k → B ≤ k ∧ k < w.heap.size := by
  intro k hk
  rcases hk with rfl | hk
  · exact h.hd.lt _ rfl
  · exact h.own.lt _ hk
theorem TP.c0 (h : TP e s B w tb rv row) : w.cell? ⟨tb, 0, none⟩ = some rv := by
  rw [h.hd.cellAt 0 (by omega)]; rfl
theorem TP.f0 (h : TP e s B w tb rv row) (j : Nat) : w.frozen? ⟨tb, j, none⟩ = false := h.hd.frozenAt j
theorem TP.tb_lt (h : TP e s B w tb rv row) : tb < w.heap.size := (h.foot tb (.inl rfl)).2
theorem TP.form (h : TP e s B w tb rv row) : (rv = .slice none 0 0 ∧ row = []) ∨ ∃ g cap, rv = .slice (some ⟨g, 0, none⟩) row.length cap ∧ row.length ≤ cap ∧ tb ≠ g := by
  rcases h.own.2 with ⟨h1, h2⟩ | ⟨g, cap, cur, h1, _, _, h3, _⟩
  · exact .inl ⟨h1, by simpa using h2⟩
  · refine .inr ⟨g, cap, h1, h3, ?_⟩
    intro e; apply h.d; rw [h1, e]; rfl
theorem TP.sl (h : TP e s B w tb rv row) : ∃ a c, rv = .slice a row.length c := by
  rcases h.form with ⟨rfl, rfl⟩ | ⟨g, cap, rfl, _, _⟩
  · exact ⟨none, 0, rfl⟩
  · exact ⟨_, _, rfl⟩
theorem TP.frame {w0 : World} (h : TP e s B w tb rv row) (hB : w0.heap.size ≤ B) (T : Turns (fun _ => False) w0 w) (t : Turns (Foot tb rv) w w') : Turns (fun _ => False) w0 w' :=
  T.next t (fun k hk hf => by have := (h.foot k hf).1; omega)
theorem TP.drewN (h : TP e s B w tb rv row) (q : Nat) : TP e s B (w.drewN q) tb rv row := ⟨h.own, h.hd, h.d, h.pos, h.len⟩
theorem TP.drew (h : TP e s B w tb rv row) : TP e s B w.drew tb rv row := ⟨h.own, h.hd, h.d, h.pos, h.len⟩
theorem own_get {g n cap : Nat} (h : w.ownsRow B e 2 (.slice (some ⟨g, 0, none⟩) n cap) n (flat row)) (hn : n = row.length) (i : Nat) (hi : i < row.length) :
    w.cell? ⟨g, i * 2, none⟩ = some (.int .i64 (at' row i).id) ∧ w.cell? ⟨g, i * 2 + 1, none⟩ = some (.int .i64 (at' row i).left) := by
  subst hn
  refine ⟨?_, ?_⟩
  · rw [h.cellAt (i * 2) (by omega)]; exact flat_get' row i 0 hi (by omega)
  · rw [h.cellAt (i * 2 + 1) (by omega)]; exact flat_get' row i 1 hi (by omega)
/-- One entry stored. -/
theorem own_set {g n cap : Nat} (h : w.ownsRow B e 2 (.slice (some ⟨g, 0, none⟩) n cap) n (flat row)) (i : Nat) (hi : i < row.length) (x : Du) :
    ((w.setCell ⟨g, i * 2, none⟩ (.int .i64 x.id)).setCell ⟨g, i * 2 + 1, none⟩ (.int .i64 x.left)).ownsRow B e 2 (.slice (some ⟨g, 0, none⟩) n cap) n (flat (row.set i x)) := by
  rw [← flat_set row i x hi]
  exact ((h.stored (i * 2) _).1).stored (i * 2 + 1) _ |>.1
/-- Behind a store of the row into the timer. -/
theorem tp_store {S : Nat → Prop} {w1 : World} {v1 : Value} {row1 : List Du} (h : TP e s B w tb rv row) (t : Turns S w w1) (hS : ¬ S tb) (hr : w1.ownsRow B e 2 v1 row1.length (flat row1)) (hv : v1.ownBlock ≠ some tb) (hp : Pos row1) (hl : row1.length ≤ 1000) :
    w1.cell? ⟨tb, 0, none⟩ = some rv ∧ (∀ j, w1.frozen? ⟨tb, j, none⟩ = false) ∧ TP e s B (w1.setCell ⟨tb, 0, none⟩ v1) tb v1 row1 ∧ Turns (fun k => k = tb ∨ S k) w (w1.setCell ⟨tb, 0, none⟩ v1) := by
  have o2 := owns_turns h.hd t (fun k hk => by simp [Value.ownBlock] at hk; subst hk; exact hS)
  have s2 := (o2.stored 0 v1).1
  have t2 : Turns (fun k => k = tb) w1 (w1.setCell ⟨tb, 0, none⟩ v1) := Turns.setCell (S := fun k => k = tb) (Turns.refl _ _) rfl _
  refine ⟨by rw [o2.cellAt 0 (by omega)]; rfl, o2.frozenAt, ⟨owns_turns hr t2 (fun k hk e => hv (by rw [hk, e])), s2, hv, hp, hl⟩, (t.mono (fun _ _ h => .inr h)).trans (t2.mono (fun _ _ h => .inl h))⟩
end

def intV (n : Int) : Value := .int .i64 n

/-- A row of numbers that the call owns. -/
def IntRow (B : Nat) (w : World) (v : Value) (l : List Int) : Prop := w.ownsRow B 3 1 v l.length (l.map intV)

theorem IntRow.sl {B : Nat} {w : World} {v : Value} {l : List Int} (h : IntRow B w v l) : ∃ a c, v = .slice a l.length c ∧ (∀ i, i < l.length → ∃ g, a = some ⟨g, 0, none⟩ ∧ ∀ j, j < l.length → w.cell? ⟨g, j, none⟩ = some (.int .i64 (l.getD j 0))) := by
  rcases h.2 with ⟨h1, h2⟩ | ⟨g, cap, cur, h1, _⟩
  · refine ⟨none, 0, by rw [h1, h2], ?_⟩
    intro i hi; omega
  · refine ⟨some ⟨g, 0, none⟩, cap, h1, ?_⟩
    intro i hi
    refine ⟨g, rfl, ?_⟩
    intro j hj
    have h' := h
    unfold IntRow at h'
    rw [h1] at h'
    rw [h'.cellAt j (by omega), List.getElem?_map]
    simp [hj, intV]
theorem IntRow.turns {B : Nat} {w w' : World} {v : Value} {l : List Int} {S : Nat → Prop} (h : IntRow B w v l) (t : Turns S w w') (hv : ∀ k, v.ownBlock = some k → ¬ S k) : IntRow B w' v l := owns_turns h t hv
theorem IntRow.keep {B : Nat} {w w' : World} {v : Value} {l : List Int} (h : IntRow B w v l) (t : Turns (fun _ => False) w w') : IntRow B w' v l := owns_turns h t (fun _ _ x => x)
theorem ints_ones (l : List Int) : ∀ u ∈ l.map intV, u.oneCell' = true := by
  intro u hu
  simp only [List.mem_map] at hu
  obtain ⟨e, _, rfl⟩ := hu
  rfl
theorem lit_ints (B : Nat) (w : World) (l : List Int) (hB : B ≤ w.heap.size) (hl : l.length ≤ maxLen) : IntRow B (w.alloc (.cells (l.map intV).toArray 3)) (.slice (some ⟨w.heap.size, 0, none⟩) l.length l.length) l := by
  unfold IntRow
  have := World.ownsRow_lit (base := B) (e := 3) (size := 1) w (l.map intV).toArray l.length hB hl (by simp)
  simpa using this
theorem drewN_add (w : World) (a b : Nat) : (w.drewN a).drewN b = w.drewN (a + b) := by simp [World.drewN, Nat.add_assoc]
theorem le_alloc {B : Nat} {w : World} (o : Obj) (h : B ≤ w.heap.size) : B ≤ (w.alloc o).heap.size := by
  have : (w.alloc o).heap.size = w.heap.size + 1 := by simp
  omega
end Go.Proofs.Ytohgjdefgabfeaa
