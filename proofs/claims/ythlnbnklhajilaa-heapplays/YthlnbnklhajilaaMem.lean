/- How a heap lies in memory, and what a call may have turned. -/
import Derived.Test.YthlnbnklhajilaaLeaf
import Derived.Test.YthlnbnklhajilaaPure
namespace Go.Proofs.Ythlnbnklhajilaa
open Go.RowKit Hp

/-- Of what was there nothing has turned but blocks of S. -/
structure Turns (S : Nat → Prop) (w w' : World) : Prop where
  os : w'.os = w.os
  tape : w'.tape = w.tape
  output : w'.output = w.output
  size : w.heap.size ≤ w'.heap.size
  block : ∀ k, k < w.heap.size → ¬ S k → w'.heap[k]? = w.heap[k]?

theorem Turns.refl (S : Nat → Prop) (w : World) : Turns S w w := ⟨rfl, rfl, rfl, Nat.le_refl _, fun _ _ _ => rfl⟩
theorem Turns.trans {S : Nat → Prop} {a b c : World} (h : Turns S a b) (k : Turns S b c) : Turns S a c :=
  ⟨k.os.trans h.os, k.tape.trans h.tape, k.output.trans h.output, Nat.le_trans h.size k.size, fun i hi hs => (k.block i (Nat.lt_of_lt_of_le hi h.size) hs).trans (h.block i hi hs)⟩
/-- A step more: what it turned of the old is within S. -/
theorem Turns.next {S T : Nat → Prop} {a b c : World} (h : Turns S a b) (k : Turns T b c) (hs : ∀ i, i < a.heap.size → T i → S i) : Turns S a c :=
  ⟨k.os.trans h.os, k.tape.trans h.tape, k.output.trans h.output, Nat.le_trans h.size k.size, fun i hi hn => (k.block i (Nat.lt_of_lt_of_le hi h.size) (fun x => hn (hs i hi x))).trans (h.block i hi hn)⟩
theorem Turns.mono {S T : Nat → Prop} {a b : World} (h : Turns S a b) (hs : ∀ k, k < a.heap.size → S k → T k) : Turns T a b :=
  ⟨h.os, h.tape, h.output, h.size, fun k hk hn => h.block k hk (fun x => hn (hs k hk x))⟩
theorem Turns.grown {S : Nat → Prop} {w w' : World} {row : Option Nat} (hg : w.grownBy w' row) (hr : ∀ k, row = some k → S k) : Turns S w w' :=
  ⟨hg.os, hg.tape, hg.output, hg.size, fun k hk hs => hg.block k hk (fun e => hs (hr k e.symm))⟩
theorem Turns.drewN {S : Nat → Prop} {a w : World} (h : Turns S a w) (n : Nat) : Turns S a (w.drewN n) := ⟨h.os, h.tape, h.output, h.size, h.block⟩
theorem Turns.drew {S : Nat → Prop} {a w : World} (h : Turns S a w) : Turns S a w.drew := ⟨h.os, h.tape, h.output, h.size, h.block⟩
theorem Turns.alloc {S : Nat → Prop} {a w : World} (h : Turns S a w) (o : Obj) : Turns S a (w.alloc o) :=
  h.trans ⟨rfl, rfl, rfl, by simp, fun k hk _ => Below.heap_alloc _ _ _ hk⟩
theorem Turns.setCell {S : Nat → Prop} {a w : World} (h : Turns S a w) {p : Addr} (hp : S p.block) (u : Value) : Turns S a (w.setCell p u) :=
  h.trans ⟨rfl, rfl, rfl, by simp [World.setCell], fun k _ hk => Below.heap_setCell _ _ _ _ (fun e => hk (e ▸ hp))⟩
theorem Turns.below {S : Nat → Prop} {w w' : World} {B : Nat} (h : Turns S w w') (hS : ∀ k, S k → B ≤ k) (hB : B ≤ w.heap.size) : Below B w w' :=
  ⟨h.os, h.tape, h.output, h.size, fun k hk => h.block k (by omega) (fun x => by have := hS k x; omega)⟩

/-- What is owned stays owned where its block has not turned. -/
theorem owns_turns {S : Nat → Prop} {w w' : World} {base : Nat} {e : TypeId} {size : Nat} {v : Value} {n : Nat} {xs : List Value} (h : w.ownsRow base e size v n xs) (t : Turns S w w') (hv : ∀ k, v.ownBlock = some k → ¬ S k) : w'.ownsRow base e size v n xs := by
  refine ⟨h.1, ?_⟩
  rcases h.2 with hn | ⟨g, cap, cur, rfl, hb, hgg, rest⟩
  · exact .inl hn
  · refine .inr ⟨g, cap, cur, rfl, hb, ?_, rest⟩
    rw [t.block g (Array.getElem?_eq_some_iff.1 hgg).1 (hv g rfl)]
    exact hgg

def entV (e : Ent) : List Value := [.int .i64 e.id, .int .i64 e.prio, .int .i64 e.seq]
def flat (row : List Ent) : List Value := row.flatMap entV

theorem flat_length (row : List Ent) : (flat row).length = row.length * 3 := by
  induction row with
  | nil => rfl
  | cons x r ih => simp only [flat, List.flatMap_cons, List.length_append, List.length_cons] at *; simp [entV, ih]; omega

theorem flat_get (row : List Ent) : ∀ (i j : Nat), i < row.length → j < 3 → (flat row)[i * 3 + j]? = (entV (at' row i))[j]? := by
  induction row with
  | nil => intro i j h; simp at h
  | cons x r ih =>
    intro i j h hj
    simp only [flat, List.flatMap_cons]
    cases i with
    | zero =>
      rw [List.getElem?_append_left (by simp [entV]; omega)]
      simp [at']
    | succ i =>
      rw [List.getElem?_append_right (by simp [entV]; omega)]
      have := ih i j (by simpa using h) hj
      simp only [flat] at this
      rw [show (i + 1) * 3 + j - (entV x).length = i * 3 + j from by simp [entV]; omega, this]
      simp [at']

theorem flat_get' (row : List Ent) (i j : Nat) (h : i < row.length) (hj : j < 3) : (flat row)[i * 3 + j]? = some ((entV (at' row i)).getD j (.bool false)) := by
  rw [flat_get row i j h hj, List.getD_eq_getElem?_getD]
  have : j < (entV (at' row i)).length := by simp [entV]; omega
  simp [this]

/-- A row with one entry changed: three cells. -/
theorem flat_set (row : List Ent) (i : Nat) (x : Ent) (h : i < row.length) :
    (((flat row).set (i * 3) (.int .i64 x.id)).set (i * 3 + 1) (.int .i64 x.prio)).set (i * 3 + 2) (.int .i64 x.seq) = flat (row.set i x) := by
  induction row generalizing i with
  | nil => simp at h
  | cons y r ih =>
    cases i with
    | zero => simp [flat, entV]
    | succ i =>
      have := ih i (by simpa using h)
      simp only [flat, List.set_cons_succ, List.flatMap_cons] at this ⊢
      rw [← this]
      rw [List.set_append_right (h := by simp [entV]; omega), List.set_append_right (h := by simp [entV]; omega), List.set_append_right (h := by simp [entV]; omega)]
      simp only [entV, List.length_cons, List.length_nil]
      rw [show (i + 1) * 3 - (0 + 1 + 1 + 1) = i * 3 from by omega, show (i + 1) * 3 + 1 - (0 + 1 + 1 + 1) = i * 3 + 1 from by omega, show (i + 1) * 3 + 2 - (0 + 1 + 1 + 1) = i * 3 + 2 from by omega]

/-- A heap in memory. -/
structure HP (B : Nat) (w : World) (hb : Nat) (rv : Value) (ab ac most : Nat) (row : List Ent) : Prop where
  own : w.ownsRow B 62 3 rv row.length (flat row)
  ats : w.ownsRow B 3 1 (.slice (some ⟨ab, 0, none⟩) most ac) most ((atOf most row).map (Value.int .i64))
  hd : w.ownsRow B 60 2 (.slice (some ⟨hb, 0, none⟩) 1 1) 1 [rv, .slice (some ⟨ab, 0, none⟩) most ac]
  d1 : hb ≠ ab
  d2 : rv.ownBlock ≠ some hb
  d3 : rv.ownBlock ≠ some ab
  good : Hp.Good most row
  top : most ≤ 256
  len : row.length ≤ 256

/-- The blocks of a heap. -/
def Foot (hb : Nat) (rv : Value) (ab : Nat) (k : Nat) : Prop := k = hb ∨ k = ab ∨ rv.ownBlock = some k

theorem HP.turns {B : Nat} {w w' : World} {hb : Nat} {rv : Value} {ab ac most : Nat} {row : List Ent} {S : Nat → Prop} (h : HP B w hb rv ab ac most row) (t : Turns S w w') (hS : ∀ k, S k → ¬ Foot hb rv ab k) : HP B w' hb rv ab ac most row :=
  ⟨owns_turns h.own t (fun k hk hs => hS k hs (.inr (.inr hk))), owns_turns h.ats t (fun k hk hs => hS k hs (.inr (.inl (by simpa [Value.ownBlock] using hk.symm)))), owns_turns h.hd t (fun k hk hs => hS k hs (.inl (by simpa [Value.ownBlock] using hk.symm))), h.d1, h.d2, h.d3, h.good, h.top, h.len⟩

theorem HP.foot {B : Nat} {w : World} {hb : Nat} {rv : Value} {ab ac most : Nat} {row : List Ent} (h : HP B w hb rv ab ac most row) : ∀ k, Foot hb rv ab k → B ≤ k ∧ k < w.heap.size := by
  intro k hk
  rcases hk with rfl | rfl | hk
  · exact h.hd.lt _ rfl
  · exact h.ats.lt _ rfl
  · exact h.own.lt _ hk

theorem HP.c0 {B : Nat} {w : World} {hb : Nat} {rv : Value} {ab ac most : Nat} {row : List Ent} (h : HP B w hb rv ab ac most row) : w.cell? ⟨hb, 0, none⟩ = some rv := by
  rw [h.hd.cellAt 0 (by omega)]; rfl
theorem HP.c1 {B : Nat} {w : World} {hb : Nat} {rv : Value} {ab ac most : Nat} {row : List Ent} (h : HP B w hb rv ab ac most row) : w.cell? ⟨hb, 1, none⟩ = some (.slice (some ⟨ab, 0, none⟩) most ac) := by
  rw [h.hd.cellAt 1 (by omega)]; rfl
theorem HP.f0 {B : Nat} {w : World} {hb : Nat} {rv : Value} {ab ac most : Nat} {row : List Ent} (h : HP B w hb rv ab ac most row) (j : Nat) : w.frozen? ⟨hb, j, none⟩ = false := h.hd.frozenAt j
theorem HP.fa {B : Nat} {w : World} {hb : Nat} {rv : Value} {ab ac most : Nat} {row : List Ent} (h : HP B w hb rv ab ac most row) (j : Nat) : w.frozen? ⟨ab, j, none⟩ = false := h.ats.frozenAt j
theorem HP.at {B : Nat} {w : World} {hb : Nat} {rv : Value} {ab ac most : Nat} {row : List Ent} (h : HP B w hb rv ab ac most row) (j : Nat) (hj : j < most) : w.cell? ⟨ab, j, none⟩ = some (.int .i64 (place row j)) := by
  rw [h.ats.cellAt j (by omega), List.getElem?_map, atOf_get _ _ _ hj]; rfl

/-- The row's value, where there is one. -/
theorem HP.form {B : Nat} {w : World} {hb : Nat} {rv : Value} {ab ac most : Nat} {row : List Ent} (h : HP B w hb rv ab ac most row) : (rv = .slice none 0 0 ∧ row = []) ∨ ∃ g cap, rv = .slice (some ⟨g, 0, none⟩) row.length cap ∧ row.length ≤ cap ∧ hb ≠ g ∧ ab ≠ g := by
  rcases h.own.2 with ⟨h1, h2⟩ | ⟨g, cap, cur, h1, _, _, h3, _⟩
  · exact .inl ⟨h1, by simpa using h2⟩
  · refine .inr ⟨g, cap, h1, h3, ?_, ?_⟩
    · intro e; apply h.d2; rw [h1, e]; rfl
    · intro e; apply h.d3; rw [h1, e]; rfl

theorem own_get {B : Nat} {w : World} {g n cap : Nat} {row : List Ent} (h : w.ownsRow B 62 3 (.slice (some ⟨g, 0, none⟩) n cap) n (flat row)) (hn : n = row.length) (i : Nat) (hi : i < row.length) :
    w.cell? ⟨g, i * 3, none⟩ = some (.int .i64 (at' row i).id) ∧ w.cell? ⟨g, i * 3 + 1, none⟩ = some (.int .i64 (at' row i).prio) ∧ w.cell? ⟨g, i * 3 + 2, none⟩ = some (.int .i64 (at' row i).seq) := by
  subst hn
  refine ⟨?_, ?_, ?_⟩
  · rw [h.cellAt (i * 3) (by omega)]; exact flat_get' row i 0 hi (by omega)
  · rw [h.cellAt (i * 3 + 1) (by omega)]; exact flat_get' row i 1 hi (by omega)
  · rw [h.cellAt (i * 3 + 2) (by omega)]; exact flat_get' row i 2 hi (by omega)

/-- One entry stored. -/
theorem own_set {B : Nat} {w : World} {g n cap : Nat} {row : List Ent} (h : w.ownsRow B 62 3 (.slice (some ⟨g, 0, none⟩) n cap) n (flat row)) (i : Nat) (hi : i < row.length) (x : Ent) :
    (((w.setCell ⟨g, i * 3, none⟩ (.int .i64 x.id)).setCell ⟨g, i * 3 + 1, none⟩ (.int .i64 x.prio)).setCell ⟨g, i * 3 + 2, none⟩ (.int .i64 x.seq)).ownsRow B 62 3 (.slice (some ⟨g, 0, none⟩) n cap) n (flat (row.set i x)) := by
  rw [← flat_set row i x hi]
  exact (((h.stored (i * 3) _).1).stored (i * 3 + 1) _).1.stored (i * 3 + 2) _ |>.1

end Go.Proofs.Ythlnbnklhajilaa
