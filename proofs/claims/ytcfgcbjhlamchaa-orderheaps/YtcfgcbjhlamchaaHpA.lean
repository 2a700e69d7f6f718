/- Plain mathematics of a heap of entries in a row: exchange, rise, sink, and the places of ids. No program is named here. The leaves of package heap: known, Len, Has and ahead, each by its contract. How a heap lies in memory, and what a call may have turned. The exchange of two places of a heap, by its contract. rise: an entry goes up while it goes ahead of the one above it; by its contract. firstOf, sink and settle: an entry goes down while one of the two below goes ahead of it; by their contracts. Plain mathematics of a heap's order: rise, sink and settle keep the entries and bring them into a heap's order; who is at its head goes first. Has, find, Top and New of a heap, by their contracts. Plain mathematics of what Put, Set and Remove do to a heap's row. Put of a heap, by its contract. Set and Remove of a heap, by their contracts. Clone and Twin, by their contracts. Plain mathematics of a heap that is drained: all come out, the one that goes first ahead. Order of a heap, by its contract. -/
import Derived.Test.YtcfgcbjhlamchaaMem
import Derived.WalkKit
import Derived.WalkSpells
import Derived.WalkSmall
import Derived.Deep.QuietTactic
import Derived.BigRegion
import Derived.BigQuiet
import Derived.Deep.LoopGhost
import Derived.Deep.RegionWith
import Derived.Deep.RegionHeld3
import Derived.Deep.AppendLies
import Derived.WalkLawsBesides
import Derived.Maps.AppendAt
import Derived.Lib.SliceRun
namespace Go.Proofs.Ytcfgcbjhlamchaa.Hp

structure Ent where
  id : Int
  prio : Int
  seq : Int

def dflt : Ent := ⟨0, 0, 0⟩

/-- Goes x ahead of y? -/
def ahd (x y : Ent) : Bool := if x.prio ≠ y.prio then decide (y.prio < x.prio) else if x.seq ≠ y.seq then decide (x.seq < y.seq) else decide (x.id < y.id)

def at' (row : List Ent) (i : Nat) : Ent := row.getD i dflt

def swp (row : List Ent) (a b : Nat) : List Ent := (row.set a (at' row b)).set b (at' row a)

theorem swp_length (row : List Ent) (a b : Nat) : (swp row a b).length = row.length := by simp [swp]

theorem at_set (row : List Ent) (i j : Nat) (x : Ent) : at' (row.set i x) j = if i = j ∧ i < row.length then x else at' row j := by
  unfold at'
  simp only [List.getD_eq_getElem?_getD, List.getElem?_set]
  by_cases h : i = j
  · subst h
    by_cases h2 : i < row.length
    · simp [h2]
    · simp [h2]
  · simp [h]

theorem at_swp (row : List Ent) (a b j : Nat) (ha : a < row.length) (hb : b < row.length) : at' (swp row a b) j = if j = b then at' row a else if j = a then at' row b else at' row j := by
  unfold swp
  rw [at_set, at_set]
  simp only [List.length_set]
  by_cases h1 : j = b
  · subst h1; simp [hb]
  · by_cases h2 : j = a
    · subst h2; simp [h1, ha]; intro h; omega
    · simp [h1, h2]
      rw [if_neg (by omega), if_neg (by omega)]

/-- The place of id in the row plus 1; 0: it is not there. -/
def place (row : List Ent) (id : Nat) : Int := match row.findIdx? (fun x => x.id == (id : Int)) with
  | some i => (i : Int) + 1
  | none => 0

def atOf (most : Nat) (row : List Ent) : List Int := (List.range most).map (place row)

theorem atOf_length (most : Nat) (row : List Ent) : (atOf most row).length = most := by simp [atOf]

theorem atOf_get (most : Nat) (row : List Ent) (i : Nat) (h : i < most) : (atOf most row)[i]? = some (place row i) := by
  simp [atOf, h]

/-- Ids are unlike, each from 0 to most less 1. -/
structure Good (most : Nat) (row : List Ent) : Prop where
  lo : ∀ i, i < row.length → 0 ≤ (at' row i).id
  hi : ∀ i, i < row.length → (at' row i).id < (most : Int)
  nd : ∀ i j, i < row.length → j < row.length → (at' row i).id = (at' row j).id → i = j

theorem get_at (row : List Ent) (i : Nat) (h : i < row.length) : row[i] = at' row i := by
  simp [at', List.getD_eq_getElem?_getD, h]

theorem place_eq (row : List Ent) (most id i : Nat) (g : Good most row) (hi : i < row.length) (h : (at' row i).id = (id : Int)) : place row id = (i : Int) + 1 := by
  unfold place
  have : row.findIdx? (fun x => x.id == (id : Int)) = some i := by
    rw [List.findIdx?_eq_some_iff_getElem]
    refine ⟨hi, by rw [get_at row i hi]; simpa using h, ?_⟩
    intro j hj
    rw [get_at row j (by omega)]
    intro hc
    have := g.nd j i (by omega) hi (by rw [h]; simpa using hc)
    omega
  rw [this]

theorem place_none (row : List Ent) (id : Nat) (h : ∀ i, i < row.length → (at' row i).id ≠ (id : Int)) : place row id = 0 := by
  unfold place
  have : row.findIdx? (fun x => x.id == (id : Int)) = none := by
    rw [List.findIdx?_eq_none_iff]
    intro x hx
    obtain ⟨i, hi, rfl⟩ := List.getElem_of_mem hx
    rw [get_at row i hi]
    simpa using h i hi
  rw [this]

theorem place_cases (row : List Ent) (id : Nat) : (place row id = 0 ∧ ∀ i, i < row.length → (at' row i).id ≠ (id : Int)) ∨ (∃ i, i < row.length ∧ (at' row i).id = (id : Int) ∧ place row id = (i : Int) + 1) := by
  cases h : row.findIdx? (fun x => x.id == (id : Int)) with
  | none =>
    left
    refine ⟨by unfold place; rw [h], ?_⟩
    intro i hi
    rw [List.findIdx?_eq_none_iff] at h
    have := h (row[i]) (List.getElem_mem hi)
    rw [get_at row i hi] at this
    simpa using this
  | some i =>
    right
    rw [List.findIdx?_eq_some_iff_getElem] at h
    obtain ⟨hi, h1, h2⟩ := h
    refine ⟨i, hi, by rw [get_at row i hi] at h1; simpa using h1, ?_⟩
    unfold place
    have : row.findIdx? (fun x => x.id == (id : Int)) = some i := by
      rw [List.findIdx?_eq_some_iff_getElem]; exact ⟨hi, h1, h2⟩
    rw [this]

theorem good_swp {most : Nat} {row : List Ent} (g : Good most row) {a b : Nat} (ha : a < row.length) (hb : b < row.length) : Good most (swp row a b) := by
  have e := fun j => at_swp row a b j ha hb
  refine ⟨?_, ?_, ?_⟩
  · intro i hi
    rw [swp_length] at hi
    rw [e]
    split
    · exact g.lo a ha
    · split
      · exact g.lo b hb
      · exact g.lo i hi
  · intro i hi
    rw [swp_length] at hi
    rw [e]
    split
    · exact g.hi a ha
    · split
      · exact g.hi b hb
      · exact g.hi i hi
  · intro i j hi hj h
    rw [swp_length] at hi hj
    rw [e, e] at h
    have n1 := g.nd a b ha hb
    have n2 := g.nd a j ha hj
    have n3 := g.nd b j hb hj
    have n4 := g.nd i a hi ha
    have n5 := g.nd i b hi hb
    have n6 := g.nd i j hi hj
    have n7 := g.nd b a hb ha
    split at h <;> split at h <;> (try split at h) <;> (try split at h) <;> first
      | omega
      | (have := n1 h; omega)
      | (have := n2 h; omega)
      | (have := n3 h; omega)
      | (have := n4 h; omega)
      | (have := n5 h; omega)
      | (have := n6 h; omega)
      | (have := n7 h; omega)

theorem list_ext_int {l m : List Int} (hl : l.length = m.length) (h : ∀ i, i < l.length → l[i]? = m[i]?) : l = m := by
  apply List.ext_getElem?
  intro i
  by_cases hi : i < l.length
  · exact h i hi
  · rw [List.getElem?_eq_none (by omega), List.getElem?_eq_none (by omega)]

theorem atOf_swp {most : Nat} {row : List Ent} (g : Good most row) {a b : Nat} (ha : a < row.length) (hb : b < row.length) :
    atOf most (swp row a b) = ((atOf most row).set (at' row b).id.toNat ((a : Int) + 1)).set (at' row a).id.toNat ((b : Int) + 1) := by
  have g' := good_swp g ha hb
  have e := fun j => at_swp row a b j ha hb
  apply list_ext_int
  · simp [atOf_length]
  intro i hi
  rw [atOf_length] at hi
  rw [atOf_get _ _ _ hi]
  have a0 := g.lo a ha
  have a1 := g.hi a ha
  have b0 := g.lo b hb
  have b1 := g.hi b hb
  rw [List.getElem?_set, List.getElem?_set]
  simp only [List.length_set, atOf_length]
  by_cases h1 : (at' row a).id.toNat = i
  · rw [if_pos h1, if_pos (by omega)]
    congr 1
    apply place_eq (swp row a b) most i b g' (by rw [swp_length]; exact hb)
    rw [e, if_pos rfl]
    omega
  · rw [if_neg h1]
    by_cases h2 : (at' row b).id.toNat = i
    · rw [if_pos h2, if_pos (by omega)]
      congr 1
      apply place_eq (swp row a b) most i a g' (by rw [swp_length]; exact ha)
      rw [e]
      split
      · rename_i h; subst h; exact absurd h2 h1
      · rw [if_pos rfl]; omega
    · rw [if_neg h2, atOf_get _ _ _ hi]
      congr 1
      rcases place_cases row i with ⟨h0, hn⟩ | ⟨k, hk, hid, hp⟩
      · rw [h0]
        apply place_none
        intro j hj
        rw [swp_length] at hj
        rw [e]
        split
        · omega
        · split
          · omega
          · exact hn j hj
      · rw [hp]
        apply place_eq (swp row a b) most i k g' (by rw [swp_length]; exact hk)
        rw [e]
        split
        · rename_i h; subst h; omega
        · split
          · rename_i h; subst h; omega
          · exact hid

end Go.Proofs.Ytcfgcbjhlamchaa.Hp
namespace Go.Proofs.Ytcfgcbjhlamchaa
open Go.RowKit

/-- Is id one of 0 to most less 1? -/
def knB (most : Nat) (id : Int) : Bool := decide (0 ≤ id) && decide (id < (most : Int))

set_option maxHeartbeats 400000 in
theorem known_any (hb ab ac most : Nat) (id : Int) (w : World)
    (hc : w.cell? ⟨hb, 1, none⟩ = some (.slice (some ⟨ab, 0, none⟩) most ac)) :
    Calls Try.prog 31 #[.pointer (some ⟨hb, 0, none⟩), .int .i64 id] w fun e w' => e = .returned (.bool (knB most id)) ∧ w' = w := by
  by_cases h0 : 0 ≤ id
  · have hA : knB most id = decide (id < (most : Int)) := by simp [knB, h0]
    rw [hA]
    clear hA
    go_enter Try.func31, Try.ntmps31
    go_wp2
    go_ret
    exact ⟨rfl, rfl⟩
  · have hA : knB most id = false := by simp [knB, h0]
    rw [hA]
    clear hA
    have h1 : id < 0 := by omega
    clear h0
    go_enter Try.func31, Try.ntmps31
    go_wp2
    go_ret
    exact ⟨rfl, rfl⟩

set_option maxHeartbeats 400000 in
theorem len_any (hb n cap : Nat) (a : Option Addr) (w : World)
    (hc : w.cell? ⟨hb, 0, none⟩ = some (.slice a n cap)) :
    Calls Try.prog 35 #[.pointer (some ⟨hb, 0, none⟩)] w fun e w' => e = .returned (.int .i64 n) ∧ w' = w := by
  go_enter Try.func35, Try.ntmps35
  go_wp2
  go_ret
  exact ⟨rfl, rfl⟩

/-- Goes x ahead of y? -/
def ahB (x1 x2 x3 y1 y2 y3 : Int) : Bool := if x2 ≠ y2 then decide (y2 < x2) else if x3 ≠ y3 then decide (x3 < y3) else decide (x1 < y1)

set_option maxHeartbeats 400000 in
theorem ahead_any (x1 x2 x3 y1 y2 y3 : Int) (w : World) :
    Calls Try.prog 48 #[.agg #[.int .i64 x1, .int .i64 x2, .int .i64 x3], .agg #[.int .i64 y1, .int .i64 y2, .int .i64 y3]] w fun e w' => e = .returned (.bool (ahB x1 x2 x3 y1 y2 y3)) ∧
      w' = (w.alloc (.cells #[.int .i64 x1, .int .i64 x2, .int .i64 x3] 77)).alloc (.cells #[.int .i64 y1, .int .i64 y2, .int .i64 y3] 77) := by
  by_cases h2 : x2 = y2
  · subst h2
    by_cases h3 : x3 = y3
    · subst h3
      have g2 : (x2 != x2) = false := by simp
      have g3 : (x3 != x3) = false := by simp
      have hA : ahB x1 x2 x3 y1 x2 x3 = decide (x1 < y1) := by simp [ahB]
      rw [hA]
      clear hA
      go_enter Try.func48, Try.ntmps48
      go_wp2
      go_ret
      exact ⟨rfl, rfl⟩
    · have g2 : (x2 != x2) = false := by simp
      have g3 : (x3 != y3) = true := by simpa using h3
      have hA : ahB x1 x2 x3 y1 x2 y3 = decide (x3 < y3) := by simp [ahB, h3]
      rw [hA]
      clear hA h3
      go_enter Try.func48, Try.ntmps48
      go_wp2
      go_ret
      exact ⟨rfl, rfl⟩
  · have g2 : (x2 != y2) = true := by simpa using h2
    have hA : ahB x1 x2 x3 y1 y2 y3 = decide (y2 < x2) := by simp [ahB, h2]
    rw [hA]
    clear hA h2
    go_enter Try.func48, Try.ntmps48
    go_wp2
    go_ret
    exact ⟨rfl, rfl⟩
end Go.Proofs.Ytcfgcbjhlamchaa
namespace Go.Proofs.Ytcfgcbjhlamchaa
open Go.RowKit Hp

def entV (e : Ent) : List Value := [.int .i64 e.id, .int .i64 e.prio, .int .i64 e.seq]
def flat (row : List Ent) : List Value := row.flatMap entV

theorem flat_length (row : List Ent) : (flat row).length = row.length * 3 := by
  induction row with
  | nil => rfl
  | cons x r ih => simp only [flat, List.flatMap_cons, List.length_append, List.length_cons] at *; simp [entV, ih]; omega

theorem flat_get (row : List Ent) : ∀ (i j : Nat), i < row.length → j < 3 → (flat row)[i * 3 + j]? = (entV (at' row i))[j]? := by
  induction row with
  | nil => intro i j h; simp at h
  | cons x r ih =>
    intro i j h hj
    simp only [flat, List.flatMap_cons]
    cases i with
    | zero =>
      rw [List.getElem?_append_left (by simp [entV]; omega)]
      simp [at']
    | succ i =>
      rw [List.getElem?_append_right (by simp [entV]; omega)]
      have := ih i j (by simpa using h) hj
      simp only [flat] at this
      rw [show (i + 1) * 3 + j - (entV x).length = i * 3 + j from by simp [entV]; omega, this]
      simp [at']

theorem flat_get' (row : List Ent) (i j : Nat) (h : i < row.length) (hj : j < 3) : (flat row)[i * 3 + j]? = some ((entV (at' row i)).getD j (.bool false)) := by
  rw [flat_get row i j h hj, List.getD_eq_getElem?_getD]
  have : j < (entV (at' row i)).length := by simp [entV]; omega
  simp [this]

/-- A row with one entry changed: three cells. -/
theorem flat_set (row : List Ent) (i : Nat) (x : Ent) (h : i < row.length) :
    (((flat row).set (i * 3) (.int .i64 x.id)).set (i * 3 + 1) (.int .i64 x.prio)).set (i * 3 + 2) (.int .i64 x.seq) = flat (row.set i x) := by
  induction row generalizing i with
  | nil => simp at h
  | cons y r ih =>
    cases i with
    | zero => simp [flat, entV]
    | succ i =>
      have := ih i (by simpa using h)
      simp only [flat, List.set_cons_succ, List.flatMap_cons] at this ⊢
      rw [← this]
      rw [List.set_append_right (h := by simp [entV]; omega), List.set_append_right (h := by simp [entV]; omega), List.set_append_right (h := by simp [entV]; omega)]
      simp only [entV, List.length_cons, List.length_nil]
      rw [show (i + 1) * 3 - (0 + 1 + 1 + 1) = i * 3 from by omega, show (i + 1) * 3 + 1 - (0 + 1 + 1 + 1) = i * 3 + 1 from by omega, show (i + 1) * 3 + 2 - (0 + 1 + 1 + 1) = i * 3 + 2 from by omega]

/-- A heap in memory. -/
structure HP (B : Nat) (w : World) (hb : Nat) (rv : Value) (ab ac most : Nat) (row : List Ent) : Prop where
  own : w.ownsRow B 77 3 rv row.length (flat row)
  ats : w.ownsRow B 3 1 (.slice (some ⟨ab, 0, none⟩) most ac) most ((atOf most row).map (Value.int .i64))
  hd : w.ownsRow B 74 2 (.slice (some ⟨hb, 0, none⟩) 1 1) 1 [rv, .slice (some ⟨ab, 0, none⟩) most ac]
  d1 : hb ≠ ab
  d2 : rv.ownBlock ≠ some hb
  d3 : rv.ownBlock ≠ some ab
  good : Hp.Good most row
  top : most ≤ 256
  len : row.length ≤ 256

/-- The blocks of a heap. -/
def Foot (hb : Nat) (rv : Value) (ab : Nat) (k : Nat) : Prop := k = hb ∨ k = ab ∨ rv.ownBlock = some k

theorem HP.turns {B : Nat} {w w' : World} {hb : Nat} {rv : Value} {ab ac most : Nat} {row : List Ent} {S : Nat → Prop} (h : HP B w hb rv ab ac most row) (t : Turns S w w') (hS : ∀ k, S k → ¬ Foot hb rv ab k) : HP B w' hb rv ab ac most row :=
  ⟨owns_turns h.own t (fun k hk hs => hS k hs (.inr (.inr hk))), owns_turns h.ats t (fun k hk hs => hS k hs (.inr (.inl (by simpa [Value.ownBlock] using hk.symm)))), owns_turns h.hd t (fun k hk hs => hS k hs (.inl (by simpa [Value.ownBlock] using hk.symm))), h.d1, h.d2, h.d3, h.good, h.top, h.len⟩

theorem HP.foot {B : Nat} {w : World} {hb : Nat} {rv : Value} {ab ac most : Nat} {row : List Ent} (h : HP B w hb rv ab ac most row) : ∀ k, Foot hb rv ab k → B ≤ k ∧ k < w.heap.size := by
  intro k hk
  rcases hk with rfl | rfl | hk
  · exact h.hd.lt _ rfl
  · exact h.ats.lt _ rfl
  · exact h.own.lt _ hk

theorem HP.c0 {B : Nat} {w : World} {hb : Nat} {rv : Value} {ab ac most : Nat} {row : List Ent} (h : HP B w hb rv ab ac most row) : w.cell? ⟨hb, 0, none⟩ = some rv := by
  rw [h.hd.cellAt 0 (by omega)]; rfl
theorem HP.c1 {B : Nat} {w : World} {hb : Nat} {rv : Value} {ab ac most : Nat} {row : List Ent} (h : HP B w hb rv ab ac most row) : w.cell? ⟨hb, 1, none⟩ = some (.slice (some ⟨ab, 0, none⟩) most ac) := by
  rw [h.hd.cellAt 1 (by omega)]; rfl
theorem HP.f0 {B : Nat} {w : World} {hb : Nat} {rv : Value} {ab ac most : Nat} {row : List Ent} (h : HP B w hb rv ab ac most row) (j : Nat) : w.frozen? ⟨hb, j, none⟩ = false := h.hd.frozenAt j
theorem HP.fa {B : Nat} {w : World} {hb : Nat} {rv : Value} {ab ac most : Nat} {row : List Ent} (h : HP B w hb rv ab ac most row) (j : Nat) : w.frozen? ⟨ab, j, none⟩ = false := h.ats.frozenAt j
theorem HP.at {B : Nat} {w : World} {hb : Nat} {rv : Value} {ab ac most : Nat} {row : List Ent} (h : HP B w hb rv ab ac most row) (j : Nat) (hj : j < most) : w.cell? ⟨ab, j, none⟩ = some (.int .i64 (place row j)) := by
  rw [h.ats.cellAt j (by omega), List.getElem?_map, atOf_get _ _ _ hj]; rfl

/-- The row's value, where there is one. -/
theorem HP.form {B : Nat} {w : World} {hb : Nat} {rv : Value} {ab ac most : Nat} {row : List Ent} (h : HP B w hb rv ab ac most row) : (rv = .slice none 0 0 ∧ row = []) ∨ ∃ g cap, rv = .slice (some ⟨g, 0, none⟩) row.length cap ∧ row.length ≤ cap ∧ hb ≠ g ∧ ab ≠ g := by
  rcases h.own.2 with ⟨h1, h2⟩ | ⟨g, cap, cur, h1, _, _, h3, _⟩
  · exact .inl ⟨h1, by simpa using h2⟩
  · refine .inr ⟨g, cap, h1, h3, ?_, ?_⟩
    · intro e; apply h.d2; rw [h1, e]; rfl
    · intro e; apply h.d3; rw [h1, e]; rfl

theorem own_get {B : Nat} {w : World} {g n cap : Nat} {row : List Ent} (h : w.ownsRow B 77 3 (.slice (some ⟨g, 0, none⟩) n cap) n (flat row)) (hn : n = row.length) (i : Nat) (hi : i < row.length) :
    w.cell? ⟨g, i * 3, none⟩ = some (.int .i64 (at' row i).id) ∧ w.cell? ⟨g, i * 3 + 1, none⟩ = some (.int .i64 (at' row i).prio) ∧ w.cell? ⟨g, i * 3 + 2, none⟩ = some (.int .i64 (at' row i).seq) := by
  subst hn
  refine ⟨?_, ?_, ?_⟩
  · rw [h.cellAt (i * 3) (by omega)]; exact flat_get' row i 0 hi (by omega)
  · rw [h.cellAt (i * 3 + 1) (by omega)]; exact flat_get' row i 1 hi (by omega)
  · rw [h.cellAt (i * 3 + 2) (by omega)]; exact flat_get' row i 2 hi (by omega)

/-- One entry stored. -/
theorem own_set {B : Nat} {w : World} {g n cap : Nat} {row : List Ent} (h : w.ownsRow B 77 3 (.slice (some ⟨g, 0, none⟩) n cap) n (flat row)) (i : Nat) (hi : i < row.length) (x : Ent) :
    (((w.setCell ⟨g, i * 3, none⟩ (.int .i64 x.id)).setCell ⟨g, i * 3 + 1, none⟩ (.int .i64 x.prio)).setCell ⟨g, i * 3 + 2, none⟩ (.int .i64 x.seq)).ownsRow B 77 3 (.slice (some ⟨g, 0, none⟩) n cap) n (flat (row.set i x)) := by
  rw [← flat_set row i x hi]
  exact (((h.stored (i * 3) _).1).stored (i * 3 + 1) _).1.stored (i * 3 + 2) _ |>.1

end Go.Proofs.Ytcfgcbjhlamchaa
namespace Go.Proofs.Ytcfgcbjhlamchaa
open Go.RowKit Hp

/-- What swap leaves of the world, in cells. -/
def swapW (w : World) (g ab a b : Nat) (x y : Ent) : World :=
  ((((((((w.setCell ⟨g, a * 3, none⟩ (.int .i64 y.id)).setCell ⟨g, a * 3 + 1, none⟩ (.int .i64 y.prio)).setCell ⟨g, a * 3 + 2, none⟩ (.int .i64 y.seq)).setCell
    ⟨g, b * 3, none⟩ (.int .i64 x.id)).setCell ⟨g, b * 3 + 1, none⟩ (.int .i64 x.prio)).setCell ⟨g, b * 3 + 2, none⟩ (.int .i64 x.seq)).setCell
    ⟨ab, y.id.toNat, none⟩ (.int .i64 ((a : Int) + 1))).setCell ⟨ab, x.id.toNat, none⟩ (.int .i64 ((b : Int) + 1)))

/-- The first six stores. -/
def swapR (w : World) (g a b : Nat) (x y : Ent) : World :=
  (((((w.setCell ⟨g, a * 3, none⟩ (.int .i64 y.id)).setCell ⟨g, a * 3 + 1, none⟩ (.int .i64 y.prio)).setCell ⟨g, a * 3 + 2, none⟩ (.int .i64 y.seq)).setCell
    ⟨g, b * 3, none⟩ (.int .i64 x.id)).setCell ⟨g, b * 3 + 1, none⟩ (.int .i64 x.prio)).setCell ⟨g, b * 3 + 2, none⟩ (.int .i64 x.seq)

theorem swapW_eq (w : World) (g ab a b : Nat) (x y : Ent) : swapW w g ab a b x y = ((swapR w g a b x y).setCell ⟨ab, y.id.toNat, none⟩ (.int .i64 ((a : Int) + 1))).setCell ⟨ab, x.id.toNat, none⟩ (.int .i64 ((b : Int) + 1)) := rfl

theorem swapR_turns (w : World) (g a b : Nat) (x y : Ent) : Turns (fun k => k = g) w (swapR w g a b x y) :=
  Turns.setCell (S := fun k => k = g) (Turns.setCell (S := fun k => k = g) (Turns.setCell (S := fun k => k = g) (Turns.setCell (S := fun k => k = g) (Turns.setCell (S := fun k => k = g) (Turns.setCell (S := fun k => k = g) (Turns.refl _ w) rfl _) rfl _) rfl _) rfl _) rfl _) rfl _

theorem swapR_own {B : Nat} {w : World} {g n cap : Nat} {row : List Ent} (h : w.ownsRow B 77 3 (.slice (some ⟨g, 0, none⟩) n cap) n (flat row)) {a b : Nat} (ha : a < row.length) (hbl : b < row.length) :
    (swapR w g a b (at' row a) (at' row b)).ownsRow B 77 3 (.slice (some ⟨g, 0, none⟩) n cap) n (flat (swp row a b)) :=
  own_set (own_set h a ha (at' row b)) b (by simpa using hbl) (at' row a)

theorem swapW_turns (w : World) (g ab a b : Nat) (x y : Ent) : Turns (fun k => k = ab) (swapR w g a b x y) (swapW w g ab a b x y) := by
  rw [swapW_eq]
  exact Turns.setCell (S := fun k => k = ab) (Turns.setCell (S := fun k => k = ab) (Turns.refl _ _) rfl _) rfl _

theorem swap_hp {B : Nat} {w : World} {hb g cap ab ac most : Nat} {row : List Ent} {a b : Nat} (h : HP B w hb (.slice (some ⟨g, 0, none⟩) row.length cap) ab ac most row) (ha : a < row.length) (hbl : b < row.length) :
    HP B (swapW w g ab a b (at' row a) (at' row b)) hb (.slice (some ⟨g, 0, none⟩) row.length cap) ab ac most (swp row a b) ∧ Turns (fun k => k = ab ∨ k = g) w (swapW w g ab a b (at' row a) (at' row b)) := by
  have hg : hb ≠ g := fun e => h.d2 (by rw [e]; rfl)
  have hag : ab ≠ g := fun e => h.d3 (by rw [e]; rfl)
  have t1 := swapR_turns w g a b (at' row a) (at' row b)
  have t2 := swapW_turns w g ab a b (at' row a) (at' row b)
  have hT : Turns (fun k => k = ab ∨ k = g) w (swapW w g ab a b (at' row a) (at' row b)) :=
    (t1.mono (fun k _ h => Or.inr h)).trans (t2.mono (fun k _ h => Or.inl h))
  refine ⟨⟨?_, ?_, ?_, h.d1, h.d2, h.d3, good_swp h.good ha hbl, h.top, by rw [swp_length]; exact h.len⟩, hT⟩
  · rw [swp_length]
    exact owns_turns (swapR_own h.own ha hbl) t2 (fun k hk e => hag (by simp [Value.ownBlock] at hk; omega))
  · have o := owns_turns h.ats t1 (fun k hk e => hag (by simp [Value.ownBlock] at hk; omega))
    have o2 := ((o.stored (at' row b).id.toNat (.int .i64 ((a : Int) + 1))).1.stored (at' row a).id.toNat (.int .i64 ((b : Int) + 1))).1
    rw [atOf_swp h.good ha hbl, List.map_set, List.map_set]
    exact o2
  · exact owns_turns h.hd hT (fun k hk e => by simp [Value.ownBlock] at hk; have := h.d1; rcases e with e | e <;> omega)

set_option maxHeartbeats 4000000 in
set_option maxRecDepth 1000000 in
theorem swap_unlike (hb g ab ac n cap most : Nat) (a b : Nat) (w : World) (x y : Ent) (hn : n ≤ 256) (_hm : most ≤ 256) (han : a < n) (hbn : b < n) (hab : a ≠ b)
    (d1 : hb ≠ g) (d2 : hb ≠ ab) (d3 : ab ≠ g)
    (hr : w.cell? ⟨hb, 0, none⟩ = some (.slice (some ⟨g, 0, none⟩) n cap)) (_ha : w.cell? ⟨hb, 1, none⟩ = some (.slice (some ⟨ab, 0, none⟩) most ac))
    (c1 : w.cell? ⟨g, a * 3, none⟩ = some (.int .i64 x.id)) (c2 : w.cell? ⟨g, a * 3 + 1, none⟩ = some (.int .i64 x.prio)) (c3 : w.cell? ⟨g, a * 3 + 2, none⟩ = some (.int .i64 x.seq))
    (e1 : w.cell? ⟨g, b * 3, none⟩ = some (.int .i64 y.id)) (e2 : w.cell? ⟨g, b * 3 + 1, none⟩ = some (.int .i64 y.prio)) (e3 : w.cell? ⟨g, b * 3 + 2, none⟩ = some (.int .i64 y.seq))
    (fg : ∀ j, w.frozen? ⟨g, j, none⟩ = false)
    (x0 : 0 ≤ x.id) (x1 : x.id < most) (y0 : 0 ≤ y.id) (y1 : y.id < most) (u v : Value)
    (W1 : World) (hW1 : W1 = swapR w g a b x y)
    (gr : W1.cell? ⟨hb, 0, none⟩ = some (.slice (some ⟨g, 0, none⟩) n cap)) (ga : W1.cell? ⟨hb, 1, none⟩ = some (.slice (some ⟨ab, 0, none⟩) most ac))
    (gy : W1.cell? ⟨g, a * 3, none⟩ = some (.int .i64 y.id)) (_gx : W1.cell? ⟨g, b * 3, none⟩ = some (.int .i64 x.id))
    (_gu : W1.cell? ⟨ab, x.id.toNat, none⟩ = some u) (gv : W1.cell? ⟨ab, y.id.toNat, none⟩ = some v)
    (gf : ∀ j, W1.frozen? ⟨ab, j, none⟩ = false) 
    (W2 : World) (hW2 : W2 = W1.setCell ⟨ab, y.id.toNat, none⟩ (.int .i64 ((a : Int) + 1)))
    (kr : W2.cell? ⟨hb, 0, none⟩ = some (.slice (some ⟨g, 0, none⟩) n cap)) (ka : W2.cell? ⟨hb, 1, none⟩ = some (.slice (some ⟨ab, 0, none⟩) most ac))
    (kx : W2.cell? ⟨g, b * 3, none⟩ = some (.int .i64 x.id)) (ku : W2.cell? ⟨ab, x.id.toNat, none⟩ = some u)
    (kf : ∀ j, W2.frozen? ⟨ab, j, none⟩ = false) :
    Calls Try.prog 49 #[.pointer (some ⟨hb, 0, none⟩), .int .i64 a, .int .i64 b] w fun e w' => e = .returned (.tuple #[]) ∧ ∃ q, w' = (W2.setCell ⟨ab, x.id.toNat, none⟩ (.int .i64 ((b : Int) + 1))).drewN q := by
  have p1 : (a : Int) < (n : Int) := by omega
  have p2 : (b : Int) < (n : Int) := by omega
  have HW1 : Hid (W1 = swapR w g a b x y) := hW1
  have HW2 : Hid (W2 = W1.setCell ⟨ab, y.id.toNat, none⟩ (.int .i64 ((a : Int) + 1))) := hW2
  clear hW1 hW2
  go_enter Try.func49, Try.ntmps49
  go_wp2
  go_region
  go_wp2
  have hW1' := HW1.out
  unfold swapR at hW1'
  rw [← hW1']
  clear hW1' hr _ha c1 c2 c3 e1 e2 e3 fg
  go_region
  go_wp2
  rw [← HW2.out]
  clear gr ga gy _gx _gu gv gf
  go_region
  go_wp2
  go_end0
  exact ⟨rfl, 3, rfl⟩

set_option maxHeartbeats 4000000 in
set_option maxRecDepth 1000000 in
theorem swap_like (hb g ab ac n cap most : Nat) (a : Nat) (w : World) (x : Ent) (hn : n ≤ 256) (_hm : most ≤ 256) (han : a < n)
    (_d1 : hb ≠ g) (_d2 : hb ≠ ab) (_d3 : ab ≠ g)
    (hr : w.cell? ⟨hb, 0, none⟩ = some (.slice (some ⟨g, 0, none⟩) n cap)) (_ha : w.cell? ⟨hb, 1, none⟩ = some (.slice (some ⟨ab, 0, none⟩) most ac))
    (c1 : w.cell? ⟨g, a * 3, none⟩ = some (.int .i64 x.id)) (c2 : w.cell? ⟨g, a * 3 + 1, none⟩ = some (.int .i64 x.prio)) (c3 : w.cell? ⟨g, a * 3 + 2, none⟩ = some (.int .i64 x.seq))
    (fg : ∀ j, w.frozen? ⟨g, j, none⟩ = false)
    (x0 : 0 ≤ x.id) (x1 : x.id < most) (u : Value)
    (W1 : World) (hW1 : W1 = swapR w g a a x x)
    (gr : W1.cell? ⟨hb, 0, none⟩ = some (.slice (some ⟨g, 0, none⟩) n cap)) (ga : W1.cell? ⟨hb, 1, none⟩ = some (.slice (some ⟨ab, 0, none⟩) most ac))
    (gx : W1.cell? ⟨g, a * 3, none⟩ = some (.int .i64 x.id))
    (gu : W1.cell? ⟨ab, x.id.toNat, none⟩ = some u)
    (gf : ∀ j, W1.frozen? ⟨ab, j, none⟩ = false) 
    (W2 : World) (hW2 : W2 = W1.setCell ⟨ab, x.id.toNat, none⟩ (.int .i64 ((a : Int) + 1)))
    (kr : W2.cell? ⟨hb, 0, none⟩ = some (.slice (some ⟨g, 0, none⟩) n cap)) (ka : W2.cell? ⟨hb, 1, none⟩ = some (.slice (some ⟨ab, 0, none⟩) most ac))
    (kx : W2.cell? ⟨g, a * 3, none⟩ = some (.int .i64 x.id)) (ku : W2.cell? ⟨ab, x.id.toNat, none⟩ = some (.int .i64 ((a : Int) + 1)))
    (kf : ∀ j, W2.frozen? ⟨ab, j, none⟩ = false) :
    Calls Try.prog 49 #[.pointer (some ⟨hb, 0, none⟩), .int .i64 a, .int .i64 a] w fun e w' => e = .returned (.tuple #[]) ∧ ∃ q, w' = (W2.setCell ⟨ab, x.id.toNat, none⟩ (.int .i64 ((a : Int) + 1))).drewN q := by
  have p1 : (a : Int) < (n : Int) := by omega
  have HW1 : Hid (W1 = swapR w g a a x x) := hW1
  have HW2 : Hid (W2 = W1.setCell ⟨ab, x.id.toNat, none⟩ (.int .i64 ((a : Int) + 1))) := hW2
  clear hW1 hW2
  go_enter Try.func49, Try.ntmps49
  go_wp2
  go_region
  go_wp2
  have hW1' := HW1.out
  unfold swapR at hW1'
  rw [← hW1']
  clear hW1' hr _ha c1 c2 c3 fg
  go_region
  go_wp2
  rw [← HW2.out]
  clear gr ga gx gu gf
  go_region
  go_wp2
  go_end0
  exact ⟨rfl, 3, rfl⟩

theorem HP.drewN {B : Nat} {w : World} {hb : Nat} {rv : Value} {ab ac most : Nat} {row : List Ent} (h : HP B w hb rv ab ac most row) (q : Nat) : HP B (w.drewN q) hb rv ab ac most row := ⟨h.own, h.ats, h.hd, h.d1, h.d2, h.d3, h.good, h.top, h.len⟩

theorem swap_any {B : Nat} {w : World} {hb g cap ab ac most : Nat} {row : List Ent} {a b : Nat} (h : HP B w hb (.slice (some ⟨g, 0, none⟩) row.length cap) ab ac most row) (ha : a < row.length) (hbl : b < row.length) :
    Calls Try.prog 49 #[.pointer (some ⟨hb, 0, none⟩), .int .i64 a, .int .i64 b] w fun e w' => e = .returned (.tuple #[]) ∧
      HP B w' hb (.slice (some ⟨g, 0, none⟩) row.length cap) ab ac most (swp row a b) ∧ Turns (fun k => k = ab ∨ k = g) w w' := by
  have hg : hb ≠ g := fun e => h.d2 (by rw [e]; rfl)
  have hag : ab ≠ g := fun e => h.d3 (by rw [e]; rfl)
  have hfin := swap_hp h ha hbl
  have t1 := swapR_turns w g a b (at' row a) (at' row b)
  have o1 := swapR_own h.own ha hbl
  have o2 := owns_turns h.hd t1 (fun k hk e => hg (by simp [Value.ownBlock] at hk; omega))
  have o3 := owns_turns h.ats t1 (fun k hk e => hag (by simp [Value.ownBlock] at hk; omega))
  have t2 : Turns (fun k => k = ab) (swapR w g a b (at' row a) (at' row b)) ((swapR w g a b (at' row a) (at' row b)).setCell ⟨ab, (at' row b).id.toNat, none⟩ (.int .i64 ((a : Int) + 1))) :=
    Turns.setCell (S := fun k => k = ab) (Turns.refl _ _) rfl _
  have q1 := owns_turns o1 t2 (fun k hk e => hag (by simp [Value.ownBlock] at hk; omega))
  have q2 := owns_turns o2 t2 (fun k hk e => h.d1 (by simp [Value.ownBlock] at hk; omega))
  have q3 := (o3.stored (at' row b).id.toNat (.int .i64 ((a : Int) + 1))).1
  have ga := own_get h.own rfl a ha
  have gb := own_get h.own rfl b hbl
  have xa := own_get o1 (by rw [swp_length]) a (by rw [swp_length]; exact ha)
  have xb := own_get o1 (by rw [swp_length]) b (by rw [swp_length]; exact hbl)
  have yb := own_get q1 (by rw [swp_length]) b (by rw [swp_length]; exact hbl)
  have ea : at' (swp row a b) a = at' row b := by rw [at_swp row a b a ha hbl]; split <;> simp_all
  have eb : at' (swp row a b) b = at' row a := by rw [at_swp row a b b ha hbl, if_pos rfl]
  rw [ea] at xa
  rw [eb] at xb yb
  have la := h.good.lo a ha
  have ua := h.good.hi a ha
  have lb := h.good.lo b hbl
  have ub := h.good.hi b hbl
  have cellAb : ∀ j, j < most → ∃ u, (swapR w g a b (at' row a) (at' row b)).cell? ⟨ab, j, none⟩ = some u := by
    intro j hj
    rw [o3.cellAt j (by omega), List.getElem?_map, atOf_get _ _ _ hj]
    exact ⟨_, rfl⟩
  have hl := h.len
  have ht := h.top
  obtain ⟨u, hu⟩ := cellAb (at' row a).id.toNat (by omega)
  obtain ⟨v, hv⟩ := cellAb (at' row b).id.toNat (by omega)
  by_cases hab : a = b
  · subst hab
    refine (swap_like hb g ab ac row.length cap most a w (at' row a) h.len h.top ha hg h.d1 hag h.c0 h.c1 ga.1 ga.2.1 ga.2.2 h.own.frozenAt la ua u
      (swapR w g a a (at' row a) (at' row a)) rfl (by rw [o2.cellAt 0 (by omega)]; rfl) (by rw [o2.cellAt 1 (by omega)]; rfl) xa.1 hu o3.frozenAt
      _ rfl (by rw [q2.cellAt 0 (by omega)]; rfl) (by rw [q2.cellAt 1 (by omega)]; rfl) yb.1 (World.cell?_setCell_same _ _ _ hu) q3.frozenAt).mono ?_
    rintro e w' ⟨rfl, q, rfl⟩
    exact ⟨rfl, hfin.1.drewN q, hfin.2.drewN q⟩
  · have hne : (at' row a).id.toNat ≠ (at' row b).id.toNat := by
      intro e
      exact hab (h.good.nd a b ha hbl (by omega))
    refine (swap_unlike hb g ab ac row.length cap most a b w (at' row a) (at' row b) h.len h.top ha hbl hab hg h.d1 hag h.c0 h.c1 ga.1 ga.2.1 ga.2.2 gb.1 gb.2.1 gb.2.2 h.own.frozenAt la ua lb ub u v
      (swapR w g a b (at' row a) (at' row b)) rfl (by rw [o2.cellAt 0 (by omega)]; rfl) (by rw [o2.cellAt 1 (by omega)]; rfl) xa.1 xb.1 hu hv o3.frozenAt
      _ rfl (by rw [q2.cellAt 0 (by omega)]; rfl) (by rw [q2.cellAt 1 (by omega)]; rfl) yb.1 (by rw [World.cell?_setCell_other _ _ _ _ (by intro e; simp only [Addr.mk.injEq] at e; omega)]; exact hu) q3.frozenAt).mono ?_
    rintro e w' ⟨rfl, q, rfl⟩
    exact ⟨rfl, hfin.1.drewN q, hfin.2.drewN q⟩
end Go.Proofs.Ytcfgcbjhlamchaa
namespace Go.Proofs.Ytcfgcbjhlamchaa
open Go.RowKit Hp

namespace Hp
def rise : Nat → List Ent → Nat → List Ent
  | 0, row, _ => row
  | f + 1, row, p => if p = 0 then row else if ahd (at' row p) (at' row ((p - 1) / 2)) then rise f (swp row p ((p - 1) / 2)) ((p - 1) / 2) else row
end Hp

theorem ahd_eq (x y : Ent) : ahd x y = ahB x.id x.prio x.seq y.id y.prio y.seq := rfl

set_option maxHeartbeats 1000000 in
theorem rise_any {B : Nat} {w : World} {hb g cap ab ac most : Nat} {row : List Ent} {p : Nat} (h : HP B w hb (.slice (some ⟨g, 0, none⟩) row.length cap) ab ac most row) (hp : p < row.length) :
    Calls Try.prog 33 #[.pointer (some ⟨hb, 0, none⟩), .int .i64 p] w fun e w' => e = .returned (.tuple #[]) ∧
      HP B w' hb (.slice (some ⟨g, 0, none⟩) row.length cap) ab ac most (rise p row p) ∧ Turns (fun k => k = ab ∨ k = g) w w' := by
  have hl := h.len
  go_enter Try.func33, Try.ntmps33
  go_wp2
  go_step3
  go_wp2
  go_step3
  go_wp2
  go_loopw [1] (fun i wr => ∃ (k f : Nat) (rk : List Ent), i = .int .i64 k ∧ k < rk.length ∧ Hid (rk.length = row.length) ∧ k ≤ f ∧ Hid (rise p row p = rise f rk k) ∧
      HP B wr hb (.slice (some ⟨g, 0, none⟩) rk.length cap) ab ac most rk ∧ Turns (fun k => k = ab ∨ k = g) w wr)
    (fun i _ => (intOf i).toNat)
  case atStart => exact ⟨p, p, row, rfl, hp, rfl, Nat.le_refl _, rfl, h, Turns.refl _ _⟩
  case round =>
    obtain ⟨k, f, rk, rfl, hk, HL, hkf, HE, hh, hT⟩ := hrel
    clear h hl hp
    have hl := hh.len
    by_cases hk0 : k = 0
    · subst hk0
      go_wp2
      rw [Exit.noGoto_normal]
      go_end0
      rw [HE.out, ← HL.out]
      exact ⟨rfl, by cases f <;> exact hh, hT⟩
    · have hc0 := hh.c0
      obtain ⟨a, ha1, ha2⟩ : ∃ a : Nat, ((k : Int) - 1) / 2 = (a : Int) ∧ (k - 1) / 2 = a := ⟨(k - 1) / 2, by omega, rfl⟩
      obtain ⟨x, hx⟩ : ∃ x, at' rk k = x := ⟨_, rfl⟩
      obtain ⟨y, hy⟩ : ∃ y, at' rk a = y := ⟨_, rfl⟩
      have gx := own_get hh.own rfl k (by omega)
      have gy := own_get hh.own rfl a (by omega)
      have hak : a < k := by omega
      have hstep : rise f rk k = if ahd x y then rise (f - 1) (swp rk k a) a else rk := by
        obtain ⟨f', rfl⟩ : ∃ f', f = f' + 1 := ⟨f - 1, by omega⟩
        simp only [rise, Nat.add_sub_cancel]
        rw [if_neg hk0, ha2, hx, hy]
      have HS : Hid (rise f rk k = if ahd x y then rise (f - 1) (swp rk k a) a else rk) := hstep
      clear hstep
      rw [hx] at gx
      rw [hy] at gy
      obtain ⟨x1, x2, x3⟩ := gx
      obtain ⟨y1, y2, y3⟩ := gy
      clear hx hy ha2
      have hk1 : (0 : Int) < (k : Int) := by omega
      have b1 : (k : Int) < (rk.length : Int) := by omega
      have b2 : (a : Int) < (rk.length : Int) := by omega
      have b3 : (0 : Int) ≤ (k : Int) := by omega
      have b4 : (0 : Int) ≤ (a : Int) := by omega
      cases hA : ahd x y
      · have HA : Hid (ahd x y = false) := hA
        rw [ahd_eq] at hA
        go_wp2_with fail
        go_region_held3 (fun w' => w'.cell? ⟨hb, 0, none⟩ = some (.slice (some ⟨g, 0, none⟩) rk.length cap) ∧ w'.cell? ⟨g, k * 3, none⟩ = some (.int .i64 x.id) ∧ w'.cell? ⟨g, k * 3 + 1, none⟩ = some (.int .i64 x.prio) ∧ w'.cell? ⟨g, k * 3 + 2, none⟩ = some (.int .i64 x.seq) ∧
          w'.cell? ⟨g, a * 3, none⟩ = some (.int .i64 y.id) ∧ w'.cell? ⟨g, a * 3 + 1, none⟩ = some (.int .i64 y.prio) ∧ w'.cell? ⟨g, a * 3 + 2, none⟩ = some (.int .i64 y.seq)) (go_keep)
          (first | (go_at_call 48; refine (ahead_any _ _ _ _ _ _ _).mono ?_; rintro e w' ⟨rfl, rfl⟩))
        go_wp2_with fail
        rw [Exit.noGoto_normal]
        go_end0
        rw [HE.out, HS.out, HA.out, ← HL.out]
        exact ⟨rfl, hh.turns (S := fun _ => False) (((Turns.refl _ _).alloc _).alloc _).drew (fun _ h => h.elim), ((hT.alloc _).alloc _).drew⟩
      · have HA : Hid (ahd x y = true) := hA
        rw [ahd_eq] at hA
        go_wp2_with fail
        go_region_held3 (fun w' => w'.cell? ⟨hb, 0, none⟩ = some (.slice (some ⟨g, 0, none⟩) rk.length cap) ∧ w'.cell? ⟨g, k * 3, none⟩ = some (.int .i64 x.id) ∧ w'.cell? ⟨g, k * 3 + 1, none⟩ = some (.int .i64 x.prio) ∧ w'.cell? ⟨g, k * 3 + 2, none⟩ = some (.int .i64 x.seq) ∧
          w'.cell? ⟨g, a * 3, none⟩ = some (.int .i64 y.id) ∧ w'.cell? ⟨g, a * 3 + 1, none⟩ = some (.int .i64 y.prio) ∧ w'.cell? ⟨g, a * 3 + 2, none⟩ = some (.int .i64 y.seq)) (go_keep)
          (first | (go_at_call 48; refine (ahead_any _ _ _ _ _ _ _).mono ?_; rintro e w' ⟨rfl, rfl⟩))
        go_wp2_with fail
        refine (swap_any (B := B) (g := g) (cap := cap) (ab := ab) (ac := ac) (most := most) (row := rk) (a := k) (b := a) ?_ hk (by omega)).mono ?_
        · exact hh.turns (S := fun _ => False) (((Turns.refl _ _).alloc _).alloc _).drew (fun _ h => h.elim)
        rintro e w1 ⟨rfl, h1, t1⟩
        go_wp2_with fail
        go_roundw
        case rel =>
          refine ⟨a, f - 1, swp rk k a, rfl, by rw [swp_length]; omega, by rw [swp_length]; exact HL.out, by omega, ?_, by rw [swp_length]; exact h1, ((hT.alloc _).alloc _).drew.trans t1⟩
          show _ = _
          rw [HE.out, HS.out, HA.out, if_pos rfl]
        case measure => simp [intOf]; omega
end Go.Proofs.Ytcfgcbjhlamchaa
namespace Go.Proofs.Ytcfgcbjhlamchaa
open Go.RowKit Hp

namespace Hp
/-- Behind j looks: the place of the one that goes first, of that at p and j of the two below it. -/
def firstTo (row : List Ent) (p : Nat) : Nat → Nat
  | 0 => p
  | j + 1 => if 2 * p + 1 + j < row.length ∧ ahd (at' row (2 * p + 1 + j)) (at' row (firstTo row p j)) = true then 2 * p + 1 + j else firstTo row p j

def sink : Nat → List Ent → Nat → List Ent
  | 0, row, _ => row
  | f + 1, row, p => if firstTo row p 2 = p then row else sink f (swp row p (firstTo row p 2)) (firstTo row p 2)

theorem firstTo_lt (row : List Ent) (p : Nat) (hp : p < row.length) : ∀ j, firstTo row p j < row.length
  | 0 => hp
  | j + 1 => by
    unfold firstTo
    split
    · rename_i h; exact h.1
    · exact firstTo_lt row p hp j

theorem firstTo_2 (row : List Ent) (p : Nat) (j : Nat) (hj : j ≤ 2) (h : row.length ≤ 2 * p + 1 + j) : firstTo row p 2 = firstTo row p j := by
  match j, hj with
  | 0, _ =>
    unfold firstTo
    rw [if_neg (by omega)]
    unfold firstTo
    rw [if_neg (by omega)]
    rfl
  | 1, _ =>
    rw [firstTo]
    rw [if_neg (by omega)]
  | 2, _ => rfl

theorem firstTo_or (row : List Ent) (p : Nat) : firstTo row p 2 = p ∨ firstTo row p 2 = 2 * p + 1 ∨ firstTo row p 2 = 2 * p + 2 := by
  rw [firstTo]
  split
  · omega
  · rw [firstTo]
    split
    · omega
    · left; rfl
end Hp

set_option maxHeartbeats 1000000 in
theorem firstOf_any {B : Nat} {w : World} {hb g cap ab ac most : Nat} {row : List Ent} {p : Nat} (h : HP B w hb (.slice (some ⟨g, 0, none⟩) row.length cap) ab ac most row) (hp : p < row.length) :
    Calls Try.prog 77 #[.pointer (some ⟨hb, 0, none⟩), .int .i64 p] w fun e w' => e = .returned (.int .i64 (firstTo row p 2)) ∧ Turns (fun _ => False) w w' := by
  have hl := h.len
  go_enter Try.func77, Try.ntmps77
  go_wp2
  go_step3
  go_wp2
  go_step3
  go_wp2
  go_loopw [5, 6] (fun f b wr => ∃ (j c q : Nat), f = .int .i64 q ∧ b = .int .i64 c ∧ j ≤ 2 ∧ Hid (c = 2 * p + 1 + j) ∧ q < row.length ∧ Hid (q = firstTo row p j) ∧ Turns (fun _ => False) w wr)
    (fun _ b _ => 2 * p + 3 - (intOf b).toNat)
  case atStart => exact ⟨0, 2 * p + 1, p, rfl, by go_num, by omega, rfl, hp, rfl, Turns.refl _ _⟩
  case round =>
    obtain ⟨j, c, q, rfl, rfl, hj, HC, hq, HQ, hT⟩ := hrel
    have hh := h.turns hT (fun _ h => h.elim)
    clear h
    have hc0 := hh.c0
    have hC := HC.out
    by_cases hc : 2 * p + 2 < c
    · have hj2 : j = 2 := by omega
      have HF : Hid (q = firstTo row p 2) := by rw [← hj2]; exact HQ
      have hc' : 2 * (p : Int) + 2 < (c : Int) := by omega
      clear hC hj2 hc
      go_wp2
      rw [Exit.noGoto_ret]
      go_ret
      rw [← HF.out]
      exact ⟨rfl, hT⟩
    · by_cases hcl : c < row.length
      · obtain ⟨x, hx⟩ : ∃ x, at' row c = x := ⟨_, rfl⟩
        obtain ⟨y, hy⟩ : ∃ y, at' row q = y := ⟨_, rfl⟩
        have gx := own_get hh.own rfl c hcl
        have gy := own_get hh.own rfl q hq
        have HS : Hid (firstTo row p (j + 1) = if ahd x y = true then c else q) := by
          show _ = _
          rw [firstTo, ← hC, ← HQ.out, hx, hy]
          simp [hcl]
        have hj1 : j + 1 ≤ 2 := by omega
        have HC2 : Hid (c + 1 = 2 * p + 1 + (j + 1)) := by show _ = _; omega
        rw [hx] at gx
        rw [hy] at gy
        obtain ⟨x1, x2, x3⟩ := gx
        obtain ⟨y1, y2, y3⟩ := gy
        have hc' : (c : Int) ≤ 2 * (p : Int) + 2 := by omega
        have b1 : (c : Int) < (row.length : Int) := by omega
        have b2 : (q : Int) < (row.length : Int) := by omega
        have b3 : (0 : Int) ≤ (c : Int) := by omega
        have b4 : (0 : Int) ≤ (q : Int) := by omega
        clear hx hy hC hc
        cases hA : ahd x y
        all_goals
          rw [hA] at HS
          rw [ahd_eq] at hA
          go_wp2_with fail
          go_region_held3 (fun w' => w'.cell? ⟨hb, 0, none⟩ = some (.slice (some ⟨g, 0, none⟩) row.length cap) ∧ w'.cell? ⟨g, c * 3, none⟩ = some (.int .i64 x.id) ∧ w'.cell? ⟨g, c * 3 + 1, none⟩ = some (.int .i64 x.prio) ∧ w'.cell? ⟨g, c * 3 + 2, none⟩ = some (.int .i64 x.seq) ∧
            w'.cell? ⟨g, q * 3, none⟩ = some (.int .i64 y.id) ∧ w'.cell? ⟨g, q * 3 + 1, none⟩ = some (.int .i64 y.prio) ∧ w'.cell? ⟨g, q * 3 + 2, none⟩ = some (.int .i64 y.seq)) (go_keep)
            (first | (go_at_call 48; refine (ahead_any _ _ _ _ _ _ _).mono ?_; rintro e w' ⟨rfl, rfl⟩))
          go_wp2_with fail
          go_roundw
          case rel => exact ⟨j + 1, c + 1, _, rfl, by go_num, hj1, HC2, by omega, HS.out.symm, ((hT.alloc _).alloc _).drew⟩
          case measure => simp [intOf]; omega
      · have HF : Hid (q = firstTo row p 2) := by show _ = _; rw [firstTo_2 row p j hj (by omega)]; exact HQ.out
        have hc' : (c : Int) ≤ 2 * (p : Int) + 2 := by omega
        have b1 : (row.length : Int) ≤ (c : Int) := by omega
        clear hC hcl hc
        go_wp2
        rw [Exit.noGoto_ret]
        go_ret
        rw [← HF.out]
        exact ⟨rfl, hT⟩

set_option maxHeartbeats 1000000 in
theorem sink_any {B : Nat} {w : World} {hb g cap ab ac most : Nat} {row : List Ent} {p : Nat} (h : HP B w hb (.slice (some ⟨g, 0, none⟩) row.length cap) ab ac most row) (hp : p < row.length) :
    Calls Try.prog 62 #[.pointer (some ⟨hb, 0, none⟩), .int .i64 p] w fun e w' => e = .returned (.tuple #[]) ∧
      HP B w' hb (.slice (some ⟨g, 0, none⟩) row.length cap) ab ac most (sink row.length row p) ∧ Turns (fun k => k = ab ∨ k = g) w w' := by
  have hl := h.len
  go_enter Try.func62, Try.ntmps62
  go_wp2
  go_step3
  go_wp2
  go_step3
  go_wp2
  go_loopw [1] (fun i wr => ∃ (k f : Nat) (rk : List Ent), i = .int .i64 k ∧ k < rk.length ∧ Hid (rk.length = row.length) ∧ rk.length - k ≤ f ∧ Hid (sink row.length row p = sink f rk k) ∧
      HP B wr hb (.slice (some ⟨g, 0, none⟩) rk.length cap) ab ac most rk ∧ Turns (fun k => k = ab ∨ k = g) w wr)
    (fun i _ => row.length - (intOf i).toNat)
  case atStart => exact ⟨p, row.length, row, rfl, hp, rfl, by omega, rfl, h, Turns.refl _ _⟩
  case round =>
    obtain ⟨k, f, rk, rfl, hk, HL, hkf, HE, hh, hT⟩ := hrel
    clear h hl hp
    have hl := hh.len
    have hqlt := firstTo_lt rk k hk 2
    have hor := firstTo_or rk k
    have hstep : sink f rk k = if firstTo rk k 2 = k then rk else sink (f - 1) (swp rk k (firstTo rk k 2)) (firstTo rk k 2) := by
      obtain ⟨f', rfl⟩ : ∃ f', f = f' + 1 := ⟨f - 1, by omega⟩
      simp only [sink, Nat.add_sub_cancel]
    generalize hq : firstTo rk k 2 = q at *
    have HQ : Hid (firstTo rk k 2 = q) := hq
    have HS : Hid (sink f rk k = if q = k then rk else sink (f - 1) (swp rk k q) q) := hstep
    clear hstep hq
    by_cases hqk : q = k
    · subst hqk
      clear hor
      have HS2 : Hid (sink f rk q = rk) := by show _ = _; rw [HS.out, if_pos rfl]
      clear HS
      have tst : ((q : Int) == (q : Int)) = true := by simp
      go_wp2_with fail
      refine (firstOf_any (B := B) (g := g) (cap := cap) (ab := ab) (ac := ac) (most := most) (row := rk) (p := q) hh hk).mono ?_
      rintro e w1 ⟨rfl, t1⟩
      rw [HQ.out]
      go_wp2_with fail
      rw [Exit.noGoto_normal]
      go_end0
      rw [HE.out, HS2.out, ← HL.out]
      exact ⟨rfl, hh.turns t1 (fun _ h => h.elim), hT.trans (t1.mono (fun _ _ h => h.elim))⟩
    · have tst : ((q : Int) == (k : Int)) = false := beq_eq_false_iff_ne.2 (by omega)
      have hkq : k < q := by omega
      clear hor
      have HS2 : Hid (sink f rk k = sink (f - 1) (swp rk k q) q) := by show _ = _; rw [HS.out, if_neg hqk]
      clear hqk HS
      go_wp2_with fail
      refine (firstOf_any (B := B) (g := g) (cap := cap) (ab := ab) (ac := ac) (most := most) (row := rk) (p := k) hh hk).mono ?_
      rintro e w1 ⟨rfl, t1⟩
      rw [HQ.out]
      go_wp2_with fail
      refine (swap_any (B := B) (g := g) (cap := cap) (ab := ab) (ac := ac) (most := most) (row := rk) (a := k) (b := q) ?_ hk (by omega)).mono ?_
      · exact hh.turns t1 (fun _ h => h.elim)
      rintro e w2 ⟨rfl, h2, t2⟩
      go_wp2_with fail
      go_roundw
      case rel =>
        exact ⟨q, f - 1, swp rk k q, rfl, by rw [swp_length]; omega, by rw [swp_length]; exact HL.out, by rw [swp_length]; omega, HE.out.trans HS2.out, by rw [swp_length]; exact h2, (hT.trans (t1.mono (fun _ _ h => h.elim))).trans t2⟩
      case measure =>
        have := HL.out
        simp [intOf]; omega

set_option maxHeartbeats 1000000 in
theorem settle_any {B : Nat} {w : World} {hb g cap ab ac most : Nat} {row : List Ent} {p : Nat} (h : HP B w hb (.slice (some ⟨g, 0, none⟩) row.length cap) ab ac most row) (hp : p < row.length) (hlen : (rise p row p).length = row.length) :
    Calls Try.prog 53 #[.pointer (some ⟨hb, 0, none⟩), .int .i64 p] w fun e w' => e = .returned (.tuple #[]) ∧
      HP B w' hb (.slice (some ⟨g, 0, none⟩) row.length cap) ab ac most (sink row.length (rise p row p) p) ∧ Turns (fun k => k = ab ∨ k = g) w w' := by
  have HLn : Hid ((rise p row p).length = row.length) := hlen
  clear hlen
  go_enter Try.func53, Try.ntmps53
  go_wp2_with fail
  refine (rise_any (B := B) (g := g) (cap := cap) (ab := ab) (ac := ac) (most := most) (row := row) (p := p) h hp).mono ?_
  rintro e w1 ⟨rfl, h1, t1⟩
  go_wp2_with fail
  refine (sink_any (B := B) (g := g) (cap := cap) (ab := ab) (ac := ac) (most := most) (row := rise p row p) (p := p) (by rw [HLn.out]; exact h1) (by rw [HLn.out]; exact hp)).mono ?_
  rw [HLn.out]
  rintro e w2 ⟨rfl, h2, t2⟩
  go_wp2_with fail
  go_end0
  exact ⟨rfl, h2, t1.trans t2⟩
end Go.Proofs.Ytcfgcbjhlamchaa
namespace Go.Proofs.Ytcfgcbjhlamchaa.Hp

theorem ahd_iff (x y : Ent) : ahd x y = true ↔ y.prio < x.prio ∨ (x.prio = y.prio ∧ (x.seq < y.seq ∨ (x.seq = y.seq ∧ x.id < y.id))) := by
  unfold ahd
  split
  · simp; omega
  · split
    · simp; omega
    · simp; omega

theorem ahd_not (x y : Ent) : ahd x y = false ↔ ¬ (y.prio < x.prio ∨ (x.prio = y.prio ∧ (x.seq < y.seq ∨ (x.seq = y.seq ∧ x.id < y.id)))) := by
  rw [← ahd_iff]; simp

theorem ahd_asymm {x y : Ent} (h : ahd x y = true) : ahd y x = false := by
  rw [ahd_iff] at h; rw [ahd_not]; omega

theorem ahd_irrefl (x : Ent) : ahd x x = false := by rw [ahd_not]; omega

/-- x is not behind y, y not behind z: x is not behind z. -/
theorem nb_trans {x y z : Ent} (h1 : ahd y x = false) (h2 : ahd z y = false) : ahd z x = false := by
  rw [ahd_not] at *; omega

theorem ahd_total {x y : Ent} (h : x.id ≠ y.id) : ahd x y = true ∨ ahd y x = true := by
  rw [ahd_iff, ahd_iff]; omega

theorem ahd_trans {x y z : Ent} (h1 : ahd x y = true) (h2 : ahd y z = true) : ahd x z = true := by
  rw [ahd_iff] at *; omega

theorem ahd_of_not {x y : Ent} (hid : x.id ≠ y.id) (h : ahd x y = false) : ahd y x = true := by
  rcases ahd_total hid with h1 | h1
  · rw [h] at h1; cases h1
  · exact h1

/-- None goes ahead of the one above it. -/
def Ord (row : List Ent) : Prop := ∀ i, 0 < i → i < row.length → ahd (at' row i) (at' row ((i - 1) / 2)) = false

/-- A heap's order but for place p: those below p are not ahead of the one above p. -/
structure Mid (p : Nat) (row : List Ent) : Prop where
  ok : ∀ i, 0 < i → i < row.length → i ≠ p → (i - 1) / 2 ≠ p → ahd (at' row i) (at' row ((i - 1) / 2)) = false
  gr : ∀ c, 0 < c → c < row.length → (c - 1) / 2 = p → 0 < p → ahd (at' row c) (at' row ((p - 1) / 2)) = false

theorem rise_len : ∀ (f : Nat) (row : List Ent) (p : Nat), (rise f row p).length = row.length
  | 0, _, _ => rfl
  | f + 1, row, p => by
    unfold rise
    split
    · rfl
    · split
      · rw [rise_len f, swp_length]
      · rfl

theorem sink_len : ∀ (f : Nat) (row : List Ent) (p : Nat), (sink f row p).length = row.length
  | 0, _, _ => rfl
  | f + 1, row, p => by
    unfold sink
    split
    · rfl
    · rw [sink_len f, swp_length]

theorem swp_perm (row : List Ent) (a b : Nat) (ha : a < row.length) (hb : b < row.length) : (swp row a b).Perm row := by
  unfold swp
  rw [← get_at row a ha, ← get_at row b hb]
  exact List.set_set_perm ha hb

theorem rise_perm : ∀ (f : Nat) (row : List Ent) (p : Nat), p < row.length → (rise f row p).Perm row
  | 0, _, _, _ => List.Perm.refl _
  | f + 1, row, p, h => by
    unfold rise
    split
    · exact List.Perm.refl _
    · split
      · exact (rise_perm f _ _ (by rw [swp_length]; omega)).trans (swp_perm row p _ h (by omega))
      · exact List.Perm.refl _

theorem sink_perm : ∀ (f : Nat) (row : List Ent) (p : Nat), p < row.length → (sink f row p).Perm row
  | 0, _, _, _ => List.Perm.refl _
  | f + 1, row, p, h => by
    unfold sink
    have hq := firstTo_lt row p h 2
    split
    · exact List.Perm.refl _
    · exact (sink_perm f _ _ (by rw [swp_length]; exact hq)).trans (swp_perm row p _ h hq)

/-- The order but for p upward. -/
structure Up (p : Nat) (row : List Ent) : Prop where
  ok : ∀ i, 0 < i → i < row.length → i ≠ p → ahd (at' row i) (at' row ((i - 1) / 2)) = false
  gr : ∀ c, 0 < c → c < row.length → (c - 1) / 2 = p → 0 < p → ahd (at' row c) (at' row ((p - 1) / 2)) = false

theorem rise_ord : ∀ (f : Nat) (row : List Ent) (p : Nat), p ≤ f → p < row.length → Up p row → Ord (rise f row p)
  | 0, row, p, hf, _, u => by
    unfold rise
    intro i h0 hi
    exact u.ok i h0 hi (by omega)
  | f + 1, row, p, hf, hp, u => by
    unfold rise
    by_cases h0 : p = 0
    · rw [if_pos h0]
      intro i hi0 hi
      exact u.ok i hi0 hi (by omega)
    · rw [if_neg h0]
      by_cases ha : ahd (at' row p) (at' row ((p - 1) / 2)) = true
      · rw [if_pos ha]
        have hq : (p - 1) / 2 < row.length := by omega
        have e := fun j => at_swp row p ((p - 1) / 2) j hp hq
        apply rise_ord f _ _ (by omega) (by rw [swp_length]; omega)
        constructor
        · intro i hi0 hi hne
          rw [swp_length] at hi
          rw [e, e]
          rw [if_neg hne]
          by_cases hip : i = p
          · subst hip
            rw [if_pos rfl, if_pos rfl]
            exact ahd_asymm ha
          · rw [if_neg hip]
            by_cases h1 : (i - 1) / 2 = (p - 1) / 2
            · rw [if_pos h1]
              have := u.ok i hi0 hi hip
              rw [h1] at this
              exact nb_trans (ahd_asymm ha) this
            · rw [if_neg h1]
              by_cases h2 : (i - 1) / 2 = p
              · rw [if_pos h2]
                exact u.gr i hi0 hi h2 (by omega)
              · rw [if_neg h2]
                exact u.ok i hi0 hi hip
        · intro c hc0 hc hcq hq0
          rw [swp_length] at hc
          rw [e, e]
          have n1 : ((p - 1) / 2 - 1) / 2 ≠ (p - 1) / 2 := by omega
          have n2 : ((p - 1) / 2 - 1) / 2 ≠ p := by omega
          have n3 : c ≠ (p - 1) / 2 := by omega
          rw [if_neg n3, if_neg n1, if_neg n2]
          have hok := u.ok ((p - 1) / 2) hq0 hq (by omega)
          by_cases hcp : c = p
          · rw [if_pos hcp]; exact hok
          · rw [if_neg hcp]
            have := u.ok c hc0 hc hcp
            rw [hcq] at this
            exact nb_trans hok this
      · rw [if_neg ha]
        intro i hi0 hi
        by_cases hip : i = p
        · subst hip; simpa using ha
        · exact u.ok i hi0 hi hip

/-- The order but for p downward. -/
structure Down (p : Nat) (row : List Ent) : Prop where
  ok : ∀ i, 0 < i → i < row.length → (i - 1) / 2 ≠ p → ahd (at' row i) (at' row ((i - 1) / 2)) = false
  gr : ∀ c, 0 < c → c < row.length → (c - 1) / 2 = p → 0 < p → ahd (at' row c) (at' row ((p - 1) / 2)) = false

theorem firstTo_best (row : List Ent) (p : Nat) (c : Nat) (h0 : 0 < c) (hc : c < row.length) (hp : (c - 1) / 2 = p) : ahd (at' row c) (at' row (firstTo row p 2)) = false := by
  have hcc : c = 2 * p + 1 ∨ c = 2 * p + 2 := by omega
  have e2 : firstTo row p 2 = if 2 * p + 1 + 1 < row.length ∧ ahd (at' row (2 * p + 1 + 1)) (at' row (firstTo row p 1)) = true then 2 * p + 1 + 1 else firstTo row p 1 := rfl
  have e1 : firstTo row p 1 = if 2 * p + 1 + 0 < row.length ∧ ahd (at' row (2 * p + 1 + 0)) (at' row p) = true then 2 * p + 1 + 0 else p := rfl
  have hb1 : 2 * p + 1 < row.length → ahd (at' row (2 * p + 1)) (at' row (firstTo row p 1)) = false := by
    intro hl
    rw [e1]
    split
    · exact ahd_irrefl _
    · rename_i h
      cases hx : ahd (at' row (2 * p + 1)) (at' row p)
      · rfl
      · exact absurd ⟨hl, hx⟩ h
  rw [e2]
  rcases hcc with rfl | rfl
  · split
    · rename_i h
      exact nb_trans (ahd_asymm h.2) (hb1 hc)
    · exact hb1 hc
  · split
    · exact ahd_irrefl _
    · rename_i h
      cases hx : ahd (at' row (2 * p + 2)) (at' row (firstTo row p 1))
      · rfl
      · exact absurd ⟨hc, hx⟩ h

theorem firstTo_ahead (row : List Ent) (p : Nat) (h : firstTo row p 2 ≠ p) : ahd (at' row (firstTo row p 2)) (at' row p) = true := by
  have e2 : firstTo row p 2 = if 2 * p + 1 + 1 < row.length ∧ ahd (at' row (2 * p + 1 + 1)) (at' row (firstTo row p 1)) = true then 2 * p + 1 + 1 else firstTo row p 1 := rfl
  have e1 : firstTo row p 1 = if 2 * p + 1 + 0 < row.length ∧ ahd (at' row (2 * p + 1 + 0)) (at' row p) = true then 2 * p + 1 + 0 else p := rfl
  have h1 : firstTo row p 1 ≠ p → ahd (at' row (firstTo row p 1)) (at' row p) = true := by
    intro hne
    rw [e1] at hne ⊢
    split
    · rename_i hh; exact hh.2
    · rename_i hh; rw [if_neg hh] at hne; exact absurd rfl hne
  rw [e2] at h ⊢
  split
  · rename_i hh
    by_cases hq : firstTo row p 1 = p
    · rw [hq] at hh; exact hh.2
    · exact ahd_trans hh.2 (h1 hq)
  · rename_i hh
    rw [if_neg hh] at h
    exact h1 h

theorem sink_ord : ∀ (f : Nat) (row : List Ent) (p : Nat), row.length - p ≤ f → p < row.length → Down p row → Ord (sink f row p)
  | 0, row, p, hf, hp, d => by omega
  | f + 1, row, p, hf, hp, d => by
    unfold sink
    have hq := firstTo_lt row p hp 2
    have hor := firstTo_or row p
    have hbest := firstTo_best row p
    have hah := firstTo_ahead row p
    generalize firstTo row p 2 = q at *
    by_cases hqp : q = p
    · rw [if_pos hqp]
      subst hqp
      intro i hi0 hi
      by_cases hpar : (i - 1) / 2 = q
      · have := hbest i hi0 hi hpar
        rw [hpar]; exact this
      · exact d.ok i hi0 hi hpar
    · rw [if_neg hqp]
      have ha := hah hqp
      have hqq : (q - 1) / 2 = p := by omega
      have hpq : p < q := by omega
      have e := fun j => at_swp row p q j hp hq
      apply sink_ord f _ _ (by rw [swp_length]; omega) (by rw [swp_length]; exact hq)
      constructor
      · intro i hi0 hi hne
        rw [swp_length] at hi
        rw [e, e]
        rw [if_neg hne]
        by_cases hiq : i = q
        · subst hiq
          rw [if_pos rfl, hqq, if_pos rfl]
          exact ahd_asymm ha
        · rw [if_neg hiq]
          by_cases hip : i = p
          · subst hip
            rw [if_pos rfl, if_neg (by omega)]
            exact d.gr q (by omega) hq hqq hi0
          · rw [if_neg hip]
            by_cases h2 : (i - 1) / 2 = p
            · rw [if_pos h2]
              exact hbest i hi0 hi h2
            · rw [if_neg h2]
              exact d.ok i hi0 hi h2
      · intro c hc0 hc hcq hq0
        rw [swp_length] at hc
        rw [e, e, hqq]
        rw [if_neg (by omega), if_neg (by omega), if_neg (by omega), if_pos rfl]
        have := d.ok c hc0 hc (by omega)
        rw [hcq] at this
        exact this

theorem ord_sink_self (f : Nat) (row : List Ent) (p : Nat) (h : Ord row) : sink f row p = row := by
  cases f with
  | zero => rfl
  | succ f =>
    unfold sink
    rw [if_pos]
    have e2 : firstTo row p 2 = if 2 * p + 1 + 1 < row.length ∧ ahd (at' row (2 * p + 1 + 1)) (at' row (firstTo row p 1)) = true then 2 * p + 1 + 1 else firstTo row p 1 := rfl
    have e1 : firstTo row p 1 = if 2 * p + 1 + 0 < row.length ∧ ahd (at' row (2 * p + 1 + 0)) (at' row p) = true then 2 * p + 1 + 0 else p := rfl
    have e1' : firstTo row p 1 = p := by
      rw [e1]
      split
      · rename_i hh
        have := h (2 * p + 1) (by omega) hh.1
        rw [show (2 * p + 1 - 1) / 2 = p from by omega] at this
        rw [show 2 * p + 1 + 0 = 2 * p + 1 from rfl, this] at hh
        cases hh.2
      · rfl
    rw [e2, e1']
    split
    · rename_i hh
      have := h (2 * p + 1 + 1) (by omega) hh.1
      rw [show (2 * p + 1 + 1 - 1) / 2 = p from by omega] at this
      rw [this] at hh
      cases hh.2
    · rfl

theorem settle_ord (row : List Ent) (p : Nat) (hp : p < row.length) (m : Mid p row) : Ord (sink row.length (rise p row p) p) := by
  by_cases h : 0 < p ∧ ahd (at' row p) (at' row ((p - 1) / 2)) = true
  · obtain ⟨h0, ha⟩ := h
    have u : Up p row := by
      refine ⟨?_, m.gr⟩
      intro i hi0 hi hne
      by_cases hpar : (i - 1) / 2 = p
      · rw [hpar]
        exact nb_trans (ahd_asymm ha) (m.gr i hi0 hi hpar h0)
      · exact m.ok i hi0 hi hne hpar
    have o := rise_ord p row p (Nat.le_refl _) hp u
    rw [ord_sink_self _ _ _ o]
    exact o
  · have hr : rise p row p = row := by
      cases p with
      | zero => rfl
      | succ p =>
        unfold rise
        rw [if_neg (by omega), if_neg (by intro hx; exact h ⟨by omega, hx⟩)]
    rw [hr]
    apply sink_ord _ _ _ (by omega) hp
    refine ⟨?_, m.gr⟩
    intro i hi0 hi hpar
    by_cases hip : i = p
    · subst hip
      cases hx : ahd (at' row i) (at' row ((i - 1) / 2))
      · rfl
      · exact absurd ⟨hi0, hx⟩ h
    · exact m.ok i hi0 hi hip hpar

/-- Who is at the head goes first. -/
theorem ord_head (row : List Ent) (h : Ord row) : ∀ i, i < row.length → ahd (at' row i) (at' row 0) = false := by
  intro i
  induction i using Nat.strongRecOn with
  | ind i ih =>
    intro hi
    by_cases h0 : i = 0
    · subst h0; exact ahd_irrefl _
    · have h1 := h i (by omega) hi
      have h2 := ih ((i - 1) / 2) (by omega) (by omega)
      exact nb_trans h2 h1

end Go.Proofs.Ytcfgcbjhlamchaa.Hp
namespace Go.Proofs.Ytcfgcbjhlamchaa
open Go.RowKit Hp

namespace Hp
def hhasB (most : Nat) (row : List Ent) (id : Int) : Bool := knB most id && (place row id.toNat != 0)
end Hp

set_option maxHeartbeats 1000000 in
theorem has_any {B : Nat} {w : World} {hb ab ac most : Nat} {rv : Value} {row : List Ent} (id : Int) (h : HP B w hb rv ab ac most row) :
    Calls Try.prog 32 #[.pointer (some ⟨hb, 0, none⟩), .int .i64 id] w fun e w' => e = .returned (.bool (hhasB most row id)) ∧ w' = w := by
  have hc1 := h.c1
  by_cases hk : knB most id = true
  · obtain ⟨k1, k2⟩ : 0 ≤ id ∧ id < (most : Int) := by simpa [knB] using hk
    have hcell := h.at id.toNat (by omega)
    have hA : hhasB most row id = (place row id.toNat != 0) := by simp [hhasB, hk]
    rw [hA]
    clear hA
    go_enter Try.func32, Try.ntmps32
    go_wp2_with fail
    refine (known_any hb ab ac most id _ hc1).mono ?_
    rintro e w1 ⟨rfl, rfl⟩
    rw [hk]
    clear hk
    go_wp2_with fail
    go_ret
    exact ⟨rfl, rfl⟩
  · have hk' : knB most id = false := by simpa using hk
    have hA : hhasB most row id = false := by simp [hhasB, hk']
    rw [hA]
    clear hA hk
    go_enter Try.func32, Try.ntmps32
    go_wp2_with fail
    refine (known_any hb ab ac most id _ hc1).mono ?_
    rintro e w1 ⟨rfl, rfl⟩
    rw [hk']
    clear hk'
    go_wp2_with fail
    go_ret
    exact ⟨rfl, rfl⟩

set_option maxHeartbeats 1000000 in
theorem find_arg {B : Nat} {w : World} {hb ab ac most : Nat} {rv : Value} {row : List Ent} (id : Int) (h : HP B w hb rv ab ac most row) (hk : knB most id = false) :
    Calls Try.prog 52 #[.pointer (some ⟨hb, 0, none⟩), .int .i64 id] w fun e w' => e = .returned (.tuple #[.int .i64 0, .int .i64 1]) ∧ w' = w := by
  have hc1 := h.c1
  go_enter Try.func52, Try.ntmps52
  go_wp2_with fail
  refine (known_any hb ab ac most id _ hc1).mono ?_
  rintro e w1 ⟨rfl, rfl⟩
  rw [hk]
  clear hk
  go_wp2_with fail
  go_ret2
  exact ⟨rfl, rfl⟩

set_option maxHeartbeats 1000000 in
theorem find_none {B : Nat} {w : World} {hb ab ac most : Nat} {rv : Value} {row : List Ent} (id : Int) (h : HP B w hb rv ab ac most row) (hk : knB most id = true) (hp : place row id.toNat = 0) :
    Calls Try.prog 52 #[.pointer (some ⟨hb, 0, none⟩), .int .i64 id] w fun e w' => e = .returned (.tuple #[.int .i64 0, .int .i64 8]) ∧ w' = w := by
  have hc1 := h.c1
  have hh : hhasB most row id = false := by simp [hhasB, hp]
  clear hp
  go_enter Try.func52, Try.ntmps52
  go_wp2_with fail
  refine (known_any hb ab ac most id _ hc1).mono ?_
  rintro e w1 ⟨rfl, rfl⟩
  rw [hk]
  clear hk
  go_wp2_with fail
  refine (has_any id h).mono ?_
  rintro e w1 ⟨rfl, rfl⟩
  rw [hh]
  clear hh
  go_wp2_with fail
  go_ret2
  exact ⟨rfl, rfl⟩

set_option maxHeartbeats 1000000 in
theorem hfind_some {B : Nat} {w : World} {hb ab ac most : Nat} {rv : Value} {row : List Ent} (id : Int) (p : Nat) (h : HP B w hb rv ab ac most row) (hk : knB most id = true) (hp : place row id.toNat = (p : Int) + 1) (hpl : p < row.length) :
    Calls Try.prog 52 #[.pointer (some ⟨hb, 0, none⟩), .int .i64 id] w fun e w' => e = .returned (.tuple #[.int .i64 p, .int .i64 0]) ∧ w' = w := by
  have hc1 := h.c1
  have hlen := h.len
  have hh : hhasB most row id = true := by simp [hhasB, hp, hk]; omega
  obtain ⟨k1, k2⟩ : 0 ≤ id ∧ id < (most : Int) := by simpa [knB] using hk
  have hcell := h.at id.toNat (by omega)
  rw [hp] at hcell
  clear hp
  go_enter Try.func52, Try.ntmps52
  go_wp2_with fail
  refine (known_any hb ab ac most id _ hc1).mono ?_
  rintro e w1 ⟨rfl, rfl⟩
  rw [hk]
  clear hk
  go_wp2_with fail
  refine (has_any id h).mono ?_
  rintro e w1 ⟨rfl, rfl⟩
  rw [hh]
  clear hh
  go_wp2_with fail
  go_ret2
  exact ⟨by simp, rfl⟩

set_option maxHeartbeats 1000000 in
theorem top_none {B : Nat} {w : World} {hb ab ac most : Nat} {rv : Value} (h : HP B w hb rv ab ac most []) :
    Calls Try.prog 36 #[.pointer (some ⟨hb, 0, none⟩)] w fun e w' => e = .returned (.tuple #[.int .i64 0, .bool false]) ∧ w' = w := by
  have hc0 := h.c0
  rcases h.form with ⟨rfl, _⟩ | ⟨g, cap, rfl, _, _, _⟩
  all_goals
    try simp only [List.length_nil] at hc0
    go_enter Try.func36, Try.ntmps36
    go_wp2_with fail
    go_ret2
    exact ⟨rfl, rfl⟩

set_option maxHeartbeats 1000000 in
theorem top_some {B : Nat} {w : World} {hb ab ac most : Nat} {rv : Value} {row : List Ent} (h : HP B w hb rv ab ac most row) (hn : 0 < row.length) :
    Calls Try.prog 36 #[.pointer (some ⟨hb, 0, none⟩)] w fun e w' => e = .returned (.tuple #[.int .i64 (at' row 0).id, .bool true]) ∧ w' = w := by
  have hc0 := h.c0
  rcases h.form with ⟨rfl, rfl⟩ | ⟨g, cap, rfl, _, _, _⟩
  · simp at hn
  · have g0 := (own_get h.own rfl 0 hn).1
    have t0 : ((row.length : Int) == 0) = false := beq_eq_false_iff_ne.2 (by omega)
    have t1 : (0 : Int) < (row.length : Int) := by omega
    simp only [Nat.zero_mul] at g0
    go_enter Try.func36, Try.ntmps36
    go_wp2_with fail
    go_ret2
    exact ⟨rfl, rfl⟩

set_option maxHeartbeats 1000000 in
theorem new_bad (n : Int) (w : World) (h : n < 1 ∨ 256 < n) :
    Calls Try.prog 19 #[.int .i64 n] w fun e w' => e = .returned (.tuple #[.pointer none, .int .i64 1]) ∧ w' = w := by
  rcases h with h | h
  · go_enter Try.func19, Try.ntmps19
    go_wp2_with fail
    go_ret2
    exact ⟨rfl, rfl⟩
  · have h' : ¬ n < 1 := by omega
    go_enter Try.func19, Try.ntmps19
    go_wp2_with fail
    go_ret2
    exact ⟨rfl, rfl⟩

theorem Try.info3 : (Try.prog.info? 3).map (fun i => (i.zero, i.size, i.bytes)) = some (some (.int .i64 0), 1, 8) := by kernel_rfl
theorem Try.info62 : (Try.prog.info? 77).map (fun i => (i.zero, i.size, i.bytes)) = some (some (.agg #[.int .i64 0, .int .i64 0, .int .i64 0]), 3, 24) := by kernel_rfl

theorem place_nil (id : Nat) : place [] id = 0 := rfl
theorem good_nil (most : Nat) : Hp.Good most [] := ⟨fun i h => by simp at h, fun i h => by simp at h, fun i j h => by simp at h⟩
theorem made_ats (n : Nat) : (madeCells (Value.int .i64 0).cells (n * 1)).toList = (atOf n []).map (Value.int .i64) := by
  have h1 : (atOf n []) = List.replicate n 0 := by
    unfold atOf
    apply List.ext_getElem
    · simp
    · intro i h1 h2; simp [place_nil]
  rw [h1, Nat.mul_one]
  apply List.ext_getElem
  · simp [madeCells]
  · intro i h1 h2
    simp [madeCells, Value.cells]
    rw [Nat.mod_one]
    rfl

set_option maxHeartbeats 1000000 in
theorem new_good (B : Nat) (n : Nat) (w : World) (h1 : 1 ≤ n) (h2 : n ≤ 256) (hB : B ≤ w.heap.size) :
    Calls Try.prog 19 #[.int .i64 n] w fun e w' => ∃ hb, e = .returned (.tuple #[.pointer (some ⟨hb, 0, none⟩), .int .i64 0]) ∧ ∃ ab,
      HP B w' hb (.slice none 0 0) ab n n [] ∧ Turns (fun _ => False) w w' ∧ w.heap.size ≤ hb ∧ w.heap.size ≤ ab := by
  obtain ⟨i, hi, hz0, hz1, hz2⟩ := info_parts Try.info3
  have g1 : ¬ (n : Int) < 1 := by omega
  have g2 : ¬ 256 < (n : Int) := by omega
  go_enter Try.func19, Try.ntmps19
  go_wp2_with (at_make; refine wpList_make_full _ rfl _ _ _ rfl B 3 i _ 1 Try.underlying35 hi hz0 hz1 .i64 .i64 _ _ n rfl rfl rfl rfl (by rw [hz2]; omega) (by unfold maxLen; omega) hB ?_; intro w1 hown hgrow)
  go_ret2
  have hs := hgrow.size
  have hlt : B ≤ w.heap.size ∧ w.heap.size < w1.heap.size := hown.lt _ rfl
  refine ⟨w1.heap.size, rfl, w.heap.size, ⟨World.ownsRow_nil _ _ _ _, ?_, ?_, by omega, by simp [Value.ownBlock], by simp [Value.ownBlock], good_nil n, h2, by simp⟩, (Turns.grown hgrow (fun k h => by cases h)).alloc _, hs, Nat.le_refl _⟩
  · rw [made_ats] at hown
    exact hown.alloc _
  · exact World.ownsRow_lit w1 #[.slice none 0 0, .slice (some ⟨w.heap.size, 0, none⟩) n n] 1 (by omega) (by unfold maxLen; omega) rfl
end Go.Proofs.Ytcfgcbjhlamchaa
namespace Go.Proofs.Ytcfgcbjhlamchaa.Hp

theorem good_nodup {most : Nat} {row : List Ent} (g : Good most row) : row.Nodup := by
  rw [List.nodup_iff_pairwise_ne, List.pairwise_iff_getElem]
  intro i j hi hj hij h
  rw [get_at row i hi, get_at row j hj] at h
  have := g.nd i j hi hj (by rw [h])
  omega

theorem good_len {most : Nat} {row : List Ent} (g : Good most row) : row.length ≤ most := by
  have hn : (row.map (fun x => x.id.toNat)).Nodup := by
    rw [List.nodup_iff_pairwise_ne, List.pairwise_iff_getElem]
    intro i j hi hj hij h
    simp only [List.length_map] at hi hj
    simp only [List.getElem_map] at h
    rw [get_at row i hi, get_at row j hj] at h
    have h1 := g.lo i hi
    have h2 := g.lo j hj
    have := g.nd i j hi hj (by omega)
    omega
  have hs : (row.map (fun x => x.id.toNat)) ⊆ List.range most := by
    intro x hx
    rw [List.mem_map] at hx
    obtain ⟨y, hy, rfl⟩ := hx
    obtain ⟨i, hi, rfl⟩ := List.getElem_of_mem hy
    rw [get_at row i hi]
    have h1 := g.lo i hi
    have h2 := g.hi i hi
    rw [List.mem_range]
    omega
  have := hn.length_le_of_subset hs
  simpa using this

theorem at_snoc (row : List Ent) (e : Ent) (i : Nat) (hi : i ≤ row.length) : at' (row ++ [e]) i = if i = row.length then e else at' row i := by
  unfold at'
  rw [List.getD_eq_getElem?_getD, List.getD_eq_getElem?_getD]
  by_cases h : i = row.length
  · subst h; simp
  · rw [if_neg h, List.getElem?_append_left (by omega)]

theorem good_snoc {most : Nat} {row : List Ent} (g : Good most row) (e : Ent) (h0 : 0 ≤ e.id) (h1 : e.id < (most : Int)) (hn : ∀ i, i < row.length → (at' row i).id ≠ e.id) : Good most (row ++ [e]) := by
  refine ⟨?_, ?_, ?_⟩
  · intro i hi
    simp at hi
    rw [at_snoc row e i (by omega)]
    split
    · exact h0
    · exact g.lo i (by omega)
  · intro i hi
    simp at hi
    rw [at_snoc row e i (by omega)]
    split
    · exact h1
    · exact g.hi i (by omega)
  · intro i j hi hj h
    simp at hi hj
    rw [at_snoc row e i (by omega), at_snoc row e j (by omega)] at h
    split at h
    · split at h
      · omega
      · exact absurd h.symm (hn j (by omega))
    · split at h
      · exact absurd h (hn i (by omega))
      · exact g.nd i j (by omega) (by omega) h

theorem atOf_snoc {most : Nat} {row : List Ent} (g : Good most row) (e : Ent) (h0 : 0 ≤ e.id) (h1 : e.id < (most : Int)) (hn : ∀ i, i < row.length → (at' row i).id ≠ e.id) :
    atOf most (row ++ [e]) = (atOf most row).set e.id.toNat ((row.length : Int) + 1) := by
  have g' := good_snoc g e h0 h1 hn
  apply list_ext_int
  · simp [atOf_length]
  intro i hi
  rw [atOf_length] at hi
  rw [atOf_get _ _ _ hi, List.getElem?_set]
  simp only [atOf_length]
  by_cases h : e.id.toNat = i
  · rw [if_pos h, if_pos (by omega)]
    congr 1
    apply place_eq _ most i row.length g' (by simp)
    rw [at_snoc row e _ (Nat.le_refl _), if_pos rfl]
    omega
  · rw [if_neg h, atOf_get _ _ _ hi]
    congr 1
    rcases place_cases row i with ⟨hp, hx⟩ | ⟨k, hk, hid, hp⟩
    · rw [hp]
      apply place_none
      intro j hj
      simp at hj
      rw [at_snoc row e j (by omega)]
      split
      · omega
      · exact hx j (by omega)
    · rw [hp]
      apply place_eq _ most i k g' (by simp; omega)
      rw [at_snoc row e k (by omega), if_neg (by omega)]
      exact hid

theorem up_snoc {row : List Ent} (o : Ord row) (e : Ent) : Up row.length (row ++ [e]) := by
  refine ⟨?_, ?_⟩
  · intro i h0 hi hne
    simp at hi
    rw [at_snoc row e i (by omega), at_snoc row e _ (by omega), if_neg hne, if_neg (by omega)]
    exact o i h0 (by omega)
  · intro c h0 hc hp _
    simp at hc
    omega

def setPrio (row : List Ent) (p : Nat) (v : Int) : List Ent := row.set p ⟨(at' row p).id, v, (at' row p).seq⟩

theorem setPrio_length (row : List Ent) (p : Nat) (v : Int) : (setPrio row p v).length = row.length := by simp [setPrio]

theorem at_setPrio (row : List Ent) (p : Nat) (v : Int) (hp : p < row.length) (i : Nat) : at' (setPrio row p v) i = if i = p then ⟨(at' row p).id, v, (at' row p).seq⟩ else at' row i := by
  unfold setPrio
  rw [at_set]
  by_cases h : p = i
  · subst h; simp [hp]
  · rw [if_neg (by omega), if_neg (by omega)]

theorem id_setPrio (row : List Ent) (p : Nat) (v : Int) (hp : p < row.length) (i : Nat) : (at' (setPrio row p v) i).id = (at' row i).id := by
  rw [at_setPrio row p v hp]
  split
  · rename_i h; rw [h]
  · rfl

theorem good_setPrio {most : Nat} {row : List Ent} (g : Good most row) (p : Nat) (v : Int) (hp : p < row.length) : Good most (setPrio row p v) := by
  refine ⟨?_, ?_, ?_⟩
  · intro i hi; rw [setPrio_length] at hi; rw [id_setPrio row p v hp]; exact g.lo i hi
  · intro i hi; rw [setPrio_length] at hi; rw [id_setPrio row p v hp]; exact g.hi i hi
  · intro i j hi hj h; rw [setPrio_length] at hi hj; rw [id_setPrio row p v hp, id_setPrio row p v hp] at h; exact g.nd i j hi hj h

theorem atOf_setPrio {most : Nat} {row : List Ent} (g : Good most row) (p : Nat) (v : Int) (hp : p < row.length) : atOf most (setPrio row p v) = atOf most row := by
  have g' := good_setPrio g p v hp
  apply list_ext_int
  · simp [atOf_length]
  intro i hi
  rw [atOf_length] at hi
  rw [atOf_get _ _ _ hi, atOf_get _ _ _ hi]
  congr 1
  rcases place_cases row i with ⟨h0, hx⟩ | ⟨k, hk, hid, h0⟩
  · rw [h0]
    apply place_none
    intro j hj
    rw [setPrio_length] at hj
    rw [id_setPrio row p v hp]
    exact hx j hj
  · rw [h0]
    apply place_eq _ most i k g' (by rw [setPrio_length]; exact hk)
    rw [id_setPrio row p v hp]
    exact hid

theorem mid_setPrio {row : List Ent} (o : Ord row) (p : Nat) (v : Int) (hp : p < row.length) : Mid p (setPrio row p v) := by
  refine ⟨?_, ?_⟩
  · intro i h0 hi h1 h2
    rw [setPrio_length] at hi
    rw [at_setPrio row p v hp, at_setPrio row p v hp, if_neg h1, if_neg h2]
    exact o i h0 hi
  · intro c h0 hc h1 h2
    rw [setPrio_length] at hc
    rw [at_setPrio row p v hp, at_setPrio row p v hp, if_neg (by omega), if_neg (by omega)]
    have a := o c h0 hc
    rw [h1] at a
    exact nb_trans (o p h2 hp) a

/-- Without the last. -/
def cut (row : List Ent) : List Ent := row.take (row.length - 1)

theorem cut_length (row : List Ent) : (cut row).length = row.length - 1 := by simp [cut]

theorem at_cut (row : List Ent) (i : Nat) (h : i < row.length - 1) : at' (cut row) i = at' row i := by
  unfold at' cut
  rw [List.getD_eq_getElem?_getD, List.getD_eq_getElem?_getD, List.getElem?_take, if_pos h]

theorem good_cut {most : Nat} {row : List Ent} (g : Good most row) : Good most (cut row) := by
  refine ⟨?_, ?_, ?_⟩
  · intro i hi; rw [cut_length] at hi; rw [at_cut row i hi]; exact g.lo i (by omega)
  · intro i hi; rw [cut_length] at hi; rw [at_cut row i hi]; exact g.hi i (by omega)
  · intro i j hi hj h; rw [cut_length] at hi hj; rw [at_cut row i hi, at_cut row j hj] at h; exact g.nd i j (by omega) (by omega) h

theorem atOf_cut {most : Nat} {row : List Ent} (g : Good most row) (hl : 0 < row.length) : atOf most (cut row) = (atOf most row).set (at' row (row.length - 1)).id.toNat 0 := by
  have g' := good_cut g
  have l0 := g.lo (row.length - 1) (by omega)
  have l1 := g.hi (row.length - 1) (by omega)
  apply list_ext_int
  · simp [atOf_length]
  intro i hi
  rw [atOf_length] at hi
  rw [atOf_get _ _ _ hi, List.getElem?_set]
  simp only [atOf_length]
  by_cases h : (at' row (row.length - 1)).id.toNat = i
  · rw [if_pos h, if_pos (by omega)]
    congr 1
    apply place_none
    intro j hj
    rw [cut_length] at hj
    rw [at_cut row j hj]
    intro hc
    have := g.nd j (row.length - 1) (by omega) (by omega) (by omega)
    omega
  · rw [if_neg h, atOf_get _ _ _ hi]
    congr 1
    rcases place_cases row i with ⟨hp, hx⟩ | ⟨k, hk, hid, hp⟩
    · rw [hp]
      apply place_none
      intro j hj
      rw [cut_length] at hj
      rw [at_cut row j hj]
      exact hx j (by omega)
    · have hkl : k < row.length - 1 := by
        by_cases hkk : k = row.length - 1
        · subst hkk; omega
        · omega
      rw [hp]
      apply place_eq _ most i k g' (by rw [cut_length]; exact hkl)
      rw [at_cut row k hkl]
      exact hid

/-- Without the one at p: the last comes into its place. -/
def rem (row : List Ent) (p : Nat) : List Ent := cut (swp row p (row.length - 1))

theorem rem_length (row : List Ent) (p : Nat) : (rem row p).length = row.length - 1 := by
  unfold rem; rw [cut_length, swp_length]

theorem at_rem (row : List Ent) (p i : Nat) (hp : p < row.length) (h : i < row.length - 1) : at' (rem row p) i = if i = p then at' row (row.length - 1) else at' row i := by
  unfold rem
  rw [at_cut _ _ (by rw [swp_length]; exact h), at_swp row p _ i hp (by omega), if_neg (by omega)]

theorem mid_rem {row : List Ent} (o : Ord row) (p : Nat) (hp : p < row.length - 1) : Mid p (rem row p) := by
  refine ⟨?_, ?_⟩
  · intro i h0 hi h1 h2
    rw [rem_length] at hi
    rw [at_rem row p i (by omega) hi, at_rem row p _ (by omega) (by omega), if_neg h1, if_neg h2]
    exact o i h0 (by omega)
  · intro c h0 hc h1 h2
    rw [rem_length] at hc
    rw [at_rem row p c (by omega) hc, at_rem row p _ (by omega) (by omega), if_neg (by omega), if_neg (by omega)]
    have a := o c h0 (by omega)
    rw [h1] at a
    exact nb_trans (o p h2 (by omega)) a

theorem ord_rem_last {row : List Ent} (o : Ord row) (p : Nat) (hl : 0 < row.length) (hp : p = row.length - 1) : Ord (rem row p) := by
  intro i h0 hi
  rw [rem_length] at hi
  rw [at_rem row p i (by omega) hi, at_rem row p _ (by omega) (by omega), if_neg (by omega), if_neg (by omega)]
  exact o i h0 (by omega)

theorem cut_snoc (row : List Ent) (hl : 0 < row.length) : row = cut row ++ [at' row (row.length - 1)] := by
  unfold cut
  have : row.take (row.length - 1 + 1) = row := List.take_of_length_le (by omega)
  rw [← get_at row (row.length - 1) (by omega), ← List.take_succ_eq_append_getElem (by omega), this]

theorem rem_perm (row : List Ent) (p : Nat) (hp : p < row.length) : row.Perm (at' row p :: rem row p) := by
  have h1 := (swp_perm row p (row.length - 1) hp (by omega)).symm
  have h2 := cut_snoc (swp row p (row.length - 1)) (by rw [swp_length]; omega)
  rw [swp_length, at_swp row p _ _ hp (by omega), if_pos rfl] at h2
  refine h1.trans ?_
  rw [h2]
  exact List.perm_append_comm.trans (List.Perm.refl _)

end Go.Proofs.Ytcfgcbjhlamchaa.Hp
namespace Go.Proofs.Ytcfgcbjhlamchaa
open Go.RowKit Hp

set_option maxHeartbeats 1000000 in
theorem put_arg {B : Nat} {w : World} {hb ab ac most : Nat} {rv : Value} {row : List Ent} (id prio seq : Int) (h : HP B w hb rv ab ac most row) (hk : knB most id = false) :
    Calls Try.prog 20 #[.pointer (some ⟨hb, 0, none⟩), .int .i64 id, .int .i64 prio, .int .i64 seq] w fun e w' => e = .returned (.int .i64 1) ∧ w' = w := by
  have hc1 := h.c1
  go_enter Try.func20, Try.ntmps20
  go_wp2_with fail
  refine (known_any hb ab ac most id _ hc1).mono ?_
  rintro e w1 ⟨rfl, rfl⟩
  rw [hk]
  clear hk
  go_wp2_with fail
  go_ret
  exact ⟨rfl, rfl⟩

set_option maxHeartbeats 1000000 in
theorem put_twice {B : Nat} {w : World} {hb ab ac most : Nat} {rv : Value} {row : List Ent} (id prio seq : Int) (h : HP B w hb rv ab ac most row) (hk : knB most id = true) (hp : place row id.toNat ≠ 0) :
    Calls Try.prog 20 #[.pointer (some ⟨hb, 0, none⟩), .int .i64 id, .int .i64 prio, .int .i64 seq] w fun e w' => e = .returned (.int .i64 6) ∧ w' = w := by
  have hc1 := h.c1
  have hh : hhasB most row id = true := by simp [hhasB, hp, hk]
  clear hp
  go_enter Try.func20, Try.ntmps20
  go_wp2_with fail
  refine (known_any hb ab ac most id _ hc1).mono ?_
  rintro e w1 ⟨rfl, rfl⟩
  rw [hk]
  clear hk
  go_wp2_with fail
  refine (has_any id h).mono ?_
  rintro e w1 ⟨rfl, rfl⟩
  rw [hh]
  clear hh
  go_wp2_with fail
  go_ret
  exact ⟨rfl, rfl⟩

theorem flat_snoc (row : List Ent) (e : Ent) : flat (row ++ [e]) = flat row ++ entV e := by simp [flat]

theorem entV_one (e : Ent) : ∀ u ∈ entV e, u.oneCell' = true := by
  intro u hu
  simp [entV] at hu
  rcases hu with rfl | rfl | rfl <;> rfl

theorem HP.hb_lt {B : Nat} {w : World} {hb : Nat} {rv : Value} {ab ac most : Nat} {row : List Ent} (h : HP B w hb rv ab ac most row) : hb < w.heap.size := (h.foot hb (.inl rfl)).2
theorem HP.ab_lt {B : Nat} {w : World} {hb : Nat} {rv : Value} {ab ac most : Nat} {row : List Ent} (h : HP B w hb rv ab ac most row) : ab < w.heap.size := (h.foot ab (.inr (.inl rfl))).2

/-- What the walk of Put needs, and what comes of it. -/
structure PutOut (B : Nat) (w w1 : World) (hb g cap ab ac most : Nat) (rv : Value) (row : List Ent) (e : Ent) : Prop where
  c0 : w1.cell? ⟨hb, 0, none⟩ = some rv
  f0 : ∀ j, w1.frozen? ⟨hb, j, none⟩ = false
  d1 : hb ≠ g
  d2 : ab ≠ g
  c1 : (w1.setCell ⟨hb, 0, none⟩ (.slice (some ⟨g, 0, none⟩) (row.length + 1) cap)).cell? ⟨hb, 0, none⟩ = some (.slice (some ⟨g, 0, none⟩) (row.length + 1) cap)
  c2 : (w1.setCell ⟨hb, 0, none⟩ (.slice (some ⟨g, 0, none⟩) (row.length + 1) cap)).cell? ⟨hb, 1, none⟩ = some (.slice (some ⟨ab, 0, none⟩) most ac)
  c3 : ∃ u, (w1.setCell ⟨hb, 0, none⟩ (.slice (some ⟨g, 0, none⟩) (row.length + 1) cap)).cell? ⟨ab, e.id.toNat, none⟩ = some u
  f3 : ∀ j, (w1.setCell ⟨hb, 0, none⟩ (.slice (some ⟨g, 0, none⟩) (row.length + 1) cap)).frozen? ⟨ab, j, none⟩ = false
  hp : HP B ((w1.setCell ⟨hb, 0, none⟩ (.slice (some ⟨g, 0, none⟩) (row.length + 1) cap)).setCell ⟨ab, e.id.toNat, none⟩ (.int .i64 ((row.length : Int) + 1))) hb (.slice (some ⟨g, 0, none⟩) (row.length + 1) cap) ab ac most (row ++ [e])
  tu : Turns (Foot hb rv ab) w ((w1.setCell ⟨hb, 0, none⟩ (.slice (some ⟨g, 0, none⟩) (row.length + 1) cap)).setCell ⟨ab, e.id.toNat, none⟩ (.int .i64 ((row.length : Int) + 1)))

theorem put_parts {B : Nat} {w w1 : World} {hb g cap ab ac most : Nat} {rv : Value} {row : List Ent} {e : Ent} (h : HP B w hb rv ab ac most row) (h0 : 0 ≤ e.id) (h1 : e.id < (most : Int)) (hn : ∀ i, i < row.length → (at' row i).id ≠ e.id)
    (hown : w1.ownsRow B 77 3 (.slice (some ⟨g, 0, none⟩) (row.length + 1) cap) (row.length + 1) (flat row ++ entV e)) (t : Turns (fun k => rv.ownBlock = some k) w w1) (hg : rv.ownBlock = some g ∨ w.heap.size ≤ g) :
    PutOut B w w1 hb g cap ab ac most rv row e := by
  have hhb := h.hb_lt
  have hab := h.ab_lt
  have d1 : hb ≠ g := by
    intro x
    rcases hg with hg | hg
    · exact h.d2 (by rw [hg, x])
    · omega
  have d2 : ab ≠ g := by
    intro x
    rcases hg with hg | hg
    · exact h.d3 (by rw [hg, x])
    · omega
  have o2 := owns_turns h.hd t (fun k hk e => h.d2 (by simp [Value.ownBlock] at hk; rw [hk]; exact e))
  have o3 := owns_turns h.ats t (fun k hk e => h.d3 (by simp [Value.ownBlock] at hk; rw [hk]; exact e))
  have s2 := (o2.stored 0 (.slice (some ⟨g, 0, none⟩) (row.length + 1) cap)).1
  have t2 : Turns (fun k => k = hb) w1 (w1.setCell ⟨hb, 0, none⟩ (.slice (some ⟨g, 0, none⟩) (row.length + 1) cap)) := Turns.setCell (S := fun k => k = hb) (Turns.refl _ _) rfl _
  have s3 := owns_turns o3 t2 (fun k hk e => h.d1 (by simp [Value.ownBlock] at hk; omega))
  have s1 := owns_turns hown t2 (fun k hk e => d1 (by simp [Value.ownBlock] at hk; omega))
  have t3 : Turns (fun k => k = ab) (w1.setCell ⟨hb, 0, none⟩ (.slice (some ⟨g, 0, none⟩) (row.length + 1) cap)) ((w1.setCell ⟨hb, 0, none⟩ (.slice (some ⟨g, 0, none⟩) (row.length + 1) cap)).setCell ⟨ab, e.id.toNat, none⟩ (.int .i64 ((row.length : Int) + 1))) := Turns.setCell (S := fun k => k = ab) (Turns.refl _ _) rfl _
  have gg := good_snoc h.good e h0 h1 hn
  refine ⟨by rw [o2.cellAt 0 (by omega)]; rfl, o2.frozenAt, d1, d2, by rw [s2.cellAt 0 (by omega)]; rfl, by rw [s2.cellAt 1 (by omega)]; rfl, ?_, s3.frozenAt, ?_, ?_⟩
  · rw [s3.cellAt e.id.toNat (by omega), List.getElem?_map, atOf_get _ _ _ (by omega)]
    exact ⟨_, rfl⟩
  · refine ⟨?_, ?_, ?_, h.d1, ?_, ?_, gg, h.top, ?_⟩
    · rw [flat_snoc, List.length_append]
      exact owns_turns s1 t3 (fun k hk e => d2 (by simp [Value.ownBlock] at hk; omega))
    · rw [atOf_snoc h.good e h0 h1 hn, List.map_set]
      exact (s3.stored e.id.toNat _).1
    · exact owns_turns s2 t3 (fun k hk e => h.d1 (by simp [Value.ownBlock] at hk; omega))
    · intro x; exact d1 (by simp [Value.ownBlock] at x; omega)
    · intro x; exact d2 (by simp [Value.ownBlock] at x; omega)
    · have := good_len gg; have := h.top; omega
  · refine ((t.mono ?_).trans (t2.mono ?_)).trans (t3.mono ?_)
    · intro k _ hk; exact .inr (.inr hk)
    · intro k _ hk; exact .inl hk
    · intro k _ hk; exact .inr (.inl hk)

set_option maxHeartbeats 2000000 in
theorem put_ok {B : Nat} {w : World} {hb ab ac most : Nat} {rv : Value} {row : List Ent} (id prio seq : Int) (h : HP B w hb rv ab ac most row) (hk : knB most id = true) (hp : place row id.toNat = 0) (hB : B ≤ w.heap.size) :
    Calls Try.prog 20 #[.pointer (some ⟨hb, 0, none⟩), .int .i64 id, .int .i64 prio, .int .i64 seq] w fun e w' => e = .returned (.int .i64 0) ∧ ∃ rv',
      HP B w' hb rv' ab ac most (rise row.length (row ++ [⟨id, prio, seq⟩]) row.length) ∧ Turns (Foot hb rv ab) w w' ∧ (rv'.ownBlock = rv.ownBlock ∨ ∀ k, rv'.ownBlock = some k → w.heap.size ≤ k) := by
  have hc1 := h.c1
  have hc0 := h.c0
  have hlen := h.len
  have htop := h.top
  have hh : hhasB most row id = false := by simp [hhasB, hp]
  obtain ⟨k1, k2⟩ : 0 ≤ id ∧ id < (most : Int) := by simpa [knB] using hk
  have hno : ∀ i, i < row.length → (at' row i).id ≠ id := by
    rcases place_cases row id.toNat with ⟨_, hx⟩ | ⟨i, hi, hid, hpp⟩
    · intro i hi hc
      have := hx i hi
      omega
    · omega
  have HNO : Hid (∀ i, i < row.length → (at' row i).id ≠ id) := hno
  clear hp hno
  obtain ⟨i, hi, hz0, hz1, hz2⟩ := info_parts Try.info62
  have hown := h.own
  have hnews : ∀ j u, (entV ⟨id, prio, seq⟩)[j]? = some u → (w.alloc (.cells #[.int .i64 id, .int .i64 prio, .int .i64 seq] 77)).cell? ((⟨w.heap.size, 0, none⟩ : Addr).add j) = some u := by
    intro j u hu
    rw [Addr.add_lit, Nat.zero_add, World.cell?_alloc_at _ _ _ _ rfl]
    simpa [entV] using hu
  rcases h.form with ⟨rfl, hnil⟩ | ⟨g0, cap0, rfl, hnil, _, _⟩
  all_goals
    clear hnil
    go_enter Try.func20, Try.ntmps20
    go_wp2_with fail
    refine (known_any hb ab ac most id _ hc1).mono ?_
    rintro e w1 ⟨rfl, hw⟩
    subst w1
    rw [hk]
    go_wp2_with fail
    refine (has_any id h).mono ?_
    rintro e w1 ⟨rfl, hw⟩
    subst w1
    rw [hh]
    go_wp2_with (at_builtin; refine wpList_append_lies _ rfl _ _ _ rfl B 77 i _ 3 24 Try.underlying72 hi hz0 hz1 hz2 rfl (by omega) _ row.length (flat row) (by rfl) (hown.alloc _) ⟨w.heap.size, 0, none⟩ 1 1 (entV ⟨id, prio, seq⟩) (by rfl) (by rfl) hnews (entV_one _) (by omega) (by unfold maxLen; omega) (by omega) (by simp; omega) (w.heap.size + 1) (by simp) ?_; intro g cap w1 hown1 hgrow hat hlt; have HQ := put_parts h k1 k2 HNO.out hown1 (((Turns.refl _ _).alloc _).trans (Turns.grown hgrow (fun k hk => hk))) (hat.imp (fun x => x) (fun x => by omega)); have q1 := HQ.c0; have q2 := HQ.f0)
    obtain ⟨_, _, d1, d2, p5, p6, ⟨u, p7⟩, p8, p9, p10⟩ := HQ
    clear q1 q2 hown hown1 hnews hc0 hc1
    generalize hW2 : w1.setCell ⟨hb, 0, none⟩ (.slice (some ⟨g, 0, none⟩) (row.length + 1) cap) = W2 at *
    go_region
    have d0 := h.d1
    go_wp2_with fail
    have hl1 : (row ++ [(⟨id, prio, seq⟩ : Ent)]).length = row.length + 1 := by simp
    refine (rise_any (B := B) (g := g) (cap := cap) (ab := ab) (ac := ac) (most := most) (row := row ++ [⟨id, prio, seq⟩]) (p := row.length) ?_ (by rw [hl1]; omega)).mono ?_
    · rw [hl1]
      exact ⟨p9.own, p9.ats, p9.hd, p9.d1, p9.d2, p9.d3, p9.good, p9.top, p9.len⟩
    rw [hl1]
    rintro e w3 ⟨rfl, h3, t3⟩
    go_wp2_with fail
    go_ret
    refine ⟨rfl, _, h3, ?_, ?_⟩
    · refine p10.drew.next t3 ?_
      intro k hk hkk
      rcases hkk with rfl | rfl
      · exact .inr (.inl rfl)
      · rcases hat with hat | hat
        · exact .inr (.inr hat)
        · omega
    · rcases hat with hat | hat
      · exact .inl hat.symm
      · refine .inr ?_
        intro k hk
        simp [Value.ownBlock] at hk
        omega
end Go.Proofs.Ytcfgcbjhlamchaa
namespace Go.Proofs.Ytcfgcbjhlamchaa
open Go.RowKit Hp

theorem set_self {l : List Value} {i : Nat} {v : Value} (h : l[i]? = some v) : l.set i v = l := by
  apply List.ext_getElem?
  intro j
  rw [List.getElem?_set]
  split
  · rename_i e; subst e; rw [h]; split
    · rfl
    · rename_i hx; rw [List.getElem?_eq_none (by omega)] at h; cases h
  · rfl

theorem flat_setPrio (row : List Ent) (p : Nat) (v : Int) (hp : p < row.length) : (flat row).set (p * 3 + 1) (.int .i64 v) = flat (setPrio row p v) := by
  unfold setPrio
  rw [← flat_set row p _ hp]
  have g0 := flat_get' row p 0 hp (by omega)
  have g2 := flat_get' row p 2 hp (by omega)
  rw [set_self (l := flat row) (i := p * 3) (by exact g0)]
  refine (set_self ?_).symm
  rw [List.getElem?_set_ne (by omega)]
  exact g2

theorem set_hp {B : Nat} {w : World} {hb g cap ab ac most : Nat} {row : List Ent} {p : Nat} (v : Int) (h : HP B w hb (.slice (some ⟨g, 0, none⟩) row.length cap) ab ac most row) (hp : p < row.length) :
    HP B (w.setCell ⟨g, p * 3 + 1, none⟩ (.int .i64 v)) hb (.slice (some ⟨g, 0, none⟩) row.length cap) ab ac most (setPrio row p v) ∧ Turns (fun k => k = ab ∨ k = g) w (w.setCell ⟨g, p * 3 + 1, none⟩ (.int .i64 v)) := by
  have hg : hb ≠ g := fun e => h.d2 (by rw [e]; rfl)
  have hag : ab ≠ g := fun e => h.d3 (by rw [e]; rfl)
  have t : Turns (fun k => k = g) w (w.setCell ⟨g, p * 3 + 1, none⟩ (.int .i64 v)) := Turns.setCell (S := fun k => k = g) (Turns.refl _ _) rfl _
  refine ⟨⟨?_, ?_, ?_, h.d1, h.d2, h.d3, good_setPrio h.good p v hp, h.top, by rw [setPrio_length]; exact h.len⟩, t.mono (fun _ _ h => .inr h)⟩
  · rw [setPrio_length, ← flat_setPrio row p v hp]
    exact (h.own.stored (p * 3 + 1) _).1
  · rw [atOf_setPrio h.good p v hp]
    exact owns_turns h.ats t (fun k hk e => hag (by simp [Value.ownBlock] at hk; omega))
  · exact owns_turns h.hd t (fun k hk e => hg (by simp [Value.ownBlock] at hk; omega))

theorem rise_keeps (p : Nat) (row : List Ent) (q : Nat) : (rise q row p).length = row.length := rise_len q row p

set_option maxHeartbeats 1000000 in
theorem remove_arg {B : Nat} {w : World} {hb ab ac most : Nat} {rv : Value} {row : List Ent} (id : Int) (h : HP B w hb rv ab ac most row) (hk : knB most id = false) :
    Calls Try.prog 37 #[.pointer (some ⟨hb, 0, none⟩), .int .i64 id] w fun e w' => e = .returned (.int .i64 1) ∧ w' = w := by
  go_enter Try.func37, Try.ntmps37
  go_wp2_with fail
  refine (find_arg id h hk).mono ?_
  rintro e w1 ⟨rfl, rfl⟩
  go_wp2_with fail
  go_ret
  exact ⟨rfl, rfl⟩

set_option maxHeartbeats 1000000 in
theorem remove_none {B : Nat} {w : World} {hb ab ac most : Nat} {rv : Value} {row : List Ent} (id : Int) (h : HP B w hb rv ab ac most row) (hk : knB most id = true) (hp : place row id.toNat = 0) :
    Calls Try.prog 37 #[.pointer (some ⟨hb, 0, none⟩), .int .i64 id] w fun e w' => e = .returned (.int .i64 8) ∧ w' = w := by
  go_enter Try.func37, Try.ntmps37
  go_wp2_with fail
  refine (find_none id h hk hp).mono ?_
  rintro e w1 ⟨rfl, rfl⟩
  go_wp2_with fail
  go_ret
  exact ⟨rfl, rfl⟩

/-- What the walk of Remove needs behind the exchange. -/
structure RemOut (B : Nat) (w : World) (hb g cap ab ac most n : Nat) (id : Int) (row : List Ent) : Prop where
  c0 : w.cell? ⟨hb, 0, none⟩ = some (.slice (some ⟨g, 0, none⟩) (n + 1) cap)
  f0 : ∀ j, w.frozen? ⟨hb, j, none⟩ = false
  c1 : w.cell? ⟨hb, 1, none⟩ = some (.slice (some ⟨ab, 0, none⟩) most ac)
  c2 : ∃ u, w.cell? ⟨ab, id.toNat, none⟩ = some u
  f2 : ∀ j, w.frozen? ⟨ab, j, none⟩ = false
  hp : HP B ((w.setCell ⟨hb, 0, none⟩ (.slice (some ⟨g, 0, none⟩) n cap)).setCell ⟨ab, id.toNat, none⟩ (.int .i64 0)) hb (.slice (some ⟨g, 0, none⟩) n cap) ab ac most (cut row)
  tu : Turns (fun k => k = hb ∨ k = ab) w ((w.setCell ⟨hb, 0, none⟩ (.slice (some ⟨g, 0, none⟩) n cap)).setCell ⟨ab, id.toNat, none⟩ (.int .i64 0))

theorem rem_parts {B : Nat} {w : World} {hb g cap ab ac most n : Nat} {id : Int} {row : List Ent} (h : HP B w hb (.slice (some ⟨g, 0, none⟩) row.length cap) ab ac most row) (hn : row.length = n + 1) (hid : (at' row n).id = id) :
    RemOut B w hb g cap ab ac most n id row := by
  have d1 : hb ≠ g := fun e => h.d2 (by rw [e]; rfl)
  have d2 : ab ≠ g := fun e => h.d3 (by rw [e]; rfl)
  have l0 := h.good.lo n (by omega)
  have l1 := h.good.hi n (by omega)
  rw [hid] at l0 l1
  have t2 : Turns (fun k => k = hb) w (w.setCell ⟨hb, 0, none⟩ (.slice (some ⟨g, 0, none⟩) n cap)) := Turns.setCell (S := fun k => k = hb) (Turns.refl _ _) rfl _
  have t3 : Turns (fun k => k = ab) (w.setCell ⟨hb, 0, none⟩ (.slice (some ⟨g, 0, none⟩) n cap)) ((w.setCell ⟨hb, 0, none⟩ (.slice (some ⟨g, 0, none⟩) n cap)).setCell ⟨ab, id.toNat, none⟩ (.int .i64 0)) := Turns.setCell (S := fun k => k = ab) (Turns.refl _ _) rfl _
  have s2 := (h.hd.stored 0 (.slice (some ⟨g, 0, none⟩) n cap)).1
  have s3 := owns_turns h.ats t2 (fun k hk e => h.d1 (by simp [Value.ownBlock] at hk; omega))
  have hl : (cut row).length = n := by rw [cut_length]; omega
  have o : w.ownsRow B 77 3 (.slice (some ⟨g, 0, none⟩) n cap) n (flat (cut row)) := by
    have ho := h.own
    have hc := cut_snoc row (by omega)
    have hf : flat row = flat (cut row) ++ entV (at' row n) := by
      rw [← flat_snoc]
      congr 1
      rw [hn] at hc
      exact hc
    rw [hf, hn] at ho
    exact ownsRow_pop (by rw [flat_length, hl]) ho
  have s1 := owns_turns o t2 (fun k hk e => d1 (by simp [Value.ownBlock] at hk; omega))
  refine ⟨by rw [h.c0, hn], h.f0, h.c1, ⟨_, h.at id.toNat (by omega)⟩, h.fa, ?_, ?_⟩
  · refine ⟨?_, ?_, ?_, h.d1, ?_, ?_, good_cut h.good, h.top, by have := h.len; omega⟩
    · rw [hl]
      exact owns_turns s1 t3 (fun k hk e => d2 (by simp [Value.ownBlock] at hk; omega))
    · rw [atOf_cut h.good (by omega), List.map_set]
      rw [show row.length - 1 = n from by omega, hid]
      exact (s3.stored id.toNat _).1
    · exact owns_turns s2 t3 (fun k hk e => h.d1 (by simp [Value.ownBlock] at hk; omega))
    · intro x; exact d1 (by simp [Value.ownBlock] at x; omega)
    · intro x; exact d2 (by simp [Value.ownBlock] at x; omega)
  · exact (t2.mono (fun _ _ h => Or.inl h)).trans (t3.mono (fun _ _ h => Or.inr h))

/-- The row behind Remove of the one at p. -/
def remR (row : List Ent) (p : Nat) : List Ent := if p = row.length - 1 then rem row p else sink (row.length - 1) (rise p (rem row p) p) p

set_option maxHeartbeats 2000000 in
theorem remove_ok {B : Nat} {w : World} {hb ab ac most : Nat} {rv : Value} {row : List Ent} (id : Int) (p : Nat) (h : HP B w hb rv ab ac most row) (hk : knB most id = true) (hp : place row id.toNat = (p : Int) + 1) (hpl : p < row.length) (hid : (at' row p).id = id) :
    Calls Try.prog 37 #[.pointer (some ⟨hb, 0, none⟩), .int .i64 id] w fun e w' => e = .returned (.int .i64 0) ∧ ∃ rv',
      HP B w' hb rv' ab ac most (remR row p) ∧ Turns (Foot hb rv ab) w w' ∧ rv'.ownBlock = rv.ownBlock := by
  have hlen := h.len
  have htop := h.top
  have hc0 := h.c0
  obtain ⟨k1, k2⟩ : 0 ≤ id ∧ id < (most : Int) := by simpa [knB] using hk
  obtain ⟨n, hn⟩ : ∃ n, row.length = n + 1 := ⟨row.length - 1, by omega⟩
  have hrem : Hid (rem row p = cut (swp row p n)) := by show _ = _; unfold rem; rw [hn, Nat.add_sub_cancel]
  have HN1 : Hid (row.length - 1 = n) := by show _ = _; omega
  have HL : Hid ((swp row p n).length = n + 1) := by show _ = _; rw [swp_length, hn]
  have HID : Hid ((at' (swp row p n) n).id = id) := by show _ = _; rw [at_swp row p n n hpl (by omega), if_pos rfl]; exact hid
  have HN : Hid (row.length = n + 1) := hn
  have HP0 : Hid (place row id.toNat = (p : Int) + 1) := hp
  have HCL : Hid ((cut (swp row p n)).length = n) := by show _ = _; rw [cut_length, swp_length, hn, Nat.add_sub_cancel]
  have hpn : p ≤ n := by omega
  have hn256 : n + 1 ≤ 256 := by omega
  clear hid hp
  rcases h.form with ⟨rfl, hnil⟩ | ⟨g, cap, rfl, hcap, d1, d2⟩
  · rw [hnil] at hpl; simp at hpl
  · rw [HN.out] at hc0 hcap
    have d0 := h.d1
    clear hn
    by_cases hpe : p = n
    · have ht : ¬ (p : Int) < (n : Int) := by omega
      have HPE : Hid (p = n) := hpe
      clear hpe
      go_enter Try.func37, Try.ntmps37
      go_wp2_with fail
      refine (hfind_some id p h hk HP0.out hpl).mono ?_
      rintro e w1 ⟨rfl, hw⟩
      subst w1
      go_wp2_with fail
      refine (swap_any (B := B) (g := g) (cap := cap) (ab := ab) (ac := ac) (most := most) (row := row) (a := p) (b := n) h hpl (by rw [HN.out]; omega)).mono ?_
      rintro e w1 ⟨rfl, h1, t1⟩
      have R := rem_parts (n := n) (id := id) (row := swp row p n) (by rw [swp_length]; exact h1) HL.out HID.out
      obtain ⟨r0, r1, r2, ⟨u, r3⟩, r4, r5, r6⟩ := R
      clear hc0
      go_wp2_with fail
      go_ret
      have e1 : remR row p = cut (swp row p n) := by
        unfold remR; rw [HN1.out, if_pos HPE.out]; exact hrem.out
      refine ⟨rfl, .slice (some ⟨g, 0, none⟩) n cap, by rw [e1]; exact r5, ?_, rfl⟩
      refine (t1.mono ?_).trans (r6.mono ?_)
      · intro k _ hk
        rcases hk with rfl | rfl
        · exact .inr (.inl rfl)
        · exact .inr (.inr rfl)
      · intro k _ hk
        rcases hk with rfl | rfl
        · exact .inl rfl
        · exact .inr (.inl rfl)
    · have ht : (p : Int) < (n : Int) := by omega
      have HPE : Hid (¬ p = n) := hpe
      clear hpe
      go_enter Try.func37, Try.ntmps37
      go_wp2_with fail
      refine (hfind_some id p h hk HP0.out hpl).mono ?_
      rintro e w1 ⟨rfl, hw⟩
      subst w1
      go_wp2_with fail
      refine (swap_any (B := B) (g := g) (cap := cap) (ab := ab) (ac := ac) (most := most) (row := row) (a := p) (b := n) h hpl (by rw [HN.out]; omega)).mono ?_
      rintro e w1 ⟨rfl, h1, t1⟩
      have R := rem_parts (n := n) (id := id) (row := swp row p n) (by rw [swp_length]; exact h1) HL.out HID.out
      obtain ⟨r0, r1, r2, ⟨u, r3⟩, r4, r5, r6⟩ := R
      clear hc0
      go_wp2_with fail
      refine (settle_any (B := B) (g := g) (cap := cap) (ab := ab) (ac := ac) (most := most) (row := cut (swp row p n)) (p := p) (by rw [HCL.out]; exact r5) (by rw [HCL.out]; omega) (rise_len _ _ _)).mono ?_
      rw [HCL.out]
      rintro e w2 ⟨rfl, h2, t2⟩
      go_wp2_with fail
      go_ret
      have e1 : remR row p = sink n (rise p (cut (swp row p n)) p) p := by
        unfold remR; rw [HN1.out, if_neg HPE.out, hrem.out]
      refine ⟨rfl, .slice (some ⟨g, 0, none⟩) n cap, by rw [e1]; exact h2, ?_, rfl⟩
      refine ((t1.mono ?_).trans (r6.mono ?_)).trans (t2.mono ?_)
      · intro k _ hk
        rcases hk with rfl | rfl
        · exact .inr (.inl rfl)
        · exact .inr (.inr rfl)
      · intro k _ hk
        rcases hk with rfl | rfl
        · exact .inl rfl
        · exact .inr (.inl rfl)
      · intro k _ hk
        rcases hk with rfl | rfl
        · exact .inr (.inl rfl)
        · exact .inr (.inr rfl)
end Go.Proofs.Ytcfgcbjhlamchaa
namespace Go.Proofs.Ytcfgcbjhlamchaa
open Go.RowKit Hp

set_option maxHeartbeats 400000 in
theorem clone_nil (w : World) : Calls Try.prog 50 #[.slice none 0 0] w fun e w' => e = .returned (.slice none 0 0) ∧ w' = w := by
  have he : (binOp .eql 72 (.slice none 0 0) (.slice none 0 0)).run Try.prog w = .ok (.bool true) w := by
    simpa using Lib.run_eql_slice_nil (P := Try.prog) w 72 77 none 0 0 0 0 Try.underlying72
  go_enter Try.func50, Try.ntmps50
  go_wp2
  go_ret
  exact ⟨rfl, rfl⟩

set_option maxHeartbeats 400000 in
theorem clone_some (B g n cap : Nat) (xs : List Value) (w : World) (h : w.ownsRow B 77 3 (.slice (some ⟨g, 0, none⟩) n cap) n xs) (hx : ∀ u ∈ xs, u.oneCell' = true) (hn : n ≤ 256) (hB : B ≤ w.heap.size) :
    Calls Try.prog 50 #[.slice (some ⟨g, 0, none⟩) n cap] w fun e w' => ∃ g' cap', e = .returned (.slice (some ⟨g', 0, none⟩) n cap') ∧ w'.ownsRow B 77 3 (.slice (some ⟨g', 0, none⟩) n cap') n xs ∧ w.heap.size ≤ g' ∧ Turns (fun _ => False) w w' := by
  obtain ⟨i, hi, hz0, hz1, hz2⟩ := info_parts Try.info62
  have hl := h.1
  have HX : Hid (xs.length = n * 3) := hl
  clear hl
  have he : (binOp .eql 72 (.slice (some ⟨g, 0, none⟩) n cap) (.slice none 0 0)).run Try.prog w = .ok (.bool false) w := by
    simpa using Lib.run_eql_slice_nil (P := Try.prog) w 72 77 (some ⟨g, 0, none⟩) n cap 0 0 Try.underlying72
  have hown0 : (w.alloc (.cells #[] 77)).ownsRow B 77 3 (.slice (some ⟨w.heap.size, 0, none⟩) 0 0) 0 [] := World.ownsRow_made w #[] 0 hB (by unfold maxLen; omega) rfl
  have hnews : ∀ j u, xs[j]? = some u → (w.alloc (.cells #[] 77)).cell? ((⟨g, 0, none⟩ : Addr).add j) = some u := (h.alloc (.cells #[] 77)).cells rfl
  go_enter Try.func50, Try.ntmps50
  go_wp2_with (at_builtin; refine wpList_append_own_at _ rfl _ _ _ rfl B 77 i _ 3 24 Try.underlying72 hi hz0 hz1 hz2 rfl (by omega) (.slice (some ⟨w.heap.size, 0, none⟩) 0 0) 0 [] (by rfl) hown0 ⟨g, 0, none⟩ n cap xs (by rfl) HX.out hnews hx (by unfold maxLen; omega) (by omega) (by simp; omega) ?_; intro v' w' h1 h2 h3 h4)
  go_ret
  rw [Nat.zero_add, List.nil_append] at h1
  obtain ⟨g', cap', rfl⟩ := own_form h1 (fun e => by have := h3.1 e; cases this.1)
  have hg : w.heap.size ≤ g' := by simp [Value.ownBlock] at h4; omega
  exact ⟨g', cap', rfl, h1, hg, ((Turns.refl _ _).alloc _).next (Turns.grown (S := fun k => k = w.heap.size) h2 (fun k hk => by simp [Value.ownBlock] at hk; omega)) (fun i hi e => by omega)⟩

set_option maxHeartbeats 400000 in
theorem clone_ints (B g n cap : Nat) (xs : List Value) (w : World) (h : w.ownsRow B 3 1 (.slice (some ⟨g, 0, none⟩) n cap) n xs) (hx : ∀ u ∈ xs, u.oneCell' = true) (hn : n ≤ 256) (hB : B ≤ w.heap.size) :
    Calls Try.prog 51 #[.slice (some ⟨g, 0, none⟩) n cap] w fun e w' => ∃ g' cap', e = .returned (.slice (some ⟨g', 0, none⟩) n cap') ∧ w'.ownsRow B 3 1 (.slice (some ⟨g', 0, none⟩) n cap') n xs ∧ w.heap.size ≤ g' ∧ Turns (fun _ => False) w w' := by
  obtain ⟨i, hi, hz0, hz1, hz2⟩ := info_parts Try.info3
  have hl := h.1
  have HX : Hid (xs.length = n * 1) := hl
  clear hl
  have he : (binOp .eql 35 (.slice (some ⟨g, 0, none⟩) n cap) (.slice none 0 0)).run Try.prog w = .ok (.bool false) w := by
    simpa using Lib.run_eql_slice_nil (P := Try.prog) w 35 3 (some ⟨g, 0, none⟩) n cap 0 0 Try.underlying35
  have hown0 : (w.alloc (.cells #[] 3)).ownsRow B 3 1 (.slice (some ⟨w.heap.size, 0, none⟩) 0 0) 0 [] := World.ownsRow_made w #[] 0 hB (by unfold maxLen; omega) rfl
  have hnews : ∀ j u, xs[j]? = some u → (w.alloc (.cells #[] 3)).cell? ((⟨g, 0, none⟩ : Addr).add j) = some u := (h.alloc (.cells #[] 3)).cells rfl
  go_enter Try.func51, Try.ntmps51
  go_wp2_with (at_builtin; refine wpList_append_own_at _ rfl _ _ _ rfl B 3 i _ 1 8 Try.underlying35 hi hz0 hz1 hz2 rfl (by omega) (.slice (some ⟨w.heap.size, 0, none⟩) 0 0) 0 [] (by rfl) hown0 ⟨g, 0, none⟩ n cap xs (by rfl) HX.out hnews hx (by unfold maxLen; omega) (by omega) (by simp; omega) ?_; intro v' w' h1 h2 h3 h4)
  go_ret
  rw [Nat.zero_add, List.nil_append] at h1
  obtain ⟨g', cap', rfl⟩ := own_form h1 (fun e => by have := h3.1 e; cases this.1)
  have hg : w.heap.size ≤ g' := by simp [Value.ownBlock] at h4; omega
  exact ⟨g', cap', rfl, h1, hg, ((Turns.refl _ _).alloc _).next (Turns.grown (S := fun k => k = w.heap.size) h2 (fun k hk => by simp [Value.ownBlock] at hk; omega)) (fun i hi e => by omega)⟩

theorem flat_one (row : List Ent) : ∀ u ∈ flat row, u.oneCell' = true := by
  intro u hu
  simp only [flat, List.mem_flatMap] at hu
  obtain ⟨e, _, he⟩ := hu
  exact entV_one e u he
theorem ints_one (l : List Int) : ∀ u ∈ l.map (Value.int .i64), u.oneCell' = true := by
  intro u hu
  simp only [List.mem_map] at hu
  obtain ⟨e, _, rfl⟩ := hu
  rfl

/-- What a clone of the row leaves. -/
structure CloneOut (B : Nat) (w W w' : World) (t : TypeId) (size g cap n : Nat) (xs : List Value) : Prop where
  own : w'.ownsRow B t size (.slice (some ⟨g, 0, none⟩) n cap) n xs
  lo : W.heap.size ≤ g
  base : Turns (fun _ => False) w w'
  step : Turns (fun _ => False) W w'

theorem clone_row {B : Nat} {w W : World} {hb g cap ab ac most : Nat} {row : List Ent} (h : HP B w hb (.slice (some ⟨g, 0, none⟩) row.length cap) ab ac most row) (hB : B ≤ w.heap.size) (t : Turns (fun _ => False) w W) :
    Calls Try.prog 50 #[.slice (some ⟨g, 0, none⟩) row.length cap] W fun e w' => ∃ g' cap', e = .returned (.slice (some ⟨g', 0, none⟩) row.length cap') ∧ CloneOut B w W w' 77 3 g' cap' row.length (flat row) := by
  refine (clone_some B g row.length cap (flat row) W (owns_turns h.own t (fun _ _ h => h)) (flat_one row) h.len (Nat.le_trans hB t.size)).mono ?_
  rintro e w' ⟨g', cap', rfl, h1, h2, h3⟩
  exact ⟨g', cap', rfl, h1, h2, t.trans h3, h3⟩

theorem clone_ats {B : Nat} {w W : World} {hb ab ac most : Nat} {rv : Value} {row : List Ent} (h : HP B w hb rv ab ac most row) (hB : B ≤ w.heap.size) (t : Turns (fun _ => False) w W) :
    Calls Try.prog 51 #[.slice (some ⟨ab, 0, none⟩) most ac] W fun e w' => ∃ g' cap', e = .returned (.slice (some ⟨g', 0, none⟩) most cap') ∧ CloneOut B w W w' 3 1 g' cap' most ((atOf most row).map (Value.int .i64)) := by
  refine (clone_ints B ab most ac _ W (owns_turns h.ats t (fun _ _ h => h)) (ints_one _) h.top (Nat.le_trans hB t.size)).mono ?_
  rintro e w' ⟨g', cap', rfl, h1, h2, h3⟩
  exact ⟨g', cap', rfl, h1, h2, t.trans h3, h3⟩

/-- A twin's heap. -/
structure TwinOut (B : Nat) (w w' : World) (hb ab ac most : Nat) (rv : Value) (row : List Ent) : Prop where
  hp : HP B w' hb rv ab ac most row
  lo : ∀ k, Foot hb rv ab k → w.heap.size ≤ k
  tu : Turns (fun _ => False) w w'

theorem twin_out {B : Nat} {w w2 : World} {hb ab ac most g2 c2 : Nat} {rv rv2 : Value} {row : List Ent} (h : HP B w hb rv ab ac most row) (hB : B ≤ w.heap.size)
    (o1 : w2.ownsRow B 77 3 rv2 row.length (flat row)) (o2 : w2.ownsRow B 3 1 (.slice (some ⟨g2, 0, none⟩) most c2) most ((atOf most row).map (Value.int .i64))) (hne : rv2.ownBlock ≠ some g2)
    (l1 : ∀ k, rv2.ownBlock = some k → w.heap.size ≤ k) (l2 : w.heap.size ≤ g2) (t : Turns (fun _ => False) w w2) :
    TwinOut B w (w2.alloc (.cells #[rv2, .slice (some ⟨g2, 0, none⟩) most c2] 74)) w2.heap.size g2 c2 most rv2 row := by
  have k1 := o1.lt
  have k2 := (o2.lt g2 rfl).2
  have hs := t.size
  refine ⟨⟨o1.alloc _, o2.alloc _, World.ownsRow_lit w2 _ 1 (by omega) (by unfold maxLen; omega) rfl, by omega, ?_, hne, h.good, h.top, h.len⟩, ?_, t.alloc _⟩
  · intro e; have := (k1 _ e).2; omega
  · intro k hk
    rcases hk with rfl | rfl | hk
    · exact hs
    · exact l2
    · exact l1 k hk

set_option maxHeartbeats 2000000 in
theorem twin_some {B : Nat} {w : World} {hb g cap ab ac most : Nat} {row : List Ent} (h : HP B w hb (.slice (some ⟨g, 0, none⟩) row.length cap) ab ac most row) (hB : B ≤ w.heap.size) :
    Calls Try.prog 34 #[.pointer (some ⟨hb, 0, none⟩)] w fun e w' => ∃ hb', e = .returned (.pointer (some ⟨hb', 0, none⟩)) ∧ ∃ rv' ab' ac', TwinOut B w w' hb' ab' ac' most rv' row := by
  have hc0 := h.c0
  have hc1 := h.c1
  have hlt := h.hb_lt
  have T0 : Turns (fun _ => False) w w := Turns.refl _ _
  have T00 : Turns (fun _ => False) w w.drew := (Turns.refl _ _).drew
  go_enter Try.func34, Try.ntmps34
  go_wp2_with fail
  go_region_held3 (fun w' => w'.cell? ⟨hb, 0, none⟩ = some (.slice (some ⟨g, 0, none⟩) row.length cap) ∧ w'.cell? ⟨hb, 1, none⟩ = some (.slice (some ⟨ab, 0, none⟩) most ac)) (go_keep)
    (first | (go_at_call 50; refine (clone_row h hB (by assumption)).mono ?_; rintro e w1 ⟨g1, c1, rfl, O1⟩; have T1 := O1.base; have z0 := T1.cell hc0 hlt (fun x => x); have z1 := T1.cell hc1 hlt (fun x => x)) | (go_at_call 51; refine (clone_ats h hB (by assumption)).mono ?_; rintro e w2 ⟨g2, c2, rfl, O2⟩; have T2 := O2.base; have z2 := T2.cell hc0 hlt (fun x => x); have z3 := T2.cell hc1 hlt (fun x => x)))
  go_wp2_with fail
  go_ret
  have k1 : B ≤ g1 ∧ g1 < w1.heap.size := O1.own.lt g1 rfl
  have k2 := O2.lo
  have k3 : w.heap.size ≤ g1 := O1.lo
  have k4 := O2.step.size
  have k5 := T1.size
  exact ⟨w2.heap.size, rfl, _, g2, c2, twin_out h hB (owns_turns O1.own O2.step (fun _ _ h => h)) O2.own (fun e => by simp [Value.ownBlock] at e; omega) (fun k e => by simp [Value.ownBlock] at e; omega) (by omega) T2⟩

set_option maxHeartbeats 2000000 in
theorem twin_nil {B : Nat} {w : World} {hb ab ac most : Nat} (h : HP B w hb (.slice none 0 0) ab ac most []) (hB : B ≤ w.heap.size) :
    Calls Try.prog 34 #[.pointer (some ⟨hb, 0, none⟩)] w fun e w' => ∃ hb', e = .returned (.pointer (some ⟨hb', 0, none⟩)) ∧ ∃ rv' ab' ac', TwinOut B w w' hb' ab' ac' most rv' [] := by
  have hc0 := h.c0
  have hc1 := h.c1
  have hlt := h.hb_lt
  have T0 : Turns (fun _ => False) w w := Turns.refl _ _
  have T00 : Turns (fun _ => False) w w.drew := (Turns.refl _ _).drew
  go_enter Try.func34, Try.ntmps34
  go_wp2_with fail
  go_region_held3 (fun w' => w'.cell? ⟨hb, 0, none⟩ = some (.slice none 0 0) ∧ w'.cell? ⟨hb, 1, none⟩ = some (.slice (some ⟨ab, 0, none⟩) most ac)) (go_keep)
    (first | (go_at_call 50; refine (clone_nil _).mono ?_; rintro e w1 ⟨rfl, rfl⟩) | (go_at_call 51; refine (clone_ats h hB (by assumption)).mono ?_; rintro e w2 ⟨g2, c2, rfl, O2⟩; have T2 := O2.base; have z2 := T2.cell hc0 hlt (fun x => x); have z3 := T2.cell hc1 hlt (fun x => x)))
  go_wp2_with fail
  go_ret
  have k2 : w.heap.size ≤ g2 := O2.lo
  exact ⟨w2.heap.size, rfl, _, g2, c2, twin_out h hB (World.ownsRow_nil _ _ _ _) O2.own (fun e => by simp [Value.ownBlock] at e) (fun k e => by simp [Value.ownBlock] at e) k2 T2⟩

theorem twin_any {B : Nat} {w : World} {hb ab ac most : Nat} {rv : Value} {row : List Ent} (h : HP B w hb rv ab ac most row) (hB : B ≤ w.heap.size) :
    Calls Try.prog 34 #[.pointer (some ⟨hb, 0, none⟩)] w fun e w' => ∃ hb', e = .returned (.pointer (some ⟨hb', 0, none⟩)) ∧ ∃ rv' ab' ac', TwinOut B w w' hb' ab' ac' most rv' row := by
  rcases h.form with ⟨rfl, rfl⟩ | ⟨g, cap, rfl, _, _, _⟩
  · exact twin_nil h hB
  · exact twin_some h hB
end Go.Proofs.Ytcfgcbjhlamchaa
namespace Go.Proofs.Ytcfgcbjhlamchaa
open Go.RowKit Hp

theorem remR_len (row : List Ent) (p : Nat) : (remR row p).length = row.length - 1 := by
  unfold remR
  split
  · exact rem_length row p
  · rw [sink_len, rise_len, rem_length]

theorem remR_perm (row : List Ent) (p : Nat) (hp : p < row.length) : row.Perm (at' row p :: remR row p) := by
  refine (rem_perm row p hp).trans (List.Perm.cons _ ?_)
  unfold remR
  split
  · exact List.Perm.refl _
  · have h1 := rise_perm p (rem row p) p (by rw [rem_length]; omega)
    have h2 := sink_perm (row.length - 1) (rise p (rem row p) p) p (by rw [rise_len, rem_length]; omega)
    exact (h2.trans h1).symm

theorem remR_ord {row : List Ent} (o : Ord row) (p : Nat) (hp : p < row.length) : Ord (remR row p) := by
  unfold remR
  split
  · rename_i h; exact ord_rem_last o p (by omega) h
  · have := settle_ord (rem row p) p (by rw [rem_length]; omega) (mid_rem o p (by omega))
    rw [rem_length] at this
    exact this

namespace Hp
def drn : Nat → List Ent → List Ent
  | 0, _ => []
  | f + 1, row => at' row 0 :: drn f (remR row 0)
end Hp

theorem drain_len : ∀ (f : Nat) (row : List Ent), (drn f row).length = f
  | 0, _ => rfl
  | f + 1, row => by simp [drn, drain_len f]

theorem drain_perm : ∀ (f : Nat) (row : List Ent), row.length = f → (drn f row).Perm row
  | 0, row, h => by
    have : row = [] := List.eq_nil_of_length_eq_zero h
    subst this; exact List.Perm.refl _
  | f + 1, row, h => by
    unfold drn
    exact (List.Perm.cons _ (drain_perm f (remR row 0) (by rw [remR_len]; omega))).trans (remR_perm row 0 (by omega)).symm

theorem mem_at {row : List Ent} {x : Ent} (h : x ∈ row) : ∃ i, i < row.length ∧ x = at' row i := by
  obtain ⟨i, hi, rfl⟩ := List.getElem_of_mem h
  exact ⟨i, hi, Hp.get_at row i hi⟩
theorem at_mem {row : List Ent} {i : Nat} (h : i < row.length) : at' row i ∈ row := by
  rw [← Hp.get_at row i h]; exact List.getElem_mem h

/-- Not behind. -/
def nb (x y : Ent) : Prop := ahd y x = false

theorem drain_sorted : ∀ (f : Nat) (row : List Ent), row.length = f → Ord row → (drn f row).Pairwise nb
  | 0, _, _, _ => List.Pairwise.nil
  | f + 1, row, h, o => by
    unfold drn
    refine List.Pairwise.cons ?_ (drain_sorted f (remR row 0) (by rw [remR_len]; omega) (remR_ord o 0 (by omega)))
    intro y hy
    have h1 := (drain_perm f (remR row 0) (by rw [remR_len]; omega)).mem_iff.1 hy
    have h2 : y ∈ row := (remR_perm row 0 (by omega)).mem_iff.2 (List.mem_cons_of_mem _ h1)
    obtain ⟨i, hi, rfl⟩ := mem_at h2
    exact ord_head row o i hi

/-- Ids are unlike. -/
def Uniq (S : List Ent) : Prop := ∀ x, x ∈ S → ∀ y, y ∈ S → x.id = y.id → x = y

theorem good_uniq {most : Nat} {row : List Ent} (g : Hp.Good most row) : Uniq row := by
  intro x hx y hy h
  obtain ⟨i, hi, rfl⟩ := mem_at hx
  obtain ⟨j, hj, rfl⟩ := mem_at hy
  rw [g.nd i j hi hj h]

theorem uniq_perm {S T : List Ent} (h : Uniq S) (p : T.Perm S) : Uniq T :=
  fun x hx y hy e => h x (p.mem_iff.1 hx) y (p.mem_iff.1 hy) e

/-- Two rows of the same entries, both in their order, are one. -/
theorem sorted_eq {S T : List Ent} (u : Uniq T) (hS : S.Pairwise nb) (hT : T.Pairwise nb) (p : S.Perm T) : S = T := by
  refine List.Perm.eq_of_pairwise ?_ hS hT p
  intro a b ha hb h1 h2
  have ha' := p.mem_iff.1 ha
  by_cases hid : a.id = b.id
  · exact u a ha' b hb hid
  · rcases ahd_total hid with h | h
    · rw [show ahd a b = false from h2] at h; cases h
    · rw [show ahd b a = false from h1] at h; cases h

end Go.Proofs.Ytcfgcbjhlamchaa
namespace Go.Proofs.Ytcfgcbjhlamchaa
open Go.RowKit Hp

theorem HP.sl {B : Nat} {w : World} {hb : Nat} {rv : Value} {ab ac most : Nat} {row : List Ent} (h : HP B w hb rv ab ac most row) : ∃ a c, rv = .slice a row.length c := by
  rcases h.form with ⟨rfl, rfl⟩ | ⟨g, cap, rfl, _, _, _⟩
  · exact ⟨none, 0, rfl⟩
  · exact ⟨_, _, rfl⟩

theorem len_hp {B : Nat} {w : World} {hb : Nat} {rv : Value} {ab ac most : Nat} {row : List Ent} (h : HP B w hb rv ab ac most row) :
    Calls Try.prog 35 #[.pointer (some ⟨hb, 0, none⟩)] w fun e w' => e = .returned (.int .i64 row.length) ∧ w' = w := by
  obtain ⟨a, c, rfl⟩ := h.sl
  exact len_any hb row.length c a w h.c0

def idV (x : Ent) : Value := .int .i64 x.id
def lenOf : Value → Nat | .slice _ n _ => n | _ => 0

theorem idV_one (l : List Ent) : ∀ u ∈ l.map idV, u.oneCell' = true := by
  intro u hu
  simp only [List.mem_map] at hu
  obtain ⟨e, _, rfl⟩ := hu
  rfl

/-- The heap behind Remove of the one at its head. -/
theorem remove_head {B : Nat} {w : World} {hb ab ac most : Nat} {rv : Value} {row : List Ent} (h : HP B w hb rv ab ac most row) (hn : 0 < row.length) :
    Calls Try.prog 37 #[.pointer (some ⟨hb, 0, none⟩), .int .i64 (at' row 0).id] w fun e w' => e = .returned (.int .i64 0) ∧ ∃ rv',
      HP B w' hb rv' ab ac most (remR row 0) ∧ Turns (Foot hb rv ab) w w' ∧ rv'.ownBlock = rv.ownBlock := by
  have l0 := h.good.lo 0 hn
  have l1 := h.good.hi 0 hn
  refine remove_ok (at' row 0).id 0 h (by simp [knB]; omega) ?_ hn rfl
  exact place_eq row most _ 0 h.good hn (by omega)

set_option maxHeartbeats 2000000 in
theorem order_any {B : Nat} {w : World} {hb ab ac most : Nat} {rv : Value} {row : List Ent} (h : HP B w hb rv ab ac most row) (hB : B ≤ w.heap.size) :
    Calls Try.prog 21 #[.pointer (some ⟨hb, 0, none⟩)] w fun e w' => ∃ og, e = .returned (.slice (some ⟨og, 0, none⟩) row.length row.length) ∧
      w'.ownsRow B 3 1 (.slice (some ⟨og, 0, none⟩) row.length row.length) row.length ((drn row.length row).map idV) ∧ w.heap.size ≤ og ∧ Turns (fun _ => False) w w' := by
  obtain ⟨i, hi, hz0, hz1, hz2⟩ := info_parts Try.info3
  have hlen := h.len
  go_enter Try.func21, Try.ntmps21
  go_wp2_with fail
  go_step3
  go_wp2_with fail
  refine (twin_any h hB).mono ?_
  rintro e w1 ⟨hb1, rfl, rv1, ab1, ac1, O1⟩
  have hs1 := O1.tu.size
  have hB1 : B ≤ w1.heap.size := by omega
  go_wp2_with fail
  refine (len_hp O1.hp).mono ?_
  rintro e w2 ⟨rfl, hw⟩
  subst w2
  go_wp2_with (at_make; refine wpList_make_own _ rfl _ _ _ rfl B 3 i _ 1 Try.underlying35 hi hz0 hz1 .i64 .i64 _ row.length rfl rfl rfl (by rw [hz2]; omega) (by unfold maxLen; omega) hB1 ?_; intro w2 hown hgrow)
  go_step3
  go_wp2
  have hog : w1.heap.size < w2.heap.size := (hown.lt w1.heap.size rfl).2
  have hfoot := O1.hp.foot
  have hlo := O1.lo
  have HX : Hid (∀ k, Foot hb1 rv1 ab1 k → w.heap.size ≤ k ∧ k < w1.heap.size) := fun k hk => ⟨hlo k hk, (hfoot k hk).2⟩
  have hp2 := O1.hp.turns (Turns.grown (S := fun _ => False) hgrow (fun k hk => by cases hk)) (fun _ h => h.elim)
  have t2 : Turns (fun _ => False) w w2 := O1.tu.trans (Turns.grown hgrow (fun k hk => by cases hk))
  clear hfoot hlo hgrow
  generalize hOG : w1.heap.size = og at *
  have HOG : Hid (w1.heap.size = og) := hOG
  clear hOG
  go_loopw [4] (fun v wr => ∃ (gs rk : List Ent) (rvk : Value), v = .slice (some ⟨og, 0, none⟩) gs.length row.length ∧ Hid (gs.length + rk.length = row.length) ∧ Hid (gs ++ drn rk.length rk = drn row.length row) ∧
      wr.ownsRow B 3 1 (.slice (some ⟨og, 0, none⟩) gs.length row.length) gs.length (gs.map idV) ∧ HP B wr hb1 rvk ab1 ac1 most rk ∧ Hid (rvk.ownBlock = rv1.ownBlock) ∧ Turns (fun _ => False) w wr)
    (fun v _ => row.length - lenOf v)
  case atStart => exact ⟨[], row, rv1, rfl, by show _ = _; simp, by show _ = _; simp, hown, hp2, rfl, t2⟩
  case round =>
    obtain ⟨gs, rk, rvk, rfl, HL, HD, ho, hk, HV, ht⟩ := hrel
    clear hown hp2 t2 h
    by_cases hz : rk = []
    · subst hz
      go_wp2_with fail
      refine (top_none hk).mono ?_
      rintro e w3 ⟨rfl, hw⟩
      subst w3
      go_wp2_with fail
      rw [Exit.noGoto_ret]
      go_ret
      have hgl : gs.length = row.length := by have := HL.out; simpa using this
      have hgd : gs = drn row.length row := by have := HD.out; simpa [drn] using this
      refine ⟨og, ?_, ?_, hs1, ht⟩
      · show Ending.returned (.slice (some ⟨og, 0, none⟩) gs.length row.length) = _
        rw [hgl]
      · rw [hgl, hgd] at ho
        exact ho
    · have hpos : 0 < rk.length := List.length_pos_iff.2 hz
      clear hz
      go_wp2_with fail
      refine (top_some hk hpos).mono ?_
      rintro e w3 ⟨rfl, hw⟩
      subst w3
      have hLout := HL.out
      have hnews : ∀ j u, [idV (at' rk 0)][j]? = some u → (wr.alloc (.cells #[.int .i64 (at' rk 0).id] 3)).cell? ((⟨wr.heap.size, 0, none⟩ : Addr).add j) = some u := by
        intro j u hu
        rw [Addr.add_lit, Nat.zero_add, World.cell?_alloc_at _ _ _ _ rfl]
        simpa [idV] using hu
      go_wp2_with (at_builtin; refine wpList_append_fits _ rfl _ _ _ rfl B 3 i 1 Try.underlying35 hi hz1 og gs.length row.length (gs.map idV) (by rfl) (ho.alloc _) ⟨wr.heap.size, 0, none⟩ 1 1 [idV (at' rk 0)] (by rfl) rfl hnews (idV_one [at' rk 0]) (by omega) ?_; intro w4 ho4 hg4)
      have hFt : ∀ k, Foot hb1 rvk ab1 k → w.heap.size ≤ k ∧ k < og := by
        intro k hk
        refine HX.out k ?_
        rcases hk with hk | hk | hk
        · exact .inl hk
        · exact .inr (.inl hk)
        · exact .inr (.inr (by rw [← HV.out]; exact hk))
      have tg : Turns (fun k => k = og) (wr.alloc (.cells #[.int .i64 (at' rk 0).id] 3)) w4 := Turns.grown hg4 (fun k e => by cases e; rfl)
      have t4 : Turns (fun k => k = og) wr w4 := ((Turns.refl _ _).alloc _).trans tg
      have hk4 := hk.turns t4 (fun k e hf => by have := (hFt k hf).2; omega)
      refine (remove_head hk4 hpos).mono ?_
      rintro e w5 ⟨rfl, rv5, hk5, t5, hv5⟩
      go_wp2_with fail
      go_roundw
      case rel =>
        refine ⟨gs ++ [at' rk 0], remR rk 0, rv5, ?_, ?_, ?_, ?_, hk5, ?_, ?_⟩
        · simp
        · show _ = _
          rw [List.length_append, remR_len]
          simp
          omega
        · show _ = _
          rw [← HD.out, remR_len]
          obtain ⟨m, hm⟩ : ∃ m, rk.length = m + 1 := ⟨rk.length - 1, by omega⟩
          rw [hm]
          simp [drn]
        · rw [List.length_append, List.map_append]
          exact owns_turns ho4 t5 (fun k e hf => by simp [Value.ownBlock] at e; have := (hFt k hf).2; omega)
        · show _ = _
          rw [hv5, HV.out]
        · exact (ht.next t4 (fun k hk e => by omega)).next t5 (fun k hk e => by have := (hFt k e).1; omega)
      case measure => simp [lenOf]; omega
end Go.Proofs.Ytcfgcbjhlamchaa
