/- Ops in a row in memory. -/
import Derived.Test.YtembbhbbmkijcaaDoorPrgP
import Derived.Test.YtembbhbbmkijcaaDoorTrn
namespace Go.Proofs.YtembbhbbmkijcaaDoor
open Go.RowKit

/-- The five cells at a place hold an op. -/
structure OpAt (w : World) (b f : Nat) (o : OpD) : Prop where
  k : w.cell? ⟨b, f, none⟩ = some (.int .i64 o.kind)
  n : w.cell? ⟨b, f + 1, none⟩ = some (.int .i64 o.n)
  v : w.cell? ⟨b, f + 2, none⟩ = some (.int .i64 o.v)
  wt : w.cell? ⟨b, f + 3, none⟩ = some (.int .i64 o.wait)
  cs : ∃ ca cc, w.cell? ⟨b, f + 4, none⟩ = some (.slice ca o.cases.length cc) ∧ o.cases.length ≤ cc ∧ (ca = Option.none → cc = 0) ∧ AtC w ca o.cases.length o.cases
theorem OpAt.kept {w w' : World} {b f : Nat} {o : OpD} (h : OpAt w b f o) (t : Kept w w') : OpAt w' b f o := by
  obtain ⟨ca, cc, h1, h2, h4, h3⟩ := h.cs
  exact ⟨t.cell h.k, t.cell h.n, t.cell h.v, t.cell h.wt, ca, cc, t.cell h1, h2, h4, h3.kept t⟩
/-- What a slice of ops shows. -/
def AtP (w : World) (a : Option Addr) (p : List OpD) : Prop := ∀ j o, p[j]? = some o → ∃ b f, a = some ⟨b, f, none⟩ ∧ OpAt w b (f + j * 5) o
theorem AtP.kept {w w' : World} {a : Option Addr} {p : List OpD} (h : AtP w a p) (t : Kept w w') : AtP w' a p := by
  intro j o hj
  obtain ⟨b, f, e, ho⟩ := h j o hj
  exact ⟨b, f, e, ho.kept t⟩
theorem AtP.nil (w : World) (a : Option Addr) : AtP w a [] := by intro j o hj; simp at hj
theorem AtP.get {w : World} {a : Option Addr} {p : List OpD} (h : AtP w a p) (j : Nat) (hj : j < p.length) : ∃ b f, ∃ k n v wt : Int, ∃ l ca cc, a = some ⟨b, f, none⟩ ∧ p[j]? = some ⟨k, n, v, wt, l⟩ ∧ w.cell? ⟨b, f + j * 5, none⟩ = some (.int .i64 k) ∧ w.cell? ⟨b, f + j * 5 + 1, none⟩ = some (.int .i64 n) ∧ w.cell? ⟨b, f + j * 5 + 2, none⟩ = some (.int .i64 v) ∧ w.cell? ⟨b, f + j * 5 + 3, none⟩ = some (.int .i64 wt) ∧ w.cell? ⟨b, f + j * 5 + 4, none⟩ = some (.slice ca l.length cc) ∧ l.length ≤ cc ∧ AtC w ca l.length l ∧ b < w.heap.size ∧ p.drop j = ⟨k, n, v, wt, l⟩ :: p.drop (j + 1) := by
  obtain ⟨b, f, e, ho⟩ := h j p[j] (List.getElem?_eq_getElem hj)
  obtain ⟨ca, cc, h1, h2, _, h3⟩ := ho.cs
  exact ⟨b, f, p[j].kind, p[j].n, p[j].v, p[j].wait, p[j].cases, ca, cc, e, List.getElem?_eq_getElem hj, ho.k, ho.n, ho.v, ho.wt, h1, h2, h3, cell_lt ho.k, List.drop_eq_getElem_cons hj⟩
theorem AtP.nil0 {w : World} {b f : Nat} {p : List OpD} (h : AtP w (some ⟨b, f, none⟩) p) {j : Nat} {o : OpD} {ca : Option Addr} {m cc : Nat} (hj : p[j]? = some o) (g : w.cell? ⟨b, f + j * 5 + 4, none⟩ = some (.slice ca m cc)) : ca = Option.none → cc = 0 := by
  obtain ⟨b', f', e, ho⟩ := h j o hj
  cases e
  obtain ⟨ca', cc', h1, _, h4, _⟩ := ho.cs
  rw [h1] at g
  cases g
  exact h4
/-- A part of a row. -/
theorem AtP.drop {w : World} {b f : Nat} {p : List OpD} (h : AtP w (some ⟨b, f, none⟩) p) (k : Nat) : AtP w (some ⟨b, f + k * 5, none⟩) (p.drop k) := by
  intro j o hj
  rw [List.getElem?_drop] at hj
  obtain ⟨b', f', e, ho⟩ := h (k + j) o hj
  cases e
  refine ⟨b, f + k * 5, rfl, ?_⟩
  have : f + (k + j) * 5 = f + k * 5 + j * 5 := by omega
  rw [← this]
  exact ho
theorem AtP.take {w : World} {a : Option Addr} {p : List OpD} (h : AtP w a p) (k : Nat) : AtP w a (p.take k) := by
  intro j o hj
  rw [List.getElem?_take] at hj
  split at hj
  · exact h j o hj
  · cases hj
end Go.Proofs.YtembbhbbmkijcaaDoor
