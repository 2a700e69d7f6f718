/- Channels and tasks in memory; word.Name. -/
import Derived.Test.YtembbhbbmkijcaaDoorSetP
import Derived.Test.YtembbhbbmkijcaaDoorChk
import Derived.Test.YtembbhbbmkijcaaDoorFlt
namespace Go.Proofs.YtembbhbbmkijcaaDoor
open Go.RowKit

/-- What a slice of channels shows. -/
def AtH (w : World) (a : Option Addr) (cs : List ChanD) : Prop := ∀ (j : Nat) (c : ChanD), cs[j]? = some c → ∃ b f, a = some ⟨b, f, none⟩ ∧ w.cell? ⟨b, f + j * 2, none⟩ = some (.int .i64 c.room) ∧ w.cell? ⟨b, f + j * 2 + 1, none⟩ = some (.int .i64 c.server)
theorem AtH.kept {w w' : World} {a : Option Addr} {cs : List ChanD} (h : AtH w a cs) (t : Kept w w') : AtH w' a cs := by
  intro j c hj
  obtain ⟨b, f, e, h1, h2⟩ := h j c hj
  exact ⟨b, f, e, t.cell h1, t.cell h2⟩
theorem AtH.nil (w : World) (a : Option Addr) : AtH w a [] := by intro j c hj; simp at hj
theorem AtH.get {w : World} {a : Option Addr} {cs : List ChanD} (h : AtH w a cs) (j : Nat) (hj : j < cs.length) : ∃ b f, ∃ r s : Int, a = some ⟨b, f, none⟩ ∧ cs[j]? = some ⟨r, s⟩ ∧ w.cell? ⟨b, f + j * 2, none⟩ = some (.int .i64 r) ∧ w.cell? ⟨b, f + j * 2 + 1, none⟩ = some (.int .i64 s) ∧ cs.drop j = ⟨r, s⟩ :: cs.drop (j + 1) := by
  obtain ⟨b, f, e, h1, h2⟩ := h j cs[j] (List.getElem?_eq_getElem hj)
  exact ⟨b, f, cs[j].room, cs[j].server, e, List.getElem?_eq_getElem hj, h1, h2, List.drop_eq_getElem_cons hj⟩
/-- The five cells at a place hold a task. -/
structure TkAt (w : World) (b f : Nat) (t : TaskD) : Prop where
  nm : w.cell? ⟨b, f, none⟩ = some (.string (B t.name))
  pd : w.cell? ⟨b, f + 1, none⟩ = some (.int .i64 t.period)
  dl : w.cell? ⟨b, f + 2, none⟩ = some (.int .i64 t.deadline)
  bu : w.cell? ⟨b, f + 3, none⟩ = some (.int .i64 t.budget)
  pg : ∃ pa pc, w.cell? ⟨b, f + 4, none⟩ = some (.slice pa t.prog.length pc) ∧ t.prog.length ≤ pc ∧ AtP w pa t.prog
theorem TkAt.kept {w w' : World} {b f : Nat} {t : TaskD} (h : TkAt w b f t) (k : Kept w w') : TkAt w' b f t := by
  obtain ⟨pa, pc, h1, h2, h3⟩ := h.pg
  exact ⟨k.cell h.nm, k.cell h.pd, k.cell h.dl, k.cell h.bu, pa, pc, k.cell h1, h2, h3.kept k⟩
/-- What a slice of tasks shows. -/
def AtT (w : World) (a : Option Addr) (ts : List TaskD) : Prop := ∀ (j : Nat) (t : TaskD), ts[j]? = some t → ∃ b f, a = some ⟨b, f, none⟩ ∧ TkAt w b (f + j * 5) t
theorem AtT.kept {w w' : World} {a : Option Addr} {ts : List TaskD} (h : AtT w a ts) (k : Kept w w') : AtT w' a ts := by
  intro j t hj
  obtain ⟨b, f, e, ht⟩ := h j t hj
  exact ⟨b, f, e, ht.kept k⟩
theorem AtT.nil (w : World) (a : Option Addr) : AtT w a [] := by intro j c hj; simp at hj
theorem AtT.get {w : World} {a : Option Addr} {ts : List TaskD} (h : AtT w a ts) (j : Nat) (hj : j < ts.length) : ∃ b f, ∃ nm, ∃ pd dl bu : Int, ∃ pr pa pc, a = some ⟨b, f, none⟩ ∧ ts[j]? = some ⟨nm, pd, dl, bu, pr⟩ ∧ w.cell? ⟨b, f + j * 5, none⟩ = some (.string (B nm)) ∧ w.cell? ⟨b, f + j * 5 + 1, none⟩ = some (.int .i64 pd) ∧ w.cell? ⟨b, f + j * 5 + 2, none⟩ = some (.int .i64 dl) ∧ w.cell? ⟨b, f + j * 5 + 3, none⟩ = some (.int .i64 bu) ∧ w.cell? ⟨b, f + j * 5 + 4, none⟩ = some (.slice pa pr.length pc) ∧ pr.length ≤ pc ∧ AtP w pa pr ∧ b < w.heap.size ∧ ts.drop j = ⟨nm, pd, dl, bu, pr⟩ :: ts.drop (j + 1) := by
  obtain ⟨b, f, e, ht⟩ := h j ts[j] (List.getElem?_eq_getElem hj)
  obtain ⟨pa, pc, h1, h2, h3⟩ := ht.pg
  exact ⟨b, f, ts[j].name, ts[j].period, ts[j].deadline, ts[j].budget, ts[j].prog, pa, pc, e, List.getElem?_eq_getElem hj, ht.nm, ht.pd, ht.dl, ht.bu, h1, h2, h3, cell_lt ht.nm, List.drop_eq_getElem_cons hj⟩
/-- Tasks of a size that any machine holds. -/
def TsOk (ts : List TaskD) : Prop := ∀ t ∈ ts, t.name.length ≤ 1000000 ∧ t.prog.length ≤ 100000 ∧ ∀ o ∈ t.prog, o.cases.length ≤ 1000000
theorem B_eq (a b : List UInt8) : ((B a).toList == (B b).toList) = (a == b) := by rw [toList_of, toList_of, B_list, B_list]
theorem B_is (x l : List UInt8) : ((B x).toList == l) = (x == l) := by rw [toList_of, B_list]

theorem within_false {lo hi : Nat} {l : List UInt8} {k : Nat} {c : UInt8} (h : l[k]? = some c) (hc : c.toNat < lo ∨ hi < c.toNat) : within lo hi l = false := by
  rw [Bool.eq_false_iff]
  intro e
  have := ((within_iff _ _ _).1 e).2 c (List.mem_of_getElem? h)
  omega
theorem within_all {lo hi : Nat} {l : List UInt8} (h : ∀ j c, j < l.length → l[j]? = some c → lo ≤ c.toNat ∧ c.toNat ≤ hi) : within lo hi l = !l.isEmpty := by
  unfold within
  have : l.all (fun c => decide (lo ≤ c.toNat) && decide (c.toNat ≤ hi)) = true := by
    rw [List.all_eq_true]
    intro c hc
    obtain ⟨j, hj, e⟩ := List.getElem_of_mem hc
    have := h j c hj (by rw [List.getElem?_eq_getElem hj, e])
    simp [this]
  rw [this, Bool.and_true]
end Go.Proofs.YtembbhbbmkijcaaDoor
