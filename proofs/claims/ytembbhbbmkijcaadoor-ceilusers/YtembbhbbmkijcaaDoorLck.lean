/- Locks, of a program. -/
import Derived.Test.YtembbhbbmkijcaaDoorStp
namespace Go.Proofs.YtembbhbbmkijcaaDoor
open Go.RowKit

/-- The numbers of the Locks, in their order. -/
def lockNs : List OpD → List Int
  | [] => []
  | o :: r => if o.kind = 2 then o.n :: lockNs r else lockNs r
theorem lockNs_next : ∀ (p : List OpD) (j : Nat) (o : OpD), p[j]? = some o → lockNs (p.take (j + 1)) = lockNs (p.take j) ++ (if o.kind = 2 then [o.n] else [])
  | [], _, _, h => by simp at h
  | q :: r, 0, o, h => by
    simp at h
    subst h
    simp only [List.take_succ_cons, List.take_zero, lockNs, List.nil_append]
  | q :: r, j + 1, o, h => by
    have := lockNs_next r j o (by simpa using h)
    simp only [List.take_succ_cons, lockNs]
    rw [this]
    split <;> simp
theorem lockNs_len : ∀ p : List OpD, (lockNs p).length ≤ p.length
  | [] => by simp [lockNs]
  | o :: r => by
    have := lockNs_len r
    rw [lockNs]
    split <;> simp <;> omega
def locksD (p : List OpD) : List Int := Lib.compact ((lockNs p).mergeSort fun x y => decide (x ≤ y))
/-- What a slice of numbers shows. -/
def AtI (w : World) (a : Option Addr) (l : List Int) : Prop := ∀ (j : Nat) (x : Int), l[j]? = some x → ∃ b f, a = some ⟨b, f, none⟩ ∧ w.cell? ⟨b, f + j, none⟩ = some (.int .i64 x)
theorem AtI.kept {w w' : World} {a : Option Addr} {l : List Int} (h : AtI w a l) (t : Kept w w') : AtI w' a l := by
  intro j x hj
  obtain ⟨b, f, e, hc⟩ := h j x hj
  exact ⟨b, f, e, t.cell hc⟩
theorem turns_put {α : Type} [Inhabited α] (enc : α → Value) (w : World) (n g off : Nat) (d : Array α) : Turns (fun k => k = g) w (Sort.putRow enc (Sort.ahead w n) g off d) := by
  refine ⟨rfl, rfl, rfl, by simp [Sort.ahead], fun k _ hk => ?_⟩
  unfold Sort.putRow Sort.mapBlock
  show ((Sort.ahead w n).heap.modify g _)[k]? = _
  rw [Array.getElem?_modify, if_neg (fun e => hk e.symm)]
  rfl
theorem turns_grow {S : Nat → Prop} {w w1 : World} (h : Turns S w w1) (os : Array Obj) : Turns S w (Sort.grow w1 os) := by
  refine ⟨h.os, h.tape, h.output, by have := h.size; simp; omega, fun k hk hs => ?_⟩
  rw [← h.block k hk hs]
  show (w1.heap ++ os)[k]? = _
  rw [Array.getElem?_append_left (by have := h.size; omega)]
theorem holds_row {e : TypeId} {B : Nat} {w : World} {g c : Nat} {l : List Int} (h : IRow e B w (.slice (some ⟨g, 0, none⟩) l.length c) l) : Sort.Holds (Value.int .i64) w g 0 l.toArray := by
  intro j hj
  have hj2 : j < l.length := by simpa using hj
  rw [Nat.zero_add]
  refine ⟨?_, ?_⟩
  · rw [h.cell j l[j] (List.getElem?_eq_getElem hj2)]
    simp [hj2]
  · unfold IRow at h
    exact h.frozenAt j
/-- What the two calls of the library leave. -/
theorem locks_left {w w1 : World} {g n q : Nat} {os : Array Obj} {zs : List Int} (hH : Sort.Holds (Value.int .i64) w1 g 0 zs.toArray) (hg : w.heap.size ≤ g) (hgl : g < w1.heap.size) (K : Kept w w1) (ms : List Int) (hms : ms.length = zs.length) (cs : List Int) (hcs : cs.length = ms.length) (rs : List Int) (hrs : ∀ (j : Nat) (x : Int), rs[j]? = some x → cs[j]? = some x) :
    Sort.Holds (Value.int .i64) (Sort.grow (Sort.putRow (Value.int .i64) (Sort.ahead w1 n) g 0 ms.toArray) os) g 0 ms.toArray ∧
    (AtI (Sort.putRow (Value.int .i64) (Sort.ahead (Sort.grow (Sort.putRow (Value.int .i64) (Sort.ahead w1 n) g 0 ms.toArray) os) q) g 0 cs.toArray) (some ⟨g, 0, none⟩) rs) ∧
    Kept w (Sort.putRow (Value.int .i64) (Sort.ahead (Sort.grow (Sort.putRow (Value.int .i64) (Sort.ahead w1 n) g 0 ms.toArray) os) q) g 0 cs.toArray) := by
  have hH1 : Sort.Holds (Value.int .i64) (Sort.ahead w1 n) g 0 zs.toArray := hH
  have hH2 : Sort.Holds (Value.int .i64) (Sort.grow (Sort.putRow (Value.int .i64) (Sort.ahead w1 n) g 0 ms.toArray) os) g 0 ms.toArray := by
    intro j hj
    have hsz : (Sort.putRow (Value.int .i64) (Sort.ahead w1 n) g 0 ms.toArray).heap.size = w1.heap.size := by simp [Sort.ahead]
    refine ⟨?_, ?_⟩
    · rw [Sort.cell?_grow _ _ _ (by show g < _; omega)]
      exact Sort.cell?_putRow _ _ _ _ _ _ hH1 (by simp [hms]) j hj
    · have h2 := (hH1 j (by simp at hj ⊢; omega)).2
      rw [Sort.frozen?_grow _ _ _ (by show g < _; omega), Sort.frozen?_putRow]
      exact h2
  refine ⟨hH2, ?_, ?_⟩
  · intro j x hj
    refine ⟨g, 0, rfl, ?_⟩
    have hc := hrs j x hj
    have hjc : j < cs.length := (List.getElem?_eq_some_iff.1 hc).1
    have h3 : Sort.Holds (Value.int .i64) (Sort.ahead (Sort.grow (Sort.putRow (Value.int .i64) (Sort.ahead w1 n) g 0 ms.toArray) os) q) g 0 ms.toArray := hH2
    rw [Sort.cell?_putRow (Value.int .i64) _ g 0 ms.toArray cs.toArray h3 (by simp [hcs]) j (by simpa using hjc)]
    have : cs[j] = x := by rw [List.getElem?_eq_getElem hjc] at hc; exact Option.some.inj hc
    simp [hjc, this]
  · have t1 := turns_grow (turns_put (Value.int .i64) w1 n g 0 ms.toArray) os
    have t2 := t1.trans (turns_put (Value.int .i64) _ q g 0 cs.toArray)
    exact t2.kept K (fun i hi => by omega)
end Go.Proofs.YtembbhbbmkijcaaDoor
