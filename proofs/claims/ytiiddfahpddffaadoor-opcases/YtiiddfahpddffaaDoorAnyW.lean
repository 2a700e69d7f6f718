/- OpAny, walked. -/
import Derived.Test.YtiiddfahpddffaaDoorKnown
import Derived.Test.YtiiddfahpddffaaDoorRTxt7
import Derived.Test.YtiiddfahpddffaaDoorRChk7
import Derived.Test.YtiiddfahpddffaaDoorOf
namespace Go.Proofs.YtiiddfahpddffaaDoor
open Go.RowKit

theorem text_len {o : OpD} (h : checkD o = 0) (hi : In64 o) : (textD o).length ≤ 1000 := by
  have ht := taken_of h
  have hb : ∀ x ∈ wordsD o, x.length ≤ 60 := by
    intro x hx
    unfold wordsD at hx
    simp only [List.mem_append] at hx
    rcases hx with (((hx | hx) | hx) | hx) | hx
    · rw [List.mem_singleton.1 hx]
      rcases kind_cases ht.kind with h | h | h | h | h | h | h | h | h <;> rw [h] <;> decide
    · split at hx
      · rw [List.mem_singleton.1 hx]; have := itoa_len hi.n; omega
      · cases hx
    · split at hx
      · rw [List.mem_singleton.1 hx]; have := itoa_len hi.v; omega
      · cases hx
    · split at hx
      · rw [List.mem_singleton.1 hx]; have := waitT_len hi.wait; omega
      · cases hx
    · split at hx
      · exact cases_len o.cases hi.cases x hx
      · cases hx
  have hn : (wordsD o).length ≤ 16 := by
    unfold wordsD
    have h1 : ∀ (b : Bool) (x : List UInt8), (if b = true then [x] else []).length ≤ 1 := by intro b x; cases b <;> simp
    have a1 := h1 (shapeOf o.kind.toNat).hasN (Lib.itoa o.n)
    have a2 := h1 (shapeOf o.kind.toNat).hasV (Lib.itoa o.v)
    have a3 := h1 (shapeOf o.kind.toNat).waits (waitT o.wait)
    have a4 : (if (shapeOf o.kind.toNat).picks = true then o.cases.flatMap caseW else []).length ≤ 12 := by
      split
      · rename_i hp
        have := words_len o.cases
        have := ht.many hp
        omega
      · simp
    simp only [List.length_append, List.length_cons, List.length_nil]
    omega
  have := joinW_le 60 (wordsD o) hb
  unfold textD
  have h2 : (60 + 1) * (wordsD o).length ≤ 61 * 16 := Nat.mul_le_mul_left 61 hn
  omega

set_option maxHeartbeats 16000000 in
set_option maxRecDepth 20000 in
theorem any_few (o p : OpD) (a : Option Addr) (m c : Nat) (a' : Option Addr) (m' c' : Nat) (w : World) (hA : AtC w a m o.cases) (hi : In64 o) (hA' : AtC w a' m' p.cases) (hm : m ≤ 20) (hm' : m' ≤ 20) (hr : Rdy w) :
    Calls Tryd.prog 3 #[.agg #[.int .i64 o.kind, .int .i64 o.n, .int .i64 o.v, .int .i64 o.wait, .slice a m c], .agg #[.int .i64 p.kind, .int .i64 p.n, .int .i64 p.v, .int .i64 p.wait, .slice a' m' c']] w fun e w' => e = .returned (.bool true) ∧ Kept w w' := by
  obtain ⟨k, n, v, wt, l⟩ := o
  obtain ⟨k', n', v', wt', l'⟩ := p
  simp only at hA hA' ⊢
  have HA : Hid (AtC w a m l) := hA
  have HA' : Hid (AtC w a' m' l') := hA'
  have HR : Hid (Rdy w) := hr
  have HI : Hid (In64 ⟨k, n, v, wt, l⟩) := hi
  have HL : Hid (l.length = m) := hA.1
  have HL' : Hid (l'.length = m') := hA'.1
  have hll : l.length ≤ 20 := by rw [HL.out]; exact hm
  have hll' : l'.length ≤ 20 := by rw [HL'.out]; exact hm'
  have BA0 := box_new w.heap.size w 24 [.int .i64 k, .int .i64 n, .int .i64 v, .int .i64 wt, .slice a m c] (Nat.le_refl _) (by simp)
  have KA := (Kept.refl w).alloc (.cells #[.int .i64 k, .int .i64 n, .int .i64 v, .int .i64 wt, .slice a m c] 24)
  have BBz := box_new w.heap.size (w.alloc (.cells #[.int .i64 k, .int .i64 n, .int .i64 v, .int .i64 wt, .slice a m c] 24)) 24 [.int .i64 k', .int .i64 n', .int .i64 v', .int .i64 wt', .slice a' m' c'] KA.size (by simp)
  have KB := KA.alloc (.cells #[.int .i64 k', .int .i64 n', .int .i64 v', .int .i64 wt', .slice a' m' c'] 24)
  have BAz := BA0.kept ((Kept.refl _).alloc (.cells #[.int .i64 k', .int .i64 n', .int .i64 v', .int .i64 wt', .slice a' m' c'] 24))
  have hsz : (w.alloc (.cells #[.int .i64 k, .int .i64 n, .int .i64 v, .int .i64 wt, .slice a m c] 24)).heap.size = w.heap.size + 1 := by simp
  rw [hsz] at BBz
  clear hA hA' hi hr hsz
  go_enter Tryd.func3, Tryd.ntmps3
  go_wp2_with fail
  refine (known_true _ (HR.out.kept KB)).mono ?_
  rintro e w1 ⟨rfl, t1⟩
  have BA1 := BAz.kept t1
  have BB1 := BBz.kept t1
  have K1 := KB.trans t1
  have fA0 : w1.cell? ⟨w.heap.size, 0, none⟩ = some (.int .i64 k) := BA1.cell 0 (by simp)
  have fA1 : w1.cell? ⟨w.heap.size, 1, none⟩ = some (.int .i64 n) := BA1.cell 1 (by simp)
  have fA2 : w1.cell? ⟨w.heap.size, 2, none⟩ = some (.int .i64 v) := BA1.cell 2 (by simp)
  have fA3 : w1.cell? ⟨w.heap.size, 3, none⟩ = some (.int .i64 wt) := BA1.cell 3 (by simp)
  have fA4 : w1.cell? ⟨w.heap.size, 4, none⟩ = some (.slice a m c) := BA1.cell 4 (by simp)
  have lA := BA1.lt.2
  have fB0 : w1.cell? ⟨w.heap.size + 1, 0, none⟩ = some (.int .i64 k') := BB1.cell 0 (by simp)
  have fB1 : w1.cell? ⟨w.heap.size + 1, 1, none⟩ = some (.int .i64 n') := BB1.cell 1 (by simp)
  have fB2 : w1.cell? ⟨w.heap.size + 1, 2, none⟩ = some (.int .i64 v') := BB1.cell 2 (by simp)
  have fB3 : w1.cell? ⟨w.heap.size + 1, 3, none⟩ = some (.int .i64 wt') := BB1.cell 3 (by simp)
  have fB4 : w1.cell? ⟨w.heap.size + 1, 4, none⟩ = some (.slice a' m' c') := BB1.cell 4 (by simp)
  have lB := BB1.lt.2
  go_wp2_with fail
  refine (few_any k n v wt a m c w1).mono ?_
  rintro e w2 ⟨rfl, t2⟩
  rw [decide_eq_true hm]
  have K2 := K1.trans t2
  have BA2 := BA1.kept t2
  have BB2 := BB1.kept t2
  clear fA0 fA1 fA2 fA3 fA4 lA fB0 fB1 fB2 fB3 fB4 lB
  have fA0 : w2.cell? ⟨w.heap.size, 0, none⟩ = some (.int .i64 k) := BA2.cell 0 (by simp)
  have fA1 : w2.cell? ⟨w.heap.size, 1, none⟩ = some (.int .i64 n) := BA2.cell 1 (by simp)
  have fA2 : w2.cell? ⟨w.heap.size, 2, none⟩ = some (.int .i64 v) := BA2.cell 2 (by simp)
  have fA3 : w2.cell? ⟨w.heap.size, 3, none⟩ = some (.int .i64 wt) := BA2.cell 3 (by simp)
  have fA4 : w2.cell? ⟨w.heap.size, 4, none⟩ = some (.slice a m c) := BA2.cell 4 (by simp)
  have lA := BA2.lt.2
  have fB0 : w2.cell? ⟨w.heap.size + 1, 0, none⟩ = some (.int .i64 k') := BB2.cell 0 (by simp)
  have fB1 : w2.cell? ⟨w.heap.size + 1, 1, none⟩ = some (.int .i64 n') := BB2.cell 1 (by simp)
  have fB2 : w2.cell? ⟨w.heap.size + 1, 2, none⟩ = some (.int .i64 v') := BB2.cell 2 (by simp)
  have fB3 : w2.cell? ⟨w.heap.size + 1, 3, none⟩ = some (.int .i64 wt') := BB2.cell 3 (by simp)
  have fB4 : w2.cell? ⟨w.heap.size + 1, 4, none⟩ = some (.slice a' m' c') := BB2.cell 4 (by simp)
  have lB := BB2.lt.2
  go_wp2_with fail
  refine (few_any k' n' v' wt' a' m' c' w2).mono ?_
  rintro e w3 ⟨rfl, t3⟩
  rw [decide_eq_true hm']
  have K3 := K2.trans t3
  have BA3 := BA2.kept t3
  have BB3 := BB2.kept t3
  clear fA0 fA1 fA2 fA3 fA4 lA fB0 fB1 fB2 fB3 fB4 lB
  have fA0 : w3.cell? ⟨w.heap.size, 0, none⟩ = some (.int .i64 k) := BA3.cell 0 (by simp)
  have fA1 : w3.cell? ⟨w.heap.size, 1, none⟩ = some (.int .i64 n) := BA3.cell 1 (by simp)
  have fA2 : w3.cell? ⟨w.heap.size, 2, none⟩ = some (.int .i64 v) := BA3.cell 2 (by simp)
  have fA3 : w3.cell? ⟨w.heap.size, 3, none⟩ = some (.int .i64 wt) := BA3.cell 3 (by simp)
  have fA4 : w3.cell? ⟨w.heap.size, 4, none⟩ = some (.slice a m c) := BA3.cell 4 (by simp)
  have lA := BA3.lt.2
  have fB0 : w3.cell? ⟨w.heap.size + 1, 0, none⟩ = some (.int .i64 k') := BB3.cell 0 (by simp)
  have fB1 : w3.cell? ⟨w.heap.size + 1, 1, none⟩ = some (.int .i64 n') := BB3.cell 1 (by simp)
  have fB2 : w3.cell? ⟨w.heap.size + 1, 2, none⟩ = some (.int .i64 v') := BB3.cell 2 (by simp)
  have fB3 : w3.cell? ⟨w.heap.size + 1, 3, none⟩ = some (.int .i64 wt') := BB3.cell 3 (by simp)
  have fB4 : w3.cell? ⟨w.heap.size + 1, 4, none⟩ = some (.slice a' m' c') := BB3.cell 4 (by simp)
  have lB := BB3.lt.2
  go_wp2_with fail
  refine (to_any k n v wt a m c l w3 (HA.out.kept K3) (by omega)).mono ?_
  rintro e w4 ⟨sv, rfl, RX, t4⟩
  obtain ⟨ax, cx, hsx, hcx, hatx⟩ := RX.at
  subst hsx
  have HX4 : Hid (AtC w4 ax l.length l) := hatx
  clear hatx RX
  have K4 := K3.trans t4
  have BA4 := BA3.kept t4
  have BB4 := BB3.kept t4
  have BX5 := box_new w.heap.size w4 29 [.int .i64 k, .int .i64 n, .int .i64 v, .int .i64 wt, .slice ax l.length cx] K4.size (by simp)
  have K5 := K4.alloc (.cells #[.int .i64 k, .int .i64 n, .int .i64 v, .int .i64 wt, .slice ax l.length cx] 29)
  have HX5 : Hid (AtC (w4.alloc (.cells #[.int .i64 k, .int .i64 n, .int .i64 v, .int .i64 wt, .slice ax l.length cx] 29)) ax l.length l) := HX4.out.kept ((Kept.refl _).alloc _)
  have BA5 := BA4.kept ((Kept.refl w4).alloc (.cells #[.int .i64 k, .int .i64 n, .int .i64 v, .int .i64 wt, .slice ax l.length cx] 29))
  have BB5 := BB4.kept ((Kept.refl w4).alloc (.cells #[.int .i64 k, .int .i64 n, .int .i64 v, .int .i64 wt, .slice ax l.length cx] 29))
  clear fA0 fA1 fA2 fA3 fA4 lA fB0 fB1 fB2 fB3 fB4 lB
  have fA0 : (w4.alloc (.cells #[.int .i64 k, .int .i64 n, .int .i64 v, .int .i64 wt, .slice ax l.length cx] 29)).cell? ⟨w.heap.size, 0, none⟩ = some (.int .i64 k) := BA5.cell 0 (by simp)
  have fA1 : (w4.alloc (.cells #[.int .i64 k, .int .i64 n, .int .i64 v, .int .i64 wt, .slice ax l.length cx] 29)).cell? ⟨w.heap.size, 1, none⟩ = some (.int .i64 n) := BA5.cell 1 (by simp)
  have fA2 : (w4.alloc (.cells #[.int .i64 k, .int .i64 n, .int .i64 v, .int .i64 wt, .slice ax l.length cx] 29)).cell? ⟨w.heap.size, 2, none⟩ = some (.int .i64 v) := BA5.cell 2 (by simp)
  have fA3 : (w4.alloc (.cells #[.int .i64 k, .int .i64 n, .int .i64 v, .int .i64 wt, .slice ax l.length cx] 29)).cell? ⟨w.heap.size, 3, none⟩ = some (.int .i64 wt) := BA5.cell 3 (by simp)
  have fA4 : (w4.alloc (.cells #[.int .i64 k, .int .i64 n, .int .i64 v, .int .i64 wt, .slice ax l.length cx] 29)).cell? ⟨w.heap.size, 4, none⟩ = some (.slice a m c) := BA5.cell 4 (by simp)
  have lA := BA5.lt.2
  have fB0 : (w4.alloc (.cells #[.int .i64 k, .int .i64 n, .int .i64 v, .int .i64 wt, .slice ax l.length cx] 29)).cell? ⟨w.heap.size + 1, 0, none⟩ = some (.int .i64 k') := BB5.cell 0 (by simp)
  have fB1 : (w4.alloc (.cells #[.int .i64 k, .int .i64 n, .int .i64 v, .int .i64 wt, .slice ax l.length cx] 29)).cell? ⟨w.heap.size + 1, 1, none⟩ = some (.int .i64 n') := BB5.cell 1 (by simp)
  have fB2 : (w4.alloc (.cells #[.int .i64 k, .int .i64 n, .int .i64 v, .int .i64 wt, .slice ax l.length cx] 29)).cell? ⟨w.heap.size + 1, 2, none⟩ = some (.int .i64 v') := BB5.cell 2 (by simp)
  have fB3 : (w4.alloc (.cells #[.int .i64 k, .int .i64 n, .int .i64 v, .int .i64 wt, .slice ax l.length cx] 29)).cell? ⟨w.heap.size + 1, 3, none⟩ = some (.int .i64 wt') := BB5.cell 3 (by simp)
  have fB4 : (w4.alloc (.cells #[.int .i64 k, .int .i64 n, .int .i64 v, .int .i64 wt, .slice ax l.length cx] 29)).cell? ⟨w.heap.size + 1, 4, none⟩ = some (.slice a' m' c') := BB5.cell 4 (by simp)
  have lB := BB5.lt.2
  have fX0 : (w4.alloc (.cells #[.int .i64 k, .int .i64 n, .int .i64 v, .int .i64 wt, .slice ax l.length cx] 29)).cell? ⟨w4.heap.size, 0, none⟩ = some (.int .i64 k) := BX5.cell 0 (by simp)
  have fX1 : (w4.alloc (.cells #[.int .i64 k, .int .i64 n, .int .i64 v, .int .i64 wt, .slice ax l.length cx] 29)).cell? ⟨w4.heap.size, 1, none⟩ = some (.int .i64 n) := BX5.cell 1 (by simp)
  have fX2 : (w4.alloc (.cells #[.int .i64 k, .int .i64 n, .int .i64 v, .int .i64 wt, .slice ax l.length cx] 29)).cell? ⟨w4.heap.size, 2, none⟩ = some (.int .i64 v) := BX5.cell 2 (by simp)
  have fX3 : (w4.alloc (.cells #[.int .i64 k, .int .i64 n, .int .i64 v, .int .i64 wt, .slice ax l.length cx] 29)).cell? ⟨w4.heap.size, 3, none⟩ = some (.int .i64 wt) := BX5.cell 3 (by simp)
  have fX4 : (w4.alloc (.cells #[.int .i64 k, .int .i64 n, .int .i64 v, .int .i64 wt, .slice ax l.length cx] 29)).cell? ⟨w4.heap.size, 4, none⟩ = some (.slice ax l.length cx) := BX5.cell 4 (by simp)
  have lX := BX5.lt.2
  have n1 : (checkD ⟨k, n, v, wt, l⟩ != checkD ⟨k, n, v, wt, l⟩) = false := by simp
  have n2 : (sameD ⟨k, n, v, wt, l⟩ ⟨k', n', v', wt', l'⟩ != sameD ⟨k, n, v, wt, l⟩ ⟨k', n', v', wt', l'⟩) = false := by simp
  have n3 : (waitsD ⟨k, n, v, wt, l⟩ != waitsD ⟨k, n, v, wt, l⟩) = false := by simp
  go_wp2_with fail
  go_region_held3 (fun w' => w'.cell? ⟨w.heap.size, 0, none⟩ = some (.int .i64 k) ∧ w'.cell? ⟨w.heap.size, 1, none⟩ = some (.int .i64 n) ∧ w'.cell? ⟨w.heap.size, 2, none⟩ = some (.int .i64 v) ∧ w'.cell? ⟨w.heap.size, 3, none⟩ = some (.int .i64 wt) ∧ w'.cell? ⟨w.heap.size, 4, none⟩ = some (.slice a m c) ∧ w'.cell? ⟨w.heap.size + 1, 0, none⟩ = some (.int .i64 k') ∧ w'.cell? ⟨w.heap.size + 1, 1, none⟩ = some (.int .i64 n') ∧ w'.cell? ⟨w.heap.size + 1, 2, none⟩ = some (.int .i64 v') ∧ w'.cell? ⟨w.heap.size + 1, 3, none⟩ = some (.int .i64 wt') ∧ w'.cell? ⟨w.heap.size + 1, 4, none⟩ = some (.slice a' m' c') ∧ w'.cell? ⟨w4.heap.size, 0, none⟩ = some (.int .i64 k) ∧ w'.cell? ⟨w4.heap.size, 1, none⟩ = some (.int .i64 n) ∧ w'.cell? ⟨w4.heap.size, 2, none⟩ = some (.int .i64 v) ∧ w'.cell? ⟨w4.heap.size, 3, none⟩ = some (.int .i64 wt) ∧ w'.cell? ⟨w4.heap.size, 4, none⟩ = some (.slice ax l.length cx)) (go_keep) (first | (go_at_call 16; refine (rwaits_any k n v wt a m c l w11).mono ?_; rintro e w12 ⟨rfl, t12⟩; have K12 := K11.trans t12; have BA12 := BA11.kept t12; have BB12 := BB11.kept t12; have BX12 := BX11.kept t12; have HX12 : Hid (AtC w12 ax l.length l) := HX11.out.kept t12; have fA0 : w12.cell? ⟨w.heap.size, 0, none⟩ = some (.int .i64 k) := BA12.cell 0 (by simp); have fA1 : w12.cell? ⟨w.heap.size, 1, none⟩ = some (.int .i64 n) := BA12.cell 1 (by simp); have fA2 : w12.cell? ⟨w.heap.size, 2, none⟩ = some (.int .i64 v) := BA12.cell 2 (by simp); have fA3 : w12.cell? ⟨w.heap.size, 3, none⟩ = some (.int .i64 wt) := BA12.cell 3 (by simp); have fA4 : w12.cell? ⟨w.heap.size, 4, none⟩ = some (.slice a m c) := BA12.cell 4 (by simp); have lA := BA12.lt.2; have fB0 : w12.cell? ⟨w.heap.size + 1, 0, none⟩ = some (.int .i64 k') := BB12.cell 0 (by simp); have fB1 : w12.cell? ⟨w.heap.size + 1, 1, none⟩ = some (.int .i64 n') := BB12.cell 1 (by simp); have fB2 : w12.cell? ⟨w.heap.size + 1, 2, none⟩ = some (.int .i64 v') := BB12.cell 2 (by simp); have fB3 : w12.cell? ⟨w.heap.size + 1, 3, none⟩ = some (.int .i64 wt') := BB12.cell 3 (by simp); have fB4 : w12.cell? ⟨w.heap.size + 1, 4, none⟩ = some (.slice a' m' c') := BB12.cell 4 (by simp); have lB := BB12.lt.2; have fX0 : w12.cell? ⟨w4.heap.size, 0, none⟩ = some (.int .i64 k) := BX12.cell 0 (by simp); have fX1 : w12.cell? ⟨w4.heap.size, 1, none⟩ = some (.int .i64 n) := BX12.cell 1 (by simp); have fX2 : w12.cell? ⟨w4.heap.size, 2, none⟩ = some (.int .i64 v) := BX12.cell 2 (by simp); have fX3 : w12.cell? ⟨w4.heap.size, 3, none⟩ = some (.int .i64 wt) := BX12.cell 3 (by simp); have fX4 : w12.cell? ⟨w4.heap.size, 4, none⟩ = some (.slice ax l.length cx) := BX12.cell 4 (by simp); have lX := BX12.lt.2) | (go_at_call 15; refine (waits_any k n v wt ax l.length cx l w10 (HR.out.kept K10)).mono ?_; rintro e w11 ⟨rfl, t11⟩; have K11 := K10.trans t11; have BA11 := BA10.kept t11; have BB11 := BB10.kept t11; have BX11 := BX10.kept t11; have HX11 : Hid (AtC w11 ax l.length l) := HX10.out.kept t11; have fA0 : w11.cell? ⟨w.heap.size, 0, none⟩ = some (.int .i64 k) := BA11.cell 0 (by simp); have fA1 : w11.cell? ⟨w.heap.size, 1, none⟩ = some (.int .i64 n) := BA11.cell 1 (by simp); have fA2 : w11.cell? ⟨w.heap.size, 2, none⟩ = some (.int .i64 v) := BA11.cell 2 (by simp); have fA3 : w11.cell? ⟨w.heap.size, 3, none⟩ = some (.int .i64 wt) := BA11.cell 3 (by simp); have fA4 : w11.cell? ⟨w.heap.size, 4, none⟩ = some (.slice a m c) := BA11.cell 4 (by simp); have lA := BA11.lt.2; have fB0 : w11.cell? ⟨w.heap.size + 1, 0, none⟩ = some (.int .i64 k') := BB11.cell 0 (by simp); have fB1 : w11.cell? ⟨w.heap.size + 1, 1, none⟩ = some (.int .i64 n') := BB11.cell 1 (by simp); have fB2 : w11.cell? ⟨w.heap.size + 1, 2, none⟩ = some (.int .i64 v') := BB11.cell 2 (by simp); have fB3 : w11.cell? ⟨w.heap.size + 1, 3, none⟩ = some (.int .i64 wt') := BB11.cell 3 (by simp); have fB4 : w11.cell? ⟨w.heap.size + 1, 4, none⟩ = some (.slice a' m' c') := BB11.cell 4 (by simp); have lB := BB11.lt.2; have fX0 : w11.cell? ⟨w4.heap.size, 0, none⟩ = some (.int .i64 k) := BX11.cell 0 (by simp); have fX1 : w11.cell? ⟨w4.heap.size, 1, none⟩ = some (.int .i64 n) := BX11.cell 1 (by simp); have fX2 : w11.cell? ⟨w4.heap.size, 2, none⟩ = some (.int .i64 v) := BX11.cell 2 (by simp); have fX3 : w11.cell? ⟨w4.heap.size, 3, none⟩ = some (.int .i64 wt) := BX11.cell 3 (by simp); have fX4 : w11.cell? ⟨w4.heap.size, 4, none⟩ = some (.slice ax l.length cx) := BX11.cell 4 (by simp); have lX := BX11.lt.2) | (go_at_call 14; refine (rsame_any k n v wt k' n' v' wt' a a' m m' c c' l l' w9 (HA.out.kept K9) (HA'.out.kept K9) (by omega)).mono ?_; rintro e w10 ⟨rfl, t10⟩; have K10 := K9.trans t10; have BA10 := BA9.kept t10; have BB10 := BB9.kept t10; have BX10 := BX9.kept t10; have HX10 : Hid (AtC w10 ax l.length l) := HX9.out.kept t10; have fA0 : w10.cell? ⟨w.heap.size, 0, none⟩ = some (.int .i64 k) := BA10.cell 0 (by simp); have fA1 : w10.cell? ⟨w.heap.size, 1, none⟩ = some (.int .i64 n) := BA10.cell 1 (by simp); have fA2 : w10.cell? ⟨w.heap.size, 2, none⟩ = some (.int .i64 v) := BA10.cell 2 (by simp); have fA3 : w10.cell? ⟨w.heap.size, 3, none⟩ = some (.int .i64 wt) := BA10.cell 3 (by simp); have fA4 : w10.cell? ⟨w.heap.size, 4, none⟩ = some (.slice a m c) := BA10.cell 4 (by simp); have lA := BA10.lt.2; have fB0 : w10.cell? ⟨w.heap.size + 1, 0, none⟩ = some (.int .i64 k') := BB10.cell 0 (by simp); have fB1 : w10.cell? ⟨w.heap.size + 1, 1, none⟩ = some (.int .i64 n') := BB10.cell 1 (by simp); have fB2 : w10.cell? ⟨w.heap.size + 1, 2, none⟩ = some (.int .i64 v') := BB10.cell 2 (by simp); have fB3 : w10.cell? ⟨w.heap.size + 1, 3, none⟩ = some (.int .i64 wt') := BB10.cell 3 (by simp); have fB4 : w10.cell? ⟨w.heap.size + 1, 4, none⟩ = some (.slice a' m' c') := BB10.cell 4 (by simp); have lB := BB10.lt.2; have fX0 : w10.cell? ⟨w4.heap.size, 0, none⟩ = some (.int .i64 k) := BX10.cell 0 (by simp); have fX1 : w10.cell? ⟨w4.heap.size, 1, none⟩ = some (.int .i64 n) := BX10.cell 1 (by simp); have fX2 : w10.cell? ⟨w4.heap.size, 2, none⟩ = some (.int .i64 v) := BX10.cell 2 (by simp); have fX3 : w10.cell? ⟨w4.heap.size, 3, none⟩ = some (.int .i64 wt) := BX10.cell 3 (by simp); have fX4 : w10.cell? ⟨w4.heap.size, 4, none⟩ = some (.slice ax l.length cx) := BX10.cell 4 (by simp); have lX := BX10.lt.2) | (go_at_call 13; refine (same_any k n v wt k' n' v' wt' ax az l.length l'.length cx cz l l' w8 HX8.out HZ8.out (by omega)).mono ?_; rintro e w9 ⟨rfl, t9⟩; have K9 := K8.trans t9; have BA9 := BA8.kept t9; have BB9 := BB8.kept t9; have BX9 := BX8.kept t9; have HX9 : Hid (AtC w9 ax l.length l) := HX8.out.kept t9; have fA0 : w9.cell? ⟨w.heap.size, 0, none⟩ = some (.int .i64 k) := BA9.cell 0 (by simp); have fA1 : w9.cell? ⟨w.heap.size, 1, none⟩ = some (.int .i64 n) := BA9.cell 1 (by simp); have fA2 : w9.cell? ⟨w.heap.size, 2, none⟩ = some (.int .i64 v) := BA9.cell 2 (by simp); have fA3 : w9.cell? ⟨w.heap.size, 3, none⟩ = some (.int .i64 wt) := BA9.cell 3 (by simp); have fA4 : w9.cell? ⟨w.heap.size, 4, none⟩ = some (.slice a m c) := BA9.cell 4 (by simp); have lA := BA9.lt.2; have fB0 : w9.cell? ⟨w.heap.size + 1, 0, none⟩ = some (.int .i64 k') := BB9.cell 0 (by simp); have fB1 : w9.cell? ⟨w.heap.size + 1, 1, none⟩ = some (.int .i64 n') := BB9.cell 1 (by simp); have fB2 : w9.cell? ⟨w.heap.size + 1, 2, none⟩ = some (.int .i64 v') := BB9.cell 2 (by simp); have fB3 : w9.cell? ⟨w.heap.size + 1, 3, none⟩ = some (.int .i64 wt') := BB9.cell 3 (by simp); have fB4 : w9.cell? ⟨w.heap.size + 1, 4, none⟩ = some (.slice a' m' c') := BB9.cell 4 (by simp); have lB := BB9.lt.2; have fX0 : w9.cell? ⟨w4.heap.size, 0, none⟩ = some (.int .i64 k) := BX9.cell 0 (by simp); have fX1 : w9.cell? ⟨w4.heap.size, 1, none⟩ = some (.int .i64 n) := BX9.cell 1 (by simp); have fX2 : w9.cell? ⟨w4.heap.size, 2, none⟩ = some (.int .i64 v) := BX9.cell 2 (by simp); have fX3 : w9.cell? ⟨w4.heap.size, 3, none⟩ = some (.int .i64 wt) := BX9.cell 3 (by simp); have fX4 : w9.cell? ⟨w4.heap.size, 4, none⟩ = some (.slice ax l.length cx) := BX9.cell 4 (by simp); have lX := BX9.lt.2) | (go_at_call 10; refine (to_any k' n' v' wt' a' m' c' l' w7 (HA'.out.kept K7) (by omega)).mono ?_; rintro e w8 ⟨svb, rfl, RB, t8⟩; have K8 := K7.trans t8; have BA8 := BA7.kept t8; have BB8 := BB7.kept t8; have BX8 := BX7.kept t8; have HX8 : Hid (AtC w8 ax l.length l) := HX7.out.kept t8; have fA0 : w8.cell? ⟨w.heap.size, 0, none⟩ = some (.int .i64 k) := BA8.cell 0 (by simp); have fA1 : w8.cell? ⟨w.heap.size, 1, none⟩ = some (.int .i64 n) := BA8.cell 1 (by simp); have fA2 : w8.cell? ⟨w.heap.size, 2, none⟩ = some (.int .i64 v) := BA8.cell 2 (by simp); have fA3 : w8.cell? ⟨w.heap.size, 3, none⟩ = some (.int .i64 wt) := BA8.cell 3 (by simp); have fA4 : w8.cell? ⟨w.heap.size, 4, none⟩ = some (.slice a m c) := BA8.cell 4 (by simp); have lA := BA8.lt.2; have fB0 : w8.cell? ⟨w.heap.size + 1, 0, none⟩ = some (.int .i64 k') := BB8.cell 0 (by simp); have fB1 : w8.cell? ⟨w.heap.size + 1, 1, none⟩ = some (.int .i64 n') := BB8.cell 1 (by simp); have fB2 : w8.cell? ⟨w.heap.size + 1, 2, none⟩ = some (.int .i64 v') := BB8.cell 2 (by simp); have fB3 : w8.cell? ⟨w.heap.size + 1, 3, none⟩ = some (.int .i64 wt') := BB8.cell 3 (by simp); have fB4 : w8.cell? ⟨w.heap.size + 1, 4, none⟩ = some (.slice a' m' c') := BB8.cell 4 (by simp); have lB := BB8.lt.2; have fX0 : w8.cell? ⟨w4.heap.size, 0, none⟩ = some (.int .i64 k) := BX8.cell 0 (by simp); have fX1 : w8.cell? ⟨w4.heap.size, 1, none⟩ = some (.int .i64 n) := BX8.cell 1 (by simp); have fX2 : w8.cell? ⟨w4.heap.size, 2, none⟩ = some (.int .i64 v) := BX8.cell 2 (by simp); have fX3 : w8.cell? ⟨w4.heap.size, 3, none⟩ = some (.int .i64 wt) := BX8.cell 3 (by simp); have fX4 : w8.cell? ⟨w4.heap.size, 4, none⟩ = some (.slice ax l.length cx) := BX8.cell 4 (by simp); have lX := BX8.lt.2; obtain ⟨az, cz, hsz, hcz, hatz⟩ := RB.at; subst hsz; have HZ8 : Hid (AtC w8 az l'.length l') := hatz; clear hatz RB) | (go_at_call 12; refine (rcheck_any k n v wt a m c l w6 (HA.out.kept K6) (by omega)).mono ?_; rintro e w7 ⟨rfl, t7⟩; have K7 := K6.trans t7; have BA7 := BA6.kept t7; have BB7 := BB6.kept t7; have BX7 := BX6.kept t7; have HX7 : Hid (AtC w7 ax l.length l) := HX6.out.kept t7; have fA0 : w7.cell? ⟨w.heap.size, 0, none⟩ = some (.int .i64 k) := BA7.cell 0 (by simp); have fA1 : w7.cell? ⟨w.heap.size, 1, none⟩ = some (.int .i64 n) := BA7.cell 1 (by simp); have fA2 : w7.cell? ⟨w.heap.size, 2, none⟩ = some (.int .i64 v) := BA7.cell 2 (by simp); have fA3 : w7.cell? ⟨w.heap.size, 3, none⟩ = some (.int .i64 wt) := BA7.cell 3 (by simp); have fA4 : w7.cell? ⟨w.heap.size, 4, none⟩ = some (.slice a m c) := BA7.cell 4 (by simp); have lA := BA7.lt.2; have fB0 : w7.cell? ⟨w.heap.size + 1, 0, none⟩ = some (.int .i64 k') := BB7.cell 0 (by simp); have fB1 : w7.cell? ⟨w.heap.size + 1, 1, none⟩ = some (.int .i64 n') := BB7.cell 1 (by simp); have fB2 : w7.cell? ⟨w.heap.size + 1, 2, none⟩ = some (.int .i64 v') := BB7.cell 2 (by simp); have fB3 : w7.cell? ⟨w.heap.size + 1, 3, none⟩ = some (.int .i64 wt') := BB7.cell 3 (by simp); have fB4 : w7.cell? ⟨w.heap.size + 1, 4, none⟩ = some (.slice a' m' c') := BB7.cell 4 (by simp); have lB := BB7.lt.2; have fX0 : w7.cell? ⟨w4.heap.size, 0, none⟩ = some (.int .i64 k) := BX7.cell 0 (by simp); have fX1 : w7.cell? ⟨w4.heap.size, 1, none⟩ = some (.int .i64 n) := BX7.cell 1 (by simp); have fX2 : w7.cell? ⟨w4.heap.size, 2, none⟩ = some (.int .i64 v) := BX7.cell 2 (by simp); have fX3 : w7.cell? ⟨w4.heap.size, 3, none⟩ = some (.int .i64 wt) := BX7.cell 3 (by simp); have fX4 : w7.cell? ⟨w4.heap.size, 4, none⟩ = some (.slice ax l.length cx) := BX7.cell 4 (by simp); have lX := BX7.lt.2) | (go_at_call 11; refine (check_any k n v wt ax l.length cx l _ (HR.out.kept K5.drew) (HX5.out.kept (Kept.refl _).drew) (by omega) hcx).mono ?_; rintro e w6 ⟨rfl, t6⟩; have K6 := K5.trans ((Kept.refl _).drew.trans t6); have BA6 := BA5.kept ((Kept.refl _).drew.trans t6); have BB6 := BB5.kept ((Kept.refl _).drew.trans t6); have BX6 := BX5.kept ((Kept.refl _).drew.trans t6); have HX6 : Hid (AtC w6 ax l.length l) := HX5.out.kept ((Kept.refl _).drew.trans t6); have fA0 : w6.cell? ⟨w.heap.size, 0, none⟩ = some (.int .i64 k) := BA6.cell 0 (by simp); have fA1 : w6.cell? ⟨w.heap.size, 1, none⟩ = some (.int .i64 n) := BA6.cell 1 (by simp); have fA2 : w6.cell? ⟨w.heap.size, 2, none⟩ = some (.int .i64 v) := BA6.cell 2 (by simp); have fA3 : w6.cell? ⟨w.heap.size, 3, none⟩ = some (.int .i64 wt) := BA6.cell 3 (by simp); have fA4 : w6.cell? ⟨w.heap.size, 4, none⟩ = some (.slice a m c) := BA6.cell 4 (by simp); have lA := BA6.lt.2; have fB0 : w6.cell? ⟨w.heap.size + 1, 0, none⟩ = some (.int .i64 k') := BB6.cell 0 (by simp); have fB1 : w6.cell? ⟨w.heap.size + 1, 1, none⟩ = some (.int .i64 n') := BB6.cell 1 (by simp); have fB2 : w6.cell? ⟨w.heap.size + 1, 2, none⟩ = some (.int .i64 v') := BB6.cell 2 (by simp); have fB3 : w6.cell? ⟨w.heap.size + 1, 3, none⟩ = some (.int .i64 wt') := BB6.cell 3 (by simp); have fB4 : w6.cell? ⟨w.heap.size + 1, 4, none⟩ = some (.slice a' m' c') := BB6.cell 4 (by simp); have lB := BB6.lt.2; have fX0 : w6.cell? ⟨w4.heap.size, 0, none⟩ = some (.int .i64 k) := BX6.cell 0 (by simp); have fX1 : w6.cell? ⟨w4.heap.size, 1, none⟩ = some (.int .i64 n) := BX6.cell 1 (by simp); have fX2 : w6.cell? ⟨w4.heap.size, 2, none⟩ = some (.int .i64 v) := BX6.cell 2 (by simp); have fX3 : w6.cell? ⟨w4.heap.size, 3, none⟩ = some (.int .i64 wt) := BX6.cell 3 (by simp); have fX4 : w6.cell? ⟨w4.heap.size, 4, none⟩ = some (.slice ax l.length cx) := BX6.cell 4 (by simp); have lX := BX6.lt.2) | fail)
  by_cases hck : checkD ⟨k, n, v, wt, l⟩ = 0
  · have HP := parse_text hck HI.out
    have HLN := text_len hck HI.out
    have hrc := rcheck_any k n v wt a m c l w12 (HA.out.kept K12) (by omega)
    rw [hck] at hrc
    have HCK : Hid (checkD ⟨k, n, v, wt, l⟩ = 0) := hck
    clear hck n1 n2 n3
    go_wp2_with fail
    refine hrc.mono ?_
    rintro e w13 ⟨rfl, t13⟩
    have K13 := K12.trans t13
    have HX13 : Hid (AtC w13 ax l.length l) := HX12.out.kept t13
    have BA13 := BA12.kept t13
    have BB13 := BB12.kept t13
    have BX13 := BX12.kept t13
    clear fA0 fA1 fA2 fA3 fA4 lA fB0 fB1 fB2 fB3 fB4 lB fX0 fX1 fX2 fX3 fX4 lX
    have fA0 : w13.cell? ⟨w.heap.size, 0, none⟩ = some (.int .i64 k) := BA13.cell 0 (by simp)
    have fA1 : w13.cell? ⟨w.heap.size, 1, none⟩ = some (.int .i64 n) := BA13.cell 1 (by simp)
    have fA2 : w13.cell? ⟨w.heap.size, 2, none⟩ = some (.int .i64 v) := BA13.cell 2 (by simp)
    have fA3 : w13.cell? ⟨w.heap.size, 3, none⟩ = some (.int .i64 wt) := BA13.cell 3 (by simp)
    have fA4 : w13.cell? ⟨w.heap.size, 4, none⟩ = some (.slice a m c) := BA13.cell 4 (by simp)
    have lA := BA13.lt.2
    have fB0 : w13.cell? ⟨w.heap.size + 1, 0, none⟩ = some (.int .i64 k') := BB13.cell 0 (by simp)
    have fB1 : w13.cell? ⟨w.heap.size + 1, 1, none⟩ = some (.int .i64 n') := BB13.cell 1 (by simp)
    have fB2 : w13.cell? ⟨w.heap.size + 1, 2, none⟩ = some (.int .i64 v') := BB13.cell 2 (by simp)
    have fB3 : w13.cell? ⟨w.heap.size + 1, 3, none⟩ = some (.int .i64 wt') := BB13.cell 3 (by simp)
    have fB4 : w13.cell? ⟨w.heap.size + 1, 4, none⟩ = some (.slice a' m' c') := BB13.cell 4 (by simp)
    have lB := BB13.lt.2
    have fX0 : w13.cell? ⟨w4.heap.size, 0, none⟩ = some (.int .i64 k) := BX13.cell 0 (by simp)
    have fX1 : w13.cell? ⟨w4.heap.size, 1, none⟩ = some (.int .i64 n) := BX13.cell 1 (by simp)
    have fX2 : w13.cell? ⟨w4.heap.size, 2, none⟩ = some (.int .i64 v) := BX13.cell 2 (by simp)
    have fX3 : w13.cell? ⟨w4.heap.size, 3, none⟩ = some (.int .i64 wt) := BX13.cell 3 (by simp)
    have fX4 : w13.cell? ⟨w4.heap.size, 4, none⟩ = some (.slice ax l.length cx) := BX13.cell 4 (by simp)
    have lX := BX13.lt.2
    go_wp2_with fail
    refine (optext_any k n v wt ax l.length cx l w13 (HR.out.kept K13) HX13.out (by omega) HCK.out HI.out).mono ?_
    rintro e w14 ⟨rfl, t14⟩
    have K14 := K13.trans t14
    have BA14 := BA13.kept t14
    have BB14 := BB13.kept t14
    have BX14 := BX13.kept t14
    clear fA0 fA1 fA2 fA3 fA4 lA fB0 fB1 fB2 fB3 fB4 lB fX0 fX1 fX2 fX3 fX4 lX
    have fA0 : w14.cell? ⟨w.heap.size, 0, none⟩ = some (.int .i64 k) := BA14.cell 0 (by simp)
    have fA1 : w14.cell? ⟨w.heap.size, 1, none⟩ = some (.int .i64 n) := BA14.cell 1 (by simp)
    have fA2 : w14.cell? ⟨w.heap.size, 2, none⟩ = some (.int .i64 v) := BA14.cell 2 (by simp)
    have fA3 : w14.cell? ⟨w.heap.size, 3, none⟩ = some (.int .i64 wt) := BA14.cell 3 (by simp)
    have fA4 : w14.cell? ⟨w.heap.size, 4, none⟩ = some (.slice a m c) := BA14.cell 4 (by simp)
    have lA := BA14.lt.2
    have fB0 : w14.cell? ⟨w.heap.size + 1, 0, none⟩ = some (.int .i64 k') := BB14.cell 0 (by simp)
    have fB1 : w14.cell? ⟨w.heap.size + 1, 1, none⟩ = some (.int .i64 n') := BB14.cell 1 (by simp)
    have fB2 : w14.cell? ⟨w.heap.size + 1, 2, none⟩ = some (.int .i64 v') := BB14.cell 2 (by simp)
    have fB3 : w14.cell? ⟨w.heap.size + 1, 3, none⟩ = some (.int .i64 wt') := BB14.cell 3 (by simp)
    have fB4 : w14.cell? ⟨w.heap.size + 1, 4, none⟩ = some (.slice a' m' c') := BB14.cell 4 (by simp)
    have lB := BB14.lt.2
    have fX0 : w14.cell? ⟨w4.heap.size, 0, none⟩ = some (.int .i64 k) := BX14.cell 0 (by simp)
    have fX1 : w14.cell? ⟨w4.heap.size, 1, none⟩ = some (.int .i64 n) := BX14.cell 1 (by simp)
    have fX2 : w14.cell? ⟨w4.heap.size, 2, none⟩ = some (.int .i64 v) := BX14.cell 2 (by simp)
    have fX3 : w14.cell? ⟨w4.heap.size, 3, none⟩ = some (.int .i64 wt) := BX14.cell 3 (by simp)
    have fX4 : w14.cell? ⟨w4.heap.size, 4, none⟩ = some (.slice ax l.length cx) := BX14.cell 4 (by simp)
    have lX := BX14.lt.2
    have hpa := parse_any (textD ⟨k, n, v, wt, l⟩) HLN w14 (HR.out.kept K14)
    rw [HP] at hpa
    clear HP HLN
    go_wp2_with fail
    refine hpa.mono ?_
    rintro e w15 ⟨svy, rfl, RY, t15⟩
    obtain ⟨ay, cy, hsy, hcy, haty⟩ := RY.at
    subst hsy
    have HY15 : Hid (AtC w15 ay l.length l) := haty
    clear haty RY hpa
    have K15 := K14.trans t15
    have BA15 := BA14.kept t15
    have BB15 := BB14.kept t15
    have BX15 := BX14.kept t15
    have BY16 := box_new w.heap.size w15 29 [.int .i64 k, .int .i64 n, .int .i64 v, .int .i64 wt, .slice ay l.length cy] K15.size (by simp)
    have K16 := K15.alloc (.cells #[.int .i64 k, .int .i64 n, .int .i64 v, .int .i64 wt, .slice ay l.length cy] 29)
    have HY16 : Hid (AtC (w15.alloc (.cells #[.int .i64 k, .int .i64 n, .int .i64 v, .int .i64 wt, .slice ay l.length cy] 29)) ay l.length l) := HY15.out.kept ((Kept.refl _).alloc _)
    have BA16 := BA15.kept ((Kept.refl w15).alloc (.cells #[.int .i64 k, .int .i64 n, .int .i64 v, .int .i64 wt, .slice ay l.length cy] 29))
    clear fA0 fA1 fA2 fA3 fA4 lA fB0 fB1 fB2 fB3 fB4 lB fX0 fX1 fX2 fX3 fX4 lX
    have fA0 : (w15.alloc (.cells #[.int .i64 k, .int .i64 n, .int .i64 v, .int .i64 wt, .slice ay l.length cy] 29)).cell? ⟨w.heap.size, 0, none⟩ = some (.int .i64 k) := BA16.cell 0 (by simp)
    have fA1 : (w15.alloc (.cells #[.int .i64 k, .int .i64 n, .int .i64 v, .int .i64 wt, .slice ay l.length cy] 29)).cell? ⟨w.heap.size, 1, none⟩ = some (.int .i64 n) := BA16.cell 1 (by simp)
    have fA2 : (w15.alloc (.cells #[.int .i64 k, .int .i64 n, .int .i64 v, .int .i64 wt, .slice ay l.length cy] 29)).cell? ⟨w.heap.size, 2, none⟩ = some (.int .i64 v) := BA16.cell 2 (by simp)
    have fA3 : (w15.alloc (.cells #[.int .i64 k, .int .i64 n, .int .i64 v, .int .i64 wt, .slice ay l.length cy] 29)).cell? ⟨w.heap.size, 3, none⟩ = some (.int .i64 wt) := BA16.cell 3 (by simp)
    have fA4 : (w15.alloc (.cells #[.int .i64 k, .int .i64 n, .int .i64 v, .int .i64 wt, .slice ay l.length cy] 29)).cell? ⟨w.heap.size, 4, none⟩ = some (.slice a m c) := BA16.cell 4 (by simp)
    have lA := BA16.lt.2
    have fY0 : (w15.alloc (.cells #[.int .i64 k, .int .i64 n, .int .i64 v, .int .i64 wt, .slice ay l.length cy] 29)).cell? ⟨w15.heap.size, 0, none⟩ = some (.int .i64 k) := BY16.cell 0 (by simp)
    have fY1 : (w15.alloc (.cells #[.int .i64 k, .int .i64 n, .int .i64 v, .int .i64 wt, .slice ay l.length cy] 29)).cell? ⟨w15.heap.size, 1, none⟩ = some (.int .i64 n) := BY16.cell 1 (by simp)
    have fY2 : (w15.alloc (.cells #[.int .i64 k, .int .i64 n, .int .i64 v, .int .i64 wt, .slice ay l.length cy] 29)).cell? ⟨w15.heap.size, 2, none⟩ = some (.int .i64 v) := BY16.cell 2 (by simp)
    have fY3 : (w15.alloc (.cells #[.int .i64 k, .int .i64 n, .int .i64 v, .int .i64 wt, .slice ay l.length cy] 29)).cell? ⟨w15.heap.size, 3, none⟩ = some (.int .i64 wt) := BY16.cell 3 (by simp)
    have fY4 : (w15.alloc (.cells #[.int .i64 k, .int .i64 n, .int .i64 v, .int .i64 wt, .slice ay l.length cy] 29)).cell? ⟨w15.heap.size, 4, none⟩ = some (.slice ay l.length cy) := BY16.cell 4 (by simp)
    have lY := BY16.lt.2
    have e1 : ((B (textD ⟨k, n, v, wt, l⟩)).toList == (B (textD ⟨k, n, v, wt, l⟩)).toList) = true := by simp
    go_wp2_with fail
    go_region_held3 (fun w' => w'.cell? ⟨w.heap.size, 0, none⟩ = some (.int .i64 k) ∧ w'.cell? ⟨w.heap.size, 1, none⟩ = some (.int .i64 n) ∧ w'.cell? ⟨w.heap.size, 2, none⟩ = some (.int .i64 v) ∧ w'.cell? ⟨w.heap.size, 3, none⟩ = some (.int .i64 wt) ∧ w'.cell? ⟨w.heap.size, 4, none⟩ = some (.slice a m c) ∧ w'.cell? ⟨w15.heap.size, 0, none⟩ = some (.int .i64 k) ∧ w'.cell? ⟨w15.heap.size, 1, none⟩ = some (.int .i64 n) ∧ w'.cell? ⟨w15.heap.size, 2, none⟩ = some (.int .i64 v) ∧ w'.cell? ⟨w15.heap.size, 3, none⟩ = some (.int .i64 wt) ∧ w'.cell? ⟨w15.heap.size, 4, none⟩ = some (.slice ay l.length cy)) (go_keep) (first | (go_at_call 14; refine (rsame_any k n v wt k n v wt bz a l.length m dz c l l w18 HQ18.out (HA.out.kept K18) (by omega)).mono ?_; rintro e w19 ⟨rfl, t19⟩; have K19 := K18.trans t19; have BA19 := BA18.kept t19; have BY19 := BY18.kept t19; have fA0 : w19.cell? ⟨w.heap.size, 0, none⟩ = some (.int .i64 k) := BA19.cell 0 (by simp); have fA1 : w19.cell? ⟨w.heap.size, 1, none⟩ = some (.int .i64 n) := BA19.cell 1 (by simp); have fA2 : w19.cell? ⟨w.heap.size, 2, none⟩ = some (.int .i64 v) := BA19.cell 2 (by simp); have fA3 : w19.cell? ⟨w.heap.size, 3, none⟩ = some (.int .i64 wt) := BA19.cell 3 (by simp); have fA4 : w19.cell? ⟨w.heap.size, 4, none⟩ = some (.slice a m c) := BA19.cell 4 (by simp); have lA := BA19.lt.2; have fY0 : w19.cell? ⟨w15.heap.size, 0, none⟩ = some (.int .i64 k) := BY19.cell 0 (by simp); have fY1 : w19.cell? ⟨w15.heap.size, 1, none⟩ = some (.int .i64 n) := BY19.cell 1 (by simp); have fY2 : w19.cell? ⟨w15.heap.size, 2, none⟩ = some (.int .i64 v) := BY19.cell 2 (by simp); have fY3 : w19.cell? ⟨w15.heap.size, 3, none⟩ = some (.int .i64 wt) := BY19.cell 3 (by simp); have fY4 : w19.cell? ⟨w15.heap.size, 4, none⟩ = some (.slice ay l.length cy) := BY19.cell 4 (by simp); have lY := BY19.lt.2) | (go_at_call 20; refine (of_any k n v wt ay l.length cy l w17 HY17.out (by omega)).mono ?_; rintro e w18 ⟨svz, rfl, RZ, t18⟩; have K18 := K17.trans t18; have BA18 := BA17.kept t18; have BY18 := BY17.kept t18; have HY18 : Hid (AtC w18 ay l.length l) := HY17.out.kept t18; have fA0 : w18.cell? ⟨w.heap.size, 0, none⟩ = some (.int .i64 k) := BA18.cell 0 (by simp); have fA1 : w18.cell? ⟨w.heap.size, 1, none⟩ = some (.int .i64 n) := BA18.cell 1 (by simp); have fA2 : w18.cell? ⟨w.heap.size, 2, none⟩ = some (.int .i64 v) := BA18.cell 2 (by simp); have fA3 : w18.cell? ⟨w.heap.size, 3, none⟩ = some (.int .i64 wt) := BA18.cell 3 (by simp); have fA4 : w18.cell? ⟨w.heap.size, 4, none⟩ = some (.slice a m c) := BA18.cell 4 (by simp); have lA := BA18.lt.2; have fY0 : w18.cell? ⟨w15.heap.size, 0, none⟩ = some (.int .i64 k) := BY18.cell 0 (by simp); have fY1 : w18.cell? ⟨w15.heap.size, 1, none⟩ = some (.int .i64 n) := BY18.cell 1 (by simp); have fY2 : w18.cell? ⟨w15.heap.size, 2, none⟩ = some (.int .i64 v) := BY18.cell 2 (by simp); have fY3 : w18.cell? ⟨w15.heap.size, 3, none⟩ = some (.int .i64 wt) := BY18.cell 3 (by simp); have fY4 : w18.cell? ⟨w15.heap.size, 4, none⟩ = some (.slice ay l.length cy) := BY18.cell 4 (by simp); have lY := BY18.lt.2; obtain ⟨bz, dz, hsz, hdz, hbz⟩ := RZ.at; subst hsz; have HQ18 : Hid (AtC w18 bz l.length l) := hbz; clear hbz RZ) | (go_at_call 19; refine (roptext_any k n v wt a m c l _ (HA.out.kept K16.drew) hm HCK.out HI.out).mono ?_; rintro e w17 ⟨rfl, t17⟩; have K17 := K16.trans ((Kept.refl _).drew.trans t17); have BA17 := BA16.kept ((Kept.refl _).drew.trans t17); have BY17 := BY16.kept ((Kept.refl _).drew.trans t17); have HY17 : Hid (AtC w17 ay l.length l) := HY16.out.kept ((Kept.refl _).drew.trans t17); have fA0 : w17.cell? ⟨w.heap.size, 0, none⟩ = some (.int .i64 k) := BA17.cell 0 (by simp); have fA1 : w17.cell? ⟨w.heap.size, 1, none⟩ = some (.int .i64 n) := BA17.cell 1 (by simp); have fA2 : w17.cell? ⟨w.heap.size, 2, none⟩ = some (.int .i64 v) := BA17.cell 2 (by simp); have fA3 : w17.cell? ⟨w.heap.size, 3, none⟩ = some (.int .i64 wt) := BA17.cell 3 (by simp); have fA4 : w17.cell? ⟨w.heap.size, 4, none⟩ = some (.slice a m c) := BA17.cell 4 (by simp); have lA := BA17.lt.2; have fY0 : w17.cell? ⟨w15.heap.size, 0, none⟩ = some (.int .i64 k) := BY17.cell 0 (by simp); have fY1 : w17.cell? ⟨w15.heap.size, 1, none⟩ = some (.int .i64 n) := BY17.cell 1 (by simp); have fY2 : w17.cell? ⟨w15.heap.size, 2, none⟩ = some (.int .i64 v) := BY17.cell 2 (by simp); have fY3 : w17.cell? ⟨w15.heap.size, 3, none⟩ = some (.int .i64 wt) := BY17.cell 3 (by simp); have fY4 : w17.cell? ⟨w15.heap.size, 4, none⟩ = some (.slice ay l.length cy) := BY17.cell 4 (by simp); have lY := BY17.lt.2) | fail)
    go_wp2_with fail
    go_ret
    rw [sameD_self]
    exact ⟨rfl, K19⟩
  · have hrc := rcheck_any k n v wt a m c l w12 (HA.out.kept K12) (by omega)
    have hne : (checkD ⟨k, n, v, wt, l⟩ != 0) = true := by simp [hck]
    clear hck n1 n2 n3
    go_wp2_with fail
    refine hrc.mono ?_
    rintro e w13 ⟨rfl, t13⟩
    go_wp2_with fail
    go_ret
    exact ⟨rfl, K12.trans t13⟩

set_option maxHeartbeats 2000000 in
theorem any_many (o p : OpD) (a : Option Addr) (m c : Nat) (a' : Option Addr) (m' c' : Nat) (w : World) (hm : ¬ (m ≤ 20 ∧ m' ≤ 20)) (hr : Rdy w) :
    Calls Tryd.prog 3 #[.agg #[.int .i64 o.kind, .int .i64 o.n, .int .i64 o.v, .int .i64 o.wait, .slice a m c], .agg #[.int .i64 p.kind, .int .i64 p.n, .int .i64 p.v, .int .i64 p.wait, .slice a' m' c']] w fun e w' => e = .returned (.bool true) ∧ Kept w w' := by
  obtain ⟨k, n, v, wt, l⟩ := o
  obtain ⟨k', n', v', wt', l'⟩ := p
  simp only
  have HR : Hid (Rdy w) := hr
  have BA0 := box_new w.heap.size w 24 [.int .i64 k, .int .i64 n, .int .i64 v, .int .i64 wt, .slice a m c] (Nat.le_refl _) (by simp)
  have KA := (Kept.refl w).alloc (.cells #[.int .i64 k, .int .i64 n, .int .i64 v, .int .i64 wt, .slice a m c] 24)
  have BBz := box_new w.heap.size (w.alloc (.cells #[.int .i64 k, .int .i64 n, .int .i64 v, .int .i64 wt, .slice a m c] 24)) 24 [.int .i64 k', .int .i64 n', .int .i64 v', .int .i64 wt', .slice a' m' c'] KA.size (by simp)
  have KB := KA.alloc (.cells #[.int .i64 k', .int .i64 n', .int .i64 v', .int .i64 wt', .slice a' m' c'] 24)
  have BAz := BA0.kept ((Kept.refl _).alloc (.cells #[.int .i64 k', .int .i64 n', .int .i64 v', .int .i64 wt', .slice a' m' c'] 24))
  have hsz : (w.alloc (.cells #[.int .i64 k, .int .i64 n, .int .i64 v, .int .i64 wt, .slice a m c] 24)).heap.size = w.heap.size + 1 := by simp
  rw [hsz] at BBz
  clear hr hsz
  go_enter Tryd.func3, Tryd.ntmps3
  go_wp2_with fail
  refine (known_true _ (HR.out.kept KB)).mono ?_
  rintro e w1 ⟨rfl, t1⟩
  have BA1 := BAz.kept t1
  have BB1 := BBz.kept t1
  have K1 := KB.trans t1
  have fA0 : w1.cell? ⟨w.heap.size, 0, none⟩ = some (.int .i64 k) := BA1.cell 0 (by simp)
  have fA1 : w1.cell? ⟨w.heap.size, 1, none⟩ = some (.int .i64 n) := BA1.cell 1 (by simp)
  have fA2 : w1.cell? ⟨w.heap.size, 2, none⟩ = some (.int .i64 v) := BA1.cell 2 (by simp)
  have fA3 : w1.cell? ⟨w.heap.size, 3, none⟩ = some (.int .i64 wt) := BA1.cell 3 (by simp)
  have fA4 : w1.cell? ⟨w.heap.size, 4, none⟩ = some (.slice a m c) := BA1.cell 4 (by simp)
  have lA := BA1.lt.2
  have fB0 : w1.cell? ⟨w.heap.size + 1, 0, none⟩ = some (.int .i64 k') := BB1.cell 0 (by simp)
  have fB1 : w1.cell? ⟨w.heap.size + 1, 1, none⟩ = some (.int .i64 n') := BB1.cell 1 (by simp)
  have fB2 : w1.cell? ⟨w.heap.size + 1, 2, none⟩ = some (.int .i64 v') := BB1.cell 2 (by simp)
  have fB3 : w1.cell? ⟨w.heap.size + 1, 3, none⟩ = some (.int .i64 wt') := BB1.cell 3 (by simp)
  have fB4 : w1.cell? ⟨w.heap.size + 1, 4, none⟩ = some (.slice a' m' c') := BB1.cell 4 (by simp)
  have lB := BB1.lt.2
  go_wp2_with fail
  refine (few_any k n v wt a m c w1).mono ?_
  rintro e w2 ⟨rfl, t2⟩
  have K2 := K1.trans t2
  have BA2 := BA1.kept t2
  have BB2 := BB1.kept t2
  clear fA0 fA1 fA2 fA3 fA4 lA fB0 fB1 fB2 fB3 fB4 lB
  have fA0 : w2.cell? ⟨w.heap.size, 0, none⟩ = some (.int .i64 k) := BA2.cell 0 (by simp)
  have fA1 : w2.cell? ⟨w.heap.size, 1, none⟩ = some (.int .i64 n) := BA2.cell 1 (by simp)
  have fA2 : w2.cell? ⟨w.heap.size, 2, none⟩ = some (.int .i64 v) := BA2.cell 2 (by simp)
  have fA3 : w2.cell? ⟨w.heap.size, 3, none⟩ = some (.int .i64 wt) := BA2.cell 3 (by simp)
  have fA4 : w2.cell? ⟨w.heap.size, 4, none⟩ = some (.slice a m c) := BA2.cell 4 (by simp)
  have lA := BA2.lt.2
  have fB0 : w2.cell? ⟨w.heap.size + 1, 0, none⟩ = some (.int .i64 k') := BB2.cell 0 (by simp)
  have fB1 : w2.cell? ⟨w.heap.size + 1, 1, none⟩ = some (.int .i64 n') := BB2.cell 1 (by simp)
  have fB2 : w2.cell? ⟨w.heap.size + 1, 2, none⟩ = some (.int .i64 v') := BB2.cell 2 (by simp)
  have fB3 : w2.cell? ⟨w.heap.size + 1, 3, none⟩ = some (.int .i64 wt') := BB2.cell 3 (by simp)
  have fB4 : w2.cell? ⟨w.heap.size + 1, 4, none⟩ = some (.slice a' m' c') := BB2.cell 4 (by simp)
  have lB := BB2.lt.2
  by_cases h1 : m ≤ 20
  · rw [decide_eq_true h1]
    go_wp2_with fail
    refine (few_any k' n' v' wt' a' m' c' w2).mono ?_
    rintro e w3 ⟨rfl, t3⟩
    rw [decide_eq_false (by omega)]
    go_wp2_with fail
    go_ret
    exact ⟨rfl, K2.trans t3⟩
  · rw [decide_eq_false h1]
    go_wp2_with fail
    go_ret
    exact ⟨rfl, K2⟩
theorem any_any (o p : OpD) (a : Option Addr) (m c : Nat) (a' : Option Addr) (m' c' : Nat) (w : World) (hA : AtC w a m o.cases) (_ : m ≤ c) (hi : In64 o) (hA' : AtC w a' m' p.cases) (_ : m' ≤ c') (_ : In64 p) (hr : Rdy w) :
    Calls Tryd.prog 3 #[.agg #[.int .i64 o.kind, .int .i64 o.n, .int .i64 o.v, .int .i64 o.wait, .slice a m c], .agg #[.int .i64 p.kind, .int .i64 p.n, .int .i64 p.v, .int .i64 p.wait, .slice a' m' c']] w fun e w' => e = .returned (.bool true) ∧ Kept w w' := by
  by_cases hm : m ≤ 20 ∧ m' ≤ 20
  · exact any_few o p a m c a' m' c' w hA hi hA' hm.1 hm.2 hr
  · exact any_many o p a m c a' m' c' w hm hr
end Go.Proofs.YtiiddfahpddffaaDoor
