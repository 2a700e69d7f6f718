/- OpApart, walked. -/
import Derived.Test.YtiiddfahpddffaaDoorKnown
import Derived.Test.YtiiddfahpddffaaDoorRChk7
import Derived.Test.YtiiddfahpddffaaDoorTo
import Derived.Test.YtiiddfahpddffaaDoorSam2
import Derived.Deep.DeepCutAuto
namespace Go.Proofs.YtiiddfahpddffaaDoor
open Go.RowKit

section
variable {P : Program} {ops : Array Oper} {Q : Exit → Act → World → Prop} {md : Region.Mode} {S : World → Prop} {st : Nat}
/-- What number i asks. -/
def AskOp (P : Program) (md : Region.Mode) (ops : Array Oper) (Q : Exit → Act → World → Prop) (S : World → Prop) (st fuel : Nat) (listed : Array Bool) (a : Act) (w : World) (i : Nat) (oi : Oper) : Prop :=
  ∀ K : Act → World → Prop, (∀ a' w', (i ≠ st → S w') → wpAnyS P md ops Q S st fuel (listed.setIfInBounds i true) a' w' → K a' w') → if Region.wanted oi (yielded ops a.tmps) = true then Oper.wp P oi a w K Q else K (a.put oi.dst undef) w
theorem askOp {i : Nat} {oi : Oper} {fuel : Nat} {listed : Array Bool} {a : Act} {w : World} (hi : ops[i]? = some oi) (h : AskOp P md ops Q S st fuel listed a w i oi) : wpOp P ops Q i (fun a' w' => (i ≠ st → S w') ∧ wpAnyS P md ops Q S st fuel (listed.setIfInBounds i true) a' w') a w := by
  have := h (fun a' w' => (i ≠ st → S w') ∧ wpAnyS P md ops Q S st fuel (listed.setIfInBounds i true) a' w') (fun a' w' h1 h2 => ⟨h1, h2⟩)
  unfold wpOp
  simp only [hi]
  by_cases hw : Region.wanted oi (yielded ops a.tmps) = true
  · rw [if_pos hw] at this ⊢
    exact .inl this
  · rw [if_neg hw] at this ⊢
    exact this
theorem wpAnyS_two {i j : Nat} {oi oj : Oper} {fuel : Nat} {listed : Array Bool} {a : Act} {w : World} (hi : ops[i]? = some oi) (hj : ops[j]? = some oj) (hr : Region.ready md ops listed = [i, j])
    (h1 : AskOp P md ops Q S st fuel listed a w i oi) (h2 : AskOp P md ops Q S st fuel listed a w j oj) : wpAnyS P md ops Q S st (fuel + 1) listed a w := by
  refine ⟨fun e => (by rw [hr] at e; cases e), fun k hk => ?_⟩
  rw [hr] at hk
  rcases List.mem_cons.1 hk with rfl | hk
  · exact askOp hi h1
  · obtain rfl := List.mem_singleton.1 hk
    exact askOp hj h2
theorem wpAnyS_three {i j l : Nat} {oi oj ol : Oper} {fuel : Nat} {listed : Array Bool} {a : Act} {w : World} (hi : ops[i]? = some oi) (hj : ops[j]? = some oj) (hl : ops[l]? = some ol) (hr : Region.ready md ops listed = [i, j, l])
    (h1 : AskOp P md ops Q S st fuel listed a w i oi) (h2 : AskOp P md ops Q S st fuel listed a w j oj) (h3 : AskOp P md ops Q S st fuel listed a w l ol) : wpAnyS P md ops Q S st (fuel + 1) listed a w := by
  refine ⟨fun e => (by rw [hr] at e; cases e), fun k hk => ?_⟩
  rw [hr] at hk
  rcases List.mem_cons.1 hk with rfl | hk
  · exact askOp hi h1
  · rcases List.mem_cons.1 hk with rfl | hk
    · exact askOp hj h2
    · obtain rfl := List.mem_singleton.1 hk
      exact askOp hl h3
end
/-- The two ops that were made, each in a block of its own. -/
structure Two (w wc : World) (bx bz : Nat) (k n v wt k' n' v' wt' : Int) (ax : Option Addr) (cx : Nat) (ay : Option Addr) (cy : Nat) (l l' : List CaseD) : Prop where
  x : Box w.heap.size wc 29 bx [.int .i64 k, .int .i64 n, .int .i64 v, .int .i64 wt, .slice ax l.length cx]
  y : Box w.heap.size wc 29 bz [.int .i64 k', .int .i64 n', .int .i64 v', .int .i64 wt', .slice ay l'.length cy]
  rx : AtC wc ax l.length l
  ry : AtC wc ay l'.length l'
  kept : Kept w wc
theorem Two.keep {w wc wd : World} {bx bz : Nat} {k n v wt k' n' v' wt' : Int} {ax : Option Addr} {cx : Nat} {ay : Option Addr} {cy : Nat} {l l' : List CaseD} (h : Two w wc bx bz k n v wt k' n' v' wt' ax cx ay cy l l') (t : Kept wc wd) : Two w wd bx bz k n v wt k' n' v' wt' ax cx ay cy l l' :=
  ⟨h.x.kept t, h.y.kept t, h.rx.kept t, h.ry.kept t, h.kept.trans t⟩
theorem two_of {w wE : World} {bx bz : Nat} {k n v wt k' n' v' wt' : Int} {ax : Option Addr} {cx : Nat} {ay : Option Addr} {cy : Nat} {l l' : List CaseD}
    (BX : Box w.heap.size wE 29 bx [.int .i64 0, .int .i64 0, .int .i64 0, .int .i64 0, .slice none 0 0]) (BY : Box w.heap.size wE 29 bz [.int .i64 0, .int .i64 0, .int .i64 0, .int .i64 0, .slice none 0 0]) (R1 : CRow 46 w.heap.size wE (.slice ax l.length cx) l) (R2 : CRow 46 w.heap.size wE (.slice ay l'.length cy) l') (K : Kept w wE) (ne : bx ≠ bz)
    (n1 : ∀ q, (Value.slice ax l.length cx).ownBlock = some q → q ≠ bx ∧ q ≠ bz) (n2 : ∀ q, (Value.slice ay l'.length cy).ownBlock = some q → q ≠ bx ∧ q ≠ bz) :
    Two w ((((((((((wE.setCell ⟨bx, 0, none⟩ (.int .i64 k)).setCell ⟨bx, 1, none⟩ (.int .i64 n)).setCell ⟨bx, 2, none⟩ (.int .i64 v)).setCell ⟨bx, 3, none⟩ (.int .i64 wt)).setCell ⟨bx, 4, none⟩ (.slice ax l.length cx)).setCell ⟨bz, 0, none⟩ (.int .i64 k')).setCell ⟨bz, 1, none⟩ (.int .i64 n')).setCell ⟨bz, 2, none⟩ (.int .i64 v')).setCell ⟨bz, 3, none⟩ (.int .i64 wt')).setCell ⟨bz, 4, none⟩ (.slice ay l'.length cy)) bx bz k n v wt k' n' v' wt' ax cx ay cy l l' := by
  have tX := turn_set5 wE bx (.int .i64 k) (.int .i64 n) (.int .i64 v) (.int .i64 wt) (.slice ax l.length cx)
  have x1 : Box w.heap.size (((((wE.setCell ⟨bx, 0, none⟩ (.int .i64 k)).setCell ⟨bx, 1, none⟩ (.int .i64 n)).setCell ⟨bx, 2, none⟩ (.int .i64 v)).setCell ⟨bx, 3, none⟩ (.int .i64 wt)).setCell ⟨bx, 4, none⟩ (.slice ax l.length cx)) 29 bx ((((([.int .i64 0, .int .i64 0, .int .i64 0, .int .i64 0, .slice none 0 0].set 0 (.int .i64 k)).set 1 (.int .i64 n)).set 2 (.int .i64 v)).set 3 (.int .i64 wt)).set 4 (.slice ax l.length cx)) := ((((BX.set 0 _).set 1 _).set 2 _).set 3 _).set 4 _
  have y1 := BY.turns tX (fun e => ne e.symm)
  have r1 := R1.turns tX (fun q hq e => (n1 q hq).1 e)
  have r2 := R2.turns tX (fun q hq e => (n2 q hq).1 e)
  have k1 := tX.kept K (fun i hi => by have := BX.lt.1; omega)
  have tY := turn_set5 (((((wE.setCell ⟨bx, 0, none⟩ (.int .i64 k)).setCell ⟨bx, 1, none⟩ (.int .i64 n)).setCell ⟨bx, 2, none⟩ (.int .i64 v)).setCell ⟨bx, 3, none⟩ (.int .i64 wt)).setCell ⟨bx, 4, none⟩ (.slice ax l.length cx)) bz (.int .i64 k') (.int .i64 n') (.int .i64 v') (.int .i64 wt') (.slice ay l'.length cy)
  have x2 := x1.turns tY ne
  have y2 : Box w.heap.size ((((((((((wE.setCell ⟨bx, 0, none⟩ (.int .i64 k)).setCell ⟨bx, 1, none⟩ (.int .i64 n)).setCell ⟨bx, 2, none⟩ (.int .i64 v)).setCell ⟨bx, 3, none⟩ (.int .i64 wt)).setCell ⟨bx, 4, none⟩ (.slice ax l.length cx)).setCell ⟨bz, 0, none⟩ (.int .i64 k')).setCell ⟨bz, 1, none⟩ (.int .i64 n')).setCell ⟨bz, 2, none⟩ (.int .i64 v')).setCell ⟨bz, 3, none⟩ (.int .i64 wt')).setCell ⟨bz, 4, none⟩ (.slice ay l'.length cy)) 29 bz ((((([.int .i64 0, .int .i64 0, .int .i64 0, .int .i64 0, .slice none 0 0].set 0 (.int .i64 k')).set 1 (.int .i64 n')).set 2 (.int .i64 v')).set 3 (.int .i64 wt')).set 4 (.slice ay l'.length cy)) := ((((y1.set 0 _).set 1 _).set 2 _).set 3 _).set 4 _
  have r3 := r1.turns tY (fun q hq e => (n1 q hq).2 e)
  have r4 := r2.turns tY (fun q hq e => (n2 q hq).2 e)
  have k2 := tY.kept k1 (fun i hi => by have := BY.lt.1; omega)
  obtain ⟨a1, c1, h1, _, q1⟩ := r3.at
  obtain ⟨a2, c2, h2, _, q2⟩ := r4.at
  cases h1
  cases h2
  exact ⟨x2, y2, q1, q2, k2⟩
theorem own_base {e : TypeId} {B B' : Nat} {w : World} {v : Value} {l : List CaseD} (h : CRow e B w v l) (hB : B' ≤ B) : CRow e B' w v l := crow_base h hB
set_option maxHeartbeats 16000000 in
set_option maxRecDepth 20000 in
theorem apart_few (o p : OpD) (a : Option Addr) (m c : Nat) (a' : Option Addr) (m' c' : Nat) (w : World) (hA : AtC w a m o.cases) (hi : In64 o) (hA' : AtC w a' m' p.cases) (hi' : In64 p) (hm : m ≤ 20) (hm' : m' ≤ 20) (hr : Rdy w) :
    Calls Tryd.prog 7 #[.agg #[.int .i64 o.kind, .int .i64 o.n, .int .i64 o.v, .int .i64 o.wait, .slice a m c], .agg #[.int .i64 p.kind, .int .i64 p.n, .int .i64 p.v, .int .i64 p.wait, .slice a' m' c']] w fun e w' => e = .returned (.bool true) ∧ Kept w w' := by
  obtain ⟨k, n, v, wt, l⟩ := o
  obtain ⟨k', n', v', wt', l'⟩ := p
  simp only at hA hA' ⊢
  have HA : Hid (AtC w a m l) := hA
  have HA' : Hid (AtC w a' m' l') := hA'
  have HR : Hid (Rdy w) := hr
  have HI : Hid (In64 ⟨k, n, v, wt, l⟩) := hi
  have HI' : Hid (In64 ⟨k', n', v', wt', l'⟩) := hi'
  have HL : Hid (l.length = m) := hA.1
  have HL' : Hid (l'.length = m') := hA'.1
  have hll : l.length ≤ 20 := by rw [HL.out]; exact hm
  have hll' : l'.length ≤ 20 := by rw [HL'.out]; exact hm'
  have BA0 := box_new w.heap.size w 24 [.int .i64 k, .int .i64 n, .int .i64 v, .int .i64 wt, .slice a m c] (Nat.le_refl _) (by simp)
  have KA := (Kept.refl w).alloc (.cells #[.int .i64 k, .int .i64 n, .int .i64 v, .int .i64 wt, .slice a m c] 24)
  have BBz := box_new w.heap.size (w.alloc (.cells #[.int .i64 k, .int .i64 n, .int .i64 v, .int .i64 wt, .slice a m c] 24)) 24 [.int .i64 k', .int .i64 n', .int .i64 v', .int .i64 wt', .slice a' m' c'] KA.size (by simp)
  have KB := KA.alloc (.cells #[.int .i64 k', .int .i64 n', .int .i64 v', .int .i64 wt', .slice a' m' c'] 24)
  have BAz := BA0.kept ((Kept.refl _).alloc (.cells #[.int .i64 k', .int .i64 n', .int .i64 v', .int .i64 wt', .slice a' m' c'] 24))
  have hsz : (w.alloc (.cells #[.int .i64 k, .int .i64 n, .int .i64 v, .int .i64 wt, .slice a m c] 24)).heap.size = w.heap.size + 1 := by simp
  rw [hsz] at BBz
  clear hA hA' hi hi' hr hsz
  go_enter Tryd.func7, Tryd.ntmps7
  go_wp2_with fail
  refine (known_true _ (HR.out.kept KB)).mono ?_
  rintro e w1 ⟨rfl, t1⟩
  have BA1 := BAz.kept t1
  have BB1 := BBz.kept t1
  have K1 := KB.trans t1
  have fA0 : w1.cell? ⟨w.heap.size, 0, none⟩ = some (.int .i64 k) := BA1.cell 0 (by simp)
  have fA1 : w1.cell? ⟨w.heap.size, 1, none⟩ = some (.int .i64 n) := BA1.cell 1 (by simp)
  have fA2 : w1.cell? ⟨w.heap.size, 2, none⟩ = some (.int .i64 v) := BA1.cell 2 (by simp)
  have fA3 : w1.cell? ⟨w.heap.size, 3, none⟩ = some (.int .i64 wt) := BA1.cell 3 (by simp)
  have fA4 : w1.cell? ⟨w.heap.size, 4, none⟩ = some (.slice a m c) := BA1.cell 4 (by simp)
  have fAl := BA1.lt.2
  have fB0 : w1.cell? ⟨w.heap.size + 1, 0, none⟩ = some (.int .i64 k') := BB1.cell 0 (by simp)
  have fB1 : w1.cell? ⟨w.heap.size + 1, 1, none⟩ = some (.int .i64 n') := BB1.cell 1 (by simp)
  have fB2 : w1.cell? ⟨w.heap.size + 1, 2, none⟩ = some (.int .i64 v') := BB1.cell 2 (by simp)
  have fB3 : w1.cell? ⟨w.heap.size + 1, 3, none⟩ = some (.int .i64 wt') := BB1.cell 3 (by simp)
  have fB4 : w1.cell? ⟨w.heap.size + 1, 4, none⟩ = some (.slice a' m' c') := BB1.cell 4 (by simp)
  have fBl := BB1.lt.2
  go_wp2_with fail
  refine (few_any k n v wt a m c w1).mono ?_
  rintro e w2 ⟨rfl, t2⟩
  have K2 := K1.trans t2
  have BA2 := BA1.kept t2
  have BB2 := BB1.kept t2
  clear fA0 fA1 fA2 fA3 fA4 fAl fB0 fB1 fB2 fB3 fB4 fBl
  have fA0 : w2.cell? ⟨w.heap.size, 0, none⟩ = some (.int .i64 k) := BA2.cell 0 (by simp)
  have fA1 : w2.cell? ⟨w.heap.size, 1, none⟩ = some (.int .i64 n) := BA2.cell 1 (by simp)
  have fA2 : w2.cell? ⟨w.heap.size, 2, none⟩ = some (.int .i64 v) := BA2.cell 2 (by simp)
  have fA3 : w2.cell? ⟨w.heap.size, 3, none⟩ = some (.int .i64 wt) := BA2.cell 3 (by simp)
  have fA4 : w2.cell? ⟨w.heap.size, 4, none⟩ = some (.slice a m c) := BA2.cell 4 (by simp)
  have fAl := BA2.lt.2
  have fB0 : w2.cell? ⟨w.heap.size + 1, 0, none⟩ = some (.int .i64 k') := BB2.cell 0 (by simp)
  have fB1 : w2.cell? ⟨w.heap.size + 1, 1, none⟩ = some (.int .i64 n') := BB2.cell 1 (by simp)
  have fB2 : w2.cell? ⟨w.heap.size + 1, 2, none⟩ = some (.int .i64 v') := BB2.cell 2 (by simp)
  have fB3 : w2.cell? ⟨w.heap.size + 1, 3, none⟩ = some (.int .i64 wt') := BB2.cell 3 (by simp)
  have fB4 : w2.cell? ⟨w.heap.size + 1, 4, none⟩ = some (.slice a' m' c') := BB2.cell 4 (by simp)
  have fBl := BB2.lt.2
  rw [decide_eq_true hm]
  go_wp2_with fail
  refine (few_any k' n' v' wt' a' m' c' w2).mono ?_
  rintro e w3 ⟨rfl, t3⟩
  have K3 := K2.trans t3
  have BA3 := BA2.kept t3
  have BB3 := BB2.kept t3
  clear fA0 fA1 fA2 fA3 fA4 fAl fB0 fB1 fB2 fB3 fB4 fBl
  have fA0 : w3.cell? ⟨w.heap.size, 0, none⟩ = some (.int .i64 k) := BA3.cell 0 (by simp)
  have fA1 : w3.cell? ⟨w.heap.size, 1, none⟩ = some (.int .i64 n) := BA3.cell 1 (by simp)
  have fA2 : w3.cell? ⟨w.heap.size, 2, none⟩ = some (.int .i64 v) := BA3.cell 2 (by simp)
  have fA3 : w3.cell? ⟨w.heap.size, 3, none⟩ = some (.int .i64 wt) := BA3.cell 3 (by simp)
  have fA4 : w3.cell? ⟨w.heap.size, 4, none⟩ = some (.slice a m c) := BA3.cell 4 (by simp)
  have fAl := BA3.lt.2
  have fB0 : w3.cell? ⟨w.heap.size + 1, 0, none⟩ = some (.int .i64 k') := BB3.cell 0 (by simp)
  have fB1 : w3.cell? ⟨w.heap.size + 1, 1, none⟩ = some (.int .i64 n') := BB3.cell 1 (by simp)
  have fB2 : w3.cell? ⟨w.heap.size + 1, 2, none⟩ = some (.int .i64 v') := BB3.cell 2 (by simp)
  have fB3 : w3.cell? ⟨w.heap.size + 1, 3, none⟩ = some (.int .i64 wt') := BB3.cell 3 (by simp)
  have fB4 : w3.cell? ⟨w.heap.size + 1, 4, none⟩ = some (.slice a' m' c') := BB3.cell 4 (by simp)
  have fBl := BB3.lt.2
  rw [decide_eq_true hm']
  have hrc := rcheck_any k n v wt a m c l w3 (HA.out.kept K3) (by omega)
  by_cases hck : ¬ checkD ⟨k, n, v, wt, l⟩ = 0
  · have hne : (checkD ⟨k, n, v, wt, l⟩ != 0) = true := by simp [hck]
    clear hck
    go_wp2_with fail
    refine hrc.mono ?_
    rintro e w4 ⟨rfl, t4⟩
    go_wp2_with fail
    go_ret
    exact ⟨rfl, K3.trans t4⟩
  replace hck := Decidable.not_not.1 hck
  rw [hck] at hrc
  have HCK : Hid (checkD ⟨k, n, v, wt, l⟩ = 0) := hck
  clear hck
  go_wp2_with fail
  refine (hrc).mono ?_
  rintro e w4 ⟨rfl, t4⟩
  have K4 := K3.trans t4
  have BA4 := BA3.kept t4
  have BB4 := BB3.kept t4
  clear fA0 fA1 fA2 fA3 fA4 fAl fB0 fB1 fB2 fB3 fB4 fBl
  have fA0 : w4.cell? ⟨w.heap.size, 0, none⟩ = some (.int .i64 k) := BA4.cell 0 (by simp)
  have fA1 : w4.cell? ⟨w.heap.size, 1, none⟩ = some (.int .i64 n) := BA4.cell 1 (by simp)
  have fA2 : w4.cell? ⟨w.heap.size, 2, none⟩ = some (.int .i64 v) := BA4.cell 2 (by simp)
  have fA3 : w4.cell? ⟨w.heap.size, 3, none⟩ = some (.int .i64 wt) := BA4.cell 3 (by simp)
  have fA4 : w4.cell? ⟨w.heap.size, 4, none⟩ = some (.slice a m c) := BA4.cell 4 (by simp)
  have fAl := BA4.lt.2
  have fB0 : w4.cell? ⟨w.heap.size + 1, 0, none⟩ = some (.int .i64 k') := BB4.cell 0 (by simp)
  have fB1 : w4.cell? ⟨w.heap.size + 1, 1, none⟩ = some (.int .i64 n') := BB4.cell 1 (by simp)
  have fB2 : w4.cell? ⟨w.heap.size + 1, 2, none⟩ = some (.int .i64 v') := BB4.cell 2 (by simp)
  have fB3 : w4.cell? ⟨w.heap.size + 1, 3, none⟩ = some (.int .i64 wt') := BB4.cell 3 (by simp)
  have fB4 : w4.cell? ⟨w.heap.size + 1, 4, none⟩ = some (.slice a' m' c') := BB4.cell 4 (by simp)
  have fBl := BB4.lt.2
  have hrc' := rcheck_any k' n' v' wt' a' m' c' l' w4 (HA'.out.kept K4) (by omega)
  by_cases hck : ¬ checkD ⟨k', n', v', wt', l'⟩ = 0
  · have hne : (checkD ⟨k', n', v', wt', l'⟩ != 0) = true := by simp [hck]
    clear hck
    go_wp2_with fail
    refine hrc'.mono ?_
    rintro e w5 ⟨rfl, t5⟩
    go_wp2_with fail
    go_ret
    exact ⟨rfl, K4.trans t5⟩
  replace hck := Decidable.not_not.1 hck
  rw [hck] at hrc'
  have HCK' : Hid (checkD ⟨k', n', v', wt', l'⟩ = 0) := hck
  clear hck
  go_wp2_with fail
  refine (hrc').mono ?_
  rintro e w5 ⟨rfl, t5⟩
  have K5 := K4.trans t5
  have BA5 := BA4.kept t5
  have BB5 := BB4.kept t5
  clear fA0 fA1 fA2 fA3 fA4 fAl fB0 fB1 fB2 fB3 fB4 fBl
  have fA0 : w5.cell? ⟨w.heap.size, 0, none⟩ = some (.int .i64 k) := BA5.cell 0 (by simp)
  have fA1 : w5.cell? ⟨w.heap.size, 1, none⟩ = some (.int .i64 n) := BA5.cell 1 (by simp)
  have fA2 : w5.cell? ⟨w.heap.size, 2, none⟩ = some (.int .i64 v) := BA5.cell 2 (by simp)
  have fA3 : w5.cell? ⟨w.heap.size, 3, none⟩ = some (.int .i64 wt) := BA5.cell 3 (by simp)
  have fA4 : w5.cell? ⟨w.heap.size, 4, none⟩ = some (.slice a m c) := BA5.cell 4 (by simp)
  have fAl := BA5.lt.2
  have fB0 : w5.cell? ⟨w.heap.size + 1, 0, none⟩ = some (.int .i64 k') := BB5.cell 0 (by simp)
  have fB1 : w5.cell? ⟨w.heap.size + 1, 1, none⟩ = some (.int .i64 n') := BB5.cell 1 (by simp)
  have fB2 : w5.cell? ⟨w.heap.size + 1, 2, none⟩ = some (.int .i64 v') := BB5.cell 2 (by simp)
  have fB3 : w5.cell? ⟨w.heap.size + 1, 3, none⟩ = some (.int .i64 wt') := BB5.cell 3 (by simp)
  have fB4 : w5.cell? ⟨w.heap.size + 1, 4, none⟩ = some (.slice a' m' c') := BB5.cell 4 (by simp)
  have fBl := BB5.lt.2
  clear hrc hrc'
  go_wp2_with fail
  go_cut [5, 6] (fun x y wc => ∃ bx bz ax cx ay cy, x = .pointer (some ⟨bx, 0, none⟩) ∧ y = .pointer (some ⟨bz, 0, none⟩) ∧ Hid (Two w wc bx bz k n v wt k' n' v' wt' ax cx ay cy l l'))
  case first =>
    refine wp_region_S (by kernel_rfl) 7 (fun w' => w'.cell? ⟨w.heap.size, 0, none⟩ = some (.int .i64 k) ∧ w'.cell? ⟨w.heap.size, 1, none⟩ = some (.int .i64 n) ∧ w'.cell? ⟨w.heap.size, 2, none⟩ = some (.int .i64 v) ∧ w'.cell? ⟨w.heap.size, 3, none⟩ = some (.int .i64 wt) ∧ w'.cell? ⟨w.heap.size, 4, none⟩ = some (.slice a m c) ∧ w'.cell? ⟨w.heap.size + 1, 0, none⟩ = some (.int .i64 k') ∧ w'.cell? ⟨w.heap.size + 1, 1, none⟩ = some (.int .i64 n') ∧ w'.cell? ⟨w.heap.size + 1, 2, none⟩ = some (.int .i64 v') ∧ w'.cell? ⟨w.heap.size + 1, 3, none⟩ = some (.int .i64 wt') ∧ w'.cell? ⟨w.heap.size + 1, 4, none⟩ = some (.slice a' m' c')) ?_
    have BAg0 : Box w.heap.size w5.drew 24 (w.heap.size) [.int .i64 k, .int .i64 n, .int .i64 v, .int .i64 wt, .slice a m c] := BA5.kept ((Kept.refl w5).drew)
    have BBg0 : Box w.heap.size w5.drew 24 (w.heap.size + 1) [.int .i64 k', .int .i64 n', .int .i64 v', .int .i64 wt', .slice a' m' c'] := BB5.kept ((Kept.refl w5).drew)
    have Kg0 : Kept w w5.drew := K5.drew
    generalize w5.drew = g0 at BAg0 BBg0 Kg0 ⊢
    have hS0 : g0.cell? ⟨w.heap.size, 0, none⟩ = some (.int .i64 k) ∧ g0.cell? ⟨w.heap.size, 1, none⟩ = some (.int .i64 n) ∧ g0.cell? ⟨w.heap.size, 2, none⟩ = some (.int .i64 v) ∧ g0.cell? ⟨w.heap.size, 3, none⟩ = some (.int .i64 wt) ∧ g0.cell? ⟨w.heap.size, 4, none⟩ = some (.slice a m c) ∧ g0.cell? ⟨w.heap.size + 1, 0, none⟩ = some (.int .i64 k') ∧ g0.cell? ⟨w.heap.size + 1, 1, none⟩ = some (.int .i64 n') ∧ g0.cell? ⟨w.heap.size + 1, 2, none⟩ = some (.int .i64 v') ∧ g0.cell? ⟨w.heap.size + 1, 3, none⟩ = some (.int .i64 wt') ∧ g0.cell? ⟨w.heap.size + 1, 4, none⟩ = some (.slice a' m' c') := ⟨BAg0.cell 0 (by simp), BAg0.cell 1 (by simp), BAg0.cell 2 (by simp), BAg0.cell 3 (by simp), BAg0.cell 4 (by simp), BBg0.cell 0 (by simp), BBg0.cell 1 (by simp), BBg0.cell 2 (by simp), BBg0.cell 3 (by simp), BBg0.cell 4 (by simp)⟩
    refine wpAnyS_take (i := 0) (v := .agg #[.int .i64 k, .int .i64 n, .int .i64 v, .int .i64 wt, .slice a m c]) rfl (by kernel_rfl) (by kernel_rfl) (by kernel_rfl) (by kernel_rfl) (fun _ _ _ h => h) hS0 rfl (fun wx hx => by obtain ⟨s0, s1, s2, s3, s4, s5, s6, s7, s8, s9⟩ := hx; go_simp) ?_
    refine wpAnyS_take (i := 2) (v := .agg #[.int .i64 k', .int .i64 n', .int .i64 v', .int .i64 wt', .slice a' m' c']) rfl (by kernel_rfl) (by kernel_rfl) (by kernel_rfl) (by kernel_rfl) (fun _ _ _ h => h) hS0 rfl (fun wx hx => by obtain ⟨s0, s1, s2, s3, s4, s5, s6, s7, s8, s9⟩ := hx; go_simp) ?_
    refine wpAnyS_three (i := 1) (j := 4) (l := 5) rfl rfl rfl (by kernel_rfl) (fun K hK => ?_) (fun K hK => ?_) (fun K hK => ?_)
    · go_simp
      refine (to_any k n v wt a m c l g0 (HA.out.kept Kg0) (by omega)).mono ?_
      rintro e g1 ⟨sv1, rfl, R1, tg1⟩
      have Kg1 := Kg0.trans tg1
      have BAg1 := BAg0.kept tg1
      have BBg1 := BBg0.kept tg1
      have q1 : ∀ q, sv1.ownBlock = some q → g0.heap.size ≤ q ∧ q < g1.heap.size := fun q hq => World.ownsRow.lt R1 q hq
      have zg1 : Hid (g0.heap.size ≤ g1.heap.size) := tg1.size
      replace R1 := own_base R1 Kg0.size
      refine hK _ _ (fun _ => ⟨BAg1.cell 0 (by simp), BAg1.cell 1 (by simp), BAg1.cell 2 (by simp), BAg1.cell 3 (by simp), BAg1.cell 4 (by simp), BBg1.cell 0 (by simp), BBg1.cell 1 (by simp), BBg1.cell 2 (by simp), BBg1.cell 3 (by simp), BBg1.cell 4 (by simp)⟩) ?_
      clear hK K
      refine wpAnyS_three (i := 3) (j := 4) (l := 5) rfl rfl rfl (by kernel_rfl) (fun K hK => ?_) (fun K hK => ?_) (fun K hK => ?_)
      · go_simp
        refine (to_any k' n' v' wt' a' m' c' l' g1 (HA'.out.kept Kg1) (by omega)).mono ?_
        rintro e g2 ⟨sv2, rfl, R2, tg2⟩
        have Kg2 := Kg1.trans tg2
        have BAg2 := BAg1.kept tg2
        have BBg2 := BBg1.kept tg2
        replace R1 := R1.kept tg2
        have q2 : ∀ q, sv2.ownBlock = some q → g1.heap.size ≤ q ∧ q < g2.heap.size := fun q hq => World.ownsRow.lt R2 q hq
        have zg2 : Hid (g1.heap.size ≤ g2.heap.size) := tg2.size
        replace R2 := own_base R2 Kg1.size
        refine hK _ _ (fun _ => ⟨BAg2.cell 0 (by simp), BAg2.cell 1 (by simp), BAg2.cell 2 (by simp), BAg2.cell 3 (by simp), BAg2.cell 4 (by simp), BBg2.cell 0 (by simp), BBg2.cell 1 (by simp), BBg2.cell 2 (by simp), BBg2.cell 3 (by simp), BBg2.cell 4 (by simp)⟩) ?_
        clear hK K
        refine wpAnyS_two (i := 4) (j := 5) rfl rfl (by kernel_rfl) (fun K hK => ?_) (fun K hK => ?_)
        · go_simp
          have BX := box_new w.heap.size g2 29 [.int .i64 0, .int .i64 0, .int .i64 0, .int .i64 0, .slice none 0 0] Kg2.size (by simp)
          have Kg3 := Kg2.alloc (.cells #[.int .i64 0, .int .i64 0, .int .i64 0, .int .i64 0, .slice none 0 0] 29)
          have BAg3 := BAg2.kept ((Kept.refl g2).alloc (.cells #[.int .i64 0, .int .i64 0, .int .i64 0, .int .i64 0, .slice none 0 0] 29))
          have BBg3 := BBg2.kept ((Kept.refl g2).alloc (.cells #[.int .i64 0, .int .i64 0, .int .i64 0, .int .i64 0, .slice none 0 0] 29))
          replace R1 := R1.kept ((Kept.refl g2).alloc (.cells #[.int .i64 0, .int .i64 0, .int .i64 0, .int .i64 0, .slice none 0 0] 29))
          replace R2 := R2.kept ((Kept.refl g2).alloc (.cells #[.int .i64 0, .int .i64 0, .int .i64 0, .int .i64 0, .slice none 0 0] 29))
          have zg3 : Hid ((g2.alloc (.cells #[.int .i64 0, .int .i64 0, .int .i64 0, .int .i64 0, .slice none 0 0] 29)).heap.size = g2.heap.size + 1) := by show _ = _; simp
          refine hK _ _ (fun _ => ⟨BAg3.cell 0 (by simp), BAg3.cell 1 (by simp), BAg3.cell 2 (by simp), BAg3.cell 3 (by simp), BAg3.cell 4 (by simp), BBg3.cell 0 (by simp), BBg3.cell 1 (by simp), BBg3.cell 2 (by simp), BBg3.cell 3 (by simp), BBg3.cell 4 (by simp)⟩) ?_
          clear hK K
          generalize g2.alloc (.cells #[.int .i64 0, .int .i64 0, .int .i64 0, .int .i64 0, .slice none 0 0] 29) = g3 at Kg3 BAg3 BBg3 zg3 R1 R2 BX ⊢
          refine wpAnyS_one (i := 5) rfl (by kernel_rfl) (fun K hK => ?_)
          go_simp
          have BY := box_new w.heap.size g3 29 [.int .i64 0, .int .i64 0, .int .i64 0, .int .i64 0, .slice none 0 0] Kg3.size (by simp)
          have Kg4 := Kg3.alloc (.cells #[.int .i64 0, .int .i64 0, .int .i64 0, .int .i64 0, .slice none 0 0] 29)
          have BAg4 := BAg3.kept ((Kept.refl g3).alloc (.cells #[.int .i64 0, .int .i64 0, .int .i64 0, .int .i64 0, .slice none 0 0] 29))
          have BBg4 := BBg3.kept ((Kept.refl g3).alloc (.cells #[.int .i64 0, .int .i64 0, .int .i64 0, .int .i64 0, .slice none 0 0] 29))
          replace R1 := R1.kept ((Kept.refl g3).alloc (.cells #[.int .i64 0, .int .i64 0, .int .i64 0, .int .i64 0, .slice none 0 0] 29))
          replace R2 := R2.kept ((Kept.refl g3).alloc (.cells #[.int .i64 0, .int .i64 0, .int .i64 0, .int .i64 0, .slice none 0 0] 29))
          replace BX := BX.kept ((Kept.refl g3).alloc (.cells #[.int .i64 0, .int .i64 0, .int .i64 0, .int .i64 0, .slice none 0 0] 29))
          have zg4 : Hid ((g3.alloc (.cells #[.int .i64 0, .int .i64 0, .int .i64 0, .int .i64 0, .slice none 0 0] 29)).heap.size = g3.heap.size + 1) := by show _ = _; simp
          refine hK _ _ (fun _ => ⟨BAg4.cell 0 (by simp), BAg4.cell 1 (by simp), BAg4.cell 2 (by simp), BAg4.cell 3 (by simp), BAg4.cell 4 (by simp), BBg4.cell 0 (by simp), BBg4.cell 1 (by simp), BBg4.cell 2 (by simp), BBg4.cell 3 (by simp), BBg4.cell 4 (by simp)⟩) ?_
          clear hK K
          generalize g3.alloc (.cells #[.int .i64 0, .int .i64 0, .int .i64 0, .int .i64 0, .slice none 0 0] 29) = g4 at Kg4 BAg4 BBg4 zg4 R1 R2 BX BY ⊢
          obtain ⟨ax, cx, hs1, _, _⟩ := R1.at
          subst hs1
          obtain ⟨ay, cy, hs2, _, _⟩ := R2.at
          subst hs2
          have lx := BX.lt.2
          have ly := BY.lt.2
          have n1 : ∀ q, (Value.slice ax l.length cx).ownBlock = some q → q ≠ g2.heap.size ∧ q ≠ g3.heap.size := fun q hq => by have := q1 q hq; have := zg1.out; have := zg2.out; have := zg3.out; have := zg4.out; omega
          have n2 : ∀ q, (Value.slice ay l'.length cy).ownBlock = some q → q ≠ g2.heap.size ∧ q ≠ g3.heap.size := fun q hq => by have := q2 q hq; have := zg1.out; have := zg2.out; have := zg3.out; have := zg4.out; omega
          have nxz : g2.heap.size ≠ g3.heap.size := by have := zg1.out; have := zg2.out; have := zg3.out; have := zg4.out; omega
          have TW : Hid (Two w ((((((((((g4.setCell ⟨g2.heap.size, 0, none⟩ (.int .i64 k)).setCell ⟨g2.heap.size, 1, none⟩ (.int .i64 n)).setCell ⟨g2.heap.size, 2, none⟩ (.int .i64 v)).setCell ⟨g2.heap.size, 3, none⟩ (.int .i64 wt)).setCell ⟨g2.heap.size, 4, none⟩ (.slice ax l.length cx)).setCell ⟨g3.heap.size, 0, none⟩ (.int .i64 k')).setCell ⟨g3.heap.size, 1, none⟩ (.int .i64 n')).setCell ⟨g3.heap.size, 2, none⟩ (.int .i64 v')).setCell ⟨g3.heap.size, 3, none⟩ (.int .i64 wt')).setCell ⟨g3.heap.size, 4, none⟩ (.slice ay l'.length cy)) g2.heap.size g3.heap.size k n v wt k' n' v' wt' ax cx ay cy l l') := two_of BX BY R1 R2 Kg4 nxz n1 n2
          have x0 : g4.cell? ⟨g2.heap.size, 0, none⟩ = some (.int .i64 0) := BX.cell 0 (by simp)
          have xf0 := BX.frozen 0
          have y0 : g4.cell? ⟨g3.heap.size, 0, none⟩ = some (.int .i64 0) := BY.cell 0 (by simp)
          have yf0 := BY.frozen 0
          have x1 : g4.cell? ⟨g2.heap.size, 1, none⟩ = some (.int .i64 0) := BX.cell 1 (by simp)
          have xf1 := BX.frozen 1
          have y1 : g4.cell? ⟨g3.heap.size, 1, none⟩ = some (.int .i64 0) := BY.cell 1 (by simp)
          have yf1 := BY.frozen 1
          have x2 : g4.cell? ⟨g2.heap.size, 2, none⟩ = some (.int .i64 0) := BX.cell 2 (by simp)
          have xf2 := BX.frozen 2
          have y2 : g4.cell? ⟨g3.heap.size, 2, none⟩ = some (.int .i64 0) := BY.cell 2 (by simp)
          have yf2 := BY.frozen 2
          have x3 : g4.cell? ⟨g2.heap.size, 3, none⟩ = some (.int .i64 0) := BX.cell 3 (by simp)
          have xf3 := BX.frozen 3
          have y3 : g4.cell? ⟨g3.heap.size, 3, none⟩ = some (.int .i64 0) := BY.cell 3 (by simp)
          have yf3 := BY.frozen 3
          have x4 : g4.cell? ⟨g2.heap.size, 4, none⟩ = some (.slice none 0 0) := BX.cell 4 (by simp)
          have xf4 := BX.frozen 4
          have y4 : g4.cell? ⟨g3.heap.size, 4, none⟩ = some (.slice none 0 0) := BY.cell 4 (by simp)
          have yf4 := BY.frozen 4
          have tX := turn_set5 g4 g2.heap.size (.int .i64 k) (.int .i64 n) (.int .i64 v) (.int .i64 wt) (.slice ax l.length cx)
          have nA : ¬ w.heap.size = g2.heap.size := by have := BAg0.lt.2; have := zg1.out; have := zg2.out; have := zg3.out; have := zg4.out; omega
          have nB : ¬ w.heap.size + 1 = g2.heap.size := by have := BBg0.lt.2; have := zg1.out; have := zg2.out; have := zg3.out; have := zg4.out; omega
          have BAF := BAg4.turns tX nA
          have BBF := BBg4.turns tX nB
          clear n1 n2 q1 q2 R1 R2 BX BY tX
          refine wpAnyS_one (i := 6) rfl (by kernel_rfl) (fun K hK => ?_)
          go_simp
          refine hK _ _ (fun _ => ⟨BAF.cell 0 (by simp), BAF.cell 1 (by simp), BAF.cell 2 (by simp), BAF.cell 3 (by simp), BAF.cell 4 (by simp), BBF.cell 0 (by simp), BBF.cell 1 (by simp), BBF.cell 2 (by simp), BBF.cell 3 (by simp), BBF.cell 4 (by simp)⟩) ?_
          clear hK K
          have nzx : g3.heap.size ≠ g2.heap.size := fun e => nxz e.symm
          refine wpAnyS_one (i := 7) rfl (by kernel_rfl) (fun K hK => ?_)
          go_simp
          refine hK _ _ (fun h => absurd rfl h) ?_
          clear hK K
          refine wpAnyS_done (by kernel_rfl) ?_ _
          go_wp2_with fail
          go_meet
          exact ⟨_, _, ax, cx, ay, cy, rfl, rfl, TW⟩
        · go_simp
          have BY := box_new w.heap.size g2 29 [.int .i64 0, .int .i64 0, .int .i64 0, .int .i64 0, .slice none 0 0] Kg2.size (by simp)
          have Kg3 := Kg2.alloc (.cells #[.int .i64 0, .int .i64 0, .int .i64 0, .int .i64 0, .slice none 0 0] 29)
          have BAg3 := BAg2.kept ((Kept.refl g2).alloc (.cells #[.int .i64 0, .int .i64 0, .int .i64 0, .int .i64 0, .slice none 0 0] 29))
          have BBg3 := BBg2.kept ((Kept.refl g2).alloc (.cells #[.int .i64 0, .int .i64 0, .int .i64 0, .int .i64 0, .slice none 0 0] 29))
          replace R1 := R1.kept ((Kept.refl g2).alloc (.cells #[.int .i64 0, .int .i64 0, .int .i64 0, .int .i64 0, .slice none 0 0] 29))
          replace R2 := R2.kept ((Kept.refl g2).alloc (.cells #[.int .i64 0, .int .i64 0, .int .i64 0, .int .i64 0, .slice none 0 0] 29))
          have zg3 : Hid ((g2.alloc (.cells #[.int .i64 0, .int .i64 0, .int .i64 0, .int .i64 0, .slice none 0 0] 29)).heap.size = g2.heap.size + 1) := by show _ = _; simp
          refine hK _ _ (fun _ => ⟨BAg3.cell 0 (by simp), BAg3.cell 1 (by simp), BAg3.cell 2 (by simp), BAg3.cell 3 (by simp), BAg3.cell 4 (by simp), BBg3.cell 0 (by simp), BBg3.cell 1 (by simp), BBg3.cell 2 (by simp), BBg3.cell 3 (by simp), BBg3.cell 4 (by simp)⟩) ?_
          clear hK K
          generalize g2.alloc (.cells #[.int .i64 0, .int .i64 0, .int .i64 0, .int .i64 0, .slice none 0 0] 29) = g3 at Kg3 BAg3 BBg3 zg3 R1 R2 BY ⊢
          refine wpAnyS_one (i := 4) rfl (by kernel_rfl) (fun K hK => ?_)
          go_simp
          have BX := box_new w.heap.size g3 29 [.int .i64 0, .int .i64 0, .int .i64 0, .int .i64 0, .slice none 0 0] Kg3.size (by simp)
          have Kg4 := Kg3.alloc (.cells #[.int .i64 0, .int .i64 0, .int .i64 0, .int .i64 0, .slice none 0 0] 29)
          have BAg4 := BAg3.kept ((Kept.refl g3).alloc (.cells #[.int .i64 0, .int .i64 0, .int .i64 0, .int .i64 0, .slice none 0 0] 29))
          have BBg4 := BBg3.kept ((Kept.refl g3).alloc (.cells #[.int .i64 0, .int .i64 0, .int .i64 0, .int .i64 0, .slice none 0 0] 29))
          replace R1 := R1.kept ((Kept.refl g3).alloc (.cells #[.int .i64 0, .int .i64 0, .int .i64 0, .int .i64 0, .slice none 0 0] 29))
          replace R2 := R2.kept ((Kept.refl g3).alloc (.cells #[.int .i64 0, .int .i64 0, .int .i64 0, .int .i64 0, .slice none 0 0] 29))
          replace BY := BY.kept ((Kept.refl g3).alloc (.cells #[.int .i64 0, .int .i64 0, .int .i64 0, .int .i64 0, .slice none 0 0] 29))
          have zg4 : Hid ((g3.alloc (.cells #[.int .i64 0, .int .i64 0, .int .i64 0, .int .i64 0, .slice none 0 0] 29)).heap.size = g3.heap.size + 1) := by show _ = _; simp
          refine hK _ _ (fun _ => ⟨BAg4.cell 0 (by simp), BAg4.cell 1 (by simp), BAg4.cell 2 (by simp), BAg4.cell 3 (by simp), BAg4.cell 4 (by simp), BBg4.cell 0 (by simp), BBg4.cell 1 (by simp), BBg4.cell 2 (by simp), BBg4.cell 3 (by simp), BBg4.cell 4 (by simp)⟩) ?_
          clear hK K
          generalize g3.alloc (.cells #[.int .i64 0, .int .i64 0, .int .i64 0, .int .i64 0, .slice none 0 0] 29) = g4 at Kg4 BAg4 BBg4 zg4 R1 R2 BY BX ⊢
          obtain ⟨ax, cx, hs1, _, _⟩ := R1.at
          subst hs1
          obtain ⟨ay, cy, hs2, _, _⟩ := R2.at
          subst hs2
          have lx := BX.lt.2
          have ly := BY.lt.2
          have n1 : ∀ q, (Value.slice ax l.length cx).ownBlock = some q → q ≠ g3.heap.size ∧ q ≠ g2.heap.size := fun q hq => by have := q1 q hq; have := zg1.out; have := zg2.out; have := zg3.out; have := zg4.out; omega
          have n2 : ∀ q, (Value.slice ay l'.length cy).ownBlock = some q → q ≠ g3.heap.size ∧ q ≠ g2.heap.size := fun q hq => by have := q2 q hq; have := zg1.out; have := zg2.out; have := zg3.out; have := zg4.out; omega
          have nxz : g3.heap.size ≠ g2.heap.size := by have := zg1.out; have := zg2.out; have := zg3.out; have := zg4.out; omega
          have TW : Hid (Two w ((((((((((g4.setCell ⟨g3.heap.size, 0, none⟩ (.int .i64 k)).setCell ⟨g3.heap.size, 1, none⟩ (.int .i64 n)).setCell ⟨g3.heap.size, 2, none⟩ (.int .i64 v)).setCell ⟨g3.heap.size, 3, none⟩ (.int .i64 wt)).setCell ⟨g3.heap.size, 4, none⟩ (.slice ax l.length cx)).setCell ⟨g2.heap.size, 0, none⟩ (.int .i64 k')).setCell ⟨g2.heap.size, 1, none⟩ (.int .i64 n')).setCell ⟨g2.heap.size, 2, none⟩ (.int .i64 v')).setCell ⟨g2.heap.size, 3, none⟩ (.int .i64 wt')).setCell ⟨g2.heap.size, 4, none⟩ (.slice ay l'.length cy)) g3.heap.size g2.heap.size k n v wt k' n' v' wt' ax cx ay cy l l') := two_of BX BY R1 R2 Kg4 nxz n1 n2
          have x0 : g4.cell? ⟨g3.heap.size, 0, none⟩ = some (.int .i64 0) := BX.cell 0 (by simp)
          have xf0 := BX.frozen 0
          have y0 : g4.cell? ⟨g2.heap.size, 0, none⟩ = some (.int .i64 0) := BY.cell 0 (by simp)
          have yf0 := BY.frozen 0
          have x1 : g4.cell? ⟨g3.heap.size, 1, none⟩ = some (.int .i64 0) := BX.cell 1 (by simp)
          have xf1 := BX.frozen 1
          have y1 : g4.cell? ⟨g2.heap.size, 1, none⟩ = some (.int .i64 0) := BY.cell 1 (by simp)
          have yf1 := BY.frozen 1
          have x2 : g4.cell? ⟨g3.heap.size, 2, none⟩ = some (.int .i64 0) := BX.cell 2 (by simp)
          have xf2 := BX.frozen 2
          have y2 : g4.cell? ⟨g2.heap.size, 2, none⟩ = some (.int .i64 0) := BY.cell 2 (by simp)
          have yf2 := BY.frozen 2
          have x3 : g4.cell? ⟨g3.heap.size, 3, none⟩ = some (.int .i64 0) := BX.cell 3 (by simp)
          have xf3 := BX.frozen 3
          have y3 : g4.cell? ⟨g2.heap.size, 3, none⟩ = some (.int .i64 0) := BY.cell 3 (by simp)
          have yf3 := BY.frozen 3
          have x4 : g4.cell? ⟨g3.heap.size, 4, none⟩ = some (.slice none 0 0) := BX.cell 4 (by simp)
          have xf4 := BX.frozen 4
          have y4 : g4.cell? ⟨g2.heap.size, 4, none⟩ = some (.slice none 0 0) := BY.cell 4 (by simp)
          have yf4 := BY.frozen 4
          have tX := turn_set5 g4 g3.heap.size (.int .i64 k) (.int .i64 n) (.int .i64 v) (.int .i64 wt) (.slice ax l.length cx)
          have nA : ¬ w.heap.size = g3.heap.size := by have := BAg0.lt.2; have := zg1.out; have := zg2.out; have := zg3.out; have := zg4.out; omega
          have nB : ¬ w.heap.size + 1 = g3.heap.size := by have := BBg0.lt.2; have := zg1.out; have := zg2.out; have := zg3.out; have := zg4.out; omega
          have BAF := BAg4.turns tX nA
          have BBF := BBg4.turns tX nB
          clear n1 n2 q1 q2 R1 R2 BX BY tX
          refine wpAnyS_one (i := 6) rfl (by kernel_rfl) (fun K hK => ?_)
          go_simp
          refine hK _ _ (fun _ => ⟨BAF.cell 0 (by simp), BAF.cell 1 (by simp), BAF.cell 2 (by simp), BAF.cell 3 (by simp), BAF.cell 4 (by simp), BBF.cell 0 (by simp), BBF.cell 1 (by simp), BBF.cell 2 (by simp), BBF.cell 3 (by simp), BBF.cell 4 (by simp)⟩) ?_
          clear hK K
          have nzx : g2.heap.size ≠ g3.heap.size := fun e => nxz e.symm
          refine wpAnyS_one (i := 7) rfl (by kernel_rfl) (fun K hK => ?_)
          go_simp
          refine hK _ _ (fun h => absurd rfl h) ?_
          clear hK K
          refine wpAnyS_done (by kernel_rfl) ?_ _
          go_wp2_with fail
          go_meet
          exact ⟨_, _, ax, cx, ay, cy, rfl, rfl, TW⟩
      · go_simp
        have BX := box_new w.heap.size g1 29 [.int .i64 0, .int .i64 0, .int .i64 0, .int .i64 0, .slice none 0 0] Kg1.size (by simp)
        have Kg2 := Kg1.alloc (.cells #[.int .i64 0, .int .i64 0, .int .i64 0, .int .i64 0, .slice none 0 0] 29)
        have BAg2 := BAg1.kept ((Kept.refl g1).alloc (.cells #[.int .i64 0, .int .i64 0, .int .i64 0, .int .i64 0, .slice none 0 0] 29))
        have BBg2 := BBg1.kept ((Kept.refl g1).alloc (.cells #[.int .i64 0, .int .i64 0, .int .i64 0, .int .i64 0, .slice none 0 0] 29))
        replace R1 := R1.kept ((Kept.refl g1).alloc (.cells #[.int .i64 0, .int .i64 0, .int .i64 0, .int .i64 0, .slice none 0 0] 29))
        have zg2 : Hid ((g1.alloc (.cells #[.int .i64 0, .int .i64 0, .int .i64 0, .int .i64 0, .slice none 0 0] 29)).heap.size = g1.heap.size + 1) := by show _ = _; simp
        refine hK _ _ (fun _ => ⟨BAg2.cell 0 (by simp), BAg2.cell 1 (by simp), BAg2.cell 2 (by simp), BAg2.cell 3 (by simp), BAg2.cell 4 (by simp), BBg2.cell 0 (by simp), BBg2.cell 1 (by simp), BBg2.cell 2 (by simp), BBg2.cell 3 (by simp), BBg2.cell 4 (by simp)⟩) ?_
        clear hK K
        generalize g1.alloc (.cells #[.int .i64 0, .int .i64 0, .int .i64 0, .int .i64 0, .slice none 0 0] 29) = g2 at Kg2 BAg2 BBg2 zg2 R1 BX ⊢
        refine wpAnyS_two (i := 3) (j := 5) rfl rfl (by kernel_rfl) (fun K hK => ?_) (fun K hK => ?_)
        · go_simp
          refine (to_any k' n' v' wt' a' m' c' l' g2 (HA'.out.kept Kg2) (by omega)).mono ?_
          rintro e g3 ⟨sv2, rfl, R2, tg3⟩
          have Kg3 := Kg2.trans tg3
          have BAg3 := BAg2.kept tg3
          have BBg3 := BBg2.kept tg3
          replace R1 := R1.kept tg3
          replace BX := BX.kept tg3
          have q2 : ∀ q, sv2.ownBlock = some q → g2.heap.size ≤ q ∧ q < g3.heap.size := fun q hq => World.ownsRow.lt R2 q hq
          have zg3 : Hid (g2.heap.size ≤ g3.heap.size) := tg3.size
          replace R2 := own_base R2 Kg2.size
          refine hK _ _ (fun _ => ⟨BAg3.cell 0 (by simp), BAg3.cell 1 (by simp), BAg3.cell 2 (by simp), BAg3.cell 3 (by simp), BAg3.cell 4 (by simp), BBg3.cell 0 (by simp), BBg3.cell 1 (by simp), BBg3.cell 2 (by simp), BBg3.cell 3 (by simp), BBg3.cell 4 (by simp)⟩) ?_
          clear hK K
          refine wpAnyS_one (i := 5) rfl (by kernel_rfl) (fun K hK => ?_)
          go_simp
          have BY := box_new w.heap.size g3 29 [.int .i64 0, .int .i64 0, .int .i64 0, .int .i64 0, .slice none 0 0] Kg3.size (by simp)
          have Kg4 := Kg3.alloc (.cells #[.int .i64 0, .int .i64 0, .int .i64 0, .int .i64 0, .slice none 0 0] 29)
          have BAg4 := BAg3.kept ((Kept.refl g3).alloc (.cells #[.int .i64 0, .int .i64 0, .int .i64 0, .int .i64 0, .slice none 0 0] 29))
          have BBg4 := BBg3.kept ((Kept.refl g3).alloc (.cells #[.int .i64 0, .int .i64 0, .int .i64 0, .int .i64 0, .slice none 0 0] 29))
          replace R1 := R1.kept ((Kept.refl g3).alloc (.cells #[.int .i64 0, .int .i64 0, .int .i64 0, .int .i64 0, .slice none 0 0] 29))
          replace BX := BX.kept ((Kept.refl g3).alloc (.cells #[.int .i64 0, .int .i64 0, .int .i64 0, .int .i64 0, .slice none 0 0] 29))
          replace R2 := R2.kept ((Kept.refl g3).alloc (.cells #[.int .i64 0, .int .i64 0, .int .i64 0, .int .i64 0, .slice none 0 0] 29))
          have zg4 : Hid ((g3.alloc (.cells #[.int .i64 0, .int .i64 0, .int .i64 0, .int .i64 0, .slice none 0 0] 29)).heap.size = g3.heap.size + 1) := by show _ = _; simp
          refine hK _ _ (fun _ => ⟨BAg4.cell 0 (by simp), BAg4.cell 1 (by simp), BAg4.cell 2 (by simp), BAg4.cell 3 (by simp), BAg4.cell 4 (by simp), BBg4.cell 0 (by simp), BBg4.cell 1 (by simp), BBg4.cell 2 (by simp), BBg4.cell 3 (by simp), BBg4.cell 4 (by simp)⟩) ?_
          clear hK K
          generalize g3.alloc (.cells #[.int .i64 0, .int .i64 0, .int .i64 0, .int .i64 0, .slice none 0 0] 29) = g4 at Kg4 BAg4 BBg4 zg4 R1 BX R2 BY ⊢
          obtain ⟨ax, cx, hs1, _, _⟩ := R1.at
          subst hs1
          obtain ⟨ay, cy, hs2, _, _⟩ := R2.at
          subst hs2
          have lx := BX.lt.2
          have ly := BY.lt.2
          have n1 : ∀ q, (Value.slice ax l.length cx).ownBlock = some q → q ≠ g1.heap.size ∧ q ≠ g3.heap.size := fun q hq => by have := q1 q hq; have := zg1.out; have := zg2.out; have := zg3.out; have := zg4.out; omega
          have n2 : ∀ q, (Value.slice ay l'.length cy).ownBlock = some q → q ≠ g1.heap.size ∧ q ≠ g3.heap.size := fun q hq => by have := q2 q hq; have := zg1.out; have := zg2.out; have := zg3.out; have := zg4.out; omega
          have nxz : g1.heap.size ≠ g3.heap.size := by have := zg1.out; have := zg2.out; have := zg3.out; have := zg4.out; omega
          have TW : Hid (Two w ((((((((((g4.setCell ⟨g1.heap.size, 0, none⟩ (.int .i64 k)).setCell ⟨g1.heap.size, 1, none⟩ (.int .i64 n)).setCell ⟨g1.heap.size, 2, none⟩ (.int .i64 v)).setCell ⟨g1.heap.size, 3, none⟩ (.int .i64 wt)).setCell ⟨g1.heap.size, 4, none⟩ (.slice ax l.length cx)).setCell ⟨g3.heap.size, 0, none⟩ (.int .i64 k')).setCell ⟨g3.heap.size, 1, none⟩ (.int .i64 n')).setCell ⟨g3.heap.size, 2, none⟩ (.int .i64 v')).setCell ⟨g3.heap.size, 3, none⟩ (.int .i64 wt')).setCell ⟨g3.heap.size, 4, none⟩ (.slice ay l'.length cy)) g1.heap.size g3.heap.size k n v wt k' n' v' wt' ax cx ay cy l l') := two_of BX BY R1 R2 Kg4 nxz n1 n2
          have x0 : g4.cell? ⟨g1.heap.size, 0, none⟩ = some (.int .i64 0) := BX.cell 0 (by simp)
          have xf0 := BX.frozen 0
          have y0 : g4.cell? ⟨g3.heap.size, 0, none⟩ = some (.int .i64 0) := BY.cell 0 (by simp)
          have yf0 := BY.frozen 0
          have x1 : g4.cell? ⟨g1.heap.size, 1, none⟩ = some (.int .i64 0) := BX.cell 1 (by simp)
          have xf1 := BX.frozen 1
          have y1 : g4.cell? ⟨g3.heap.size, 1, none⟩ = some (.int .i64 0) := BY.cell 1 (by simp)
          have yf1 := BY.frozen 1
          have x2 : g4.cell? ⟨g1.heap.size, 2, none⟩ = some (.int .i64 0) := BX.cell 2 (by simp)
          have xf2 := BX.frozen 2
          have y2 : g4.cell? ⟨g3.heap.size, 2, none⟩ = some (.int .i64 0) := BY.cell 2 (by simp)
          have yf2 := BY.frozen 2
          have x3 : g4.cell? ⟨g1.heap.size, 3, none⟩ = some (.int .i64 0) := BX.cell 3 (by simp)
          have xf3 := BX.frozen 3
          have y3 : g4.cell? ⟨g3.heap.size, 3, none⟩ = some (.int .i64 0) := BY.cell 3 (by simp)
          have yf3 := BY.frozen 3
          have x4 : g4.cell? ⟨g1.heap.size, 4, none⟩ = some (.slice none 0 0) := BX.cell 4 (by simp)
          have xf4 := BX.frozen 4
          have y4 : g4.cell? ⟨g3.heap.size, 4, none⟩ = some (.slice none 0 0) := BY.cell 4 (by simp)
          have yf4 := BY.frozen 4
          have tX := turn_set5 g4 g1.heap.size (.int .i64 k) (.int .i64 n) (.int .i64 v) (.int .i64 wt) (.slice ax l.length cx)
          have nA : ¬ w.heap.size = g1.heap.size := by have := BAg0.lt.2; have := zg1.out; have := zg2.out; have := zg3.out; have := zg4.out; omega
          have nB : ¬ w.heap.size + 1 = g1.heap.size := by have := BBg0.lt.2; have := zg1.out; have := zg2.out; have := zg3.out; have := zg4.out; omega
          have BAF := BAg4.turns tX nA
          have BBF := BBg4.turns tX nB
          clear n1 n2 q1 q2 R1 R2 BX BY tX
          refine wpAnyS_one (i := 6) rfl (by kernel_rfl) (fun K hK => ?_)
          go_simp
          refine hK _ _ (fun _ => ⟨BAF.cell 0 (by simp), BAF.cell 1 (by simp), BAF.cell 2 (by simp), BAF.cell 3 (by simp), BAF.cell 4 (by simp), BBF.cell 0 (by simp), BBF.cell 1 (by simp), BBF.cell 2 (by simp), BBF.cell 3 (by simp), BBF.cell 4 (by simp)⟩) ?_
          clear hK K
          have nzx : g3.heap.size ≠ g1.heap.size := fun e => nxz e.symm
          refine wpAnyS_one (i := 7) rfl (by kernel_rfl) (fun K hK => ?_)
          go_simp
          refine hK _ _ (fun h => absurd rfl h) ?_
          clear hK K
          refine wpAnyS_done (by kernel_rfl) ?_ _
          go_wp2_with fail
          go_meet
          exact ⟨_, _, ax, cx, ay, cy, rfl, rfl, TW⟩
        · go_simp
          have BY := box_new w.heap.size g2 29 [.int .i64 0, .int .i64 0, .int .i64 0, .int .i64 0, .slice none 0 0] Kg2.size (by simp)
          have Kg3 := Kg2.alloc (.cells #[.int .i64 0, .int .i64 0, .int .i64 0, .int .i64 0, .slice none 0 0] 29)
          have BAg3 := BAg2.kept ((Kept.refl g2).alloc (.cells #[.int .i64 0, .int .i64 0, .int .i64 0, .int .i64 0, .slice none 0 0] 29))
          have BBg3 := BBg2.kept ((Kept.refl g2).alloc (.cells #[.int .i64 0, .int .i64 0, .int .i64 0, .int .i64 0, .slice none 0 0] 29))
          replace R1 := R1.kept ((Kept.refl g2).alloc (.cells #[.int .i64 0, .int .i64 0, .int .i64 0, .int .i64 0, .slice none 0 0] 29))
          replace BX := BX.kept ((Kept.refl g2).alloc (.cells #[.int .i64 0, .int .i64 0, .int .i64 0, .int .i64 0, .slice none 0 0] 29))
          have zg3 : Hid ((g2.alloc (.cells #[.int .i64 0, .int .i64 0, .int .i64 0, .int .i64 0, .slice none 0 0] 29)).heap.size = g2.heap.size + 1) := by show _ = _; simp
          refine hK _ _ (fun _ => ⟨BAg3.cell 0 (by simp), BAg3.cell 1 (by simp), BAg3.cell 2 (by simp), BAg3.cell 3 (by simp), BAg3.cell 4 (by simp), BBg3.cell 0 (by simp), BBg3.cell 1 (by simp), BBg3.cell 2 (by simp), BBg3.cell 3 (by simp), BBg3.cell 4 (by simp)⟩) ?_
          clear hK K
          generalize g2.alloc (.cells #[.int .i64 0, .int .i64 0, .int .i64 0, .int .i64 0, .slice none 0 0] 29) = g3 at Kg3 BAg3 BBg3 zg3 R1 BX BY ⊢
          refine wpAnyS_one (i := 3) rfl (by kernel_rfl) (fun K hK => ?_)
          go_simp
          refine (to_any k' n' v' wt' a' m' c' l' g3 (HA'.out.kept Kg3) (by omega)).mono ?_
          rintro e g4 ⟨sv2, rfl, R2, tg4⟩
          have Kg4 := Kg3.trans tg4
          have BAg4 := BAg3.kept tg4
          have BBg4 := BBg3.kept tg4
          replace R1 := R1.kept tg4
          replace BX := BX.kept tg4
          replace BY := BY.kept tg4
          have q2 : ∀ q, sv2.ownBlock = some q → g3.heap.size ≤ q ∧ q < g4.heap.size := fun q hq => World.ownsRow.lt R2 q hq
          have zg4 : Hid (g3.heap.size ≤ g4.heap.size) := tg4.size
          replace R2 := own_base R2 Kg3.size
          refine hK _ _ (fun _ => ⟨BAg4.cell 0 (by simp), BAg4.cell 1 (by simp), BAg4.cell 2 (by simp), BAg4.cell 3 (by simp), BAg4.cell 4 (by simp), BBg4.cell 0 (by simp), BBg4.cell 1 (by simp), BBg4.cell 2 (by simp), BBg4.cell 3 (by simp), BBg4.cell 4 (by simp)⟩) ?_
          clear hK K
          obtain ⟨ax, cx, hs1, _, _⟩ := R1.at
          subst hs1
          obtain ⟨ay, cy, hs2, _, _⟩ := R2.at
          subst hs2
          have lx := BX.lt.2
          have ly := BY.lt.2
          have n1 : ∀ q, (Value.slice ax l.length cx).ownBlock = some q → q ≠ g1.heap.size ∧ q ≠ g2.heap.size := fun q hq => by have := q1 q hq; have := zg1.out; have := zg2.out; have := zg3.out; have := zg4.out; omega
          have n2 : ∀ q, (Value.slice ay l'.length cy).ownBlock = some q → q ≠ g1.heap.size ∧ q ≠ g2.heap.size := fun q hq => by have := q2 q hq; have := zg1.out; have := zg2.out; have := zg3.out; have := zg4.out; omega
          have nxz : g1.heap.size ≠ g2.heap.size := by have := zg1.out; have := zg2.out; have := zg3.out; have := zg4.out; omega
          have TW : Hid (Two w ((((((((((g4.setCell ⟨g1.heap.size, 0, none⟩ (.int .i64 k)).setCell ⟨g1.heap.size, 1, none⟩ (.int .i64 n)).setCell ⟨g1.heap.size, 2, none⟩ (.int .i64 v)).setCell ⟨g1.heap.size, 3, none⟩ (.int .i64 wt)).setCell ⟨g1.heap.size, 4, none⟩ (.slice ax l.length cx)).setCell ⟨g2.heap.size, 0, none⟩ (.int .i64 k')).setCell ⟨g2.heap.size, 1, none⟩ (.int .i64 n')).setCell ⟨g2.heap.size, 2, none⟩ (.int .i64 v')).setCell ⟨g2.heap.size, 3, none⟩ (.int .i64 wt')).setCell ⟨g2.heap.size, 4, none⟩ (.slice ay l'.length cy)) g1.heap.size g2.heap.size k n v wt k' n' v' wt' ax cx ay cy l l') := two_of BX BY R1 R2 Kg4 nxz n1 n2
          have x0 : g4.cell? ⟨g1.heap.size, 0, none⟩ = some (.int .i64 0) := BX.cell 0 (by simp)
          have xf0 := BX.frozen 0
          have y0 : g4.cell? ⟨g2.heap.size, 0, none⟩ = some (.int .i64 0) := BY.cell 0 (by simp)
          have yf0 := BY.frozen 0
          have x1 : g4.cell? ⟨g1.heap.size, 1, none⟩ = some (.int .i64 0) := BX.cell 1 (by simp)
          have xf1 := BX.frozen 1
          have y1 : g4.cell? ⟨g2.heap.size, 1, none⟩ = some (.int .i64 0) := BY.cell 1 (by simp)
          have yf1 := BY.frozen 1
          have x2 : g4.cell? ⟨g1.heap.size, 2, none⟩ = some (.int .i64 0) := BX.cell 2 (by simp)
          have xf2 := BX.frozen 2
          have y2 : g4.cell? ⟨g2.heap.size, 2, none⟩ = some (.int .i64 0) := BY.cell 2 (by simp)
          have yf2 := BY.frozen 2
          have x3 : g4.cell? ⟨g1.heap.size, 3, none⟩ = some (.int .i64 0) := BX.cell 3 (by simp)
          have xf3 := BX.frozen 3
          have y3 : g4.cell? ⟨g2.heap.size, 3, none⟩ = some (.int .i64 0) := BY.cell 3 (by simp)
          have yf3 := BY.frozen 3
          have x4 : g4.cell? ⟨g1.heap.size, 4, none⟩ = some (.slice none 0 0) := BX.cell 4 (by simp)
          have xf4 := BX.frozen 4
          have y4 : g4.cell? ⟨g2.heap.size, 4, none⟩ = some (.slice none 0 0) := BY.cell 4 (by simp)
          have yf4 := BY.frozen 4
          have tX := turn_set5 g4 g1.heap.size (.int .i64 k) (.int .i64 n) (.int .i64 v) (.int .i64 wt) (.slice ax l.length cx)
          have nA : ¬ w.heap.size = g1.heap.size := by have := BAg0.lt.2; have := zg1.out; have := zg2.out; have := zg3.out; have := zg4.out; omega
          have nB : ¬ w.heap.size + 1 = g1.heap.size := by have := BBg0.lt.2; have := zg1.out; have := zg2.out; have := zg3.out; have := zg4.out; omega
          have BAF := BAg4.turns tX nA
          have BBF := BBg4.turns tX nB
          clear n1 n2 q1 q2 R1 R2 BX BY tX
          refine wpAnyS_one (i := 6) rfl (by kernel_rfl) (fun K hK => ?_)
          go_simp
          refine hK _ _ (fun _ => ⟨BAF.cell 0 (by simp), BAF.cell 1 (by simp), BAF.cell 2 (by simp), BAF.cell 3 (by simp), BAF.cell 4 (by simp), BBF.cell 0 (by simp), BBF.cell 1 (by simp), BBF.cell 2 (by simp), BBF.cell 3 (by simp), BBF.cell 4 (by simp)⟩) ?_
          clear hK K
          have nzx : g2.heap.size ≠ g1.heap.size := fun e => nxz e.symm
          refine wpAnyS_one (i := 7) rfl (by kernel_rfl) (fun K hK => ?_)
          go_simp
          refine hK _ _ (fun h => absurd rfl h) ?_
          clear hK K
          refine wpAnyS_done (by kernel_rfl) ?_ _
          go_wp2_with fail
          go_meet
          exact ⟨_, _, ax, cx, ay, cy, rfl, rfl, TW⟩
      · go_simp
        have BY := box_new w.heap.size g1 29 [.int .i64 0, .int .i64 0, .int .i64 0, .int .i64 0, .slice none 0 0] Kg1.size (by simp)
        have Kg2 := Kg1.alloc (.cells #[.int .i64 0, .int .i64 0, .int .i64 0, .int .i64 0, .slice none 0 0] 29)
        have BAg2 := BAg1.kept ((Kept.refl g1).alloc (.cells #[.int .i64 0, .int .i64 0, .int .i64 0, .int .i64 0, .slice none 0 0] 29))
        have BBg2 := BBg1.kept ((Kept.refl g1).alloc (.cells #[.int .i64 0, .int .i64 0, .int .i64 0, .int .i64 0, .slice none 0 0] 29))
        replace R1 := R1.kept ((Kept.refl g1).alloc (.cells #[.int .i64 0, .int .i64 0, .int .i64 0, .int .i64 0, .slice none 0 0] 29))
        have zg2 : Hid ((g1.alloc (.cells #[.int .i64 0, .int .i64 0, .int .i64 0, .int .i64 0, .slice none 0 0] 29)).heap.size = g1.heap.size + 1) := by show _ = _; simp
        refine hK _ _ (fun _ => ⟨BAg2.cell 0 (by simp), BAg2.cell 1 (by simp), BAg2.cell 2 (by simp), BAg2.cell 3 (by simp), BAg2.cell 4 (by simp), BBg2.cell 0 (by simp), BBg2.cell 1 (by simp), BBg2.cell 2 (by simp), BBg2.cell 3 (by simp), BBg2.cell 4 (by simp)⟩) ?_
        clear hK K
        generalize g1.alloc (.cells #[.int .i64 0, .int .i64 0, .int .i64 0, .int .i64 0, .slice none 0 0] 29) = g2 at Kg2 BAg2 BBg2 zg2 R1 BY ⊢
        refine wpAnyS_two (i := 3) (j := 4) rfl rfl (by kernel_rfl) (fun K hK => ?_) (fun K hK => ?_)
        · go_simp
          refine (to_any k' n' v' wt' a' m' c' l' g2 (HA'.out.kept Kg2) (by omega)).mono ?_
          rintro e g3 ⟨sv2, rfl, R2, tg3⟩
          have Kg3 := Kg2.trans tg3
          have BAg3 := BAg2.kept tg3
          have BBg3 := BBg2.kept tg3
          replace R1 := R1.kept tg3
          replace BY := BY.kept tg3
          have q2 : ∀ q, sv2.ownBlock = some q → g2.heap.size ≤ q ∧ q < g3.heap.size := fun q hq => World.ownsRow.lt R2 q hq
          have zg3 : Hid (g2.heap.size ≤ g3.heap.size) := tg3.size
          replace R2 := own_base R2 Kg2.size
          refine hK _ _ (fun _ => ⟨BAg3.cell 0 (by simp), BAg3.cell 1 (by simp), BAg3.cell 2 (by simp), BAg3.cell 3 (by simp), BAg3.cell 4 (by simp), BBg3.cell 0 (by simp), BBg3.cell 1 (by simp), BBg3.cell 2 (by simp), BBg3.cell 3 (by simp), BBg3.cell 4 (by simp)⟩) ?_
          clear hK K
          refine wpAnyS_one (i := 4) rfl (by kernel_rfl) (fun K hK => ?_)
          go_simp
          have BX := box_new w.heap.size g3 29 [.int .i64 0, .int .i64 0, .int .i64 0, .int .i64 0, .slice none 0 0] Kg3.size (by simp)
          have Kg4 := Kg3.alloc (.cells #[.int .i64 0, .int .i64 0, .int .i64 0, .int .i64 0, .slice none 0 0] 29)
          have BAg4 := BAg3.kept ((Kept.refl g3).alloc (.cells #[.int .i64 0, .int .i64 0, .int .i64 0, .int .i64 0, .slice none 0 0] 29))
          have BBg4 := BBg3.kept ((Kept.refl g3).alloc (.cells #[.int .i64 0, .int .i64 0, .int .i64 0, .int .i64 0, .slice none 0 0] 29))
          replace R1 := R1.kept ((Kept.refl g3).alloc (.cells #[.int .i64 0, .int .i64 0, .int .i64 0, .int .i64 0, .slice none 0 0] 29))
          replace BY := BY.kept ((Kept.refl g3).alloc (.cells #[.int .i64 0, .int .i64 0, .int .i64 0, .int .i64 0, .slice none 0 0] 29))
          replace R2 := R2.kept ((Kept.refl g3).alloc (.cells #[.int .i64 0, .int .i64 0, .int .i64 0, .int .i64 0, .slice none 0 0] 29))
          have zg4 : Hid ((g3.alloc (.cells #[.int .i64 0, .int .i64 0, .int .i64 0, .int .i64 0, .slice none 0 0] 29)).heap.size = g3.heap.size + 1) := by show _ = _; simp
          refine hK _ _ (fun _ => ⟨BAg4.cell 0 (by simp), BAg4.cell 1 (by simp), BAg4.cell 2 (by simp), BAg4.cell 3 (by simp), BAg4.cell 4 (by simp), BBg4.cell 0 (by simp), BBg4.cell 1 (by simp), BBg4.cell 2 (by simp), BBg4.cell 3 (by simp), BBg4.cell 4 (by simp)⟩) ?_
          clear hK K
          generalize g3.alloc (.cells #[.int .i64 0, .int .i64 0, .int .i64 0, .int .i64 0, .slice none 0 0] 29) = g4 at Kg4 BAg4 BBg4 zg4 R1 BY R2 BX ⊢
          obtain ⟨ax, cx, hs1, _, _⟩ := R1.at
          subst hs1
          obtain ⟨ay, cy, hs2, _, _⟩ := R2.at
          subst hs2
          have lx := BX.lt.2
          have ly := BY.lt.2
          have n1 : ∀ q, (Value.slice ax l.length cx).ownBlock = some q → q ≠ g3.heap.size ∧ q ≠ g1.heap.size := fun q hq => by have := q1 q hq; have := zg1.out; have := zg2.out; have := zg3.out; have := zg4.out; omega
          have n2 : ∀ q, (Value.slice ay l'.length cy).ownBlock = some q → q ≠ g3.heap.size ∧ q ≠ g1.heap.size := fun q hq => by have := q2 q hq; have := zg1.out; have := zg2.out; have := zg3.out; have := zg4.out; omega
          have nxz : g3.heap.size ≠ g1.heap.size := by have := zg1.out; have := zg2.out; have := zg3.out; have := zg4.out; omega
          have TW : Hid (Two w ((((((((((g4.setCell ⟨g3.heap.size, 0, none⟩ (.int .i64 k)).setCell ⟨g3.heap.size, 1, none⟩ (.int .i64 n)).setCell ⟨g3.heap.size, 2, none⟩ (.int .i64 v)).setCell ⟨g3.heap.size, 3, none⟩ (.int .i64 wt)).setCell ⟨g3.heap.size, 4, none⟩ (.slice ax l.length cx)).setCell ⟨g1.heap.size, 0, none⟩ (.int .i64 k')).setCell ⟨g1.heap.size, 1, none⟩ (.int .i64 n')).setCell ⟨g1.heap.size, 2, none⟩ (.int .i64 v')).setCell ⟨g1.heap.size, 3, none⟩ (.int .i64 wt')).setCell ⟨g1.heap.size, 4, none⟩ (.slice ay l'.length cy)) g3.heap.size g1.heap.size k n v wt k' n' v' wt' ax cx ay cy l l') := two_of BX BY R1 R2 Kg4 nxz n1 n2
          have x0 : g4.cell? ⟨g3.heap.size, 0, none⟩ = some (.int .i64 0) := BX.cell 0 (by simp)
          have xf0 := BX.frozen 0
          have y0 : g4.cell? ⟨g1.heap.size, 0, none⟩ = some (.int .i64 0) := BY.cell 0 (by simp)
          have yf0 := BY.frozen 0
          have x1 : g4.cell? ⟨g3.heap.size, 1, none⟩ = some (.int .i64 0) := BX.cell 1 (by simp)
          have xf1 := BX.frozen 1
          have y1 : g4.cell? ⟨g1.heap.size, 1, none⟩ = some (.int .i64 0) := BY.cell 1 (by simp)
          have yf1 := BY.frozen 1
          have x2 : g4.cell? ⟨g3.heap.size, 2, none⟩ = some (.int .i64 0) := BX.cell 2 (by simp)
          have xf2 := BX.frozen 2
          have y2 : g4.cell? ⟨g1.heap.size, 2, none⟩ = some (.int .i64 0) := BY.cell 2 (by simp)
          have yf2 := BY.frozen 2
          have x3 : g4.cell? ⟨g3.heap.size, 3, none⟩ = some (.int .i64 0) := BX.cell 3 (by simp)
          have xf3 := BX.frozen 3
          have y3 : g4.cell? ⟨g1.heap.size, 3, none⟩ = some (.int .i64 0) := BY.cell 3 (by simp)
          have yf3 := BY.frozen 3
          have x4 : g4.cell? ⟨g3.heap.size, 4, none⟩ = some (.slice none 0 0) := BX.cell 4 (by simp)
          have xf4 := BX.frozen 4
          have y4 : g4.cell? ⟨g1.heap.size, 4, none⟩ = some (.slice none 0 0) := BY.cell 4 (by simp)
          have yf4 := BY.frozen 4
          have tX := turn_set5 g4 g3.heap.size (.int .i64 k) (.int .i64 n) (.int .i64 v) (.int .i64 wt) (.slice ax l.length cx)
          have nA : ¬ w.heap.size = g3.heap.size := by have := BAg0.lt.2; have := zg1.out; have := zg2.out; have := zg3.out; have := zg4.out; omega
          have nB : ¬ w.heap.size + 1 = g3.heap.size := by have := BBg0.lt.2; have := zg1.out; have := zg2.out; have := zg3.out; have := zg4.out; omega
          have BAF := BAg4.turns tX nA
          have BBF := BBg4.turns tX nB
          clear n1 n2 q1 q2 R1 R2 BX BY tX
          refine wpAnyS_one (i := 6) rfl (by kernel_rfl) (fun K hK => ?_)
          go_simp
          refine hK _ _ (fun _ => ⟨BAF.cell 0 (by simp), BAF.cell 1 (by simp), BAF.cell 2 (by simp), BAF.cell 3 (by simp), BAF.cell 4 (by simp), BBF.cell 0 (by simp), BBF.cell 1 (by simp), BBF.cell 2 (by simp), BBF.cell 3 (by simp), BBF.cell 4 (by simp)⟩) ?_
          clear hK K
          have nzx : g1.heap.size ≠ g3.heap.size := fun e => nxz e.symm
          refine wpAnyS_one (i := 7) rfl (by kernel_rfl) (fun K hK => ?_)
          go_simp
          refine hK _ _ (fun h => absurd rfl h) ?_
          clear hK K
          refine wpAnyS_done (by kernel_rfl) ?_ _
          go_wp2_with fail
          go_meet
          exact ⟨_, _, ax, cx, ay, cy, rfl, rfl, TW⟩
        · go_simp
          have BX := box_new w.heap.size g2 29 [.int .i64 0, .int .i64 0, .int .i64 0, .int .i64 0, .slice none 0 0] Kg2.size (by simp)
          have Kg3 := Kg2.alloc (.cells #[.int .i64 0, .int .i64 0, .int .i64 0, .int .i64 0, .slice none 0 0] 29)
          have BAg3 := BAg2.kept ((Kept.refl g2).alloc (.cells #[.int .i64 0, .int .i64 0, .int .i64 0, .int .i64 0, .slice none 0 0] 29))
          have BBg3 := BBg2.kept ((Kept.refl g2).alloc (.cells #[.int .i64 0, .int .i64 0, .int .i64 0, .int .i64 0, .slice none 0 0] 29))
          replace R1 := R1.kept ((Kept.refl g2).alloc (.cells #[.int .i64 0, .int .i64 0, .int .i64 0, .int .i64 0, .slice none 0 0] 29))
          replace BY := BY.kept ((Kept.refl g2).alloc (.cells #[.int .i64 0, .int .i64 0, .int .i64 0, .int .i64 0, .slice none 0 0] 29))
          have zg3 : Hid ((g2.alloc (.cells #[.int .i64 0, .int .i64 0, .int .i64 0, .int .i64 0, .slice none 0 0] 29)).heap.size = g2.heap.size + 1) := by show _ = _; simp
          refine hK _ _ (fun _ => ⟨BAg3.cell 0 (by simp), BAg3.cell 1 (by simp), BAg3.cell 2 (by simp), BAg3.cell 3 (by simp), BAg3.cell 4 (by simp), BBg3.cell 0 (by simp), BBg3.cell 1 (by simp), BBg3.cell 2 (by simp), BBg3.cell 3 (by simp), BBg3.cell 4 (by simp)⟩) ?_
          clear hK K
          generalize g2.alloc (.cells #[.int .i64 0, .int .i64 0, .int .i64 0, .int .i64 0, .slice none 0 0] 29) = g3 at Kg3 BAg3 BBg3 zg3 R1 BY BX ⊢
          refine wpAnyS_one (i := 3) rfl (by kernel_rfl) (fun K hK => ?_)
          go_simp
          refine (to_any k' n' v' wt' a' m' c' l' g3 (HA'.out.kept Kg3) (by omega)).mono ?_
          rintro e g4 ⟨sv2, rfl, R2, tg4⟩
          have Kg4 := Kg3.trans tg4
          have BAg4 := BAg3.kept tg4
          have BBg4 := BBg3.kept tg4
          replace R1 := R1.kept tg4
          replace BY := BY.kept tg4
          replace BX := BX.kept tg4
          have q2 : ∀ q, sv2.ownBlock = some q → g3.heap.size ≤ q ∧ q < g4.heap.size := fun q hq => World.ownsRow.lt R2 q hq
          have zg4 : Hid (g3.heap.size ≤ g4.heap.size) := tg4.size
          replace R2 := own_base R2 Kg3.size
          refine hK _ _ (fun _ => ⟨BAg4.cell 0 (by simp), BAg4.cell 1 (by simp), BAg4.cell 2 (by simp), BAg4.cell 3 (by simp), BAg4.cell 4 (by simp), BBg4.cell 0 (by simp), BBg4.cell 1 (by simp), BBg4.cell 2 (by simp), BBg4.cell 3 (by simp), BBg4.cell 4 (by simp)⟩) ?_
          clear hK K
          obtain ⟨ax, cx, hs1, _, _⟩ := R1.at
          subst hs1
          obtain ⟨ay, cy, hs2, _, _⟩ := R2.at
          subst hs2
          have lx := BX.lt.2
          have ly := BY.lt.2
          have n1 : ∀ q, (Value.slice ax l.length cx).ownBlock = some q → q ≠ g2.heap.size ∧ q ≠ g1.heap.size := fun q hq => by have := q1 q hq; have := zg1.out; have := zg2.out; have := zg3.out; have := zg4.out; omega
          have n2 : ∀ q, (Value.slice ay l'.length cy).ownBlock = some q → q ≠ g2.heap.size ∧ q ≠ g1.heap.size := fun q hq => by have := q2 q hq; have := zg1.out; have := zg2.out; have := zg3.out; have := zg4.out; omega
          have nxz : g2.heap.size ≠ g1.heap.size := by have := zg1.out; have := zg2.out; have := zg3.out; have := zg4.out; omega
          have TW : Hid (Two w ((((((((((g4.setCell ⟨g2.heap.size, 0, none⟩ (.int .i64 k)).setCell ⟨g2.heap.size, 1, none⟩ (.int .i64 n)).setCell ⟨g2.heap.size, 2, none⟩ (.int .i64 v)).setCell ⟨g2.heap.size, 3, none⟩ (.int .i64 wt)).setCell ⟨g2.heap.size, 4, none⟩ (.slice ax l.length cx)).setCell ⟨g1.heap.size, 0, none⟩ (.int .i64 k')).setCell ⟨g1.heap.size, 1, none⟩ (.int .i64 n')).setCell ⟨g1.heap.size, 2, none⟩ (.int .i64 v')).setCell ⟨g1.heap.size, 3, none⟩ (.int .i64 wt')).setCell ⟨g1.heap.size, 4, none⟩ (.slice ay l'.length cy)) g2.heap.size g1.heap.size k n v wt k' n' v' wt' ax cx ay cy l l') := two_of BX BY R1 R2 Kg4 nxz n1 n2
          have x0 : g4.cell? ⟨g2.heap.size, 0, none⟩ = some (.int .i64 0) := BX.cell 0 (by simp)
          have xf0 := BX.frozen 0
          have y0 : g4.cell? ⟨g1.heap.size, 0, none⟩ = some (.int .i64 0) := BY.cell 0 (by simp)
          have yf0 := BY.frozen 0
          have x1 : g4.cell? ⟨g2.heap.size, 1, none⟩ = some (.int .i64 0) := BX.cell 1 (by simp)
          have xf1 := BX.frozen 1
          have y1 : g4.cell? ⟨g1.heap.size, 1, none⟩ = some (.int .i64 0) := BY.cell 1 (by simp)
          have yf1 := BY.frozen 1
          have x2 : g4.cell? ⟨g2.heap.size, 2, none⟩ = some (.int .i64 0) := BX.cell 2 (by simp)
          have xf2 := BX.frozen 2
          have y2 : g4.cell? ⟨g1.heap.size, 2, none⟩ = some (.int .i64 0) := BY.cell 2 (by simp)
          have yf2 := BY.frozen 2
          have x3 : g4.cell? ⟨g2.heap.size, 3, none⟩ = some (.int .i64 0) := BX.cell 3 (by simp)
          have xf3 := BX.frozen 3
          have y3 : g4.cell? ⟨g1.heap.size, 3, none⟩ = some (.int .i64 0) := BY.cell 3 (by simp)
          have yf3 := BY.frozen 3
          have x4 : g4.cell? ⟨g2.heap.size, 4, none⟩ = some (.slice none 0 0) := BX.cell 4 (by simp)
          have xf4 := BX.frozen 4
          have y4 : g4.cell? ⟨g1.heap.size, 4, none⟩ = some (.slice none 0 0) := BY.cell 4 (by simp)
          have yf4 := BY.frozen 4
          have tX := turn_set5 g4 g2.heap.size (.int .i64 k) (.int .i64 n) (.int .i64 v) (.int .i64 wt) (.slice ax l.length cx)
          have nA : ¬ w.heap.size = g2.heap.size := by have := BAg0.lt.2; have := zg1.out; have := zg2.out; have := zg3.out; have := zg4.out; omega
          have nB : ¬ w.heap.size + 1 = g2.heap.size := by have := BBg0.lt.2; have := zg1.out; have := zg2.out; have := zg3.out; have := zg4.out; omega
          have BAF := BAg4.turns tX nA
          have BBF := BBg4.turns tX nB
          clear n1 n2 q1 q2 R1 R2 BX BY tX
          refine wpAnyS_one (i := 6) rfl (by kernel_rfl) (fun K hK => ?_)
          go_simp
          refine hK _ _ (fun _ => ⟨BAF.cell 0 (by simp), BAF.cell 1 (by simp), BAF.cell 2 (by simp), BAF.cell 3 (by simp), BAF.cell 4 (by simp), BBF.cell 0 (by simp), BBF.cell 1 (by simp), BBF.cell 2 (by simp), BBF.cell 3 (by simp), BBF.cell 4 (by simp)⟩) ?_
          clear hK K
          have nzx : g1.heap.size ≠ g2.heap.size := fun e => nxz e.symm
          refine wpAnyS_one (i := 7) rfl (by kernel_rfl) (fun K hK => ?_)
          go_simp
          refine hK _ _ (fun h => absurd rfl h) ?_
          clear hK K
          refine wpAnyS_done (by kernel_rfl) ?_ _
          go_wp2_with fail
          go_meet
          exact ⟨_, _, ax, cx, ay, cy, rfl, rfl, TW⟩
    · go_simp
      have BX := box_new w.heap.size g0 29 [.int .i64 0, .int .i64 0, .int .i64 0, .int .i64 0, .slice none 0 0] Kg0.size (by simp)
      have Kg1 := Kg0.alloc (.cells #[.int .i64 0, .int .i64 0, .int .i64 0, .int .i64 0, .slice none 0 0] 29)
      have BAg1 := BAg0.kept ((Kept.refl g0).alloc (.cells #[.int .i64 0, .int .i64 0, .int .i64 0, .int .i64 0, .slice none 0 0] 29))
      have BBg1 := BBg0.kept ((Kept.refl g0).alloc (.cells #[.int .i64 0, .int .i64 0, .int .i64 0, .int .i64 0, .slice none 0 0] 29))
      have zg1 : Hid ((g0.alloc (.cells #[.int .i64 0, .int .i64 0, .int .i64 0, .int .i64 0, .slice none 0 0] 29)).heap.size = g0.heap.size + 1) := by show _ = _; simp
      refine hK _ _ (fun _ => ⟨BAg1.cell 0 (by simp), BAg1.cell 1 (by simp), BAg1.cell 2 (by simp), BAg1.cell 3 (by simp), BAg1.cell 4 (by simp), BBg1.cell 0 (by simp), BBg1.cell 1 (by simp), BBg1.cell 2 (by simp), BBg1.cell 3 (by simp), BBg1.cell 4 (by simp)⟩) ?_
      clear hK K
      generalize g0.alloc (.cells #[.int .i64 0, .int .i64 0, .int .i64 0, .int .i64 0, .slice none 0 0] 29) = g1 at Kg1 BAg1 BBg1 zg1 BX ⊢
      refine wpAnyS_two (i := 1) (j := 5) rfl rfl (by kernel_rfl) (fun K hK => ?_) (fun K hK => ?_)
      · go_simp
        refine (to_any k n v wt a m c l g1 (HA.out.kept Kg1) (by omega)).mono ?_
        rintro e g2 ⟨sv1, rfl, R1, tg2⟩
        have Kg2 := Kg1.trans tg2
        have BAg2 := BAg1.kept tg2
        have BBg2 := BBg1.kept tg2
        replace BX := BX.kept tg2
        have q1 : ∀ q, sv1.ownBlock = some q → g1.heap.size ≤ q ∧ q < g2.heap.size := fun q hq => World.ownsRow.lt R1 q hq
        have zg2 : Hid (g1.heap.size ≤ g2.heap.size) := tg2.size
        replace R1 := own_base R1 Kg1.size
        refine hK _ _ (fun _ => ⟨BAg2.cell 0 (by simp), BAg2.cell 1 (by simp), BAg2.cell 2 (by simp), BAg2.cell 3 (by simp), BAg2.cell 4 (by simp), BBg2.cell 0 (by simp), BBg2.cell 1 (by simp), BBg2.cell 2 (by simp), BBg2.cell 3 (by simp), BBg2.cell 4 (by simp)⟩) ?_
        clear hK K
        refine wpAnyS_two (i := 3) (j := 5) rfl rfl (by kernel_rfl) (fun K hK => ?_) (fun K hK => ?_)
        · go_simp
          refine (to_any k' n' v' wt' a' m' c' l' g2 (HA'.out.kept Kg2) (by omega)).mono ?_
          rintro e g3 ⟨sv2, rfl, R2, tg3⟩
          have Kg3 := Kg2.trans tg3
          have BAg3 := BAg2.kept tg3
          have BBg3 := BBg2.kept tg3
          replace BX := BX.kept tg3
          replace R1 := R1.kept tg3
          have q2 : ∀ q, sv2.ownBlock = some q → g2.heap.size ≤ q ∧ q < g3.heap.size := fun q hq => World.ownsRow.lt R2 q hq
          have zg3 : Hid (g2.heap.size ≤ g3.heap.size) := tg3.size
          replace R2 := own_base R2 Kg2.size
          refine hK _ _ (fun _ => ⟨BAg3.cell 0 (by simp), BAg3.cell 1 (by simp), BAg3.cell 2 (by simp), BAg3.cell 3 (by simp), BAg3.cell 4 (by simp), BBg3.cell 0 (by simp), BBg3.cell 1 (by simp), BBg3.cell 2 (by simp), BBg3.cell 3 (by simp), BBg3.cell 4 (by simp)⟩) ?_
          clear hK K
          refine wpAnyS_one (i := 5) rfl (by kernel_rfl) (fun K hK => ?_)
          go_simp
          have BY := box_new w.heap.size g3 29 [.int .i64 0, .int .i64 0, .int .i64 0, .int .i64 0, .slice none 0 0] Kg3.size (by simp)
          have Kg4 := Kg3.alloc (.cells #[.int .i64 0, .int .i64 0, .int .i64 0, .int .i64 0, .slice none 0 0] 29)
          have BAg4 := BAg3.kept ((Kept.refl g3).alloc (.cells #[.int .i64 0, .int .i64 0, .int .i64 0, .int .i64 0, .slice none 0 0] 29))
          have BBg4 := BBg3.kept ((Kept.refl g3).alloc (.cells #[.int .i64 0, .int .i64 0, .int .i64 0, .int .i64 0, .slice none 0 0] 29))
          replace BX := BX.kept ((Kept.refl g3).alloc (.cells #[.int .i64 0, .int .i64 0, .int .i64 0, .int .i64 0, .slice none 0 0] 29))
          replace R1 := R1.kept ((Kept.refl g3).alloc (.cells #[.int .i64 0, .int .i64 0, .int .i64 0, .int .i64 0, .slice none 0 0] 29))
          replace R2 := R2.kept ((Kept.refl g3).alloc (.cells #[.int .i64 0, .int .i64 0, .int .i64 0, .int .i64 0, .slice none 0 0] 29))
          have zg4 : Hid ((g3.alloc (.cells #[.int .i64 0, .int .i64 0, .int .i64 0, .int .i64 0, .slice none 0 0] 29)).heap.size = g3.heap.size + 1) := by show _ = _; simp
          refine hK _ _ (fun _ => ⟨BAg4.cell 0 (by simp), BAg4.cell 1 (by simp), BAg4.cell 2 (by simp), BAg4.cell 3 (by simp), BAg4.cell 4 (by simp), BBg4.cell 0 (by simp), BBg4.cell 1 (by simp), BBg4.cell 2 (by simp), BBg4.cell 3 (by simp), BBg4.cell 4 (by simp)⟩) ?_
          clear hK K
          generalize g3.alloc (.cells #[.int .i64 0, .int .i64 0, .int .i64 0, .int .i64 0, .slice none 0 0] 29) = g4 at Kg4 BAg4 BBg4 zg4 BX R1 R2 BY ⊢
          obtain ⟨ax, cx, hs1, _, _⟩ := R1.at
          subst hs1
          obtain ⟨ay, cy, hs2, _, _⟩ := R2.at
          subst hs2
          have lx := BX.lt.2
          have ly := BY.lt.2
          have n1 : ∀ q, (Value.slice ax l.length cx).ownBlock = some q → q ≠ g0.heap.size ∧ q ≠ g3.heap.size := fun q hq => by have := q1 q hq; have := zg1.out; have := zg2.out; have := zg3.out; have := zg4.out; omega
          have n2 : ∀ q, (Value.slice ay l'.length cy).ownBlock = some q → q ≠ g0.heap.size ∧ q ≠ g3.heap.size := fun q hq => by have := q2 q hq; have := zg1.out; have := zg2.out; have := zg3.out; have := zg4.out; omega
          have nxz : g0.heap.size ≠ g3.heap.size := by have := zg1.out; have := zg2.out; have := zg3.out; have := zg4.out; omega
          have TW : Hid (Two w ((((((((((g4.setCell ⟨g0.heap.size, 0, none⟩ (.int .i64 k)).setCell ⟨g0.heap.size, 1, none⟩ (.int .i64 n)).setCell ⟨g0.heap.size, 2, none⟩ (.int .i64 v)).setCell ⟨g0.heap.size, 3, none⟩ (.int .i64 wt)).setCell ⟨g0.heap.size, 4, none⟩ (.slice ax l.length cx)).setCell ⟨g3.heap.size, 0, none⟩ (.int .i64 k')).setCell ⟨g3.heap.size, 1, none⟩ (.int .i64 n')).setCell ⟨g3.heap.size, 2, none⟩ (.int .i64 v')).setCell ⟨g3.heap.size, 3, none⟩ (.int .i64 wt')).setCell ⟨g3.heap.size, 4, none⟩ (.slice ay l'.length cy)) g0.heap.size g3.heap.size k n v wt k' n' v' wt' ax cx ay cy l l') := two_of BX BY R1 R2 Kg4 nxz n1 n2
          have x0 : g4.cell? ⟨g0.heap.size, 0, none⟩ = some (.int .i64 0) := BX.cell 0 (by simp)
          have xf0 := BX.frozen 0
          have y0 : g4.cell? ⟨g3.heap.size, 0, none⟩ = some (.int .i64 0) := BY.cell 0 (by simp)
          have yf0 := BY.frozen 0
          have x1 : g4.cell? ⟨g0.heap.size, 1, none⟩ = some (.int .i64 0) := BX.cell 1 (by simp)
          have xf1 := BX.frozen 1
          have y1 : g4.cell? ⟨g3.heap.size, 1, none⟩ = some (.int .i64 0) := BY.cell 1 (by simp)
          have yf1 := BY.frozen 1
          have x2 : g4.cell? ⟨g0.heap.size, 2, none⟩ = some (.int .i64 0) := BX.cell 2 (by simp)
          have xf2 := BX.frozen 2
          have y2 : g4.cell? ⟨g3.heap.size, 2, none⟩ = some (.int .i64 0) := BY.cell 2 (by simp)
          have yf2 := BY.frozen 2
          have x3 : g4.cell? ⟨g0.heap.size, 3, none⟩ = some (.int .i64 0) := BX.cell 3 (by simp)
          have xf3 := BX.frozen 3
          have y3 : g4.cell? ⟨g3.heap.size, 3, none⟩ = some (.int .i64 0) := BY.cell 3 (by simp)
          have yf3 := BY.frozen 3
          have x4 : g4.cell? ⟨g0.heap.size, 4, none⟩ = some (.slice none 0 0) := BX.cell 4 (by simp)
          have xf4 := BX.frozen 4
          have y4 : g4.cell? ⟨g3.heap.size, 4, none⟩ = some (.slice none 0 0) := BY.cell 4 (by simp)
          have yf4 := BY.frozen 4
          have tX := turn_set5 g4 g0.heap.size (.int .i64 k) (.int .i64 n) (.int .i64 v) (.int .i64 wt) (.slice ax l.length cx)
          have nA : ¬ w.heap.size = g0.heap.size := by have := BAg0.lt.2; have := zg1.out; have := zg2.out; have := zg3.out; have := zg4.out; omega
          have nB : ¬ w.heap.size + 1 = g0.heap.size := by have := BBg0.lt.2; have := zg1.out; have := zg2.out; have := zg3.out; have := zg4.out; omega
          have BAF := BAg4.turns tX nA
          have BBF := BBg4.turns tX nB
          clear n1 n2 q1 q2 R1 R2 BX BY tX
          refine wpAnyS_one (i := 6) rfl (by kernel_rfl) (fun K hK => ?_)
          go_simp
          refine hK _ _ (fun _ => ⟨BAF.cell 0 (by simp), BAF.cell 1 (by simp), BAF.cell 2 (by simp), BAF.cell 3 (by simp), BAF.cell 4 (by simp), BBF.cell 0 (by simp), BBF.cell 1 (by simp), BBF.cell 2 (by simp), BBF.cell 3 (by simp), BBF.cell 4 (by simp)⟩) ?_
          clear hK K
          have nzx : g3.heap.size ≠ g0.heap.size := fun e => nxz e.symm
          refine wpAnyS_one (i := 7) rfl (by kernel_rfl) (fun K hK => ?_)
          go_simp
          refine hK _ _ (fun h => absurd rfl h) ?_
          clear hK K
          refine wpAnyS_done (by kernel_rfl) ?_ _
          go_wp2_with fail
          go_meet
          exact ⟨_, _, ax, cx, ay, cy, rfl, rfl, TW⟩
        · go_simp
          have BY := box_new w.heap.size g2 29 [.int .i64 0, .int .i64 0, .int .i64 0, .int .i64 0, .slice none 0 0] Kg2.size (by simp)
          have Kg3 := Kg2.alloc (.cells #[.int .i64 0, .int .i64 0, .int .i64 0, .int .i64 0, .slice none 0 0] 29)
          have BAg3 := BAg2.kept ((Kept.refl g2).alloc (.cells #[.int .i64 0, .int .i64 0, .int .i64 0, .int .i64 0, .slice none 0 0] 29))
          have BBg3 := BBg2.kept ((Kept.refl g2).alloc (.cells #[.int .i64 0, .int .i64 0, .int .i64 0, .int .i64 0, .slice none 0 0] 29))
          replace BX := BX.kept ((Kept.refl g2).alloc (.cells #[.int .i64 0, .int .i64 0, .int .i64 0, .int .i64 0, .slice none 0 0] 29))
          replace R1 := R1.kept ((Kept.refl g2).alloc (.cells #[.int .i64 0, .int .i64 0, .int .i64 0, .int .i64 0, .slice none 0 0] 29))
          have zg3 : Hid ((g2.alloc (.cells #[.int .i64 0, .int .i64 0, .int .i64 0, .int .i64 0, .slice none 0 0] 29)).heap.size = g2.heap.size + 1) := by show _ = _; simp
          refine hK _ _ (fun _ => ⟨BAg3.cell 0 (by simp), BAg3.cell 1 (by simp), BAg3.cell 2 (by simp), BAg3.cell 3 (by simp), BAg3.cell 4 (by simp), BBg3.cell 0 (by simp), BBg3.cell 1 (by simp), BBg3.cell 2 (by simp), BBg3.cell 3 (by simp), BBg3.cell 4 (by simp)⟩) ?_
          clear hK K
          generalize g2.alloc (.cells #[.int .i64 0, .int .i64 0, .int .i64 0, .int .i64 0, .slice none 0 0] 29) = g3 at Kg3 BAg3 BBg3 zg3 BX R1 BY ⊢
          refine wpAnyS_one (i := 3) rfl (by kernel_rfl) (fun K hK => ?_)
          go_simp
          refine (to_any k' n' v' wt' a' m' c' l' g3 (HA'.out.kept Kg3) (by omega)).mono ?_
          rintro e g4 ⟨sv2, rfl, R2, tg4⟩
          have Kg4 := Kg3.trans tg4
          have BAg4 := BAg3.kept tg4
          have BBg4 := BBg3.kept tg4
          replace BX := BX.kept tg4
          replace R1 := R1.kept tg4
          replace BY := BY.kept tg4
          have q2 : ∀ q, sv2.ownBlock = some q → g3.heap.size ≤ q ∧ q < g4.heap.size := fun q hq => World.ownsRow.lt R2 q hq
          have zg4 : Hid (g3.heap.size ≤ g4.heap.size) := tg4.size
          replace R2 := own_base R2 Kg3.size
          refine hK _ _ (fun _ => ⟨BAg4.cell 0 (by simp), BAg4.cell 1 (by simp), BAg4.cell 2 (by simp), BAg4.cell 3 (by simp), BAg4.cell 4 (by simp), BBg4.cell 0 (by simp), BBg4.cell 1 (by simp), BBg4.cell 2 (by simp), BBg4.cell 3 (by simp), BBg4.cell 4 (by simp)⟩) ?_
          clear hK K
          obtain ⟨ax, cx, hs1, _, _⟩ := R1.at
          subst hs1
          obtain ⟨ay, cy, hs2, _, _⟩ := R2.at
          subst hs2
          have lx := BX.lt.2
          have ly := BY.lt.2
          have n1 : ∀ q, (Value.slice ax l.length cx).ownBlock = some q → q ≠ g0.heap.size ∧ q ≠ g2.heap.size := fun q hq => by have := q1 q hq; have := zg1.out; have := zg2.out; have := zg3.out; have := zg4.out; omega
          have n2 : ∀ q, (Value.slice ay l'.length cy).ownBlock = some q → q ≠ g0.heap.size ∧ q ≠ g2.heap.size := fun q hq => by have := q2 q hq; have := zg1.out; have := zg2.out; have := zg3.out; have := zg4.out; omega
          have nxz : g0.heap.size ≠ g2.heap.size := by have := zg1.out; have := zg2.out; have := zg3.out; have := zg4.out; omega
          have TW : Hid (Two w ((((((((((g4.setCell ⟨g0.heap.size, 0, none⟩ (.int .i64 k)).setCell ⟨g0.heap.size, 1, none⟩ (.int .i64 n)).setCell ⟨g0.heap.size, 2, none⟩ (.int .i64 v)).setCell ⟨g0.heap.size, 3, none⟩ (.int .i64 wt)).setCell ⟨g0.heap.size, 4, none⟩ (.slice ax l.length cx)).setCell ⟨g2.heap.size, 0, none⟩ (.int .i64 k')).setCell ⟨g2.heap.size, 1, none⟩ (.int .i64 n')).setCell ⟨g2.heap.size, 2, none⟩ (.int .i64 v')).setCell ⟨g2.heap.size, 3, none⟩ (.int .i64 wt')).setCell ⟨g2.heap.size, 4, none⟩ (.slice ay l'.length cy)) g0.heap.size g2.heap.size k n v wt k' n' v' wt' ax cx ay cy l l') := two_of BX BY R1 R2 Kg4 nxz n1 n2
          have x0 : g4.cell? ⟨g0.heap.size, 0, none⟩ = some (.int .i64 0) := BX.cell 0 (by simp)
          have xf0 := BX.frozen 0
          have y0 : g4.cell? ⟨g2.heap.size, 0, none⟩ = some (.int .i64 0) := BY.cell 0 (by simp)
          have yf0 := BY.frozen 0
          have x1 : g4.cell? ⟨g0.heap.size, 1, none⟩ = some (.int .i64 0) := BX.cell 1 (by simp)
          have xf1 := BX.frozen 1
          have y1 : g4.cell? ⟨g2.heap.size, 1, none⟩ = some (.int .i64 0) := BY.cell 1 (by simp)
          have yf1 := BY.frozen 1
          have x2 : g4.cell? ⟨g0.heap.size, 2, none⟩ = some (.int .i64 0) := BX.cell 2 (by simp)
          have xf2 := BX.frozen 2
          have y2 : g4.cell? ⟨g2.heap.size, 2, none⟩ = some (.int .i64 0) := BY.cell 2 (by simp)
          have yf2 := BY.frozen 2
          have x3 : g4.cell? ⟨g0.heap.size, 3, none⟩ = some (.int .i64 0) := BX.cell 3 (by simp)
          have xf3 := BX.frozen 3
          have y3 : g4.cell? ⟨g2.heap.size, 3, none⟩ = some (.int .i64 0) := BY.cell 3 (by simp)
          have yf3 := BY.frozen 3
          have x4 : g4.cell? ⟨g0.heap.size, 4, none⟩ = some (.slice none 0 0) := BX.cell 4 (by simp)
          have xf4 := BX.frozen 4
          have y4 : g4.cell? ⟨g2.heap.size, 4, none⟩ = some (.slice none 0 0) := BY.cell 4 (by simp)
          have yf4 := BY.frozen 4
          have tX := turn_set5 g4 g0.heap.size (.int .i64 k) (.int .i64 n) (.int .i64 v) (.int .i64 wt) (.slice ax l.length cx)
          have nA : ¬ w.heap.size = g0.heap.size := by have := BAg0.lt.2; have := zg1.out; have := zg2.out; have := zg3.out; have := zg4.out; omega
          have nB : ¬ w.heap.size + 1 = g0.heap.size := by have := BBg0.lt.2; have := zg1.out; have := zg2.out; have := zg3.out; have := zg4.out; omega
          have BAF := BAg4.turns tX nA
          have BBF := BBg4.turns tX nB
          clear n1 n2 q1 q2 R1 R2 BX BY tX
          refine wpAnyS_one (i := 6) rfl (by kernel_rfl) (fun K hK => ?_)
          go_simp
          refine hK _ _ (fun _ => ⟨BAF.cell 0 (by simp), BAF.cell 1 (by simp), BAF.cell 2 (by simp), BAF.cell 3 (by simp), BAF.cell 4 (by simp), BBF.cell 0 (by simp), BBF.cell 1 (by simp), BBF.cell 2 (by simp), BBF.cell 3 (by simp), BBF.cell 4 (by simp)⟩) ?_
          clear hK K
          have nzx : g2.heap.size ≠ g0.heap.size := fun e => nxz e.symm
          refine wpAnyS_one (i := 7) rfl (by kernel_rfl) (fun K hK => ?_)
          go_simp
          refine hK _ _ (fun h => absurd rfl h) ?_
          clear hK K
          refine wpAnyS_done (by kernel_rfl) ?_ _
          go_wp2_with fail
          go_meet
          exact ⟨_, _, ax, cx, ay, cy, rfl, rfl, TW⟩
      · go_simp
        have BY := box_new w.heap.size g1 29 [.int .i64 0, .int .i64 0, .int .i64 0, .int .i64 0, .slice none 0 0] Kg1.size (by simp)
        have Kg2 := Kg1.alloc (.cells #[.int .i64 0, .int .i64 0, .int .i64 0, .int .i64 0, .slice none 0 0] 29)
        have BAg2 := BAg1.kept ((Kept.refl g1).alloc (.cells #[.int .i64 0, .int .i64 0, .int .i64 0, .int .i64 0, .slice none 0 0] 29))
        have BBg2 := BBg1.kept ((Kept.refl g1).alloc (.cells #[.int .i64 0, .int .i64 0, .int .i64 0, .int .i64 0, .slice none 0 0] 29))
        replace BX := BX.kept ((Kept.refl g1).alloc (.cells #[.int .i64 0, .int .i64 0, .int .i64 0, .int .i64 0, .slice none 0 0] 29))
        have zg2 : Hid ((g1.alloc (.cells #[.int .i64 0, .int .i64 0, .int .i64 0, .int .i64 0, .slice none 0 0] 29)).heap.size = g1.heap.size + 1) := by show _ = _; simp
        refine hK _ _ (fun _ => ⟨BAg2.cell 0 (by simp), BAg2.cell 1 (by simp), BAg2.cell 2 (by simp), BAg2.cell 3 (by simp), BAg2.cell 4 (by simp), BBg2.cell 0 (by simp), BBg2.cell 1 (by simp), BBg2.cell 2 (by simp), BBg2.cell 3 (by simp), BBg2.cell 4 (by simp)⟩) ?_
        clear hK K
        generalize g1.alloc (.cells #[.int .i64 0, .int .i64 0, .int .i64 0, .int .i64 0, .slice none 0 0] 29) = g2 at Kg2 BAg2 BBg2 zg2 BX BY ⊢
        refine wpAnyS_one (i := 1) rfl (by kernel_rfl) (fun K hK => ?_)
        go_simp
        refine (to_any k n v wt a m c l g2 (HA.out.kept Kg2) (by omega)).mono ?_
        rintro e g3 ⟨sv1, rfl, R1, tg3⟩
        have Kg3 := Kg2.trans tg3
        have BAg3 := BAg2.kept tg3
        have BBg3 := BBg2.kept tg3
        replace BX := BX.kept tg3
        replace BY := BY.kept tg3
        have q1 : ∀ q, sv1.ownBlock = some q → g2.heap.size ≤ q ∧ q < g3.heap.size := fun q hq => World.ownsRow.lt R1 q hq
        have zg3 : Hid (g2.heap.size ≤ g3.heap.size) := tg3.size
        replace R1 := own_base R1 Kg2.size
        refine hK _ _ (fun _ => ⟨BAg3.cell 0 (by simp), BAg3.cell 1 (by simp), BAg3.cell 2 (by simp), BAg3.cell 3 (by simp), BAg3.cell 4 (by simp), BBg3.cell 0 (by simp), BBg3.cell 1 (by simp), BBg3.cell 2 (by simp), BBg3.cell 3 (by simp), BBg3.cell 4 (by simp)⟩) ?_
        clear hK K
        refine wpAnyS_one (i := 3) rfl (by kernel_rfl) (fun K hK => ?_)
        go_simp
        refine (to_any k' n' v' wt' a' m' c' l' g3 (HA'.out.kept Kg3) (by omega)).mono ?_
        rintro e g4 ⟨sv2, rfl, R2, tg4⟩
        have Kg4 := Kg3.trans tg4
        have BAg4 := BAg3.kept tg4
        have BBg4 := BBg3.kept tg4
        replace BX := BX.kept tg4
        replace BY := BY.kept tg4
        replace R1 := R1.kept tg4
        have q2 : ∀ q, sv2.ownBlock = some q → g3.heap.size ≤ q ∧ q < g4.heap.size := fun q hq => World.ownsRow.lt R2 q hq
        have zg4 : Hid (g3.heap.size ≤ g4.heap.size) := tg4.size
        replace R2 := own_base R2 Kg3.size
        refine hK _ _ (fun _ => ⟨BAg4.cell 0 (by simp), BAg4.cell 1 (by simp), BAg4.cell 2 (by simp), BAg4.cell 3 (by simp), BAg4.cell 4 (by simp), BBg4.cell 0 (by simp), BBg4.cell 1 (by simp), BBg4.cell 2 (by simp), BBg4.cell 3 (by simp), BBg4.cell 4 (by simp)⟩) ?_
        clear hK K
        obtain ⟨ax, cx, hs1, _, _⟩ := R1.at
        subst hs1
        obtain ⟨ay, cy, hs2, _, _⟩ := R2.at
        subst hs2
        have lx := BX.lt.2
        have ly := BY.lt.2
        have n1 : ∀ q, (Value.slice ax l.length cx).ownBlock = some q → q ≠ g0.heap.size ∧ q ≠ g1.heap.size := fun q hq => by have := q1 q hq; have := zg1.out; have := zg2.out; have := zg3.out; have := zg4.out; omega
        have n2 : ∀ q, (Value.slice ay l'.length cy).ownBlock = some q → q ≠ g0.heap.size ∧ q ≠ g1.heap.size := fun q hq => by have := q2 q hq; have := zg1.out; have := zg2.out; have := zg3.out; have := zg4.out; omega
        have nxz : g0.heap.size ≠ g1.heap.size := by have := zg1.out; have := zg2.out; have := zg3.out; have := zg4.out; omega
        have TW : Hid (Two w ((((((((((g4.setCell ⟨g0.heap.size, 0, none⟩ (.int .i64 k)).setCell ⟨g0.heap.size, 1, none⟩ (.int .i64 n)).setCell ⟨g0.heap.size, 2, none⟩ (.int .i64 v)).setCell ⟨g0.heap.size, 3, none⟩ (.int .i64 wt)).setCell ⟨g0.heap.size, 4, none⟩ (.slice ax l.length cx)).setCell ⟨g1.heap.size, 0, none⟩ (.int .i64 k')).setCell ⟨g1.heap.size, 1, none⟩ (.int .i64 n')).setCell ⟨g1.heap.size, 2, none⟩ (.int .i64 v')).setCell ⟨g1.heap.size, 3, none⟩ (.int .i64 wt')).setCell ⟨g1.heap.size, 4, none⟩ (.slice ay l'.length cy)) g0.heap.size g1.heap.size k n v wt k' n' v' wt' ax cx ay cy l l') := two_of BX BY R1 R2 Kg4 nxz n1 n2
        have x0 : g4.cell? ⟨g0.heap.size, 0, none⟩ = some (.int .i64 0) := BX.cell 0 (by simp)
        have xf0 := BX.frozen 0
        have y0 : g4.cell? ⟨g1.heap.size, 0, none⟩ = some (.int .i64 0) := BY.cell 0 (by simp)
        have yf0 := BY.frozen 0
        have x1 : g4.cell? ⟨g0.heap.size, 1, none⟩ = some (.int .i64 0) := BX.cell 1 (by simp)
        have xf1 := BX.frozen 1
        have y1 : g4.cell? ⟨g1.heap.size, 1, none⟩ = some (.int .i64 0) := BY.cell 1 (by simp)
        have yf1 := BY.frozen 1
        have x2 : g4.cell? ⟨g0.heap.size, 2, none⟩ = some (.int .i64 0) := BX.cell 2 (by simp)
        have xf2 := BX.frozen 2
        have y2 : g4.cell? ⟨g1.heap.size, 2, none⟩ = some (.int .i64 0) := BY.cell 2 (by simp)
        have yf2 := BY.frozen 2
        have x3 : g4.cell? ⟨g0.heap.size, 3, none⟩ = some (.int .i64 0) := BX.cell 3 (by simp)
        have xf3 := BX.frozen 3
        have y3 : g4.cell? ⟨g1.heap.size, 3, none⟩ = some (.int .i64 0) := BY.cell 3 (by simp)
        have yf3 := BY.frozen 3
        have x4 : g4.cell? ⟨g0.heap.size, 4, none⟩ = some (.slice none 0 0) := BX.cell 4 (by simp)
        have xf4 := BX.frozen 4
        have y4 : g4.cell? ⟨g1.heap.size, 4, none⟩ = some (.slice none 0 0) := BY.cell 4 (by simp)
        have yf4 := BY.frozen 4
        have tX := turn_set5 g4 g0.heap.size (.int .i64 k) (.int .i64 n) (.int .i64 v) (.int .i64 wt) (.slice ax l.length cx)
        have nA : ¬ w.heap.size = g0.heap.size := by have := BAg0.lt.2; have := zg1.out; have := zg2.out; have := zg3.out; have := zg4.out; omega
        have nB : ¬ w.heap.size + 1 = g0.heap.size := by have := BBg0.lt.2; have := zg1.out; have := zg2.out; have := zg3.out; have := zg4.out; omega
        have BAF := BAg4.turns tX nA
        have BBF := BBg4.turns tX nB
        clear n1 n2 q1 q2 R1 R2 BX BY tX
        refine wpAnyS_one (i := 6) rfl (by kernel_rfl) (fun K hK => ?_)
        go_simp
        refine hK _ _ (fun _ => ⟨BAF.cell 0 (by simp), BAF.cell 1 (by simp), BAF.cell 2 (by simp), BAF.cell 3 (by simp), BAF.cell 4 (by simp), BBF.cell 0 (by simp), BBF.cell 1 (by simp), BBF.cell 2 (by simp), BBF.cell 3 (by simp), BBF.cell 4 (by simp)⟩) ?_
        clear hK K
        have nzx : g1.heap.size ≠ g0.heap.size := fun e => nxz e.symm
        refine wpAnyS_one (i := 7) rfl (by kernel_rfl) (fun K hK => ?_)
        go_simp
        refine hK _ _ (fun h => absurd rfl h) ?_
        clear hK K
        refine wpAnyS_done (by kernel_rfl) ?_ _
        go_wp2_with fail
        go_meet
        exact ⟨_, _, ax, cx, ay, cy, rfl, rfl, TW⟩
    · go_simp
      have BY := box_new w.heap.size g0 29 [.int .i64 0, .int .i64 0, .int .i64 0, .int .i64 0, .slice none 0 0] Kg0.size (by simp)
      have Kg1 := Kg0.alloc (.cells #[.int .i64 0, .int .i64 0, .int .i64 0, .int .i64 0, .slice none 0 0] 29)
      have BAg1 := BAg0.kept ((Kept.refl g0).alloc (.cells #[.int .i64 0, .int .i64 0, .int .i64 0, .int .i64 0, .slice none 0 0] 29))
      have BBg1 := BBg0.kept ((Kept.refl g0).alloc (.cells #[.int .i64 0, .int .i64 0, .int .i64 0, .int .i64 0, .slice none 0 0] 29))
      have zg1 : Hid ((g0.alloc (.cells #[.int .i64 0, .int .i64 0, .int .i64 0, .int .i64 0, .slice none 0 0] 29)).heap.size = g0.heap.size + 1) := by show _ = _; simp
      refine hK _ _ (fun _ => ⟨BAg1.cell 0 (by simp), BAg1.cell 1 (by simp), BAg1.cell 2 (by simp), BAg1.cell 3 (by simp), BAg1.cell 4 (by simp), BBg1.cell 0 (by simp), BBg1.cell 1 (by simp), BBg1.cell 2 (by simp), BBg1.cell 3 (by simp), BBg1.cell 4 (by simp)⟩) ?_
      clear hK K
      generalize g0.alloc (.cells #[.int .i64 0, .int .i64 0, .int .i64 0, .int .i64 0, .slice none 0 0] 29) = g1 at Kg1 BAg1 BBg1 zg1 BY ⊢
      refine wpAnyS_two (i := 1) (j := 4) rfl rfl (by kernel_rfl) (fun K hK => ?_) (fun K hK => ?_)
      · go_simp
        refine (to_any k n v wt a m c l g1 (HA.out.kept Kg1) (by omega)).mono ?_
        rintro e g2 ⟨sv1, rfl, R1, tg2⟩
        have Kg2 := Kg1.trans tg2
        have BAg2 := BAg1.kept tg2
        have BBg2 := BBg1.kept tg2
        replace BY := BY.kept tg2
        have q1 : ∀ q, sv1.ownBlock = some q → g1.heap.size ≤ q ∧ q < g2.heap.size := fun q hq => World.ownsRow.lt R1 q hq
        have zg2 : Hid (g1.heap.size ≤ g2.heap.size) := tg2.size
        replace R1 := own_base R1 Kg1.size
        refine hK _ _ (fun _ => ⟨BAg2.cell 0 (by simp), BAg2.cell 1 (by simp), BAg2.cell 2 (by simp), BAg2.cell 3 (by simp), BAg2.cell 4 (by simp), BBg2.cell 0 (by simp), BBg2.cell 1 (by simp), BBg2.cell 2 (by simp), BBg2.cell 3 (by simp), BBg2.cell 4 (by simp)⟩) ?_
        clear hK K
        refine wpAnyS_two (i := 3) (j := 4) rfl rfl (by kernel_rfl) (fun K hK => ?_) (fun K hK => ?_)
        · go_simp
          refine (to_any k' n' v' wt' a' m' c' l' g2 (HA'.out.kept Kg2) (by omega)).mono ?_
          rintro e g3 ⟨sv2, rfl, R2, tg3⟩
          have Kg3 := Kg2.trans tg3
          have BAg3 := BAg2.kept tg3
          have BBg3 := BBg2.kept tg3
          replace BY := BY.kept tg3
          replace R1 := R1.kept tg3
          have q2 : ∀ q, sv2.ownBlock = some q → g2.heap.size ≤ q ∧ q < g3.heap.size := fun q hq => World.ownsRow.lt R2 q hq
          have zg3 : Hid (g2.heap.size ≤ g3.heap.size) := tg3.size
          replace R2 := own_base R2 Kg2.size
          refine hK _ _ (fun _ => ⟨BAg3.cell 0 (by simp), BAg3.cell 1 (by simp), BAg3.cell 2 (by simp), BAg3.cell 3 (by simp), BAg3.cell 4 (by simp), BBg3.cell 0 (by simp), BBg3.cell 1 (by simp), BBg3.cell 2 (by simp), BBg3.cell 3 (by simp), BBg3.cell 4 (by simp)⟩) ?_
          clear hK K
          refine wpAnyS_one (i := 4) rfl (by kernel_rfl) (fun K hK => ?_)
          go_simp
          have BX := box_new w.heap.size g3 29 [.int .i64 0, .int .i64 0, .int .i64 0, .int .i64 0, .slice none 0 0] Kg3.size (by simp)
          have Kg4 := Kg3.alloc (.cells #[.int .i64 0, .int .i64 0, .int .i64 0, .int .i64 0, .slice none 0 0] 29)
          have BAg4 := BAg3.kept ((Kept.refl g3).alloc (.cells #[.int .i64 0, .int .i64 0, .int .i64 0, .int .i64 0, .slice none 0 0] 29))
          have BBg4 := BBg3.kept ((Kept.refl g3).alloc (.cells #[.int .i64 0, .int .i64 0, .int .i64 0, .int .i64 0, .slice none 0 0] 29))
          replace BY := BY.kept ((Kept.refl g3).alloc (.cells #[.int .i64 0, .int .i64 0, .int .i64 0, .int .i64 0, .slice none 0 0] 29))
          replace R1 := R1.kept ((Kept.refl g3).alloc (.cells #[.int .i64 0, .int .i64 0, .int .i64 0, .int .i64 0, .slice none 0 0] 29))
          replace R2 := R2.kept ((Kept.refl g3).alloc (.cells #[.int .i64 0, .int .i64 0, .int .i64 0, .int .i64 0, .slice none 0 0] 29))
          have zg4 : Hid ((g3.alloc (.cells #[.int .i64 0, .int .i64 0, .int .i64 0, .int .i64 0, .slice none 0 0] 29)).heap.size = g3.heap.size + 1) := by show _ = _; simp
          refine hK _ _ (fun _ => ⟨BAg4.cell 0 (by simp), BAg4.cell 1 (by simp), BAg4.cell 2 (by simp), BAg4.cell 3 (by simp), BAg4.cell 4 (by simp), BBg4.cell 0 (by simp), BBg4.cell 1 (by simp), BBg4.cell 2 (by simp), BBg4.cell 3 (by simp), BBg4.cell 4 (by simp)⟩) ?_
          clear hK K
          generalize g3.alloc (.cells #[.int .i64 0, .int .i64 0, .int .i64 0, .int .i64 0, .slice none 0 0] 29) = g4 at Kg4 BAg4 BBg4 zg4 BY R1 R2 BX ⊢
          obtain ⟨ax, cx, hs1, _, _⟩ := R1.at
          subst hs1
          obtain ⟨ay, cy, hs2, _, _⟩ := R2.at
          subst hs2
          have lx := BX.lt.2
          have ly := BY.lt.2
          have n1 : ∀ q, (Value.slice ax l.length cx).ownBlock = some q → q ≠ g3.heap.size ∧ q ≠ g0.heap.size := fun q hq => by have := q1 q hq; have := zg1.out; have := zg2.out; have := zg3.out; have := zg4.out; omega
          have n2 : ∀ q, (Value.slice ay l'.length cy).ownBlock = some q → q ≠ g3.heap.size ∧ q ≠ g0.heap.size := fun q hq => by have := q2 q hq; have := zg1.out; have := zg2.out; have := zg3.out; have := zg4.out; omega
          have nxz : g3.heap.size ≠ g0.heap.size := by have := zg1.out; have := zg2.out; have := zg3.out; have := zg4.out; omega
          have TW : Hid (Two w ((((((((((g4.setCell ⟨g3.heap.size, 0, none⟩ (.int .i64 k)).setCell ⟨g3.heap.size, 1, none⟩ (.int .i64 n)).setCell ⟨g3.heap.size, 2, none⟩ (.int .i64 v)).setCell ⟨g3.heap.size, 3, none⟩ (.int .i64 wt)).setCell ⟨g3.heap.size, 4, none⟩ (.slice ax l.length cx)).setCell ⟨g0.heap.size, 0, none⟩ (.int .i64 k')).setCell ⟨g0.heap.size, 1, none⟩ (.int .i64 n')).setCell ⟨g0.heap.size, 2, none⟩ (.int .i64 v')).setCell ⟨g0.heap.size, 3, none⟩ (.int .i64 wt')).setCell ⟨g0.heap.size, 4, none⟩ (.slice ay l'.length cy)) g3.heap.size g0.heap.size k n v wt k' n' v' wt' ax cx ay cy l l') := two_of BX BY R1 R2 Kg4 nxz n1 n2
          have x0 : g4.cell? ⟨g3.heap.size, 0, none⟩ = some (.int .i64 0) := BX.cell 0 (by simp)
          have xf0 := BX.frozen 0
          have y0 : g4.cell? ⟨g0.heap.size, 0, none⟩ = some (.int .i64 0) := BY.cell 0 (by simp)
          have yf0 := BY.frozen 0
          have x1 : g4.cell? ⟨g3.heap.size, 1, none⟩ = some (.int .i64 0) := BX.cell 1 (by simp)
          have xf1 := BX.frozen 1
          have y1 : g4.cell? ⟨g0.heap.size, 1, none⟩ = some (.int .i64 0) := BY.cell 1 (by simp)
          have yf1 := BY.frozen 1
          have x2 : g4.cell? ⟨g3.heap.size, 2, none⟩ = some (.int .i64 0) := BX.cell 2 (by simp)
          have xf2 := BX.frozen 2
          have y2 : g4.cell? ⟨g0.heap.size, 2, none⟩ = some (.int .i64 0) := BY.cell 2 (by simp)
          have yf2 := BY.frozen 2
          have x3 : g4.cell? ⟨g3.heap.size, 3, none⟩ = some (.int .i64 0) := BX.cell 3 (by simp)
          have xf3 := BX.frozen 3
          have y3 : g4.cell? ⟨g0.heap.size, 3, none⟩ = some (.int .i64 0) := BY.cell 3 (by simp)
          have yf3 := BY.frozen 3
          have x4 : g4.cell? ⟨g3.heap.size, 4, none⟩ = some (.slice none 0 0) := BX.cell 4 (by simp)
          have xf4 := BX.frozen 4
          have y4 : g4.cell? ⟨g0.heap.size, 4, none⟩ = some (.slice none 0 0) := BY.cell 4 (by simp)
          have yf4 := BY.frozen 4
          have tX := turn_set5 g4 g3.heap.size (.int .i64 k) (.int .i64 n) (.int .i64 v) (.int .i64 wt) (.slice ax l.length cx)
          have nA : ¬ w.heap.size = g3.heap.size := by have := BAg0.lt.2; have := zg1.out; have := zg2.out; have := zg3.out; have := zg4.out; omega
          have nB : ¬ w.heap.size + 1 = g3.heap.size := by have := BBg0.lt.2; have := zg1.out; have := zg2.out; have := zg3.out; have := zg4.out; omega
          have BAF := BAg4.turns tX nA
          have BBF := BBg4.turns tX nB
          clear n1 n2 q1 q2 R1 R2 BX BY tX
          refine wpAnyS_one (i := 6) rfl (by kernel_rfl) (fun K hK => ?_)
          go_simp
          refine hK _ _ (fun _ => ⟨BAF.cell 0 (by simp), BAF.cell 1 (by simp), BAF.cell 2 (by simp), BAF.cell 3 (by simp), BAF.cell 4 (by simp), BBF.cell 0 (by simp), BBF.cell 1 (by simp), BBF.cell 2 (by simp), BBF.cell 3 (by simp), BBF.cell 4 (by simp)⟩) ?_
          clear hK K
          have nzx : g0.heap.size ≠ g3.heap.size := fun e => nxz e.symm
          refine wpAnyS_one (i := 7) rfl (by kernel_rfl) (fun K hK => ?_)
          go_simp
          refine hK _ _ (fun h => absurd rfl h) ?_
          clear hK K
          refine wpAnyS_done (by kernel_rfl) ?_ _
          go_wp2_with fail
          go_meet
          exact ⟨_, _, ax, cx, ay, cy, rfl, rfl, TW⟩
        · go_simp
          have BX := box_new w.heap.size g2 29 [.int .i64 0, .int .i64 0, .int .i64 0, .int .i64 0, .slice none 0 0] Kg2.size (by simp)
          have Kg3 := Kg2.alloc (.cells #[.int .i64 0, .int .i64 0, .int .i64 0, .int .i64 0, .slice none 0 0] 29)
          have BAg3 := BAg2.kept ((Kept.refl g2).alloc (.cells #[.int .i64 0, .int .i64 0, .int .i64 0, .int .i64 0, .slice none 0 0] 29))
          have BBg3 := BBg2.kept ((Kept.refl g2).alloc (.cells #[.int .i64 0, .int .i64 0, .int .i64 0, .int .i64 0, .slice none 0 0] 29))
          replace BY := BY.kept ((Kept.refl g2).alloc (.cells #[.int .i64 0, .int .i64 0, .int .i64 0, .int .i64 0, .slice none 0 0] 29))
          replace R1 := R1.kept ((Kept.refl g2).alloc (.cells #[.int .i64 0, .int .i64 0, .int .i64 0, .int .i64 0, .slice none 0 0] 29))
          have zg3 : Hid ((g2.alloc (.cells #[.int .i64 0, .int .i64 0, .int .i64 0, .int .i64 0, .slice none 0 0] 29)).heap.size = g2.heap.size + 1) := by show _ = _; simp
          refine hK _ _ (fun _ => ⟨BAg3.cell 0 (by simp), BAg3.cell 1 (by simp), BAg3.cell 2 (by simp), BAg3.cell 3 (by simp), BAg3.cell 4 (by simp), BBg3.cell 0 (by simp), BBg3.cell 1 (by simp), BBg3.cell 2 (by simp), BBg3.cell 3 (by simp), BBg3.cell 4 (by simp)⟩) ?_
          clear hK K
          generalize g2.alloc (.cells #[.int .i64 0, .int .i64 0, .int .i64 0, .int .i64 0, .slice none 0 0] 29) = g3 at Kg3 BAg3 BBg3 zg3 BY R1 BX ⊢
          refine wpAnyS_one (i := 3) rfl (by kernel_rfl) (fun K hK => ?_)
          go_simp
          refine (to_any k' n' v' wt' a' m' c' l' g3 (HA'.out.kept Kg3) (by omega)).mono ?_
          rintro e g4 ⟨sv2, rfl, R2, tg4⟩
          have Kg4 := Kg3.trans tg4
          have BAg4 := BAg3.kept tg4
          have BBg4 := BBg3.kept tg4
          replace BY := BY.kept tg4
          replace R1 := R1.kept tg4
          replace BX := BX.kept tg4
          have q2 : ∀ q, sv2.ownBlock = some q → g3.heap.size ≤ q ∧ q < g4.heap.size := fun q hq => World.ownsRow.lt R2 q hq
          have zg4 : Hid (g3.heap.size ≤ g4.heap.size) := tg4.size
          replace R2 := own_base R2 Kg3.size
          refine hK _ _ (fun _ => ⟨BAg4.cell 0 (by simp), BAg4.cell 1 (by simp), BAg4.cell 2 (by simp), BAg4.cell 3 (by simp), BAg4.cell 4 (by simp), BBg4.cell 0 (by simp), BBg4.cell 1 (by simp), BBg4.cell 2 (by simp), BBg4.cell 3 (by simp), BBg4.cell 4 (by simp)⟩) ?_
          clear hK K
          obtain ⟨ax, cx, hs1, _, _⟩ := R1.at
          subst hs1
          obtain ⟨ay, cy, hs2, _, _⟩ := R2.at
          subst hs2
          have lx := BX.lt.2
          have ly := BY.lt.2
          have n1 : ∀ q, (Value.slice ax l.length cx).ownBlock = some q → q ≠ g2.heap.size ∧ q ≠ g0.heap.size := fun q hq => by have := q1 q hq; have := zg1.out; have := zg2.out; have := zg3.out; have := zg4.out; omega
          have n2 : ∀ q, (Value.slice ay l'.length cy).ownBlock = some q → q ≠ g2.heap.size ∧ q ≠ g0.heap.size := fun q hq => by have := q2 q hq; have := zg1.out; have := zg2.out; have := zg3.out; have := zg4.out; omega
          have nxz : g2.heap.size ≠ g0.heap.size := by have := zg1.out; have := zg2.out; have := zg3.out; have := zg4.out; omega
          have TW : Hid (Two w ((((((((((g4.setCell ⟨g2.heap.size, 0, none⟩ (.int .i64 k)).setCell ⟨g2.heap.size, 1, none⟩ (.int .i64 n)).setCell ⟨g2.heap.size, 2, none⟩ (.int .i64 v)).setCell ⟨g2.heap.size, 3, none⟩ (.int .i64 wt)).setCell ⟨g2.heap.size, 4, none⟩ (.slice ax l.length cx)).setCell ⟨g0.heap.size, 0, none⟩ (.int .i64 k')).setCell ⟨g0.heap.size, 1, none⟩ (.int .i64 n')).setCell ⟨g0.heap.size, 2, none⟩ (.int .i64 v')).setCell ⟨g0.heap.size, 3, none⟩ (.int .i64 wt')).setCell ⟨g0.heap.size, 4, none⟩ (.slice ay l'.length cy)) g2.heap.size g0.heap.size k n v wt k' n' v' wt' ax cx ay cy l l') := two_of BX BY R1 R2 Kg4 nxz n1 n2
          have x0 : g4.cell? ⟨g2.heap.size, 0, none⟩ = some (.int .i64 0) := BX.cell 0 (by simp)
          have xf0 := BX.frozen 0
          have y0 : g4.cell? ⟨g0.heap.size, 0, none⟩ = some (.int .i64 0) := BY.cell 0 (by simp)
          have yf0 := BY.frozen 0
          have x1 : g4.cell? ⟨g2.heap.size, 1, none⟩ = some (.int .i64 0) := BX.cell 1 (by simp)
          have xf1 := BX.frozen 1
          have y1 : g4.cell? ⟨g0.heap.size, 1, none⟩ = some (.int .i64 0) := BY.cell 1 (by simp)
          have yf1 := BY.frozen 1
          have x2 : g4.cell? ⟨g2.heap.size, 2, none⟩ = some (.int .i64 0) := BX.cell 2 (by simp)
          have xf2 := BX.frozen 2
          have y2 : g4.cell? ⟨g0.heap.size, 2, none⟩ = some (.int .i64 0) := BY.cell 2 (by simp)
          have yf2 := BY.frozen 2
          have x3 : g4.cell? ⟨g2.heap.size, 3, none⟩ = some (.int .i64 0) := BX.cell 3 (by simp)
          have xf3 := BX.frozen 3
          have y3 : g4.cell? ⟨g0.heap.size, 3, none⟩ = some (.int .i64 0) := BY.cell 3 (by simp)
          have yf3 := BY.frozen 3
          have x4 : g4.cell? ⟨g2.heap.size, 4, none⟩ = some (.slice none 0 0) := BX.cell 4 (by simp)
          have xf4 := BX.frozen 4
          have y4 : g4.cell? ⟨g0.heap.size, 4, none⟩ = some (.slice none 0 0) := BY.cell 4 (by simp)
          have yf4 := BY.frozen 4
          have tX := turn_set5 g4 g2.heap.size (.int .i64 k) (.int .i64 n) (.int .i64 v) (.int .i64 wt) (.slice ax l.length cx)
          have nA : ¬ w.heap.size = g2.heap.size := by have := BAg0.lt.2; have := zg1.out; have := zg2.out; have := zg3.out; have := zg4.out; omega
          have nB : ¬ w.heap.size + 1 = g2.heap.size := by have := BBg0.lt.2; have := zg1.out; have := zg2.out; have := zg3.out; have := zg4.out; omega
          have BAF := BAg4.turns tX nA
          have BBF := BBg4.turns tX nB
          clear n1 n2 q1 q2 R1 R2 BX BY tX
          refine wpAnyS_one (i := 6) rfl (by kernel_rfl) (fun K hK => ?_)
          go_simp
          refine hK _ _ (fun _ => ⟨BAF.cell 0 (by simp), BAF.cell 1 (by simp), BAF.cell 2 (by simp), BAF.cell 3 (by simp), BAF.cell 4 (by simp), BBF.cell 0 (by simp), BBF.cell 1 (by simp), BBF.cell 2 (by simp), BBF.cell 3 (by simp), BBF.cell 4 (by simp)⟩) ?_
          clear hK K
          have nzx : g0.heap.size ≠ g2.heap.size := fun e => nxz e.symm
          refine wpAnyS_one (i := 7) rfl (by kernel_rfl) (fun K hK => ?_)
          go_simp
          refine hK _ _ (fun h => absurd rfl h) ?_
          clear hK K
          refine wpAnyS_done (by kernel_rfl) ?_ _
          go_wp2_with fail
          go_meet
          exact ⟨_, _, ax, cx, ay, cy, rfl, rfl, TW⟩
      · go_simp
        have BX := box_new w.heap.size g1 29 [.int .i64 0, .int .i64 0, .int .i64 0, .int .i64 0, .slice none 0 0] Kg1.size (by simp)
        have Kg2 := Kg1.alloc (.cells #[.int .i64 0, .int .i64 0, .int .i64 0, .int .i64 0, .slice none 0 0] 29)
        have BAg2 := BAg1.kept ((Kept.refl g1).alloc (.cells #[.int .i64 0, .int .i64 0, .int .i64 0, .int .i64 0, .slice none 0 0] 29))
        have BBg2 := BBg1.kept ((Kept.refl g1).alloc (.cells #[.int .i64 0, .int .i64 0, .int .i64 0, .int .i64 0, .slice none 0 0] 29))
        replace BY := BY.kept ((Kept.refl g1).alloc (.cells #[.int .i64 0, .int .i64 0, .int .i64 0, .int .i64 0, .slice none 0 0] 29))
        have zg2 : Hid ((g1.alloc (.cells #[.int .i64 0, .int .i64 0, .int .i64 0, .int .i64 0, .slice none 0 0] 29)).heap.size = g1.heap.size + 1) := by show _ = _; simp
        refine hK _ _ (fun _ => ⟨BAg2.cell 0 (by simp), BAg2.cell 1 (by simp), BAg2.cell 2 (by simp), BAg2.cell 3 (by simp), BAg2.cell 4 (by simp), BBg2.cell 0 (by simp), BBg2.cell 1 (by simp), BBg2.cell 2 (by simp), BBg2.cell 3 (by simp), BBg2.cell 4 (by simp)⟩) ?_
        clear hK K
        generalize g1.alloc (.cells #[.int .i64 0, .int .i64 0, .int .i64 0, .int .i64 0, .slice none 0 0] 29) = g2 at Kg2 BAg2 BBg2 zg2 BY BX ⊢
        refine wpAnyS_one (i := 1) rfl (by kernel_rfl) (fun K hK => ?_)
        go_simp
        refine (to_any k n v wt a m c l g2 (HA.out.kept Kg2) (by omega)).mono ?_
        rintro e g3 ⟨sv1, rfl, R1, tg3⟩
        have Kg3 := Kg2.trans tg3
        have BAg3 := BAg2.kept tg3
        have BBg3 := BBg2.kept tg3
        replace BY := BY.kept tg3
        replace BX := BX.kept tg3
        have q1 : ∀ q, sv1.ownBlock = some q → g2.heap.size ≤ q ∧ q < g3.heap.size := fun q hq => World.ownsRow.lt R1 q hq
        have zg3 : Hid (g2.heap.size ≤ g3.heap.size) := tg3.size
        replace R1 := own_base R1 Kg2.size
        refine hK _ _ (fun _ => ⟨BAg3.cell 0 (by simp), BAg3.cell 1 (by simp), BAg3.cell 2 (by simp), BAg3.cell 3 (by simp), BAg3.cell 4 (by simp), BBg3.cell 0 (by simp), BBg3.cell 1 (by simp), BBg3.cell 2 (by simp), BBg3.cell 3 (by simp), BBg3.cell 4 (by simp)⟩) ?_
        clear hK K
        refine wpAnyS_one (i := 3) rfl (by kernel_rfl) (fun K hK => ?_)
        go_simp
        refine (to_any k' n' v' wt' a' m' c' l' g3 (HA'.out.kept Kg3) (by omega)).mono ?_
        rintro e g4 ⟨sv2, rfl, R2, tg4⟩
        have Kg4 := Kg3.trans tg4
        have BAg4 := BAg3.kept tg4
        have BBg4 := BBg3.kept tg4
        replace BY := BY.kept tg4
        replace BX := BX.kept tg4
        replace R1 := R1.kept tg4
        have q2 : ∀ q, sv2.ownBlock = some q → g3.heap.size ≤ q ∧ q < g4.heap.size := fun q hq => World.ownsRow.lt R2 q hq
        have zg4 : Hid (g3.heap.size ≤ g4.heap.size) := tg4.size
        replace R2 := own_base R2 Kg3.size
        refine hK _ _ (fun _ => ⟨BAg4.cell 0 (by simp), BAg4.cell 1 (by simp), BAg4.cell 2 (by simp), BAg4.cell 3 (by simp), BAg4.cell 4 (by simp), BBg4.cell 0 (by simp), BBg4.cell 1 (by simp), BBg4.cell 2 (by simp), BBg4.cell 3 (by simp), BBg4.cell 4 (by simp)⟩) ?_
        clear hK K
        obtain ⟨ax, cx, hs1, _, _⟩ := R1.at
        subst hs1
        obtain ⟨ay, cy, hs2, _, _⟩ := R2.at
        subst hs2
        have lx := BX.lt.2
        have ly := BY.lt.2
        have n1 : ∀ q, (Value.slice ax l.length cx).ownBlock = some q → q ≠ g1.heap.size ∧ q ≠ g0.heap.size := fun q hq => by have := q1 q hq; have := zg1.out; have := zg2.out; have := zg3.out; have := zg4.out; omega
        have n2 : ∀ q, (Value.slice ay l'.length cy).ownBlock = some q → q ≠ g1.heap.size ∧ q ≠ g0.heap.size := fun q hq => by have := q2 q hq; have := zg1.out; have := zg2.out; have := zg3.out; have := zg4.out; omega
        have nxz : g1.heap.size ≠ g0.heap.size := by have := zg1.out; have := zg2.out; have := zg3.out; have := zg4.out; omega
        have TW : Hid (Two w ((((((((((g4.setCell ⟨g1.heap.size, 0, none⟩ (.int .i64 k)).setCell ⟨g1.heap.size, 1, none⟩ (.int .i64 n)).setCell ⟨g1.heap.size, 2, none⟩ (.int .i64 v)).setCell ⟨g1.heap.size, 3, none⟩ (.int .i64 wt)).setCell ⟨g1.heap.size, 4, none⟩ (.slice ax l.length cx)).setCell ⟨g0.heap.size, 0, none⟩ (.int .i64 k')).setCell ⟨g0.heap.size, 1, none⟩ (.int .i64 n')).setCell ⟨g0.heap.size, 2, none⟩ (.int .i64 v')).setCell ⟨g0.heap.size, 3, none⟩ (.int .i64 wt')).setCell ⟨g0.heap.size, 4, none⟩ (.slice ay l'.length cy)) g1.heap.size g0.heap.size k n v wt k' n' v' wt' ax cx ay cy l l') := two_of BX BY R1 R2 Kg4 nxz n1 n2
        have x0 : g4.cell? ⟨g1.heap.size, 0, none⟩ = some (.int .i64 0) := BX.cell 0 (by simp)
        have xf0 := BX.frozen 0
        have y0 : g4.cell? ⟨g0.heap.size, 0, none⟩ = some (.int .i64 0) := BY.cell 0 (by simp)
        have yf0 := BY.frozen 0
        have x1 : g4.cell? ⟨g1.heap.size, 1, none⟩ = some (.int .i64 0) := BX.cell 1 (by simp)
        have xf1 := BX.frozen 1
        have y1 : g4.cell? ⟨g0.heap.size, 1, none⟩ = some (.int .i64 0) := BY.cell 1 (by simp)
        have yf1 := BY.frozen 1
        have x2 : g4.cell? ⟨g1.heap.size, 2, none⟩ = some (.int .i64 0) := BX.cell 2 (by simp)
        have xf2 := BX.frozen 2
        have y2 : g4.cell? ⟨g0.heap.size, 2, none⟩ = some (.int .i64 0) := BY.cell 2 (by simp)
        have yf2 := BY.frozen 2
        have x3 : g4.cell? ⟨g1.heap.size, 3, none⟩ = some (.int .i64 0) := BX.cell 3 (by simp)
        have xf3 := BX.frozen 3
        have y3 : g4.cell? ⟨g0.heap.size, 3, none⟩ = some (.int .i64 0) := BY.cell 3 (by simp)
        have yf3 := BY.frozen 3
        have x4 : g4.cell? ⟨g1.heap.size, 4, none⟩ = some (.slice none 0 0) := BX.cell 4 (by simp)
        have xf4 := BX.frozen 4
        have y4 : g4.cell? ⟨g0.heap.size, 4, none⟩ = some (.slice none 0 0) := BY.cell 4 (by simp)
        have yf4 := BY.frozen 4
        have tX := turn_set5 g4 g1.heap.size (.int .i64 k) (.int .i64 n) (.int .i64 v) (.int .i64 wt) (.slice ax l.length cx)
        have nA : ¬ w.heap.size = g1.heap.size := by have := BAg0.lt.2; have := zg1.out; have := zg2.out; have := zg3.out; have := zg4.out; omega
        have nB : ¬ w.heap.size + 1 = g1.heap.size := by have := BBg0.lt.2; have := zg1.out; have := zg2.out; have := zg3.out; have := zg4.out; omega
        have BAF := BAg4.turns tX nA
        have BBF := BBg4.turns tX nB
        clear n1 n2 q1 q2 R1 R2 BX BY tX
        refine wpAnyS_one (i := 6) rfl (by kernel_rfl) (fun K hK => ?_)
        go_simp
        refine hK _ _ (fun _ => ⟨BAF.cell 0 (by simp), BAF.cell 1 (by simp), BAF.cell 2 (by simp), BAF.cell 3 (by simp), BAF.cell 4 (by simp), BBF.cell 0 (by simp), BBF.cell 1 (by simp), BBF.cell 2 (by simp), BBF.cell 3 (by simp), BBF.cell 4 (by simp)⟩) ?_
        clear hK K
        have nzx : g0.heap.size ≠ g1.heap.size := fun e => nxz e.symm
        refine wpAnyS_one (i := 7) rfl (by kernel_rfl) (fun K hK => ?_)
        go_simp
        refine hK _ _ (fun h => absurd rfl h) ?_
        clear hK K
        refine wpAnyS_done (by kernel_rfl) ?_ _
        go_wp2_with fail
        go_meet
        exact ⟨_, _, ax, cx, ay, cy, rfl, rfl, TW⟩
  case rest =>
    obtain ⟨bx, bz, ax, cx, ay, cy, rfl, rfl, T10⟩ := hcut
    clear fA0 fA1 fA2 fA3 fA4 fAl fB0 fB1 fB2 fB3 fB4 fBl
    have fX0 : wc.cell? ⟨bx, 0, none⟩ = some (.int .i64 k) := T10.out.x.cell 0 (by simp)
    have fX1 : wc.cell? ⟨bx, 1, none⟩ = some (.int .i64 n) := T10.out.x.cell 1 (by simp)
    have fX2 : wc.cell? ⟨bx, 2, none⟩ = some (.int .i64 v) := T10.out.x.cell 2 (by simp)
    have fX3 : wc.cell? ⟨bx, 3, none⟩ = some (.int .i64 wt) := T10.out.x.cell 3 (by simp)
    have fX4 : wc.cell? ⟨bx, 4, none⟩ = some (.slice ax l.length cx) := T10.out.x.cell 4 (by simp)
    have fXl := T10.out.x.lt.2
    have fY0 : wc.cell? ⟨bz, 0, none⟩ = some (.int .i64 k') := T10.out.y.cell 0 (by simp)
    have fY1 : wc.cell? ⟨bz, 1, none⟩ = some (.int .i64 n') := T10.out.y.cell 1 (by simp)
    have fY2 : wc.cell? ⟨bz, 2, none⟩ = some (.int .i64 v') := T10.out.y.cell 2 (by simp)
    have fY3 : wc.cell? ⟨bz, 3, none⟩ = some (.int .i64 wt') := T10.out.y.cell 3 (by simp)
    have fY4 : wc.cell? ⟨bz, 4, none⟩ = some (.slice ay l'.length cy) := T10.out.y.cell 4 (by simp)
    have fYl := T10.out.y.lt.2
    obtain ⟨tx, htx⟩ : ∃ z, textD ⟨k, n, v, wt, l⟩ = z := ⟨_, rfl⟩
    obtain ⟨ty, hty⟩ : ∃ z, textD ⟨k', n', v', wt', l'⟩ = z := ⟨_, rfl⟩
    obtain ⟨sq, hsq⟩ : ∃ z, sameD ⟨k, n, v, wt, l⟩ ⟨k', n', v', wt', l'⟩ = z := ⟨_, rfl⟩
    have e1 : ((B tx).toList == (B ty).toList) = sq := by rw [B_eq, ← htx, ← hty, ← hsq]; exact text_apart HCK.out HCK'.out HI.out HI'.out
    have hX := fun wq (h : Two w wq bx bz k n v wt k' n' v' wt' ax cx ay cy l l') => optext_any k n v wt ax l.length cx l wq (HR.out.kept h.kept) h.rx hll HCK.out HI.out
    have hY := fun wq (h : Two w wq bx bz k n v wt k' n' v' wt' ax cx ay cy l l') => optext_any k' n' v' wt' ay l'.length cy l' wq (HR.out.kept h.kept) h.ry hll' HCK'.out HI'.out
    have hS := fun wq (h : Two w wq bx bz k n v wt k' n' v' wt' ax cx ay cy l l') => same_any k n v wt k' n' v' wt' ax ay l.length l'.length cx cy l l' wq h.rx h.ry (by omega)
    have hT := fun wq (h : Two w wq bx bz k n v wt k' n' v' wt' ax cx ay cy l l') => same_any k' n' v' wt' k n v wt ay ax l'.length l.length cy cx l' l wq h.ry h.rx (by omega)
    rw [htx] at hX
    rw [hty] at hY
    rw [hsq] at hS
    rw [sameD_symm, hsq] at hT
    clear htx hty hsq
    have hqq : (sq == sq) = true := by simp
    go_wp2_with fail
    go_region_held3 (fun w' => w'.cell? ⟨bx, 0, none⟩ = some (.int .i64 k) ∧ w'.cell? ⟨bx, 1, none⟩ = some (.int .i64 n) ∧ w'.cell? ⟨bx, 2, none⟩ = some (.int .i64 v) ∧ w'.cell? ⟨bx, 3, none⟩ = some (.int .i64 wt) ∧ w'.cell? ⟨bx, 4, none⟩ = some (.slice ax l.length cx) ∧ w'.cell? ⟨bz, 0, none⟩ = some (.int .i64 k') ∧ w'.cell? ⟨bz, 1, none⟩ = some (.int .i64 n') ∧ w'.cell? ⟨bz, 2, none⟩ = some (.int .i64 v') ∧ w'.cell? ⟨bz, 3, none⟩ = some (.int .i64 wt') ∧ w'.cell? ⟨bz, 4, none⟩ = some (.slice ay l'.length cy)) (go_keep) (first | (go_at_call 13; refine (hT w14 T14.out).mono ?_; rintro e w15 ⟨rfl, t15⟩; have T15 : Hid (Two w w15 bx bz k n v wt k' n' v' wt' ax cx ay cy l l') := T14.out.keep t15; have fX0 : w15.cell? ⟨bx, 0, none⟩ = some (.int .i64 k) := T15.out.x.cell 0 (by simp); have fX1 : w15.cell? ⟨bx, 1, none⟩ = some (.int .i64 n) := T15.out.x.cell 1 (by simp); have fX2 : w15.cell? ⟨bx, 2, none⟩ = some (.int .i64 v) := T15.out.x.cell 2 (by simp); have fX3 : w15.cell? ⟨bx, 3, none⟩ = some (.int .i64 wt) := T15.out.x.cell 3 (by simp); have fX4 : w15.cell? ⟨bx, 4, none⟩ = some (.slice ax l.length cx) := T15.out.x.cell 4 (by simp); have fXl := T15.out.x.lt.2; have fY0 : w15.cell? ⟨bz, 0, none⟩ = some (.int .i64 k') := T15.out.y.cell 0 (by simp); have fY1 : w15.cell? ⟨bz, 1, none⟩ = some (.int .i64 n') := T15.out.y.cell 1 (by simp); have fY2 : w15.cell? ⟨bz, 2, none⟩ = some (.int .i64 v') := T15.out.y.cell 2 (by simp); have fY3 : w15.cell? ⟨bz, 3, none⟩ = some (.int .i64 wt') := T15.out.y.cell 3 (by simp); have fY4 : w15.cell? ⟨bz, 4, none⟩ = some (.slice ay l'.length cy) := T15.out.y.cell 4 (by simp); have fYl := T15.out.y.lt.2) | (go_at_call 13; refine (hS w13 T13.out).mono ?_; rintro e w14 ⟨rfl, t14⟩; have T14 : Hid (Two w w14 bx bz k n v wt k' n' v' wt' ax cx ay cy l l') := T13.out.keep t14; have fX0 : w14.cell? ⟨bx, 0, none⟩ = some (.int .i64 k) := T14.out.x.cell 0 (by simp); have fX1 : w14.cell? ⟨bx, 1, none⟩ = some (.int .i64 n) := T14.out.x.cell 1 (by simp); have fX2 : w14.cell? ⟨bx, 2, none⟩ = some (.int .i64 v) := T14.out.x.cell 2 (by simp); have fX3 : w14.cell? ⟨bx, 3, none⟩ = some (.int .i64 wt) := T14.out.x.cell 3 (by simp); have fX4 : w14.cell? ⟨bx, 4, none⟩ = some (.slice ax l.length cx) := T14.out.x.cell 4 (by simp); have fXl := T14.out.x.lt.2; have fY0 : w14.cell? ⟨bz, 0, none⟩ = some (.int .i64 k') := T14.out.y.cell 0 (by simp); have fY1 : w14.cell? ⟨bz, 1, none⟩ = some (.int .i64 n') := T14.out.y.cell 1 (by simp); have fY2 : w14.cell? ⟨bz, 2, none⟩ = some (.int .i64 v') := T14.out.y.cell 2 (by simp); have fY3 : w14.cell? ⟨bz, 3, none⟩ = some (.int .i64 wt') := T14.out.y.cell 3 (by simp); have fY4 : w14.cell? ⟨bz, 4, none⟩ = some (.slice ay l'.length cy) := T14.out.y.cell 4 (by simp); have fYl := T14.out.y.lt.2) | (go_at_call 13; refine (hS w12 T12.out).mono ?_; rintro e w13 ⟨rfl, t13⟩; have T13 : Hid (Two w w13 bx bz k n v wt k' n' v' wt' ax cx ay cy l l') := T12.out.keep t13; have fX0 : w13.cell? ⟨bx, 0, none⟩ = some (.int .i64 k) := T13.out.x.cell 0 (by simp); have fX1 : w13.cell? ⟨bx, 1, none⟩ = some (.int .i64 n) := T13.out.x.cell 1 (by simp); have fX2 : w13.cell? ⟨bx, 2, none⟩ = some (.int .i64 v) := T13.out.x.cell 2 (by simp); have fX3 : w13.cell? ⟨bx, 3, none⟩ = some (.int .i64 wt) := T13.out.x.cell 3 (by simp); have fX4 : w13.cell? ⟨bx, 4, none⟩ = some (.slice ax l.length cx) := T13.out.x.cell 4 (by simp); have fXl := T13.out.x.lt.2; have fY0 : w13.cell? ⟨bz, 0, none⟩ = some (.int .i64 k') := T13.out.y.cell 0 (by simp); have fY1 : w13.cell? ⟨bz, 1, none⟩ = some (.int .i64 n') := T13.out.y.cell 1 (by simp); have fY2 : w13.cell? ⟨bz, 2, none⟩ = some (.int .i64 v') := T13.out.y.cell 2 (by simp); have fY3 : w13.cell? ⟨bz, 3, none⟩ = some (.int .i64 wt') := T13.out.y.cell 3 (by simp); have fY4 : w13.cell? ⟨bz, 4, none⟩ = some (.slice ay l'.length cy) := T13.out.y.cell 4 (by simp); have fYl := T13.out.y.lt.2) | (go_at_call 17; refine (hY w11 T11.out).mono ?_; rintro e w12 ⟨rfl, t12⟩; have T12 : Hid (Two w w12 bx bz k n v wt k' n' v' wt' ax cx ay cy l l') := T11.out.keep t12; have fX0 : w12.cell? ⟨bx, 0, none⟩ = some (.int .i64 k) := T12.out.x.cell 0 (by simp); have fX1 : w12.cell? ⟨bx, 1, none⟩ = some (.int .i64 n) := T12.out.x.cell 1 (by simp); have fX2 : w12.cell? ⟨bx, 2, none⟩ = some (.int .i64 v) := T12.out.x.cell 2 (by simp); have fX3 : w12.cell? ⟨bx, 3, none⟩ = some (.int .i64 wt) := T12.out.x.cell 3 (by simp); have fX4 : w12.cell? ⟨bx, 4, none⟩ = some (.slice ax l.length cx) := T12.out.x.cell 4 (by simp); have fXl := T12.out.x.lt.2; have fY0 : w12.cell? ⟨bz, 0, none⟩ = some (.int .i64 k') := T12.out.y.cell 0 (by simp); have fY1 : w12.cell? ⟨bz, 1, none⟩ = some (.int .i64 n') := T12.out.y.cell 1 (by simp); have fY2 : w12.cell? ⟨bz, 2, none⟩ = some (.int .i64 v') := T12.out.y.cell 2 (by simp); have fY3 : w12.cell? ⟨bz, 3, none⟩ = some (.int .i64 wt') := T12.out.y.cell 3 (by simp); have fY4 : w12.cell? ⟨bz, 4, none⟩ = some (.slice ay l'.length cy) := T12.out.y.cell 4 (by simp); have fYl := T12.out.y.lt.2) | (go_at_call 17; refine (hX _ (T10.out.keep ((Kept.refl _).drew))).mono ?_; rintro e w11 ⟨rfl, t11⟩; have T11 : Hid (Two w w11 bx bz k n v wt k' n' v' wt' ax cx ay cy l l') := T10.out.keep ((Kept.refl _).drew.trans t11); have fX0 : w11.cell? ⟨bx, 0, none⟩ = some (.int .i64 k) := T11.out.x.cell 0 (by simp); have fX1 : w11.cell? ⟨bx, 1, none⟩ = some (.int .i64 n) := T11.out.x.cell 1 (by simp); have fX2 : w11.cell? ⟨bx, 2, none⟩ = some (.int .i64 v) := T11.out.x.cell 2 (by simp); have fX3 : w11.cell? ⟨bx, 3, none⟩ = some (.int .i64 wt) := T11.out.x.cell 3 (by simp); have fX4 : w11.cell? ⟨bx, 4, none⟩ = some (.slice ax l.length cx) := T11.out.x.cell 4 (by simp); have fXl := T11.out.x.lt.2; have fY0 : w11.cell? ⟨bz, 0, none⟩ = some (.int .i64 k') := T11.out.y.cell 0 (by simp); have fY1 : w11.cell? ⟨bz, 1, none⟩ = some (.int .i64 n') := T11.out.y.cell 1 (by simp); have fY2 : w11.cell? ⟨bz, 2, none⟩ = some (.int .i64 v') := T11.out.y.cell 2 (by simp); have fY3 : w11.cell? ⟨bz, 3, none⟩ = some (.int .i64 wt') := T11.out.y.cell 3 (by simp); have fY4 : w11.cell? ⟨bz, 4, none⟩ = some (.slice ay l'.length cy) := T11.out.y.cell 4 (by simp); have fYl := T11.out.y.lt.2) | fail)
    go_wp2_with fail
    go_ret
    exact ⟨rfl, T15.out.kept⟩

set_option maxHeartbeats 4000000 in
theorem apart_many (o p : OpD) (a : Option Addr) (m c : Nat) (a' : Option Addr) (m' c' : Nat) (w : World) (hm : ¬ (m ≤ 20 ∧ m' ≤ 20)) (hr : Rdy w) :
    Calls Tryd.prog 7 #[.agg #[.int .i64 o.kind, .int .i64 o.n, .int .i64 o.v, .int .i64 o.wait, .slice a m c], .agg #[.int .i64 p.kind, .int .i64 p.n, .int .i64 p.v, .int .i64 p.wait, .slice a' m' c']] w fun e w' => e = .returned (.bool true) ∧ Kept w w' := by
  obtain ⟨k, n, v, wt, l⟩ := o
  obtain ⟨k', n', v', wt', l'⟩ := p
  simp only
  have HR : Hid (Rdy w) := hr
  have BA0 := box_new w.heap.size w 24 [.int .i64 k, .int .i64 n, .int .i64 v, .int .i64 wt, .slice a m c] (Nat.le_refl _) (by simp)
  have KA := (Kept.refl w).alloc (.cells #[.int .i64 k, .int .i64 n, .int .i64 v, .int .i64 wt, .slice a m c] 24)
  have BBz := box_new w.heap.size (w.alloc (.cells #[.int .i64 k, .int .i64 n, .int .i64 v, .int .i64 wt, .slice a m c] 24)) 24 [.int .i64 k', .int .i64 n', .int .i64 v', .int .i64 wt', .slice a' m' c'] KA.size (by simp)
  have KB := KA.alloc (.cells #[.int .i64 k', .int .i64 n', .int .i64 v', .int .i64 wt', .slice a' m' c'] 24)
  have BAz := BA0.kept ((Kept.refl _).alloc (.cells #[.int .i64 k', .int .i64 n', .int .i64 v', .int .i64 wt', .slice a' m' c'] 24))
  have hsz : (w.alloc (.cells #[.int .i64 k, .int .i64 n, .int .i64 v, .int .i64 wt, .slice a m c] 24)).heap.size = w.heap.size + 1 := by simp
  rw [hsz] at BBz
  clear hr hsz
  go_enter Tryd.func7, Tryd.ntmps7
  go_wp2_with fail
  refine (known_true _ (HR.out.kept KB)).mono ?_
  rintro e w1 ⟨rfl, t1⟩
  have BA1 := BAz.kept t1
  have BB1 := BBz.kept t1
  have K1 := KB.trans t1
  have fA0 : w1.cell? ⟨w.heap.size, 0, none⟩ = some (.int .i64 k) := BA1.cell 0 (by simp)
  have fA1 : w1.cell? ⟨w.heap.size, 1, none⟩ = some (.int .i64 n) := BA1.cell 1 (by simp)
  have fA2 : w1.cell? ⟨w.heap.size, 2, none⟩ = some (.int .i64 v) := BA1.cell 2 (by simp)
  have fA3 : w1.cell? ⟨w.heap.size, 3, none⟩ = some (.int .i64 wt) := BA1.cell 3 (by simp)
  have fA4 : w1.cell? ⟨w.heap.size, 4, none⟩ = some (.slice a m c) := BA1.cell 4 (by simp)
  have fAl := BA1.lt.2
  have fB0 : w1.cell? ⟨w.heap.size + 1, 0, none⟩ = some (.int .i64 k') := BB1.cell 0 (by simp)
  have fB1 : w1.cell? ⟨w.heap.size + 1, 1, none⟩ = some (.int .i64 n') := BB1.cell 1 (by simp)
  have fB2 : w1.cell? ⟨w.heap.size + 1, 2, none⟩ = some (.int .i64 v') := BB1.cell 2 (by simp)
  have fB3 : w1.cell? ⟨w.heap.size + 1, 3, none⟩ = some (.int .i64 wt') := BB1.cell 3 (by simp)
  have fB4 : w1.cell? ⟨w.heap.size + 1, 4, none⟩ = some (.slice a' m' c') := BB1.cell 4 (by simp)
  have fBl := BB1.lt.2
  go_wp2_with fail
  refine (few_any k n v wt a m c w1).mono ?_
  rintro e w2 ⟨rfl, t2⟩
  have K2 := K1.trans t2
  have BA2 := BA1.kept t2
  have BB2 := BB1.kept t2
  clear fA0 fA1 fA2 fA3 fA4 fAl fB0 fB1 fB2 fB3 fB4 fBl
  have fA0 : w2.cell? ⟨w.heap.size, 0, none⟩ = some (.int .i64 k) := BA2.cell 0 (by simp)
  have fA1 : w2.cell? ⟨w.heap.size, 1, none⟩ = some (.int .i64 n) := BA2.cell 1 (by simp)
  have fA2 : w2.cell? ⟨w.heap.size, 2, none⟩ = some (.int .i64 v) := BA2.cell 2 (by simp)
  have fA3 : w2.cell? ⟨w.heap.size, 3, none⟩ = some (.int .i64 wt) := BA2.cell 3 (by simp)
  have fA4 : w2.cell? ⟨w.heap.size, 4, none⟩ = some (.slice a m c) := BA2.cell 4 (by simp)
  have fAl := BA2.lt.2
  have fB0 : w2.cell? ⟨w.heap.size + 1, 0, none⟩ = some (.int .i64 k') := BB2.cell 0 (by simp)
  have fB1 : w2.cell? ⟨w.heap.size + 1, 1, none⟩ = some (.int .i64 n') := BB2.cell 1 (by simp)
  have fB2 : w2.cell? ⟨w.heap.size + 1, 2, none⟩ = some (.int .i64 v') := BB2.cell 2 (by simp)
  have fB3 : w2.cell? ⟨w.heap.size + 1, 3, none⟩ = some (.int .i64 wt') := BB2.cell 3 (by simp)
  have fB4 : w2.cell? ⟨w.heap.size + 1, 4, none⟩ = some (.slice a' m' c') := BB2.cell 4 (by simp)
  have fBl := BB2.lt.2
  by_cases h1 : m ≤ 20
  · rw [decide_eq_true h1]
    go_wp2_with fail
    refine (few_any k' n' v' wt' a' m' c' w2).mono ?_
    rintro e w3 ⟨rfl, t3⟩
    rw [decide_eq_false (by omega)]
    go_wp2_with fail
    go_ret
    exact ⟨rfl, K2.trans t3⟩
  · rw [decide_eq_false h1]
    go_wp2_with fail
    go_ret
    exact ⟨rfl, K2⟩
theorem apart_any (o p : OpD) (a : Option Addr) (m c : Nat) (a' : Option Addr) (m' c' : Nat) (w : World) (hA : AtC w a m o.cases) (_ : m ≤ c) (hi : In64 o) (hA' : AtC w a' m' p.cases) (_ : m' ≤ c') (hi' : In64 p) (hr : Rdy w) :
    Calls Tryd.prog 7 #[.agg #[.int .i64 o.kind, .int .i64 o.n, .int .i64 o.v, .int .i64 o.wait, .slice a m c], .agg #[.int .i64 p.kind, .int .i64 p.n, .int .i64 p.v, .int .i64 p.wait, .slice a' m' c']] w fun e w' => e = .returned (.bool true) ∧ Kept w w' := by
  by_cases hm : m ≤ 20 ∧ m' ≤ 20
  · exact apart_few o p a m c a' m' c' w hA hi hA' hi' hm.1 hm.2 hr
  · exact apart_many o p a m c a' m' c' w hm hr
end Go.Proofs.YtiiddfahpddffaaDoor
