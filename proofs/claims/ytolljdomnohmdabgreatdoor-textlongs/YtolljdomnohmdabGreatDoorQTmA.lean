/- times: how often each op is done. times, walked. Steps, Cost, Check. -/
import Derived.OwnWalk
import Derived.ProofKit
import Derived.OpenShut
import Derived.ShutString
import Derived.ChangeOld
import Derived.ChangeArms
import Derived.WideShapes
import Derived.Below
import Derived.Deep.Slices
import Derived.Deep.SlicePairs
import Derived.Test.YtolljdomnohmdabGreatDoorM2
import Derived.Test.YtolljdomnohmdabGreatDoorCas
import Derived.Test.YtolljdomnohmdabGreatDoorCheck
import Derived.Test.YtolljdomnohmdabGreatDoorM3
import Derived.Test.YtolljdomnohmdabGreatDoorM4
import Derived.Test.YtolljdomnohmdabGreatDoorM0
import Derived.Test.YtolljdomnohmdabGreatDoorM1
import Derived.Test.YtolljdomnohmdabGreatDoorOpT
import Derived.Test.YtolljdomnohmdabGreatDoorPar
import Derived.Test.YtolljdomnohmdabGreatDoorM7
import Derived.Test.YtolljdomnohmdabGreatDoorTxt
import Derived.Test.YtolljdomnohmdabGreatDoorRWrd
import Derived.Test.YtolljdomnohmdabGreatDoorM5
import Derived.Test.YtolljdomnohmdabGreatDoorRead
import Derived.Test.YtolljdomnohmdabGreatDoorM8
import Derived.Test.YtolljdomnohmdabGreatDoorTrn
import Derived.Test.YtolljdomnohmdabGreatDoorM11
namespace Go.Proofs.YtolljdomnohmdabGreatDoor
open Go.RowKit

def intV (x : Int) : Value := .int .i64 x
/-- A row of numbers that the call owns (e: their type). -/
def IRow (e : TypeId) (B : Nat) (w : World) (v : Value) (l : List Int) : Prop := w.ownsRow B e 1 v l.length (l.map intV)
theorem IRow.nil (e : TypeId) (B : Nat) (w : World) : IRow e B w (.slice Option.none 0 0) [] := World.ownsRow_nil _ _ _ _
theorem IRow.turns {S : Nat → Prop} {e : TypeId} {B : Nat} {w w' : World} {v : Value} {l : List Int} (h : IRow e B w v l) (t : Turns S w w') (hv : ∀ k, v.ownBlock = some k → ¬ S k) : IRow e B w' v l := owns_turns h t hv
theorem IRow.kept {e : TypeId} {B : Nat} {w w' : World} {v : Value} {l : List Int} (h : IRow e B w v l) (t : Kept w w') : IRow e B w' v l := own_kept h t
theorem IRow.cell {e : TypeId} {B : Nat} {w : World} {g c : Nat} {l : List Int} (h : IRow e B w (.slice (some ⟨g, 0, none⟩) l.length c) l) (j : Nat) (x : Int) (hx : l[j]? = some x) : w.cell? ⟨g, j, none⟩ = some (.int .i64 x) := by
  have hj : j < l.length := (List.getElem?_eq_some_iff.1 hx).1
  unfold IRow at h
  rw [h.cellAt j (by omega), List.getElem?_map, hx]
  rfl
theorem IRow.form {e : TypeId} {B : Nat} {w : World} {v : Value} {l : List Int} (h : IRow e B w v l) : ∃ a c, v = .slice a l.length c ∧ l.length ≤ c := by
  rcases h.2 with ⟨h1, h2⟩ | ⟨g, cap, cur, h1, _, _, h3, _⟩
  · exact ⟨none, 0, by rw [h1, h2], by omega⟩
  · exact ⟨_, _, h1, h3⟩
theorem IRow.some {e : TypeId} {B : Nat} {w : World} {v : Value} {l : List Int} (h : IRow e B w v l) (hl : 0 < l.length) : ∃ g c, v = .slice (some ⟨g, 0, Option.none⟩) l.length c ∧ l.length ≤ c ∧ B ≤ g ∧ g < w.heap.size := by
  rcases h.2 with ⟨h1, h2⟩ | ⟨g, cap, cur, h1, _, _, h3, _⟩
  · omega
  · have := World.ownsRow.lt h g (by rw [h1]; rfl)
    exact ⟨g, cap, h1, h3, this.1, this.2⟩
theorem IRow.base {e : TypeId} {B B' : Nat} {w : World} {v : Value} {l : List Int} (h : IRow e B w v l) (hB : B' ≤ B) : IRow e B' w v l := by
  refine ⟨h.1, ?_⟩
  rcases h.2 with hn | ⟨g, cap, cur, h1, hb, rest⟩
  · exact .inl hn
  · exact .inr ⟨g, cap, cur, h1, by omega, rest⟩
/-- t is a slice of e, and e a number of 64 bits. -/
structure NumOf (t e : TypeId) : Prop where
  und : Tryz.prog.underlying t = some (.slice e)
  inf : (Tryz.prog.info? e).map (fun i => (i.zero, i.size, i.bytes)) = some (some (.int .i64 0), 1, 8)
theorem n64 : NumOf 144 2 := ⟨Tryz.underlying144, by kernel_rfl⟩
theorem int_ones (l : List Int) : ∀ u ∈ l.map intV, u.oneCell' = true := by
  intro u hu
  simp only [List.mem_map] at hu
  obtain ⟨x, _, rfl⟩ := hu
  rfl
/-- One number behind a row of numbers. -/
theorem wp_append_int {t e : TypeId} (kk : NumOf t e) (w : World) {o : Oper} {a : Act} {K : Act → World → Prop} {Q : Exit → Act → World → Prop} (s x : Operand)
    (ho : o.op = .call { callee := .builtin .append, args := #[s, x], argTypes := #[t, t] })
    (base : Nat) (v1 : Value) (l1 : List Int) (y : Int) (W : World) (hw1 : w = W.alloc (.cells #[.int .i64 y] e)) (hs : a.eval s = v1) (nb : Nat) (hnb : nb = W.heap.size) (hx : a.eval x = .slice (some ⟨nb, 0, none⟩) 1 1) (h1 : IRow e base W v1 l1) (hl : l1.length ≤ 1000000) (hB : base ≤ W.heap.size)
    (h : ∀ g cap w', IRow e base w' (.slice (some ⟨g, 0, none⟩) (l1.length + 1) cap) (l1 ++ [y]) → w.grownBy w' v1.ownBlock → (v1.ownBlock = some g ∨ W.heap.size < g) → K (a.put o.dst (.slice (some ⟨g, 0, none⟩) (l1.length + 1) cap)) w') :
    o.wp Tryz.prog a w K Q := by
  subst hw1
  subst hnb
  obtain ⟨i, hi, hz0, hz1, hz2⟩ := info_parts kk.inf
  have hc : ∀ j u, ([y].map intV)[j]? = some u → (W.alloc (.cells #[.int .i64 y] e)).cell? (Addr.add ⟨W.heap.size, 0, none⟩ j) = some u := by
    intro j u hu
    rw [Addr.add_lit, Nat.zero_add, World.cell?_alloc_at _ _ _ _ rfl]
    simpa [intV] using hu
  have h1' : (W.alloc (.cells #[.int .i64 y] e)).ownsRow base e 1 v1 l1.length (l1.map intV) := World.ownsRow.alloc h1 _
  have hB' := le_alloc (.cells #[.int .i64 y] e) hB
  obtain ⟨v', w', hr, k1, k2, k3, k4⟩ := run_append_own_at (P := Tryz.prog) (W.alloc (.cells #[.int .i64 y] e)) base t o.type e i _ 1 8 kk.und hi hz0 hz1 hz2 rfl (by omega) _ l1.length (l1.map intV) h1' ⟨W.heap.size, 0, none⟩ 1 1 ([y].map intV) (by simp) hc (int_ones [y]) (by unfold maxLen; omega) (by omega) hB'
  obtain ⟨g, cap, rfl⟩ := own_form k1 (fun e => by have := k3.1 e; have := this.2; omega)
  unfold Oper.wp
  simp [execOp, ho, resolve, invoke, builtin, hs, hx, hr, Result.andThen]
  refine h g cap w' ?_ k2 ?_
  · unfold IRow
    rw [List.length_append, List.map_append]
    exact k1
  · rcases k4 with k4 | k4
    · exact .inl k4.symm
    · right; simp [Value.ownBlock] at k4; omega
theorem step_append_int {t e : TypeId} (kk : NumOf t e) (w : World) {ops : Array Oper} {o : Oper} {a : Act} {K : Act → World → Prop} {Q : Exit → Act → World → Prop} {E : Prop} (hgd : o.guard = none) (s x : Operand)
    (ho : o.op = .call { callee := .builtin .append, args := #[s, x], argTypes := #[t, t] })
    (base : Nat) (v1 : Value) (l1 : List Int) (y : Int) (W : World) (hw1 : w = W.alloc (.cells #[.int .i64 y] e)) (hs : a.eval s = v1) (nb : Nat) (hnb : nb = W.heap.size) (hx : a.eval x = .slice (some ⟨nb, 0, none⟩) 1 1) (h1 : IRow e base W v1 l1) (hl : l1.length ≤ 1000000) (hB : base ≤ W.heap.size)
    (h : ∀ g cap w', IRow e base w' (.slice (some ⟨g, 0, none⟩) (l1.length + 1) cap) (l1 ++ [y]) → w.grownBy w' v1.ownBlock → (v1.ownBlock = some g ∨ W.heap.size < g) → K (a.put o.dst (.slice (some ⟨g, 0, none⟩) (l1.length + 1) cap)) w') :
    if Region.wanted o (yielded ops a.tmps) = true then Oper.wp Tryz.prog o a w K Q else E := by
  have hw : Region.wanted o (yielded ops a.tmps) = true := by simp [Region.wanted, hgd]
  rw [if_pos hw]
  exact wp_append_int kk w s x ho base v1 l1 y W hw1 hs nb hnb hx h1 hl hB h
theorem wpList_append_int {t e : TypeId} (kk : NumOf t e) (w : World) {ops : Array Oper} {rest : List Oper} {o : Oper} {a : Act} {Q : Exit → Act → World → Prop} (hw : Region.wanted o (yielded ops a.tmps) = true) (s x : Operand)
    (ho : o.op = .call { callee := .builtin .append, args := #[s, x], argTypes := #[t, t] })
    (base : Nat) (v1 : Value) (l1 : List Int) (y : Int) (W : World) (hw1 : w = W.alloc (.cells #[.int .i64 y] e)) (hs : a.eval s = v1) (nb : Nat) (hnb : nb = W.heap.size) (hx : a.eval x = .slice (some ⟨nb, 0, none⟩) 1 1) (h1 : IRow e base W v1 l1) (hl : l1.length ≤ 1000000) (hB : base ≤ W.heap.size)
    (h : ∀ g cap w', IRow e base w' (.slice (some ⟨g, 0, none⟩) (l1.length + 1) cap) (l1 ++ [y]) → w.grownBy w' v1.ownBlock → (v1.ownBlock = some g ∨ W.heap.size < g) → wpList Tryz.prog ops Q rest (a.put o.dst (.slice (some ⟨g, 0, none⟩) (l1.length + 1) cap)) w') :
    wpList Tryz.prog ops Q (o :: rest) a w := by
  refine wpList_step fun K hK => ?_
  rw [if_pos hw]
  exact wp_append_int kk w s x ho base v1 l1 y W hw1 hs nb hnb hx h1 hl hB fun g cap w' k1 k2 k3 => hK _ _ (h g cap w' k1 k2 k3)

/-- Rounds stay small. -/
def Bds : List Int → Prop
  | [] => True
  | x :: r => 1 ≤ x ∧ x ≤ 32 ^ r.length ∧ Bds r
theorem bds_push {x n : Int} {r : List Int} (h : Bds (x :: r)) (h1 : 1 ≤ n) (h2 : n ≤ 32) : Bds (x * n :: x :: r) := by
  obtain ⟨a, b, c⟩ := h
  refine ⟨?_, ?_, a, b, c⟩
  · have := Int.mul_le_mul (a := 1) (b := 1) a h1 (by omega) (by omega)
    omega
  · rw [List.length_cons, Int.pow_succ]
    exact Int.mul_le_mul b h2 (by omega) (by have := Int.pow_pos (n := (32 : Int)) (m := r.length) (by omega); omega)
theorem bds_top {x : Int} {r : List Int} (h : Bds (x :: r)) (hl : r.length ≤ 3) : 1 ≤ x ∧ x ≤ 32768 := by
  obtain ⟨a, b, _⟩ := h
  have hc : r.length = 0 ∨ r.length = 1 ∨ r.length = 2 ∨ r.length = 3 := by omega
  rcases hc with e | e | e | e <;> rw [e] at b <;> exact ⟨a, by omega⟩
theorem times_len : ∀ (p : List OpD) (st : List Int), (timesGo st p).length = p.length
  | [], _ => rfl
  | o :: r, st => by
    rw [timesGo]
    split
    · simp [times_len r]
    · split
      · simp [times_len r]
      · simp [times_len r]
/-- A row that is filled up to a place. -/
def fillTo (T : List Int) (j : Nat) : List Int := T.take j ++ List.replicate (T.length - j) 0
theorem fill_set {T : List Int} {j : Nat} {x : Int} {r : List Int} (h : T.drop j = x :: r) : (fillTo T j).set j x = fillTo T (j + 1) := by
  have hj : j < T.length := by
    rcases Nat.lt_or_ge j T.length with h' | h'
    · exact h'
    · rw [List.drop_eq_nil_of_le h'] at h; cases h
  have hx : T[j] = x := by
    rw [List.drop_eq_getElem_cons hj] at h
    exact (List.cons.inj h).1
  unfold fillTo
  rw [List.set_append_right _ _ (by simp; omega), List.length_take, Nat.min_eq_left (by omega), Nat.sub_self, show T.length - j = (T.length - (j + 1)) + 1 by omega, List.replicate_succ, List.set_cons_zero, List.take_add_one, List.getElem?_eq_getElem hj, hx]
  simp
theorem fill_same {T : List Int} {j : Nat} {r : List Int} (h : T.drop j = 0 :: r) : fillTo T j = fillTo T (j + 1) := by
  rw [← fill_set h]
  have hj : j < T.length := by
    rcases Nat.lt_or_ge j T.length with h' | h'
    · exact h'
    · rw [List.drop_eq_nil_of_le h'] at h; cases h
  unfold fillTo
  rw [List.set_append_right _ _ (by simp; omega), List.length_take, Nat.min_eq_left (by omega), Nat.sub_self, show T.length - j = (T.length - (j + 1)) + 1 by omega, List.replicate_succ, List.set_cons_zero]
theorem fill_len (T : List Int) (j : Nat) (hj : j ≤ T.length) : (fillTo T j).length = T.length := by
  unfold fillTo
  simp
  omega
theorem drop_next {T : List Int} {j : Nat} {x : Int} {r : List Int} (h : T.drop j = x :: r) : T.drop (j + 1) = r := by
  rw [← List.drop_drop, h]
  rfl
end Go.Proofs.YtolljdomnohmdabGreatDoor
namespace Go.Proofs.YtolljdomnohmdabGreatDoor
open Go.RowKit

/-- What there is in the midst of times. -/
structure Tm (w wr : World) (T : List Int) (j : Nat) (v4 : Value) (st : List Int) : Prop where
  all : IRow 2 w.heap.size wr (.slice (some ⟨w.heap.size, 0, none⟩) T.length T.length) (fillTo T j)
  rnd : IRow 2 w.heap.size wr v4 st.reverse
  far : ∀ q, v4.ownBlock = some q → w.heap.size < q
  kept : Kept w wr
theorem Tm.keep {w wr wx : World} {T : List Int} {j : Nat} {v4 : Value} {st : List Int} (h : Tm w wr T j v4 st) (t : Kept wr wx) : Tm w wx T j v4 st := ⟨h.all.kept t, h.rnd.kept t, h.far, h.kept.trans t⟩
theorem info2 : ∃ i, Tryz.prog.info? 2 = some i ∧ i.zero = some (.int .i64 0) ∧ i.size = 1 ∧ i.bytes = 8 := by
  obtain ⟨i, hi, hz0, hz1, hz2⟩ := info_parts n64.inf
  exact ⟨i, hi, hz0, hz1, hz2⟩
theorem made_zero (n : Nat) : (madeCells (Value.int IntKind.i64 0).cells (n * 1)).toList = (List.replicate n (0 : Int)).map intV := by
  rw [Nat.mul_one]
  apply List.ext_getElem?
  intro j
  by_cases hj : j < n
  · simp [madeCells, hj, intV, Value.cells, Nat.mod_one]
  · simp [madeCells, hj]
theorem tm_start (w w1 : World) (n : Nat) (T : List Int) (hT : T.length = n) (h : w1.ownsRow w.heap.size 2 1 (.slice (some ⟨w.heap.size, 0, none⟩) n n) n (madeCells (Value.int IntKind.i64 0).cells (n * 1)).toList) (g : w.grownBy w1 none) (hs : w.heap.size < w1.heap.size) :
    Tm w (w1.alloc (.cells #[.int .i64 1] 2)) T 0 (.slice (some ⟨w1.heap.size, 0, none⟩) 1 1) [1] := by
  have k1 : Kept w w1 := (Turns.grown (S := fun _ => False) g (fun k e => by cases e)).kept (Kept.refl w) (fun i hi => hi.elim)
  refine ⟨?_, ?_, fun q hq => by simp [Value.ownBlock] at hq; omega, k1.alloc _⟩
  · refine IRow.kept ?_ ((Kept.refl w1).alloc _)
    unfold IRow
    rw [fill_len T 0 (by omega), hT]
    have e : fillTo T 0 = List.replicate n 0 := by unfold fillTo; simp [hT]
    rw [e, ← made_zero]
    exact h
  · exact World.ownsRow_lit (base := w.heap.size) (e := 2) (size := 1) w1 #[.int .i64 1] 1 (by omega) (by unfold maxLen; omega) (by simp)

theorem fill_get {T : List Int} {j : Nat} (hj : j < T.length) : (fillTo T j)[j]? = some 0 := by
  unfold fillTo
  rw [List.getElem?_append_right (by simp; omega), List.length_take, Nat.min_eq_left (by omega), Nat.sub_self, List.getElem?_replicate, if_pos (by omega)]
theorem Tm.put {w wr : World} {T : List Int} {j : Nat} {v4 : Value} {st : List Int} {x : Int} {r : List Int} (h : Tm w wr T j v4 st) (hd : T.drop j = x :: r) : Tm w (wr.setCell ⟨w.heap.size, j, none⟩ (.int .i64 x)) T (j + 1) v4 st := by
  have hj : j < T.length := by
    rcases Nat.lt_or_ge j T.length with h' | h'
    · exact h'
    · rw [List.drop_eq_nil_of_le h'] at hd; cases hd
  have t := turn_set wr w.heap.size j (.int .i64 x)
  refine ⟨?_, h.rnd.turns t (fun q hq e => by have := h.far q hq; omega), h.far, t.kept h.kept (fun i hi => by omega)⟩
  have ha := h.all
  unfold IRow at ha ⊢
  rw [fill_len T _ (by omega)] at ha ⊢
  rw [← fill_set hd, List.map_set]
  exact (World.ownsRow.stored ha j (.int .i64 x)).1
theorem Tm.skip {w wr : World} {T : List Int} {j : Nat} {v4 : Value} {st : List Int} {r : List Int} (h : Tm w wr T j v4 st) (hd : T.drop j = 0 :: r) : Tm w wr T (j + 1) v4 st := by
  have ha := h.all
  rw [fill_same hd] at ha
  exact ⟨ha, h.rnd, h.far, h.kept⟩
theorem Tm.cut {w wr : World} {T : List Int} {j g c : Nat} {x : Int} {r : List Int} (h : Tm w wr T j (.slice (some ⟨g, 0, none⟩) (r.length + 1) c) (x :: r)) : Tm w wr T j (.slice (some ⟨g, 0, none⟩) r.length c) r := by
  refine ⟨h.all, ?_, fun q hq => h.far q hq, h.kept⟩
  have hr := h.rnd
  unfold IRow at hr ⊢
  rw [List.reverse_cons, List.length_append, List.length_reverse] at hr
  have h2 := own_take (r := r.length) hr (by simp)
  rw [List.length_reverse]
  have h3 : (List.map intV (r.reverse ++ [x])).take (r.length * 1) = r.reverse.map intV := by
    rw [Nat.mul_one, List.map_append]
    exact List.take_left' (by simp)
  rw [h3] at h2
  exact h2
theorem Tm.push {w wr w' : World} {T : List Int} {j : Nat} {v4 : Value} {st : List Int} {y : Int} {o1 o2 : Obj} {g n c : Nat} (h : Tm w wr T j v4 st) (gr : ((wr.alloc o1).drew.alloc o2).grownBy w' v4.ownBlock) (at5 : v4.ownBlock = some g ∨ (wr.alloc o1).drew.heap.size < g)
    (r : IRow 2 w.heap.size w' (.slice (some ⟨g, 0, none⟩) n c) (st.reverse ++ [y])) : Tm w w' T j (.slice (some ⟨g, 0, none⟩) n c) (y :: st) := by
  have t : Turns (fun k => v4.ownBlock = some k) wr w' := ((((Turns.refl _ wr).alloc o1).drew).alloc o2).trans (Turns.grown gr (fun k e => e))
  have hs := (World.ownsRow.lt h.all w.heap.size rfl).2
  refine ⟨h.all.turns t (fun q hq e => by simp [Value.ownBlock] at hq; have := h.far q e; omega), ?_, ?_, t.kept h.kept (fun i hi => by have := h.far i hi; omega)⟩
  · rw [List.reverse_cons]
    exact r
  · intro q hq
    simp [Value.ownBlock] at hq
    subst hq
    rcases at5 with h1 | h1
    · exact h.far _ h1
    · have : (wr.alloc o1).drew.heap.size = wr.heap.size + 1 := by show (wr.alloc o1).heap.size = _; simp
      omega
theorem run_cons {m : Nat} {lp : List Nat} {o : OpD} {r : List OpD} {x : Nat × List Nat} (h : runM m lp (o :: r) = some x) : ∃ m1 lp1, takeM m lp o = some (m1, lp1) ∧ runM m1 lp1 r = some x := by
  rw [runM] at h
  cases ht : takeM m lp o with
  | none => rw [ht] at h; cases h
  | some y => rw [ht] at h; exact ⟨y.1, y.2, rfl, h⟩
theorem loop_n {n v wt : Int} {l : List CaseD} (h : checkD ⟨8, n, v, wt, l⟩ = 0) : 1 ≤ n ∧ n ≤ 32 := by
  have := (taken_of h).takes
  simp [takesB, shapeOf] at this
  omega

set_option maxHeartbeats 4000000 in
set_option maxRecDepth 10000 in
theorem times_any (a : Option Addr) (c : Nat) (p : List OpD) (w : World) (hA : AtP w a p) (hp : p.length ≤ 100000) (hc : ∀ o ∈ p, checkD o = 0) (hrun : runM 0 [] p = some (0, [])) :
    Calls Tryz.prog 90 #[.slice a p.length c] w fun e w' => ∃ v, e = .returned v ∧ IRow 2 w.heap.size w' v (timesGo [1] p) ∧ Kept w w' := by
  have HA : Hid (AtP w a p) := hA
  have HC : Hid (∀ o ∈ p, checkD o = 0) := hc
  have HRUN : Hid (runM 0 [] p = some (0, [])) := hrun
  obtain ⟨T, hT⟩ : ∃ T, timesGo [1] p = T := ⟨_, rfl⟩
  have hTl : T.length = p.length := by rw [← hT, times_len]
  have HT0 : Hid (T.drop 0 = timesGo [1] (p.drop 0)) := by show _ = _; rw [List.drop_zero, List.drop_zero, hT]
  rw [hT]
  obtain ⟨i2, hi2, hi20, hi21, hi28⟩ := info2
  clear hA hc hrun hT
  go_enter Tryz.func90, Tryz.ntmps90
  go_wp2_with (refine wpList_make_full _ rfl _ _ 144 rfl w.heap.size 2 i2 _ 1 Tryz.underlying144 hi2 hi20 hi21 _ _ _ _ p.length rfl rfl rfl rfl (by rw [hi28]; omega) (by unfold maxLen; omega) (Nat.le_refl _) ?_; intro w1 ow1 gr1)
  have hs1 := (World.ownsRow.lt ow1 w.heap.size rfl).2
  have M0 : Hid (Tm w (w1.alloc (.cells #[.int .i64 1] 2)) T 0 (.slice (some ⟨w1.heap.size, 0, none⟩) 1 1) [1]) := tm_start w w1 p.length T hTl ow1 gr1 hs1
  clear ow1 gr1 hs1
  go_loopg [4, 14] p.length (fun gk v4 i wr => ∃ (j m : Nat) (lp : List Nat) (st : List Int), i = .int .i64 j ∧ j + gk = p.length ∧ Hid (runM m lp (p.drop j) = some (0, [])) ∧ Hid (lp.length ≤ 3) ∧ Hid (st.length = lp.length + 1) ∧ Hid (Bds st) ∧ Hid (T.drop j = timesGo st (p.drop j)) ∧ Hid (Tm w wr T j v4 st))
  case atStart => exact ⟨0, 0, [], [1], rfl, by omega, (by show _ = _; rw [List.drop_zero]; exact HRUN.out), (by show _ ≤ _; simp), (by show _ = _; simp), (by show Bds _; simp [Bds]), HT0, M0⟩
  case round =>
    obtain ⟨j, m, lp, st, rfl, hj, HU, HL, HSL, HB, HT, HM⟩ := hrel
    by_cases hjp : j < p.length
    · obtain ⟨b, f, k, n, v, wt, l, ca, cc, rfl, hpj, g0, g1, g2, g3, g4, hcc, hat, hbl, hdr⟩ := (HA.out.kept HM.out.kept).get j hjp
      have b1 : (j : Int) < (p.length : Int) := by omega
      have b2 : (0 : Int) ≤ (j : Int) := by omega
      have HCK : Hid (checkD ⟨k, n, v, wt, l⟩ = 0) := HC.out _ (List.mem_of_getElem? hpj)
      obtain ⟨m1, lp1, htk, hru⟩ := run_cons (by rw [← hdr]; exact HU.out)
      have HU2 : Hid (runM m1 lp1 (p.drop (j + 1)) = some (0, [])) := hru
      have HT2 : Hid (T.drop j = timesGo st (⟨k, n, v, wt, l⟩ :: p.drop (j + 1))) := by show _ = _; rw [HT.out, hdr]
      obtain ⟨g3', rfl⟩ : ∃ g, gk = g + 1 := ⟨gk - 1, by omega⟩
      clear hpj hat hdr HT HU hru
      have hs4 : st.length ≤ 4 := by have h1 := HSL.out; have h2 := HL.out; omega
      have hs1 : 1 ≤ st.length := by have h1 := HSL.out; omega
      rcases st with _ | ⟨x, r⟩
      · simp at hs1
      · have hxb := bds_top HB.out (by simp at hs4; omega)
        rcases r with _ | ⟨y1, _ | ⟨y2, _ | ⟨y3, _ | ⟨y4, r⟩⟩⟩⟩
        · have hrl : ([x] : List Int).reverse.length = 1 := by simp
          obtain ⟨g, cp, hv4, hcp, hg1, hg2⟩ := HM.out.rnd.some (by rw [hrl]; omega)
          rw [hrl] at hv4 hcp
          subst hv4
          have cx : wr.cell? ⟨g, 0, none⟩ = some (.int .i64 x) := by
            have h := HM.out.rnd
            exact IRow.cell (c := cp) (l := ([x] : List Int).reverse) (by rw [hrl]; exact h) 0 x (by simp)
          have hsw := (World.ownsRow.lt HM.out.all w.heap.size rfl).2
          have hgw : ¬ wr.heap.size = g := by omega
          by_cases h8 : k = 8
          · subst h8
            obtain ⟨hl3, hx1⟩ := take_loop rfl htk
            cases hx1
            obtain ⟨hn1, hn2⟩ := loop_n HCK.out
            have HB2 : Hid (Bds (x * n :: [x])) := bds_push HB.out hn1 hn2
            obtain ⟨y, hy⟩ : ∃ y, x * n = y := ⟨_, rfl⟩
            have hyb : 1 ≤ y ∧ y ≤ 1048576 := by
              obtain ⟨q1, q2, _⟩ := HB2.out
              have : x * n ≤ 32768 * 32 := Int.mul_le_mul hxb.2 hn2 (by omega) (by omega)
              rw [← hy]
              exact ⟨q1, by omega⟩
            have HT3 : Hid (T.drop j = 0 :: timesGo (y :: [x]) (p.drop (j + 1))) := by show _ = _; rw [HT2.out, timesGo, if_pos rfl, ← hy]; rfl
            have HT4 : Hid (T.drop (j + 1) = timesGo (y :: [x]) (p.drop (j + 1))) := drop_next HT3.out
            have KA := ((Kept.refl wr).alloc (.cells #[.int .i64 8, .int .i64 n, .int .i64 v, .int .i64 wt, .slice ca l.length cc] 37)).drew
            have hle1 : ([x] : List Int).reverse.length ≤ 1000000 := by rw [hrl]; omega
            have hle2 : w.heap.size ≤ (wr.alloc (.cells #[.int .i64 8, .int .i64 n, .int .i64 v, .int .i64 wt, .slice ca l.length cc] 37)).drew.heap.size := by have := KA.size; omega
            have H0 : Hid ((m :: lp).length ≤ 3 ∧ (y :: [x]).length = (m :: lp).length + 1) := by
              have h2 : 1 = lp.length + 1 := HSL.out
              show lp.length + 1 ≤ 3 ∧ 1 + 1 = lp.length + 1 + 1
              omega
            rw [hy] at HB2
            have HWM : Hid (IntKind.i64.wrap y = y) := by show _ = _; simp [IntKind.wrap, IntKind.bits, IntKind.signed]; omega
            clear htk HT2
            go_wp2_with fail
            refine wp_region_S (by kernel_rfl) 10 (fun w' => w'.cell? ⟨wr.heap.size, 1, none⟩ = some (.int .i64 n)) ?_
            have hS0 : (wr.alloc (.cells #[.int .i64 8, .int .i64 n, .int .i64 v, .int .i64 wt, .slice ca l.length cc] 37)).drew.cell? ⟨wr.heap.size, 1, none⟩ = some (.int .i64 n) := (box_new 0 wr 37 [.int .i64 8, .int .i64 n, .int .i64 v, .int .i64 wt, .slice ca l.length cc] (Nat.zero_le _) (by simp)).cell 1 (by simp)
            refine wpAnyS_take (i := 0) (v := .slice (some ⟨g, 0, none⟩) 1 cp) rfl (by kernel_rfl) (by kernel_rfl) (by kernel_rfl) (by kernel_rfl) (fun _ _ _ h => h) hS0 rfl (fun wx hx => by go_simp) ?_
            refine wpAnyS_take (i := 1) (v := .slice (some ⟨g, 0, none⟩) 1 cp) rfl (by kernel_rfl) (by kernel_rfl) (by kernel_rfl) (by kernel_rfl) (fun _ _ _ h => h) hS0 rfl (fun wx hx => by go_simp) ?_
            refine wpAnyS_take (i := 2) (v := .int .i64 0) rfl (by kernel_rfl) (by kernel_rfl) (by kernel_rfl) (by kernel_rfl) (fun _ _ _ h => h) hS0 rfl (fun wx hx => by go_simp) ?_
            refine wpAnyS_take (i := 3) (v := .pointer (some ⟨g, 0, none⟩)) rfl (by kernel_rfl) (by kernel_rfl) (by kernel_rfl) (by kernel_rfl) (fun _ _ _ h => h) hS0 rfl (fun wx hx => by go_simp) ?_
            refine wpAnyS_take (i := 5) (v := .pointer (some ⟨wr.heap.size, 1, none⟩)) rfl (by kernel_rfl) (by kernel_rfl) (by kernel_rfl) (by kernel_rfl) (fun _ _ _ h => h) hS0 rfl (fun wx hx => by go_simp) ?_
            refine wpAnyS_take (i := 6) (v := .int .i64 n) rfl (by kernel_rfl) (by kernel_rfl) (by kernel_rfl) (by kernel_rfl) (fun _ _ _ h => h) hS0 rfl (fun wx hx => by go_simp) ?_
            refine wpAnyS_one (i := 4) rfl (by kernel_rfl) (fun K hK => ?_)
            go_simp
            refine hK _ _ (fun _ => hS0) ?_
            clear hK K
            refine wpAnyS_one (i := 7) rfl (by kernel_rfl) (fun K hK => ?_)
            go_simp
            rw [HWM.out]
            refine hK _ _ (fun _ => hS0) ?_
            clear hK K
            refine wpAnyS_one (i := 8) rfl (by kernel_rfl) (fun K hK => ?_)
            go_simp
            have hS1 : ((wr.alloc (.cells #[.int .i64 8, .int .i64 n, .int .i64 v, .int .i64 wt, .slice ca l.length cc] 37)).drew.alloc (.cells #[.int .i64 y] 2)).cell? ⟨wr.heap.size, 1, none⟩ = some (.int .i64 n) := ((Kept.refl _).alloc _).cell hS0
            refine hK _ _ (fun _ => hS1) ?_
            clear hK K
            refine wpAnyS_one (i := 9) rfl (by kernel_rfl) (fun K hK => ?_)
            refine step_append_int n64 _ (by rfl) _ _ (by rfl) w.heap.size (.slice (some ⟨g, 0, none⟩) 1 cp) ([x] : List Int).reverse y (wr.alloc (.cells #[.int .i64 8, .int .i64 n, .int .i64 v, .int .i64 wt, .slice ca l.length cc] 37)).drew (by rfl) (by rfl) (wr.heap.size + 1) (by show _ = (wr.alloc _).heap.size; simp) (by rfl) (HM.out.rnd.kept KA) hle1 hle2 ?_
            intro g5 c5 w5 R5 gr5 at5
            have hS5 : w5.cell? ⟨wr.heap.size, 1, none⟩ = some (.int .i64 n) := by
              have t5 : Turns (fun k => k = g) ((wr.alloc (.cells #[.int .i64 8, .int .i64 n, .int .i64 v, .int .i64 wt, .slice ca l.length cc] 37)).drew.alloc (.cells #[.int .i64 y] 2)) w5 := Turns.grown gr5 (fun k e => by simp [Value.ownBlock] at e; exact e.symm)
              exact t5.cell hS1 (cell_lt hS1) hgw
            have M5 := HM.out.push gr5 at5 R5
            rw [hrl] at M5 ⊢
            have HM5 : Hid (Tm w w5 T (j + 1) (.slice (some ⟨g5, 0, none⟩) (1 + 1) c5) (y :: [x])) := M5.skip HT3.out
            clear M5 R5 gr5 at5
            refine hK _ _ (fun _ => hS5) ?_
            clear hK K
            refine wpAnyS_one (i := 10) rfl (by kernel_rfl) (fun K hK => ?_)
            go_simp
            refine hK _ _ (fun h => absurd rfl h) ?_
            clear hK K
            refine wpAnyS_done (by kernel_rfl) ?_ _
            go_wp2_with fail
            go_roundg g3'
            case rel => exact ⟨j + 1, m, m :: lp, y :: [x], by go_num, by omega, HU2, H0.out.1, H0.out.2, HB2, HT4, HM5⟩
            case measure => omega
          · have k8 : (k == 8) = false := beq_eq_false_iff_ne.2 h8
            have KA := ((Kept.refl wr).alloc (.cells #[.int .i64 k, .int .i64 n, .int .i64 v, .int .i64 wt, .slice ca l.length cc] 37))
            by_cases h9 : k = 9
            · subst h9
              obtain ⟨r', hlp, hx1⟩ := take_end rfl htk
              have e1 := (Prod.mk.inj hx1).1
              have e2 := (Prod.mk.inj hx1).2
              clear hx1
              have h2 := HSL.out
              rw [hlp] at h2
              simp at h2
            · have k9 : (k != 9) = true := by simp [h9]
              obtain ⟨ht1, hx1⟩ := take_plain h8 h9 htk
              simp only at hx1
              subst hx1
              have HT3 : Hid (T.drop j = x :: timesGo [x] (p.drop (j + 1))) := by show _ = _; rw [HT2.out, timesGo, if_neg h8, if_neg h9]; rfl
              have HT4 : Hid (T.drop (j + 1) = timesGo [x] (p.drop (j + 1))) := drop_next HT3.out
              have HM5 : Hid (Tm w ((wr.setCell ⟨w.heap.size, j, none⟩ (.int .i64 x)).alloc (.cells #[.int .i64 k, .int .i64 n, .int .i64 v, .int .i64 wt, .slice ca l.length cc] 37)) T (j + 1) (.slice (some ⟨g, 0, none⟩) 1 cp) [x]) := (HM.out.put HT3.out).keep ((Kept.refl _).alloc _)
              have hall := HM.out.all
              have cz : wr.cell? ⟨w.heap.size, j, none⟩ = some (.int .i64 0) := by
                unfold IRow at hall
                rw [fill_len T j (by omega)] at hall
                rw [hall.cellAt j (by omega), List.getElem?_map, fill_get (by omega)]
                rfl
              have fz : wr.frozen? ⟨w.heap.size, j, none⟩ = false := by
                unfold IRow at hall
                rw [fill_len T j (by omega)] at hall
                exact hall.frozenAt j
              clear htk HT2 hall ht1
              have b7 : (j : Int) < (T.length : Int) := by omega
              go_wp2_with fail
              go_roundg g3'
              case rel => exact ⟨j + 1, m1, lp1, [x], by go_num, by omega, HU2, HL, HSL, HB, HT4, HM5⟩
              case measure => omega
        · have hrl : ([x, y1] : List Int).reverse.length = 2 := by simp
          obtain ⟨g, cp, hv4, hcp, hg1, hg2⟩ := HM.out.rnd.some (by rw [hrl]; omega)
          rw [hrl] at hv4 hcp
          subst hv4
          have cx : wr.cell? ⟨g, 1, none⟩ = some (.int .i64 x) := by
            have h := HM.out.rnd
            exact IRow.cell (c := cp) (l := ([x, y1] : List Int).reverse) (by rw [hrl]; exact h) 1 x (by simp)
          have hsw := (World.ownsRow.lt HM.out.all w.heap.size rfl).2
          have hgw : ¬ wr.heap.size = g := by omega
          by_cases h8 : k = 8
          · subst h8
            obtain ⟨hl3, hx1⟩ := take_loop rfl htk
            cases hx1
            obtain ⟨hn1, hn2⟩ := loop_n HCK.out
            have HB2 : Hid (Bds (x * n :: [x, y1])) := bds_push HB.out hn1 hn2
            obtain ⟨y, hy⟩ : ∃ y, x * n = y := ⟨_, rfl⟩
            have hyb : 1 ≤ y ∧ y ≤ 1048576 := by
              obtain ⟨q1, q2, _⟩ := HB2.out
              have : x * n ≤ 32768 * 32 := Int.mul_le_mul hxb.2 hn2 (by omega) (by omega)
              rw [← hy]
              exact ⟨q1, by omega⟩
            have HT3 : Hid (T.drop j = 0 :: timesGo (y :: [x, y1]) (p.drop (j + 1))) := by show _ = _; rw [HT2.out, timesGo, if_pos rfl, ← hy]; rfl
            have HT4 : Hid (T.drop (j + 1) = timesGo (y :: [x, y1]) (p.drop (j + 1))) := drop_next HT3.out
            have KA := ((Kept.refl wr).alloc (.cells #[.int .i64 8, .int .i64 n, .int .i64 v, .int .i64 wt, .slice ca l.length cc] 37)).drew
            have hle1 : ([x, y1] : List Int).reverse.length ≤ 1000000 := by rw [hrl]; omega
            have hle2 : w.heap.size ≤ (wr.alloc (.cells #[.int .i64 8, .int .i64 n, .int .i64 v, .int .i64 wt, .slice ca l.length cc] 37)).drew.heap.size := by have := KA.size; omega
            have H1 : Hid ((m :: lp).length ≤ 3 ∧ (y :: [x, y1]).length = (m :: lp).length + 1) := by
              have h2 : 2 = lp.length + 1 := HSL.out
              show lp.length + 1 ≤ 3 ∧ 2 + 1 = lp.length + 1 + 1
              omega
            rw [hy] at HB2
            have HWM : Hid (IntKind.i64.wrap y = y) := by show _ = _; simp [IntKind.wrap, IntKind.bits, IntKind.signed]; omega
            clear htk HT2
            go_wp2_with fail
            refine wp_region_S (by kernel_rfl) 10 (fun w' => w'.cell? ⟨wr.heap.size, 1, none⟩ = some (.int .i64 n)) ?_
            have hS0 : (wr.alloc (.cells #[.int .i64 8, .int .i64 n, .int .i64 v, .int .i64 wt, .slice ca l.length cc] 37)).drew.cell? ⟨wr.heap.size, 1, none⟩ = some (.int .i64 n) := (box_new 0 wr 37 [.int .i64 8, .int .i64 n, .int .i64 v, .int .i64 wt, .slice ca l.length cc] (Nat.zero_le _) (by simp)).cell 1 (by simp)
            refine wpAnyS_take (i := 0) (v := .slice (some ⟨g, 0, none⟩) 2 cp) rfl (by kernel_rfl) (by kernel_rfl) (by kernel_rfl) (by kernel_rfl) (fun _ _ _ h => h) hS0 rfl (fun wx hx => by go_simp) ?_
            refine wpAnyS_take (i := 1) (v := .slice (some ⟨g, 0, none⟩) 2 cp) rfl (by kernel_rfl) (by kernel_rfl) (by kernel_rfl) (by kernel_rfl) (fun _ _ _ h => h) hS0 rfl (fun wx hx => by go_simp) ?_
            refine wpAnyS_take (i := 2) (v := .int .i64 1) rfl (by kernel_rfl) (by kernel_rfl) (by kernel_rfl) (by kernel_rfl) (fun _ _ _ h => h) hS0 rfl (fun wx hx => by go_simp) ?_
            refine wpAnyS_take (i := 3) (v := .pointer (some ⟨g, 1, none⟩)) rfl (by kernel_rfl) (by kernel_rfl) (by kernel_rfl) (by kernel_rfl) (fun _ _ _ h => h) hS0 rfl (fun wx hx => by go_simp) ?_
            refine wpAnyS_take (i := 5) (v := .pointer (some ⟨wr.heap.size, 1, none⟩)) rfl (by kernel_rfl) (by kernel_rfl) (by kernel_rfl) (by kernel_rfl) (fun _ _ _ h => h) hS0 rfl (fun wx hx => by go_simp) ?_
            refine wpAnyS_take (i := 6) (v := .int .i64 n) rfl (by kernel_rfl) (by kernel_rfl) (by kernel_rfl) (by kernel_rfl) (fun _ _ _ h => h) hS0 rfl (fun wx hx => by go_simp) ?_
            refine wpAnyS_one (i := 4) rfl (by kernel_rfl) (fun K hK => ?_)
            go_simp
            refine hK _ _ (fun _ => hS0) ?_
            clear hK K
            refine wpAnyS_one (i := 7) rfl (by kernel_rfl) (fun K hK => ?_)
            go_simp
            rw [HWM.out]
            refine hK _ _ (fun _ => hS0) ?_
            clear hK K
            refine wpAnyS_one (i := 8) rfl (by kernel_rfl) (fun K hK => ?_)
            go_simp
            have hS1 : ((wr.alloc (.cells #[.int .i64 8, .int .i64 n, .int .i64 v, .int .i64 wt, .slice ca l.length cc] 37)).drew.alloc (.cells #[.int .i64 y] 2)).cell? ⟨wr.heap.size, 1, none⟩ = some (.int .i64 n) := ((Kept.refl _).alloc _).cell hS0
            refine hK _ _ (fun _ => hS1) ?_
            clear hK K
            refine wpAnyS_one (i := 9) rfl (by kernel_rfl) (fun K hK => ?_)
            refine step_append_int n64 _ (by rfl) _ _ (by rfl) w.heap.size (.slice (some ⟨g, 0, none⟩) 2 cp) ([x, y1] : List Int).reverse y (wr.alloc (.cells #[.int .i64 8, .int .i64 n, .int .i64 v, .int .i64 wt, .slice ca l.length cc] 37)).drew (by rfl) (by rfl) (wr.heap.size + 1) (by show _ = (wr.alloc _).heap.size; simp) (by rfl) (HM.out.rnd.kept KA) hle1 hle2 ?_
            intro g5 c5 w5 R5 gr5 at5
            have hS5 : w5.cell? ⟨wr.heap.size, 1, none⟩ = some (.int .i64 n) := by
              have t5 : Turns (fun k => k = g) ((wr.alloc (.cells #[.int .i64 8, .int .i64 n, .int .i64 v, .int .i64 wt, .slice ca l.length cc] 37)).drew.alloc (.cells #[.int .i64 y] 2)) w5 := Turns.grown gr5 (fun k e => by simp [Value.ownBlock] at e; exact e.symm)
              exact t5.cell hS1 (cell_lt hS1) hgw
            have M5 := HM.out.push gr5 at5 R5
            rw [hrl] at M5 ⊢
            have HM5 : Hid (Tm w w5 T (j + 1) (.slice (some ⟨g5, 0, none⟩) (2 + 1) c5) (y :: [x, y1])) := M5.skip HT3.out
            clear M5 R5 gr5 at5
            refine hK _ _ (fun _ => hS5) ?_
            clear hK K
            refine wpAnyS_one (i := 10) rfl (by kernel_rfl) (fun K hK => ?_)
            go_simp
            refine hK _ _ (fun h => absurd rfl h) ?_
            clear hK K
            refine wpAnyS_done (by kernel_rfl) ?_ _
            go_wp2_with fail
            go_roundg g3'
            case rel => exact ⟨j + 1, m, m :: lp, y :: [x, y1], by go_num, by omega, HU2, H1.out.1, H1.out.2, HB2, HT4, HM5⟩
            case measure => omega
          · have k8 : (k == 8) = false := beq_eq_false_iff_ne.2 h8
            have KA := ((Kept.refl wr).alloc (.cells #[.int .i64 k, .int .i64 n, .int .i64 v, .int .i64 wt, .slice ca l.length cc] 37))
            by_cases h9 : k = 9
            · subst h9
              obtain ⟨r', hlp, hx1⟩ := take_end rfl htk
              have e1 := (Prod.mk.inj hx1).1
              have e2 := (Prod.mk.inj hx1).2
              clear hx1
              have HT3 : Hid (T.drop j = 0 :: timesGo [y1] (p.drop (j + 1))) := by
                show _ = _
                rw [HT2.out, timesGo, if_neg (by simp), if_pos rfl, if_pos (by simp)]
                rfl
              have HT4 : Hid (T.drop (j + 1) = timesGo [y1] (p.drop (j + 1))) := drop_next HT3.out
              have HM5 : Hid (Tm w (wr.alloc (.cells #[.int .i64 9, .int .i64 n, .int .i64 v, .int .i64 wt, .slice ca l.length cc] 37)) T (j + 1) (.slice (some ⟨g, 0, none⟩) 1 cp) [y1]) := Tm.cut (x := x) (r := [y1]) ((HM.out.keep KA).skip HT3.out)
              have HB2 : Hid (Bds [y1]) := HB.out.2.2
              have HLE : Hid (lp1.length ≤ 3 ∧ ([y1] : List Int).length = lp1.length + 1) := by
                have h1 : 2 = lp.length + 1 := HSL.out
                rw [hlp, ← e2, List.length_cons] at h1
                show lp1.length ≤ 3 ∧ 1 = lp1.length + 1
                omega
              have b6 : (1 : Int) ≤ (cp : Int) := by omega
              clear htk HT2 hlp HB e1 e2
              go_wp2_with fail
              go_roundg g3'
              case rel => exact ⟨j + 1, m1, lp1, [y1], by go_num, by omega, HU2, HLE.out.1, HLE.out.2, HB2, HT4, HM5⟩
              case measure => omega
            · have k9 : (k != 9) = true := by simp [h9]
              obtain ⟨ht1, hx1⟩ := take_plain h8 h9 htk
              simp only at hx1
              subst hx1
              have HT3 : Hid (T.drop j = x :: timesGo [x, y1] (p.drop (j + 1))) := by show _ = _; rw [HT2.out, timesGo, if_neg h8, if_neg h9]; rfl
              have HT4 : Hid (T.drop (j + 1) = timesGo [x, y1] (p.drop (j + 1))) := drop_next HT3.out
              have HM5 : Hid (Tm w ((wr.setCell ⟨w.heap.size, j, none⟩ (.int .i64 x)).alloc (.cells #[.int .i64 k, .int .i64 n, .int .i64 v, .int .i64 wt, .slice ca l.length cc] 37)) T (j + 1) (.slice (some ⟨g, 0, none⟩) 2 cp) [x, y1]) := (HM.out.put HT3.out).keep ((Kept.refl _).alloc _)
              have hall := HM.out.all
              have cz : wr.cell? ⟨w.heap.size, j, none⟩ = some (.int .i64 0) := by
                unfold IRow at hall
                rw [fill_len T j (by omega)] at hall
                rw [hall.cellAt j (by omega), List.getElem?_map, fill_get (by omega)]
                rfl
              have fz : wr.frozen? ⟨w.heap.size, j, none⟩ = false := by
                unfold IRow at hall
                rw [fill_len T j (by omega)] at hall
                exact hall.frozenAt j
              clear htk HT2 hall ht1
              have b7 : (j : Int) < (T.length : Int) := by omega
              go_wp2_with fail
              go_roundg g3'
              case rel => exact ⟨j + 1, m1, lp1, [x, y1], by go_num, by omega, HU2, HL, HSL, HB, HT4, HM5⟩
              case measure => omega
        · have hrl : ([x, y1, y2] : List Int).reverse.length = 3 := by simp
          obtain ⟨g, cp, hv4, hcp, hg1, hg2⟩ := HM.out.rnd.some (by rw [hrl]; omega)
          rw [hrl] at hv4 hcp
          subst hv4
          have cx : wr.cell? ⟨g, 2, none⟩ = some (.int .i64 x) := by
            have h := HM.out.rnd
            exact IRow.cell (c := cp) (l := ([x, y1, y2] : List Int).reverse) (by rw [hrl]; exact h) 2 x (by simp)
          have hsw := (World.ownsRow.lt HM.out.all w.heap.size rfl).2
          have hgw : ¬ wr.heap.size = g := by omega
          by_cases h8 : k = 8
          · subst h8
            obtain ⟨hl3, hx1⟩ := take_loop rfl htk
            cases hx1
            obtain ⟨hn1, hn2⟩ := loop_n HCK.out
            have HB2 : Hid (Bds (x * n :: [x, y1, y2])) := bds_push HB.out hn1 hn2
            obtain ⟨y, hy⟩ : ∃ y, x * n = y := ⟨_, rfl⟩
            have hyb : 1 ≤ y ∧ y ≤ 1048576 := by
              obtain ⟨q1, q2, _⟩ := HB2.out
              have : x * n ≤ 32768 * 32 := Int.mul_le_mul hxb.2 hn2 (by omega) (by omega)
              rw [← hy]
              exact ⟨q1, by omega⟩
            have HT3 : Hid (T.drop j = 0 :: timesGo (y :: [x, y1, y2]) (p.drop (j + 1))) := by show _ = _; rw [HT2.out, timesGo, if_pos rfl, ← hy]; rfl
            have HT4 : Hid (T.drop (j + 1) = timesGo (y :: [x, y1, y2]) (p.drop (j + 1))) := drop_next HT3.out
            have KA := ((Kept.refl wr).alloc (.cells #[.int .i64 8, .int .i64 n, .int .i64 v, .int .i64 wt, .slice ca l.length cc] 37)).drew
            have hle1 : ([x, y1, y2] : List Int).reverse.length ≤ 1000000 := by rw [hrl]; omega
            have hle2 : w.heap.size ≤ (wr.alloc (.cells #[.int .i64 8, .int .i64 n, .int .i64 v, .int .i64 wt, .slice ca l.length cc] 37)).drew.heap.size := by have := KA.size; omega
            have H2 : Hid ((m :: lp).length ≤ 3 ∧ (y :: [x, y1, y2]).length = (m :: lp).length + 1) := by
              have h2 : 3 = lp.length + 1 := HSL.out
              show lp.length + 1 ≤ 3 ∧ 3 + 1 = lp.length + 1 + 1
              omega
            rw [hy] at HB2
            have HWM : Hid (IntKind.i64.wrap y = y) := by show _ = _; simp [IntKind.wrap, IntKind.bits, IntKind.signed]; omega
            clear htk HT2
            go_wp2_with fail
            refine wp_region_S (by kernel_rfl) 10 (fun w' => w'.cell? ⟨wr.heap.size, 1, none⟩ = some (.int .i64 n)) ?_
            have hS0 : (wr.alloc (.cells #[.int .i64 8, .int .i64 n, .int .i64 v, .int .i64 wt, .slice ca l.length cc] 37)).drew.cell? ⟨wr.heap.size, 1, none⟩ = some (.int .i64 n) := (box_new 0 wr 37 [.int .i64 8, .int .i64 n, .int .i64 v, .int .i64 wt, .slice ca l.length cc] (Nat.zero_le _) (by simp)).cell 1 (by simp)
            refine wpAnyS_take (i := 0) (v := .slice (some ⟨g, 0, none⟩) 3 cp) rfl (by kernel_rfl) (by kernel_rfl) (by kernel_rfl) (by kernel_rfl) (fun _ _ _ h => h) hS0 rfl (fun wx hx => by go_simp) ?_
            refine wpAnyS_take (i := 1) (v := .slice (some ⟨g, 0, none⟩) 3 cp) rfl (by kernel_rfl) (by kernel_rfl) (by kernel_rfl) (by kernel_rfl) (fun _ _ _ h => h) hS0 rfl (fun wx hx => by go_simp) ?_
            refine wpAnyS_take (i := 2) (v := .int .i64 2) rfl (by kernel_rfl) (by kernel_rfl) (by kernel_rfl) (by kernel_rfl) (fun _ _ _ h => h) hS0 rfl (fun wx hx => by go_simp) ?_
            refine wpAnyS_take (i := 3) (v := .pointer (some ⟨g, 2, none⟩)) rfl (by kernel_rfl) (by kernel_rfl) (by kernel_rfl) (by kernel_rfl) (fun _ _ _ h => h) hS0 rfl (fun wx hx => by go_simp) ?_
            refine wpAnyS_take (i := 5) (v := .pointer (some ⟨wr.heap.size, 1, none⟩)) rfl (by kernel_rfl) (by kernel_rfl) (by kernel_rfl) (by kernel_rfl) (fun _ _ _ h => h) hS0 rfl (fun wx hx => by go_simp) ?_
            refine wpAnyS_take (i := 6) (v := .int .i64 n) rfl (by kernel_rfl) (by kernel_rfl) (by kernel_rfl) (by kernel_rfl) (fun _ _ _ h => h) hS0 rfl (fun wx hx => by go_simp) ?_
            refine wpAnyS_one (i := 4) rfl (by kernel_rfl) (fun K hK => ?_)
            go_simp
            refine hK _ _ (fun _ => hS0) ?_
            clear hK K
            refine wpAnyS_one (i := 7) rfl (by kernel_rfl) (fun K hK => ?_)
            go_simp
            rw [HWM.out]
            refine hK _ _ (fun _ => hS0) ?_
            clear hK K
            refine wpAnyS_one (i := 8) rfl (by kernel_rfl) (fun K hK => ?_)
            go_simp
            have hS1 : ((wr.alloc (.cells #[.int .i64 8, .int .i64 n, .int .i64 v, .int .i64 wt, .slice ca l.length cc] 37)).drew.alloc (.cells #[.int .i64 y] 2)).cell? ⟨wr.heap.size, 1, none⟩ = some (.int .i64 n) := ((Kept.refl _).alloc _).cell hS0
            refine hK _ _ (fun _ => hS1) ?_
            clear hK K
            refine wpAnyS_one (i := 9) rfl (by kernel_rfl) (fun K hK => ?_)
            refine step_append_int n64 _ (by rfl) _ _ (by rfl) w.heap.size (.slice (some ⟨g, 0, none⟩) 3 cp) ([x, y1, y2] : List Int).reverse y (wr.alloc (.cells #[.int .i64 8, .int .i64 n, .int .i64 v, .int .i64 wt, .slice ca l.length cc] 37)).drew (by rfl) (by rfl) (wr.heap.size + 1) (by show _ = (wr.alloc _).heap.size; simp) (by rfl) (HM.out.rnd.kept KA) hle1 hle2 ?_
            intro g5 c5 w5 R5 gr5 at5
            have hS5 : w5.cell? ⟨wr.heap.size, 1, none⟩ = some (.int .i64 n) := by
              have t5 : Turns (fun k => k = g) ((wr.alloc (.cells #[.int .i64 8, .int .i64 n, .int .i64 v, .int .i64 wt, .slice ca l.length cc] 37)).drew.alloc (.cells #[.int .i64 y] 2)) w5 := Turns.grown gr5 (fun k e => by simp [Value.ownBlock] at e; exact e.symm)
              exact t5.cell hS1 (cell_lt hS1) hgw
            have M5 := HM.out.push gr5 at5 R5
            rw [hrl] at M5 ⊢
            have HM5 : Hid (Tm w w5 T (j + 1) (.slice (some ⟨g5, 0, none⟩) (3 + 1) c5) (y :: [x, y1, y2])) := M5.skip HT3.out
            clear M5 R5 gr5 at5
            refine hK _ _ (fun _ => hS5) ?_
            clear hK K
            refine wpAnyS_one (i := 10) rfl (by kernel_rfl) (fun K hK => ?_)
            go_simp
            refine hK _ _ (fun h => absurd rfl h) ?_
            clear hK K
            refine wpAnyS_done (by kernel_rfl) ?_ _
            go_wp2_with fail
            go_roundg g3'
            case rel => exact ⟨j + 1, m, m :: lp, y :: [x, y1, y2], by go_num, by omega, HU2, H2.out.1, H2.out.2, HB2, HT4, HM5⟩
            case measure => omega
          · have k8 : (k == 8) = false := beq_eq_false_iff_ne.2 h8
            have KA := ((Kept.refl wr).alloc (.cells #[.int .i64 k, .int .i64 n, .int .i64 v, .int .i64 wt, .slice ca l.length cc] 37))
            by_cases h9 : k = 9
            · subst h9
              obtain ⟨r', hlp, hx1⟩ := take_end rfl htk
              have e1 := (Prod.mk.inj hx1).1
              have e2 := (Prod.mk.inj hx1).2
              clear hx1
              have HT3 : Hid (T.drop j = 0 :: timesGo [y1, y2] (p.drop (j + 1))) := by
                show _ = _
                rw [HT2.out, timesGo, if_neg (by simp), if_pos rfl, if_pos (by simp)]
                rfl
              have HT4 : Hid (T.drop (j + 1) = timesGo [y1, y2] (p.drop (j + 1))) := drop_next HT3.out
              have HM5 : Hid (Tm w (wr.alloc (.cells #[.int .i64 9, .int .i64 n, .int .i64 v, .int .i64 wt, .slice ca l.length cc] 37)) T (j + 1) (.slice (some ⟨g, 0, none⟩) 2 cp) [y1, y2]) := Tm.cut (x := x) (r := [y1, y2]) ((HM.out.keep KA).skip HT3.out)
              have HB2 : Hid (Bds [y1, y2]) := HB.out.2.2
              have HLE : Hid (lp1.length ≤ 3 ∧ ([y1, y2] : List Int).length = lp1.length + 1) := by
                have h1 : 3 = lp.length + 1 := HSL.out
                rw [hlp, ← e2, List.length_cons] at h1
                show lp1.length ≤ 3 ∧ 2 = lp1.length + 1
                omega
              have b6 : (2 : Int) ≤ (cp : Int) := by omega
              clear htk HT2 hlp HB e1 e2
              go_wp2_with fail
              go_roundg g3'
              case rel => exact ⟨j + 1, m1, lp1, [y1, y2], by go_num, by omega, HU2, HLE.out.1, HLE.out.2, HB2, HT4, HM5⟩
              case measure => omega
            · have k9 : (k != 9) = true := by simp [h9]
              obtain ⟨ht1, hx1⟩ := take_plain h8 h9 htk
              simp only at hx1
              subst hx1
              have HT3 : Hid (T.drop j = x :: timesGo [x, y1, y2] (p.drop (j + 1))) := by show _ = _; rw [HT2.out, timesGo, if_neg h8, if_neg h9]; rfl
              have HT4 : Hid (T.drop (j + 1) = timesGo [x, y1, y2] (p.drop (j + 1))) := drop_next HT3.out
              have HM5 : Hid (Tm w ((wr.setCell ⟨w.heap.size, j, none⟩ (.int .i64 x)).alloc (.cells #[.int .i64 k, .int .i64 n, .int .i64 v, .int .i64 wt, .slice ca l.length cc] 37)) T (j + 1) (.slice (some ⟨g, 0, none⟩) 3 cp) [x, y1, y2]) := (HM.out.put HT3.out).keep ((Kept.refl _).alloc _)
              have hall := HM.out.all
              have cz : wr.cell? ⟨w.heap.size, j, none⟩ = some (.int .i64 0) := by
                unfold IRow at hall
                rw [fill_len T j (by omega)] at hall
                rw [hall.cellAt j (by omega), List.getElem?_map, fill_get (by omega)]
                rfl
              have fz : wr.frozen? ⟨w.heap.size, j, none⟩ = false := by
                unfold IRow at hall
                rw [fill_len T j (by omega)] at hall
                exact hall.frozenAt j
              clear htk HT2 hall ht1
              have b7 : (j : Int) < (T.length : Int) := by omega
              go_wp2_with fail
              go_roundg g3'
              case rel => exact ⟨j + 1, m1, lp1, [x, y1, y2], by go_num, by omega, HU2, HL, HSL, HB, HT4, HM5⟩
              case measure => omega
        · have hrl : ([x, y1, y2, y3] : List Int).reverse.length = 4 := by simp
          obtain ⟨g, cp, hv4, hcp, hg1, hg2⟩ := HM.out.rnd.some (by rw [hrl]; omega)
          rw [hrl] at hv4 hcp
          subst hv4
          have cx : wr.cell? ⟨g, 3, none⟩ = some (.int .i64 x) := by
            have h := HM.out.rnd
            exact IRow.cell (c := cp) (l := ([x, y1, y2, y3] : List Int).reverse) (by rw [hrl]; exact h) 3 x (by simp)
          have hsw := (World.ownsRow.lt HM.out.all w.heap.size rfl).2
          have hgw : ¬ wr.heap.size = g := by omega
          by_cases h8 : k = 8
          · subst h8
            obtain ⟨hl3, hx1⟩ := take_loop rfl htk
            have h2 := HSL.out
            simp only [List.length_cons, List.length_nil] at h2
            omega
          · have k8 : (k == 8) = false := beq_eq_false_iff_ne.2 h8
            have KA := ((Kept.refl wr).alloc (.cells #[.int .i64 k, .int .i64 n, .int .i64 v, .int .i64 wt, .slice ca l.length cc] 37))
            by_cases h9 : k = 9
            · subst h9
              obtain ⟨r', hlp, hx1⟩ := take_end rfl htk
              have e1 := (Prod.mk.inj hx1).1
              have e2 := (Prod.mk.inj hx1).2
              clear hx1
              have HT3 : Hid (T.drop j = 0 :: timesGo [y1, y2, y3] (p.drop (j + 1))) := by
                show _ = _
                rw [HT2.out, timesGo, if_neg (by simp), if_pos rfl, if_pos (by simp)]
                rfl
              have HT4 : Hid (T.drop (j + 1) = timesGo [y1, y2, y3] (p.drop (j + 1))) := drop_next HT3.out
              have HM5 : Hid (Tm w (wr.alloc (.cells #[.int .i64 9, .int .i64 n, .int .i64 v, .int .i64 wt, .slice ca l.length cc] 37)) T (j + 1) (.slice (some ⟨g, 0, none⟩) 3 cp) [y1, y2, y3]) := Tm.cut (x := x) (r := [y1, y2, y3]) ((HM.out.keep KA).skip HT3.out)
              have HB2 : Hid (Bds [y1, y2, y3]) := HB.out.2.2
              have HLE : Hid (lp1.length ≤ 3 ∧ ([y1, y2, y3] : List Int).length = lp1.length + 1) := by
                have h1 : 4 = lp.length + 1 := HSL.out
                rw [hlp, ← e2, List.length_cons] at h1
                show lp1.length ≤ 3 ∧ 3 = lp1.length + 1
                omega
              have b6 : (3 : Int) ≤ (cp : Int) := by omega
              clear htk HT2 hlp HB e1 e2
              go_wp2_with fail
              go_roundg g3'
              case rel => exact ⟨j + 1, m1, lp1, [y1, y2, y3], by go_num, by omega, HU2, HLE.out.1, HLE.out.2, HB2, HT4, HM5⟩
              case measure => omega
            · have k9 : (k != 9) = true := by simp [h9]
              obtain ⟨ht1, hx1⟩ := take_plain h8 h9 htk
              simp only at hx1
              subst hx1
              have HT3 : Hid (T.drop j = x :: timesGo [x, y1, y2, y3] (p.drop (j + 1))) := by show _ = _; rw [HT2.out, timesGo, if_neg h8, if_neg h9]; rfl
              have HT4 : Hid (T.drop (j + 1) = timesGo [x, y1, y2, y3] (p.drop (j + 1))) := drop_next HT3.out
              have HM5 : Hid (Tm w ((wr.setCell ⟨w.heap.size, j, none⟩ (.int .i64 x)).alloc (.cells #[.int .i64 k, .int .i64 n, .int .i64 v, .int .i64 wt, .slice ca l.length cc] 37)) T (j + 1) (.slice (some ⟨g, 0, none⟩) 4 cp) [x, y1, y2, y3]) := (HM.out.put HT3.out).keep ((Kept.refl _).alloc _)
              have hall := HM.out.all
              have cz : wr.cell? ⟨w.heap.size, j, none⟩ = some (.int .i64 0) := by
                unfold IRow at hall
                rw [fill_len T j (by omega)] at hall
                rw [hall.cellAt j (by omega), List.getElem?_map, fill_get (by omega)]
                rfl
              have fz : wr.frozen? ⟨w.heap.size, j, none⟩ = false := by
                unfold IRow at hall
                rw [fill_len T j (by omega)] at hall
                exact hall.frozenAt j
              clear htk HT2 hall ht1
              have b7 : (j : Int) < (T.length : Int) := by omega
              go_wp2_with fail
              go_roundg g3'
              case rel => exact ⟨j + 1, m1, lp1, [x, y1, y2, y3], by go_num, by omega, HU2, HL, HSL, HB, HT4, HM5⟩
              case measure => omega
        · simp at hs4
    · have b1 : ¬ (j : Int) < (p.length : Int) := by omega
      go_wp2_with fail
      go_ret
      refine ⟨_, rfl, ?_, HM.out.kept⟩
      have h := HM.out.all
      have e : fillTo T j = T := by unfold fillTo; rw [List.take_of_length_le (by omega), show T.length - j = 0 by omega]; simp
      rw [e, hTl] at h
      exact h
end Go.Proofs.YtolljdomnohmdabGreatDoor
namespace Go.Proofs.YtolljdomnohmdabGreatDoor
open Go.RowKit

theorem times_bds : ∀ (p : List OpD) (m : Nat) (lp : List Nat) (st : List Int), runM m lp p = some (0, []) → (∀ o ∈ p, checkD o = 0) → st.length = lp.length + 1 → lp.length ≤ 3 → Bds st → ∀ x ∈ timesGo st p, 0 ≤ x ∧ x ≤ 32768
  | [], _, _, _, _, _, _, _, _, x, hx => by simp [timesGo] at hx
  | o :: p, m, lp, st, hr, hc, hs, hl, hb, x, hx => by
    obtain ⟨m1, lp1, ht, hru⟩ := run_cons hr
    have hc2 : ∀ o ∈ p, checkD o = 0 := fun q hq => hc q (by simp [hq])
    cases st with
    | nil => simp at hs
    | cons y r =>
      have hr3 : r.length = lp.length := by simpa using hs
      rw [timesGo] at hx
      split at hx
      · rename_i h8
        obtain ⟨h3, e⟩ := take_loop h8 ht
        cases e
        rcases List.mem_cons.1 hx with rfl | hx
        · omega
        · have hn : 1 ≤ o.n ∧ o.n ≤ 32 := by
            obtain ⟨k, n, v, wt, l⟩ := o
            simp only at h8
            subst h8
            exact loop_n (hc ⟨8, n, v, wt, l⟩ List.mem_cons_self)
          exact times_bds p m (m :: lp) (y * o.n :: y :: r) hru hc2 (by simp; omega) (by simp; omega) (bds_push hb hn.1 hn.2) x (by simpa using hx)
      · rename_i h8
        split at hx
        · rename_i h9
          obtain ⟨r', hlp, e⟩ := take_end h9 ht
          cases e
          rcases List.mem_cons.1 hx with rfl | hx
          · omega
          · rw [hlp] at hr3 hl
            simp only [List.length_cons] at hr3 hl
            rw [if_pos (by simp; omega)] at hx
            exact times_bds p m lp1 r hru hc2 (by omega) (by omega) hb.2.2 x (by simpa using hx)
        · rename_i h9
          obtain ⟨_, e⟩ := take_plain h8 h9 ht
          simp only at e
          subst e
          have hb1 := bds_top hb (by omega)
          rcases List.mem_cons.1 hx with e | hx
          · rw [show x = y from e]
            omega
          · exact times_bds p m1 lp1 (y :: r) hru hc2 hs hl hb x hx
theorem sum_next : ∀ (T : List Int) (j : Nat) (x : Int), T[j]? = some x → sumL (T.take (j + 1)) = sumL (T.take j) + x
  | [], _, _, h => by simp at h
  | y :: r, 0, x, h => by
    simp at h
    subst h
    simp [sumL]
  | y :: r, j + 1, x, h => by
    have := sum_next r j x (by simpa using h)
    simp only [List.take_succ_cons, sumL]
    rw [this]
    omega
theorem sum_bds (M : Int) (hM : 0 ≤ M) : ∀ (T : List Int), (∀ x ∈ T, 0 ≤ x ∧ x ≤ M) → 0 ≤ sumL T ∧ sumL T ≤ M * T.length
  | [], _ => by simp [sumL]
  | y :: r, h => by
    have h1 := sum_bds M hM r (fun x hx => h x (by simp [hx]))
    have h2 := h y (by simp)
    rw [sumL, List.length_cons]
    have : M * ((r.length + 1 : Nat) : Int) = M * (r.length : Int) + M := by rw [Int.natCast_add, Int.mul_add]; simp
    omega
/-- What each op costs. -/
def costs : List OpD → List Int → List Int
  | o :: p, x :: t => (if o.kind = 1 then x * o.n else 0) :: costs p t
  | _, _ => []
theorem costs_get : ∀ (p : List OpD) (T : List Int) (j : Nat) (o : OpD) (x : Int), p[j]? = some o → T[j]? = some x → (costs p T)[j]? = some (if o.kind = 1 then x * o.n else 0)
  | [], _, _, _, _, h, _ => by simp at h
  | _ :: _, [], _, _, _, _, h => by simp at h
  | q :: p, y :: t, 0, o, x, h1, h2 => by
    simp at h1 h2
    subst h1 h2
    rfl
  | q :: p, y :: t, j + 1, o, x, h1, h2 => by
    simp only [costs, List.getElem?_cons_succ] at h1 h2 ⊢
    exact costs_get p t j o x h1 h2
theorem run_n {n v wt : Int} {l : List CaseD} (h : checkD ⟨1, n, v, wt, l⟩ = 0) : 1 ≤ n ∧ n ≤ 1000 := by
  have := (taken_of h).takes
  simp [takesB, shapeOf] at this
  omega
theorem costs_bds : ∀ (p : List OpD) (T : List Int), (∀ o ∈ p, checkD o = 0) → (∀ x ∈ T, 0 ≤ x ∧ x ≤ 32768) → ∀ y ∈ costs p T, 0 ≤ y ∧ y ≤ 32768000
  | [], _, _, _, y, hy => by simp [costs] at hy
  | _ :: _, [], _, _, y, hy => by simp [costs] at hy
  | o :: p, x :: t, hc, ht, y, hy => by
    rw [costs] at hy
    rcases List.mem_cons.1 hy with rfl | hy
    · split
      · rename_i h1
        obtain ⟨k, n, v, wt, l⟩ := o
        simp only at h1
        subst h1
        have hn := run_n (hc ⟨1, n, v, wt, l⟩ List.mem_cons_self)
        have hx := ht x (by simp)
        refine ⟨Int.mul_nonneg hx.1 (by simp only; omega), ?_⟩
        have : x * n ≤ 32768 * 1000 := Int.mul_le_mul hx.2 hn.2 (by omega) (by omega)
        simp only
        omega
      · omega
    · exact costs_bds p t (fun o ho => hc o (by simp [ho])) (fun x hx => ht x (by simp [hx])) y hy
theorem costs_len : ∀ (p : List OpD) (T : List Int), T.length = p.length → (costs p T).length = p.length
  | [], _, _ => by simp [costs]
  | _ :: _, [], h => by simp at h
  | o :: p, x :: t, h => by rw [costs]; simp [costs_len p t (by simpa using h)]
def costD (p : List OpD) : Int := sumL (costs p (timesGo [1] p))
theorem bds1 : Bds [1] := by simp [Bds]

set_option maxHeartbeats 2000000 in
theorem steps_any (a : Option Addr) (c : Nat) (p : List OpD) (w : World) (hA : AtP w a p) (hp : p.length ≤ 100) (hc : ∀ o ∈ p, checkD o = 0) (hrun : runM 0 [] p = some (0, [])) :
    Calls Tryz.prog 89 #[.slice a p.length c] w fun e w' => e = .returned (.int .i64 (stepsD p)) ∧ Kept w w' := by
  have HB : Hid (∀ x ∈ timesGo [1] p, 0 ≤ x ∧ x ≤ 32768) := times_bds p 0 [] [1] hrun hc rfl (by simp) bds1
  have htm := times_any a c p w hA (by omega) hc hrun
  have HD : Hid (stepsD p = sumL (timesGo [1] p)) := rfl
  obtain ⟨T, hT⟩ : ∃ T, timesGo [1] p = T := ⟨_, rfl⟩
  have hTl : T.length = p.length := by rw [← hT, times_len]
  rw [hT] at htm HB HD
  clear hA hc hrun hT
  go_enter Tryz.func89, Tryz.ntmps89
  go_wp2_with fail
  refine htm.mono ?_
  rintro e w1 ⟨v, rfl, R, K1⟩
  obtain ⟨va, vc, hv, _⟩ := R.form
  subst hv
  have HR : Hid (IRow 2 w.heap.size w1 (.slice va T.length vc) T) := R
  clear R htm
  go_wp2_with fail
  go_loopg [3, 9] T.length (fun gk s i wr => ∃ j : Nat, i = .int .i64 j ∧ s = .int .i64 (sumL (T.take j)) ∧ j + gk = T.length ∧ wr = w1)
  case atStart => exact ⟨0, rfl, by simp [sumL], by omega, rfl⟩
  case round =>
    obtain ⟨j, rfl, rfl, hj, hw⟩ := hrel
    subst wr
    by_cases hjp : j < T.length
    · have b1 : (j : Int) < (T.length : Int) := by omega
      have b2 : (0 : Int) ≤ (j : Int) := by omega
      obtain ⟨g, cp, hv, _, _, hgl⟩ := HR.out.some (by omega)
      obtain ⟨rfl, hcp⟩ : va = some ⟨g, 0, none⟩ ∧ vc = cp := by cases hv; exact ⟨rfl, rfl⟩
      clear hv
      obtain ⟨x, hx⟩ : ∃ x, T[j]? = some x := ⟨_, List.getElem?_eq_getElem hjp⟩
      have cx : w1.cell? ⟨g, j, none⟩ = some (.int .i64 x) := HR.out.cell j x hx
      have hxb := HB.out x (List.mem_of_getElem? hx)
      have hsb := sum_bds 32768 (by omega) (T.take j) (fun y hy => HB.out y (List.mem_of_mem_take hy))
      have hlt : ((T.take j).length : Int) ≤ 100 := by rw [List.length_take]; omega
      have HN : Hid (sumL (T.take (j + 1)) = sumL (T.take j) + x) := sum_next T j x hx
      obtain ⟨sj, hsj⟩ : ∃ z, sumL (T.take j) = z := ⟨_, rfl⟩
      rw [hsj] at hsb HN ⊢
      have hs0 : 0 ≤ sj := hsb.1
      have hs1 : sj ≤ 3276800 := by omega
      obtain ⟨hx0, hx1⟩ := hxb
      clear hsb hlt hsj hx
      obtain ⟨g3', rfl⟩ : ∃ g, gk = g + 1 := ⟨gk - 1, by omega⟩
      go_wp2_with fail
      go_roundg g3'
      case rel => exact ⟨j + 1, by go_num, by rw [HN.out], by omega, rfl⟩
      case measure => omega
    · have b1 : ¬ (j : Int) < (T.length : Int) := by omega
      have e : T.take j = T := List.take_of_length_le (by omega)
      rw [e, ← HD.out]
      go_wp2_with fail
      go_ret
      exact ⟨rfl, K1⟩

set_option maxHeartbeats 2000000 in
theorem cost_any (a : Option Addr) (c : Nat) (p : List OpD) (w : World) (hA : AtP w a p) (hp : p.length ≤ 100) (hc : ∀ o ∈ p, checkD o = 0) (hrun : runM 0 [] p = some (0, [])) :
    Calls Tryz.prog 67 #[.slice a p.length c] w fun e w' => e = .returned (.int .i64 (costD p)) ∧ Kept w w' := by
  have HB : Hid (∀ x ∈ timesGo [1] p, 0 ≤ x ∧ x ≤ 32768) := times_bds p 0 [] [1] hrun hc rfl (by simp) bds1
  have HCB : Hid (∀ y ∈ costs p (timesGo [1] p), 0 ≤ y ∧ y ≤ 32768000) := costs_bds p _ hc HB.out
  have htm := times_any a c p w hA (by omega) hc hrun
  have HA : Hid (AtP w a p) := hA
  have HC : Hid (∀ o ∈ p, checkD o = 0) := hc
  obtain ⟨T, hT⟩ : ∃ T, timesGo [1] p = T := ⟨_, rfl⟩
  have hTl : T.length = p.length := by rw [← hT, times_len]
  have HD : Hid (costD p = sumL (costs p T)) := by show _ = _; rw [← hT]; rfl
  rw [hT] at htm HB HCB
  have HCL : Hid ((costs p T).length = p.length) := costs_len p T hTl
  clear hA hc hrun hT
  go_enter Tryz.func67, Tryz.ntmps67
  go_wp2_with fail
  refine htm.mono ?_
  rintro e w1 ⟨v, rfl, R, K1⟩
  obtain ⟨va, vc, hv, _⟩ := R.form
  subst hv
  have HR : Hid (IRow 2 w.heap.size w1 (.slice va T.length vc) T) := R
  clear R htm
  go_wp2_with fail
  go_loopg [3, 9] T.length (fun gk s i wr => ∃ j : Nat, i = .int .i64 j ∧ s = .int .i64 (sumL ((costs p T).take j)) ∧ j + gk = T.length ∧ wr = w1)
  case atStart => exact ⟨0, rfl, by simp [sumL], by omega, rfl⟩
  case round =>
    obtain ⟨j, rfl, rfl, hj, hw⟩ := hrel
    subst wr
    by_cases hjp : j < T.length
    · have b1 : (j : Int) < (T.length : Int) := by omega
      have b2 : (0 : Int) ≤ (j : Int) := by omega
      have b3 : (j : Int) < (p.length : Int) := by omega
      obtain ⟨g, cp, hv, _, _, hgl⟩ := HR.out.some (by omega)
      obtain ⟨rfl, hcp⟩ : va = some ⟨g, 0, none⟩ ∧ vc = cp := by cases hv; exact ⟨rfl, rfl⟩
      clear hv
      obtain ⟨x, hx⟩ : ∃ x, T[j]? = some x := ⟨_, List.getElem?_eq_getElem hjp⟩
      have cx : w1.cell? ⟨g, j, none⟩ = some (.int .i64 x) := HR.out.cell j x hx
      obtain ⟨b, f, k, n, v, wt, l, ca, cc, rfl, hpj, g0, g1, g2, g3, g4, hcc, hat, hbl, hdr⟩ := (HA.out.kept K1).get j (by omega)
      have hgj := costs_get p T j _ x hpj hx
      simp only at hgj
      have hsb := sum_bds 32768000 (by omega) ((costs p T).take j) (fun y hy => HCB.out y (List.mem_of_mem_take hy))
      have hlt : (((costs p T).take j).length : Int) ≤ 100 := by rw [List.length_take]; omega
      have HN := sum_next (costs p T) j _ hgj
      have hyb := HCB.out _ (List.mem_of_getElem? hgj)
      obtain ⟨sj, hsj⟩ : ∃ z, sumL ((costs p T).take j) = z := ⟨_, rfl⟩
      rw [hsj] at hsb HN ⊢
      have hs0 : 0 ≤ sj := hsb.1
      have hs1 : sj ≤ 3276800000 := by omega
      obtain ⟨g3', rfl⟩ : ∃ g, gk = g + 1 := ⟨gk - 1, by omega⟩
      clear hsb hlt hsj hdr hat hgj
      by_cases h1 : k = 1
      · subst h1
        rw [if_pos rfl] at HN hyb
        obtain ⟨y, hy⟩ : ∃ y, x * n = y := ⟨_, rfl⟩
        rw [hy] at HN hyb
        have HN2 : Hid (sumL ((costs p T).take (j + 1)) = sj + y) := HN
        obtain ⟨hy0, hy1⟩ := hyb
        have hwy : IntKind.i64.wrap y = y := by simp [IntKind.wrap, IntKind.bits, IntKind.signed]; omega
        clear HN hx hpj
        go_wp2_with fail
        go_roundg g3'
        case rel => exact ⟨j + 1, by go_num, by rw [HN2.out], by omega, rfl⟩
        case measure => omega
      · rw [if_neg h1] at HN
        have HN2 : Hid (sumL ((costs p T).take (j + 1)) = sj) := by show _ = _; rw [HN]; omega
        have k1 : (k == 1) = false := beq_eq_false_iff_ne.2 h1
        clear HN hx hpj hyb
        go_wp2_with fail
        go_roundg g3'
        case rel => exact ⟨j + 1, by go_num, by rw [HN2.out], by omega, rfl⟩
        case measure => omega
    · have b1 : ¬ (j : Int) < (T.length : Int) := by omega
      have e : (costs p T).take j = costs p T := List.take_of_length_le (by rw [HCL.out]; omega)
      rw [e, ← HD.out]
      go_wp2_with fail
      go_ret
      exact ⟨rfl, K1⟩

theorem run_of_ord {p : List OpD} (h : (ordGo 0 0 [] p).2 = 0) : runM 0 [] p = some (0, []) := by
  by_cases hp : p = []
  · subst hp; rfl
  · exact ord_run p 0 0 [] hp h
theorem ord_err : ∀ (p : List OpD) (i m : Nat) (lp : List Nat), ordGo i m lp p = (0, 0) ∨ (ordGo i m lp p).2 = 11
  | [], _, _, _ => .inl rfl
  | o :: r, i, m, lp => by
    rw [ordGo]
    cases takeM m lp o with
    | none => exact .inr rfl
    | some y =>
      simp only
      split
      · exact .inr rfl
      · exact ord_err r (i + 1) y.1 y.2
theorem each_zero : ∀ (p : List OpD) (i : Nat), (eachGo i p).2 = 0 → eachGo i p = (0, 0)
  | [], _, _ => rfl
  | o :: r, i, h => by
    rw [eachGo] at h ⊢
    split at h
    · rename_i hz
      rw [if_pos hz]
      exact each_zero r (i + 1) h
    · rename_i hz
      exact absurd h hz

set_option maxHeartbeats 2000000 in
theorem pcheck_any (a : Option Addr) (c : Nat) (p : List OpD) (w : World) (hr : Rdy w) (hA : AtP w a p) (hp : p.length ≤ 100000) (hcs : ∀ o ∈ p, o.cases.length ≤ 1000000) :
    Calls Tryz.prog 66 #[.slice a p.length c] w fun e w' => e = .returned (.tuple #[.int .i64 (checkP p).1, .int .i64 (checkP p).2]) ∧ Kept w w' := by
  by_cases h48 : 48 < p.length
  · have HP : Hid (checkP p = (0, 18)) := by show _ = _; unfold checkP; rw [if_pos h48]
    have b1 : (p.length : Int) > 48 := by omega
    go_enter Tryz.func66, Tryz.ntmps66
    go_wp2_with fail
    go_ret2
    rw [HP.out]
    exact ⟨rfl, Kept.refl w⟩
  · have b1 : ¬ (p.length : Int) > 48 := by omega
    have hea := each_any a c p w hr hA hp hcs
    by_cases he : (eachGo 0 p).2 = 0
    · have hz := each_zero p 0 he
      rw [hz] at hea
      have hall := each_all p 0 he
      have hoa := fun w' (k : Kept w w') => order_any a c p w' (hr.kept k) (hA.kept k) hp hall
      by_cases ho : (ordGo 0 0 [] p).2 = 0
      · have hz2 : ordGo 0 0 [] p = (0, 0) := by
          rcases ord_err p 0 0 [] with h | h
          · exact h
          · rw [h] at ho; simp at ho
        rw [hz2] at hoa
        have hsa := fun w' (k : Kept w w') => steps_any a c p w' (hA.kept k) (by omega) hall (run_of_ord ho)
        by_cases hs : 512 < stepsD p
        · have HP : Hid (checkP p = (0, 4)) := by show _ = _; unfold checkP; rw [if_neg h48, if_pos he, if_pos ho, if_pos hs]
          have b2 : stepsD p > 512 := hs
          clear he ho hs hall hz hz2
          go_enter Tryz.func66, Tryz.ntmps66
          go_wp2_with fail
          refine hea.mono ?_
          rintro e w1 ⟨rfl, K1⟩
          go_wp2_with fail
          refine (hoa w1 K1).mono ?_
          rintro e w2 ⟨rfl, t2⟩
          go_wp2_with fail
          refine (hsa w2 (K1.trans t2)).mono ?_
          rintro e w3 ⟨rfl, t3⟩
          go_wp2_with fail
          go_ret2
          rw [HP.out]
          exact ⟨rfl, (K1.trans t2).trans t3⟩
        · have HP : Hid (checkP p = (0, 0)) := by show _ = _; unfold checkP; rw [if_neg h48, if_pos he, if_pos ho, if_neg hs]
          have b2 : ¬ stepsD p > 512 := hs
          clear he ho hs hall hz hz2
          go_enter Tryz.func66, Tryz.ntmps66
          go_wp2_with fail
          refine hea.mono ?_
          rintro e w1 ⟨rfl, K1⟩
          go_wp2_with fail
          refine (hoa w1 K1).mono ?_
          rintro e w2 ⟨rfl, t2⟩
          go_wp2_with fail
          refine (hsa w2 (K1.trans t2)).mono ?_
          rintro e w3 ⟨rfl, t3⟩
          go_wp2_with fail
          go_ret2
          rw [HP.out]
          exact ⟨rfl, (K1.trans t2).trans t3⟩
      · have HP : Hid (checkP p = ordGo 0 0 [] p) := by show _ = _; unfold checkP; rw [if_neg h48, if_pos he, if_neg ho]
        have hne : ((ordGo 0 0 [] p).2 == 0) = false := beq_eq_false_iff_ne.2 ho
        clear he ho hall hz
        go_enter Tryz.func66, Tryz.ntmps66
        go_wp2_with fail
        refine hea.mono ?_
        rintro e w1 ⟨rfl, K1⟩
        go_wp2_with fail
        refine (hoa w1 K1).mono ?_
        rintro e w2 ⟨rfl, t2⟩
        go_wp2_with fail
        go_ret2
        rw [HP.out]
        exact ⟨rfl, K1.trans t2⟩
    · have HP : Hid (checkP p = eachGo 0 p) := by show _ = _; unfold checkP; rw [if_neg h48, if_neg he]
      have hne : ((eachGo 0 p).2 == 0) = false := beq_eq_false_iff_ne.2 he
      clear he
      go_enter Tryz.func66, Tryz.ntmps66
      go_wp2_with fail
      refine hea.mono ?_
      rintro e w1 ⟨rfl, K1⟩
      go_wp2_with fail
      go_ret2
      rw [HP.out]
      exact ⟨rfl, K1⟩
end Go.Proofs.YtolljdomnohmdabGreatDoor
