/- times: how often each op is done. -/
import Derived.Test.YtembbhbbmkijcaaDoorOrd
import Derived.OwnWalk
namespace Go.Proofs.YtembbhbbmkijcaaDoor
open Go.RowKit

def intV (x : Int) : Value := .int .i64 x
/-- A row of numbers that the call owns (e: their type). -/
def IRow (e : TypeId) (B : Nat) (w : World) (v : Value) (l : List Int) : Prop := w.ownsRow B e 1 v l.length (l.map intV)
theorem IRow.nil (e : TypeId) (B : Nat) (w : World) : IRow e B w (.slice Option.none 0 0) [] := World.ownsRow_nil _ _ _ _
theorem IRow.turns {S : Nat → Prop} {e : TypeId} {B : Nat} {w w' : World} {v : Value} {l : List Int} (h : IRow e B w v l) (t : Turns S w w') (hv : ∀ k, v.ownBlock = some k → ¬ S k) : IRow e B w' v l := owns_turns h t hv
theorem IRow.kept {e : TypeId} {B : Nat} {w w' : World} {v : Value} {l : List Int} (h : IRow e B w v l) (t : Kept w w') : IRow e B w' v l := own_kept h t
theorem IRow.cell {e : TypeId} {B : Nat} {w : World} {g c : Nat} {l : List Int} (h : IRow e B w (.slice (some ⟨g, 0, none⟩) l.length c) l) (j : Nat) (x : Int) (hx : l[j]? = some x) : w.cell? ⟨g, j, none⟩ = some (.int .i64 x) := by
  have hj : j < l.length := (List.getElem?_eq_some_iff.1 hx).1
  unfold IRow at h
  rw [h.cellAt j (by omega), List.getElem?_map, hx]
  rfl
theorem IRow.form {e : TypeId} {B : Nat} {w : World} {v : Value} {l : List Int} (h : IRow e B w v l) : ∃ a c, v = .slice a l.length c ∧ l.length ≤ c := by
  rcases h.2 with ⟨h1, h2⟩ | ⟨g, cap, cur, h1, _, _, h3, _⟩
  · exact ⟨none, 0, by rw [h1, h2], by omega⟩
  · exact ⟨_, _, h1, h3⟩
theorem IRow.some {e : TypeId} {B : Nat} {w : World} {v : Value} {l : List Int} (h : IRow e B w v l) (hl : 0 < l.length) : ∃ g c, v = .slice (some ⟨g, 0, Option.none⟩) l.length c ∧ l.length ≤ c ∧ B ≤ g ∧ g < w.heap.size := by
  rcases h.2 with ⟨h1, h2⟩ | ⟨g, cap, cur, h1, _, _, h3, _⟩
  · omega
  · have := World.ownsRow.lt h g (by rw [h1]; rfl)
    exact ⟨g, cap, h1, h3, this.1, this.2⟩
theorem IRow.base {e : TypeId} {B B' : Nat} {w : World} {v : Value} {l : List Int} (h : IRow e B w v l) (hB : B' ≤ B) : IRow e B' w v l := by
  refine ⟨h.1, ?_⟩
  rcases h.2 with hn | ⟨g, cap, cur, h1, hb, rest⟩
  · exact .inl hn
  · exact .inr ⟨g, cap, cur, h1, by omega, rest⟩
/-- t is a slice of e, and e a number of 64 bits. -/
structure NumOf (t e : TypeId) : Prop where
  und : Tryd.prog.underlying t = some (.slice e)
  inf : (Tryd.prog.info? e).map (fun i => (i.zero, i.size, i.bytes)) = some (some (.int .i64 0), 1, 8)
theorem n64 : NumOf 38 2 := ⟨Tryd.underlying38, by kernel_rfl⟩
theorem nInt : NumOf 28 3 := ⟨Tryd.underlying28, by kernel_rfl⟩
theorem int_ones (l : List Int) : ∀ u ∈ l.map intV, u.oneCell' = true := by
  intro u hu
  simp only [List.mem_map] at hu
  obtain ⟨x, _, rfl⟩ := hu
  rfl
/-- One number behind a row of numbers. -/
theorem wp_append_int {t e : TypeId} (kk : NumOf t e) (w : World) {o : Oper} {a : Act} {K : Act → World → Prop} {Q : Exit → Act → World → Prop} (s x : Operand)
    (ho : o.op = .call { callee := .builtin .append, args := #[s, x], argTypes := #[t, t] })
    (base : Nat) (v1 : Value) (l1 : List Int) (y : Int) (W : World) (hw1 : w = W.alloc (.cells #[.int .i64 y] e)) (hs : a.eval s = v1) (nb : Nat) (hnb : nb = W.heap.size) (hx : a.eval x = .slice (some ⟨nb, 0, none⟩) 1 1) (h1 : IRow e base W v1 l1) (hl : l1.length ≤ 1000000) (hB : base ≤ W.heap.size)
    (h : ∀ g cap w', IRow e base w' (.slice (some ⟨g, 0, none⟩) (l1.length + 1) cap) (l1 ++ [y]) → w.grownBy w' v1.ownBlock → (v1.ownBlock = some g ∨ W.heap.size < g) → K (a.put o.dst (.slice (some ⟨g, 0, none⟩) (l1.length + 1) cap)) w') :
    o.wp Tryd.prog a w K Q := by
  subst hw1
  subst hnb
  obtain ⟨i, hi, hz0, hz1, hz2⟩ := info_parts kk.inf
  have hc : ∀ j u, ([y].map intV)[j]? = some u → (W.alloc (.cells #[.int .i64 y] e)).cell? (Addr.add ⟨W.heap.size, 0, none⟩ j) = some u := by
    intro j u hu
    rw [Addr.add_lit, Nat.zero_add, World.cell?_alloc_at _ _ _ _ rfl]
    simpa [intV] using hu
  have h1' : (W.alloc (.cells #[.int .i64 y] e)).ownsRow base e 1 v1 l1.length (l1.map intV) := World.ownsRow.alloc h1 _
  have hB' := le_alloc (.cells #[.int .i64 y] e) hB
  obtain ⟨v', w', hr, k1, k2, k3, k4⟩ := run_append_own_at (P := Tryd.prog) (W.alloc (.cells #[.int .i64 y] e)) base t o.type e i _ 1 8 kk.und hi hz0 hz1 hz2 rfl (by omega) _ l1.length (l1.map intV) h1' ⟨W.heap.size, 0, none⟩ 1 1 ([y].map intV) (by simp) hc (int_ones [y]) (by unfold maxLen; omega) (by omega) hB'
  obtain ⟨g, cap, rfl⟩ := own_form k1 (fun e => by have := k3.1 e; have := this.2; omega)
  unfold Oper.wp
  simp [execOp, ho, resolve, invoke, builtin, hs, hx, hr, Result.andThen]
  refine h g cap w' ?_ k2 ?_
  · unfold IRow
    rw [List.length_append, List.map_append]
    exact k1
  · rcases k4 with k4 | k4
    · exact .inl k4.symm
    · right; simp [Value.ownBlock] at k4; omega
theorem step_append_int {t e : TypeId} (kk : NumOf t e) (w : World) {ops : Array Oper} {o : Oper} {a : Act} {K : Act → World → Prop} {Q : Exit → Act → World → Prop} {E : Prop} (hgd : o.guard = none) (s x : Operand)
    (ho : o.op = .call { callee := .builtin .append, args := #[s, x], argTypes := #[t, t] })
    (base : Nat) (v1 : Value) (l1 : List Int) (y : Int) (W : World) (hw1 : w = W.alloc (.cells #[.int .i64 y] e)) (hs : a.eval s = v1) (nb : Nat) (hnb : nb = W.heap.size) (hx : a.eval x = .slice (some ⟨nb, 0, none⟩) 1 1) (h1 : IRow e base W v1 l1) (hl : l1.length ≤ 1000000) (hB : base ≤ W.heap.size)
    (h : ∀ g cap w', IRow e base w' (.slice (some ⟨g, 0, none⟩) (l1.length + 1) cap) (l1 ++ [y]) → w.grownBy w' v1.ownBlock → (v1.ownBlock = some g ∨ W.heap.size < g) → K (a.put o.dst (.slice (some ⟨g, 0, none⟩) (l1.length + 1) cap)) w') :
    if Region.wanted o (yielded ops a.tmps) = true then Oper.wp Tryd.prog o a w K Q else E := by
  have hw : Region.wanted o (yielded ops a.tmps) = true := by simp [Region.wanted, hgd]
  rw [if_pos hw]
  exact wp_append_int kk w s x ho base v1 l1 y W hw1 hs nb hnb hx h1 hl hB h
theorem wpList_append_int {t e : TypeId} (kk : NumOf t e) (w : World) {ops : Array Oper} {rest : List Oper} {o : Oper} {a : Act} {Q : Exit → Act → World → Prop} (hw : Region.wanted o (yielded ops a.tmps) = true) (s x : Operand)
    (ho : o.op = .call { callee := .builtin .append, args := #[s, x], argTypes := #[t, t] })
    (base : Nat) (v1 : Value) (l1 : List Int) (y : Int) (W : World) (hw1 : w = W.alloc (.cells #[.int .i64 y] e)) (hs : a.eval s = v1) (nb : Nat) (hnb : nb = W.heap.size) (hx : a.eval x = .slice (some ⟨nb, 0, none⟩) 1 1) (h1 : IRow e base W v1 l1) (hl : l1.length ≤ 1000000) (hB : base ≤ W.heap.size)
    (h : ∀ g cap w', IRow e base w' (.slice (some ⟨g, 0, none⟩) (l1.length + 1) cap) (l1 ++ [y]) → w.grownBy w' v1.ownBlock → (v1.ownBlock = some g ∨ W.heap.size < g) → wpList Tryd.prog ops Q rest (a.put o.dst (.slice (some ⟨g, 0, none⟩) (l1.length + 1) cap)) w') :
    wpList Tryd.prog ops Q (o :: rest) a w := by
  refine wpList_step fun K hK => ?_
  rw [if_pos hw]
  exact wp_append_int kk w s x ho base v1 l1 y W hw1 hs nb hnb hx h1 hl hB fun g cap w' k1 k2 k3 => hK _ _ (h g cap w' k1 k2 k3)

/-- Rounds stay small. -/
def Bds : List Int → Prop
  | [] => True
  | x :: r => 1 ≤ x ∧ x ≤ 32 ^ r.length ∧ Bds r
theorem bds_push {x n : Int} {r : List Int} (h : Bds (x :: r)) (h1 : 1 ≤ n) (h2 : n ≤ 32) : Bds (x * n :: x :: r) := by
  obtain ⟨a, b, c⟩ := h
  refine ⟨?_, ?_, a, b, c⟩
  · have := Int.mul_le_mul (a := 1) (b := 1) a h1 (by omega) (by omega)
    omega
  · rw [List.length_cons, Int.pow_succ]
    exact Int.mul_le_mul b h2 (by omega) (by have := Int.pow_pos (n := (32 : Int)) (m := r.length) (by omega); omega)
theorem bds_top {x : Int} {r : List Int} (h : Bds (x :: r)) (hl : r.length ≤ 3) : 1 ≤ x ∧ x ≤ 32768 := by
  obtain ⟨a, b, _⟩ := h
  have hc : r.length = 0 ∨ r.length = 1 ∨ r.length = 2 ∨ r.length = 3 := by omega
  rcases hc with e | e | e | e <;> rw [e] at b <;> exact ⟨a, by omega⟩
theorem times_len : ∀ (p : List OpD) (st : List Int), (timesGo st p).length = p.length
  | [], _ => rfl
  | o :: r, st => by
    rw [timesGo]
    split
    · simp [times_len r]
    · split
      · simp [times_len r]
      · simp [times_len r]
/-- A row that is filled up to a place. -/
def fillTo (T : List Int) (j : Nat) : List Int := T.take j ++ List.replicate (T.length - j) 0
theorem fill_set {T : List Int} {j : Nat} {x : Int} {r : List Int} (h : T.drop j = x :: r) : (fillTo T j).set j x = fillTo T (j + 1) := by
  have hj : j < T.length := by
    rcases Nat.lt_or_ge j T.length with h' | h'
    · exact h'
    · rw [List.drop_eq_nil_of_le h'] at h; cases h
  have hx : T[j] = x := by
    rw [List.drop_eq_getElem_cons hj] at h
    exact (List.cons.inj h).1
  unfold fillTo
  rw [List.set_append_right _ _ (by simp; omega), List.length_take, Nat.min_eq_left (by omega), Nat.sub_self, show T.length - j = (T.length - (j + 1)) + 1 by omega, List.replicate_succ, List.set_cons_zero, List.take_add_one, List.getElem?_eq_getElem hj, hx]
  simp
theorem fill_same {T : List Int} {j : Nat} {r : List Int} (h : T.drop j = 0 :: r) : fillTo T j = fillTo T (j + 1) := by
  rw [← fill_set h]
  have hj : j < T.length := by
    rcases Nat.lt_or_ge j T.length with h' | h'
    · exact h'
    · rw [List.drop_eq_nil_of_le h'] at h; cases h
  unfold fillTo
  rw [List.set_append_right _ _ (by simp; omega), List.length_take, Nat.min_eq_left (by omega), Nat.sub_self, show T.length - j = (T.length - (j + 1)) + 1 by omega, List.replicate_succ, List.set_cons_zero]
theorem fill_len (T : List Int) (j : Nat) (hj : j ≤ T.length) : (fillTo T j).length = T.length := by
  unfold fillTo
  simp
  omega
theorem drop_next {T : List Int} {j : Nat} {x : Int} {r : List Int} (h : T.drop j = x :: r) : T.drop (j + 1) = r := by
  rw [← List.drop_drop, h]
  rfl
end Go.Proofs.YtembbhbbmkijcaaDoor
