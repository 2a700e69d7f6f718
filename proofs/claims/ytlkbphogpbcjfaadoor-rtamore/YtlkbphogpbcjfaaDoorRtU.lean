/- A row of loads behind an empty one; one load turned; who has less. -/
import Derived.Test.YtlkbphogpbcjfaaDoorRtM
import Derived.Test.YtlkbphogpbcjfaaDoorRtQ
namespace Go.Proofs.YtlkbphogpbcjfaaDoor
open Go.RowKit Go.Sort

theorem flatL_one (l : List LoadD) : ∀ u ∈ flatL l, u.oneCell' = true := by
  intro u hu
  obtain ⟨x, _, h⟩ := List.mem_flatMap.1 hu
  simp [ldV] at h
  rcases h with rfl | rfl <;> rfl
theorem flatL_cells {w : World} {b f : Nat} : ∀ (l : List LoadD) (o : Nat), (∀ (j : Nat) (x : LoadD), l[j]? = some x → w.cell? ⟨b, f + (o + j) * 2, none⟩ = some (.int .i64 x.per) ∧ w.cell? ⟨b, f + (o + j) * 2 + 1, none⟩ = some (.int .i64 x.cost)) → ∀ j u, (flatL l)[j]? = some u → w.cell? ⟨b, f + o * 2 + j, none⟩ = some u
  | [], o, h, j, u, hu => by simp [flatL] at hu
  | x :: l, o, h, 0, u, hu => by
    obtain ⟨h1, _⟩ := h 0 x rfl
    simp [flatL, ldV] at hu
    rw [← hu]
    simpa using h1
  | x :: l, o, h, 1, u, hu => by
    obtain ⟨_, h1⟩ := h 0 x rfl
    simp [flatL, ldV] at hu
    rw [← hu]
    simpa using h1
  | x :: l, o, h, j + 2, u, hu => by
    have ih := flatL_cells (w := w) (b := b) (f := f) l (o + 1) (fun i y hy => by
      have := h (i + 1) y (by simpa using hy)
      rw [show o + (i + 1) = o + 1 + i by omega] at this
      exact this) j u (by simpa [flatL, ldV] using hu)
    rw [show f + o * 2 + (j + 2) = f + (o + 1) * 2 + j by omega]
    exact ih
/-- A row behind an empty one of the call's own. -/
theorem wpList_append_lds {t e : TypeId} (kk : LoadOf t e) (w : World) {ops : Array Oper} {rest : List Oper} {o : Oper} {a : Act} {Q : Exit → Act → World → Prop} (hw : Region.wanted o (yielded ops a.tmps) = true) (s x : Operand)
    (ho : o.op = .call { callee := .builtin .append, args := #[s, x], argTypes := #[t, t] })
    (Bd : Nat) (l : List LoadD) (b f n c eb : Nat) (hn : n = l.length) (hl1 : 1 ≤ l.length) (hl : l.length ≤ 1000) (hs : a.eval s = .slice (some ⟨eb, 0, none⟩) 0 0) (hse : w.ownsRow Bd e 2 (.slice (some ⟨eb, 0, none⟩) 0 0) 0 []) (hx : a.eval x = .slice (some ⟨b, f, none⟩) n c)
    (hA : AtL w (some ⟨b, f, none⟩) l) (hB : Bd ≤ w.heap.size)
    (h : ∀ g cap w', LdRow e Bd w' (.slice (some ⟨g, 0, none⟩) n cap) l → Turns (fun k => k = eb) w w' → wpList Tryd.prog ops Q rest (a.put o.dst (.slice (some ⟨g, 0, none⟩) n cap)) w') :
    wpList Tryd.prog ops Q (o :: rest) a w := by
  subst hn
  refine wpList_step fun K' hK => ?_
  rw [if_pos hw]
  obtain ⟨i, hi, hz0, hz1, hz2⟩ := info_parts kk.inf
  have hcc : ∀ j u, (flatL l)[j]? = some u → w.cell? (Addr.add ⟨b, f, none⟩ j) = some u := by
    intro j u hu
    rw [Addr.add_lit]
    have := flatL_cells (w := w) (b := b) (f := f) l 0 (fun i y hy => by
      obtain ⟨b', f', e', h1, h2⟩ := hA i y hy
      cases e'
      rw [Nat.zero_add]
      exact ⟨h1, h2⟩) j u hu
    rw [Nat.zero_mul, Nat.add_zero] at this
    exact this
  obtain ⟨v', w', hr, k1, k2, k3, k4⟩ := run_append_own_at (P := Tryd.prog) w Bd t o.type e i _ 2 16 kk.und hi hz0 hz1 hz2 rfl (by omega) _ 0 [] hse ⟨b, f, none⟩ l.length c (flatL l) (flatL_len l) hcc (flatL_one l) (by unfold maxLen; omega) (by omega) hB
  rw [Nat.zero_add, List.nil_append] at k1
  obtain ⟨g, cap, rfl⟩ := own_form k1 (fun e => by have := k3.1 e; have := this.2; omega)
  have tt : Turns (fun k => k = eb) w w' := Turns.grown k2 (fun k e => by simp [Value.ownBlock] at e; exact e.symm)
  unfold Oper.wp
  simp [execOp, ho, resolve, invoke, builtin, hs, hx, hr, Result.andThen]
  exact hK _ _ (h g cap w' k1 tt)
theorem flatL_set : ∀ (l : List LoadD) (k : Nat) (x : LoadD) (p : Int), l[k]? = some x → (flatL l).set (k * 2) (.int .i64 p) = flatL (l.set k ⟨p, x.cost⟩)
  | [], _, _, _, h => by simp at h
  | y :: r, 0, x, p, h => by
    simp at h
    subst h
    simp [flatL, ldV]
  | y :: r, k + 1, x, p, h => by
    have ih := flatL_set r k x p (by simpa using h)
    simp only [flatL, List.flatMap_cons, List.set_cons_succ] at ih ⊢
    rw [← ih, List.set_append_right _ _ (by simp [ldV]; omega)]
    congr 2
    simp [ldV]
    omega
/-- One period turned. -/
theorem LdRow.set {e : TypeId} {Bd g n c : Nat} {w : World} {l : List LoadD} (h : LdRow e Bd w (.slice (some ⟨g, 0, none⟩) n c) l) (hn : n = l.length) {k : Nat} {x : LoadD} (hx : l[k]? = some x) (p : Int) : LdRow e Bd (w.setCell ⟨g, k * 2, none⟩ (.int .i64 p)) (.slice (some ⟨g, 0, none⟩) n c) (l.set k ⟨p, x.cost⟩) := by
  subst hn
  have h2 := (World.ownsRow.stored h (k * 2) (.int .i64 p)).1
  rw [flatL_set l k x p hx] at h2
  unfold LdRow
  rw [List.length_set]
  exact h2
theorem LdRow.at {e : TypeId} {Bd n c : Nat} {a : Option Addr} {w : World} {l : List LoadD} (h : LdRow e Bd w (.slice a n c) l) : n = l.length ∧ AtL w a l := by
  obtain ⟨a', c', e', _, hA, _⟩ := h.view
  simp only [Value.slice.injEq] at e'
  obtain ⟨rfl, rfl, rfl⟩ := e'
  exact ⟨rfl, hA⟩
theorem LdRow.cells {e : TypeId} {Bd g n c : Nat} {w : World} {l : List LoadD} (h : LdRow e Bd w (.slice (some ⟨g, 0, none⟩) n c) l) {k : Nat} {x : LoadD} (hx : l[k]? = some x) : w.cell? ⟨g, k * 2, none⟩ = some (.int .i64 x.per) ∧ w.frozen? ⟨g, k * 2, none⟩ = false := by
  obtain ⟨b, f, e', h1, _⟩ := h.at.2 k x hx
  cases e'
  rw [Nat.zero_add] at h1
  obtain ⟨rfl, -⟩ := h.at
  exact ⟨h1, World.ownsRow.frozenAt h (k * 2)⟩
theorem LessL.app {l : List LoadD} (h : ∀ x ∈ l, 1 ≤ x.per ∧ 0 ≤ x.cost) {y : LoadD} (hy : 1 ≤ y.per ∧ 0 ≤ y.cost) : LessL l (l ++ [y]) := by
  induction l with
  | nil => exact .nil _ (fun x hx => by rw [List.nil_append, List.mem_singleton] at hx; rw [hx]; exact hy)
  | cons x l ih =>
    have hx := h x (List.mem_cons_self ..)
    exact .cons x x l _ hx.1 hx.2 (Int.le_refl _) (Int.le_refl _) (ih (fun z hz => h z (List.mem_cons_of_mem _ hz)))
theorem LessL.put : ∀ {l : List LoadD} (_ : ∀ x ∈ l, 1 ≤ x.per ∧ 0 ≤ x.cost) (k : Nat) {x : LoadD} (_ : l[k]? = some x) {p : Int} (_ : 1 ≤ p) (_ : p ≤ x.per), LessL l (l.set k ⟨p, x.cost⟩)
  | [], _, k, x, hx, _, _, _ => by simp at hx
  | y :: l, h, 0, x, hx, p, h1, h2 => by
    simp at hx
    subst hx
    have hy := h y (List.mem_cons_self ..)
    exact .cons y ⟨p, y.cost⟩ l l h1 hy.2 h2 (Int.le_refl _) (LessL.refl l (fun z hz => h z (List.mem_cons_of_mem _ hz)))
  | y :: l, h, k + 1, x, hx, p, h1, h2 => by
    have hy := h y (List.mem_cons_self ..)
    exact .cons y y l _ hy.1 hy.2 (Int.le_refl _) (Int.le_refl _) (LessL.put (fun z hz => h z (List.mem_cons_of_mem _ hz)) k (by simpa using hx) h1 h2)
end Go.Proofs.YtlkbphogpbcjfaaDoor
