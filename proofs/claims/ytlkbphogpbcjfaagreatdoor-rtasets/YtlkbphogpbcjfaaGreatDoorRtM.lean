/- Rows of loads in memory; one more behind one. -/
import Derived.Test.YtlkbphogpbcjfaaGreatDoorMem
import Derived.Test.YtlkbphogpbcjfaaGreatDoorRtP
namespace Go.Proofs.YtlkbphogpbcjfaaGreatDoor
open Go.RowKit Go.Sort

def ldV (x : LoadD) : List Value := [.int .i64 x.per, .int .i64 x.cost]
def flatL (l : List LoadD) : List Value := l.flatMap ldV
theorem flatL_get : ∀ (l : List LoadD) (j i : Nat) (c : LoadD), l[j]? = some c → i < 2 → (flatL l)[j * 2 + i]? = (ldV c)[i]?
  | [], _, _, _, h, _ => by simp at h
  | x :: r, 0, i, e, h, hi => by
    simp at h
    subst h
    simp only [flatL, List.flatMap_cons]
    rw [List.getElem?_append_left (by simp [ldV]; omega)]
    simp
  | x :: r, j + 1, i, e, h, hi => by
    simp only [flatL, List.flatMap_cons]
    rw [List.getElem?_append_right (by simp [ldV]; omega)]
    have := flatL_get r j i e (by simpa using h) hi
    rw [show (j + 1) * 2 + i - (ldV x).length = j * 2 + i by simp [ldV]; omega]
    exact this
theorem flatL_len (l : List LoadD) : (flatL l).length = l.length * 2 := by
  induction l with
  | nil => rfl
  | cons x l ih =>
    have h : (l.flatMap ldV).length = l.length * 2 := ih
    simp only [flatL, List.flatMap_cons, List.length_append, List.length_cons]
    rw [h]
    simp only [ldV, List.length_cons, List.length_nil]
    omega
/-- What a slice of loads shows. -/
def AtL (w : World) (a : Option Addr) (l : List LoadD) : Prop := ∀ (j : Nat) (x : LoadD), l[j]? = some x → ∃ b f, a = some ⟨b, f, none⟩ ∧ w.cell? ⟨b, f + j * 2, none⟩ = some (.int .i64 x.per) ∧ w.cell? ⟨b, f + j * 2 + 1, none⟩ = some (.int .i64 x.cost)
theorem AtL.nil (w : World) (a : Option Addr) : AtL w a [] := by intro j x hj; simp at hj
theorem AtL.kept {w w' : World} {a : Option Addr} {l : List LoadD} (h : AtL w a l) (t : Kept w w') : AtL w' a l := by
  intro j x hj
  obtain ⟨b, f, e, h1, h2⟩ := h j x hj
  exact ⟨b, f, e, t.cell h1, t.cell h2⟩
theorem AtL.turns {S : Nat → Prop} {w w' : World} {a : Option Addr} {cs : List LoadD} (h : AtL w a cs) (t : Turns S w w') (hs : ∀ b f, a = some ⟨b, f, none⟩ → ¬ S b) : AtL w' a cs := by
  intro j c hj
  obtain ⟨b, f, e, h1, h2⟩ := h j c hj
  exact ⟨b, f, e, t.cell h1 (cell_lt h1) (hs b f e), t.cell h2 (cell_lt h2) (hs b f e)⟩
/-- A row of loads that the call owns (e: their type). -/
def LdRow (e : TypeId) (Bd : Nat) (w : World) (v : Value) (l : List LoadD) : Prop := w.ownsRow Bd e 2 v l.length (flatL l)
theorem LdRow.nil (e : TypeId) (Bd : Nat) (w : World) : LdRow e Bd w (.slice none 0 0) [] := World.ownsRow_nil _ _ _ _
theorem LdRow.kept {e : TypeId} {Bd : Nat} {w w' : World} {v : Value} {l : List LoadD} (h : LdRow e Bd w v l) (t : Kept w w') : LdRow e Bd w' v l := own_kept h t
theorem LdRow.turns {S : Nat → Prop} {e : TypeId} {Bd : Nat} {w w' : World} {v : Value} {l : List LoadD} (h : LdRow e Bd w v l) (t : Turns S w w') (hv : ∀ q, v.ownBlock = some q → ¬ S q) : LdRow e Bd w' v l := owns_turns h t hv
theorem LdRow.view {e : TypeId} {Bd : Nat} {w : World} {v : Value} {l : List LoadD} (h : LdRow e Bd w v l) : ∃ a c, v = .slice a l.length c ∧ l.length ≤ c ∧ AtL w a l ∧ (∀ b f, a = some ⟨b, f, none⟩ → Bd ≤ b ∧ b < w.heap.size ∧ f = 0 ∧ v.ownBlock = some b) := by
  rcases h.2 with ⟨h1, h2⟩ | ⟨g, cap, cur, h1, hb, h2, h3, _⟩
  · refine ⟨none, 0, by rw [h1, h2], by omega, ?_, fun b f e => by cases e⟩
    rw [List.eq_nil_of_length_eq_zero h2]
    exact AtL.nil _ _
  · refine ⟨some ⟨g, 0, none⟩, cap, h1, h3, ?_, fun b f e => by cases e; exact ⟨hb, (World.ownsRow.lt h g (by rw [h1]; rfl)).2, rfl, by rw [h1]; rfl⟩⟩
    subst h1
    intro j c hj
    have hj2 := (List.getElem?_eq_some_iff.1 hj).1
    unfold LdRow at h
    refine ⟨g, 0, rfl, ?_, ?_⟩
    · rw [Nat.zero_add, show j * 2 = j * 2 + 0 from rfl, h.cellAt (j * 2 + 0) (by omega), flatL_get l j 0 c hj (by omega)]
      rfl
    · rw [Nat.zero_add, h.cellAt (j * 2 + 1) (by omega), flatL_get l j 1 c hj (by omega)]
      rfl
/-- t is a slice of e, and e a load: two numbers of 64 bits. -/
structure LoadOf (t e : TypeId) : Prop where
  und : Tryz.prog.underlying t = some (.slice e)
  inf : (Tryz.prog.info? e).map (fun i => (i.zero, i.size, i.bytes)) = some (some (.agg #[.int .i64 0, .int .i64 0]), 2, 16)
theorem lApi : LoadOf 47 46 := ⟨Tryz.underlying47, by kernel_rfl⟩
theorem lRef : LoadOf 65 68 := ⟨Tryz.underlying65, by kernel_rfl⟩
/-- One load behind a row of loads, at one operation of a region. -/
theorem wp_append_ld {t e : TypeId} (kk : LoadOf t e) (w : World) {o : Oper} {a : Act} {K : Act → World → Prop} {Q : Exit → Act → World → Prop} (s x : Operand)
    (ho : o.op = .call { callee := .builtin .append, args := #[s, x], argTypes := #[t, t] })
    (Bd : Nat) (v1 : Value) (es : List LoadD) (d : LoadD) (cells : Array Value) (hcells : cells = (ldV d).toArray) (W : World) (hw1 : w = W.alloc (.cells cells e)) (hs : a.eval s = v1) (nb : Nat) (hnb : nb = W.heap.size) (hx : a.eval x = .slice (some ⟨nb, 0, none⟩) 1 1)
    (h1 : LdRow e Bd W v1 es) (hl : es.length ≤ 1000000) (hB : Bd ≤ W.heap.size)
    (h : ∀ g cap w', LdRow e Bd w' (.slice (some ⟨g, 0, none⟩) (es.length + 1) cap) (es ++ [d]) → Turns (fun k => v1.ownBlock = some k) W w' → (v1.ownBlock = some g ∨ W.heap.size < g) → K (a.put o.dst (.slice (some ⟨g, 0, none⟩) (es.length + 1) cap)) w') :
    o.wp Tryz.prog a w K Q := by
  subst hw1
  subst hnb
  obtain ⟨i, hi, hz0, hz1, hz2⟩ := info_parts kk.inf
  have hcc : ∀ j u, (ldV d)[j]? = some u → (W.alloc (.cells cells e)).cell? (Addr.add ⟨W.heap.size, 0, none⟩ j) = some u := by
    intro j u hu
    rw [Addr.add_lit, Nat.zero_add, World.cell?_alloc_at _ _ _ _ rfl, hcells]
    simpa using hu
  have h1' : (W.alloc (.cells cells e)).ownsRow Bd e 2 v1 es.length (flatL es) := World.ownsRow.alloc h1 _
  have hB' := le_alloc (.cells cells e) hB
  obtain ⟨v', w', hr, k1, k2, k3, k4⟩ := run_append_own_at (P := Tryz.prog) (W.alloc (.cells cells e)) Bd t o.type e i _ 2 16 kk.und hi hz0 hz1 hz2 rfl (by omega) _ es.length (flatL es) h1' ⟨W.heap.size, 0, none⟩ 1 1 (ldV d) (by simp [ldV]) hcc (fun u hu => by simp [ldV] at hu; rcases hu with rfl | rfl <;> rfl) (by unfold maxLen; omega) (by omega) hB'
  obtain ⟨g, cap, rfl⟩ := own_form k1 (fun e => by have := k3.1 e; have := this.2; omega)
  have tt : Turns (fun k => v1.ownBlock = some k) W w' := ((Turns.refl _ W).alloc _).trans (Turns.grown k2 (fun k e => e))
  have hg : v1.ownBlock = some g ∨ W.heap.size < g := by
    rcases k4 with k4 | k4
    · exact .inl k4.symm
    · right; simp [Value.ownBlock] at k4; omega
  unfold Oper.wp
  simp [execOp, ho, resolve, invoke, builtin, hs, hx, hr, Result.andThen]
  refine h g cap w' ?_ tt hg
  unfold LdRow
  rw [List.length_append, show flatL (es ++ [d]) = flatL es ++ ldV d by simp [flatL]]
  exact k1
theorem step_append_ld {t e : TypeId} (kk : LoadOf t e) (w : World) {ops : Array Oper} {o : Oper} {a : Act} {K : Act → World → Prop} {Q : Exit → Act → World → Prop} {E : Prop} (hgd : o.guard = none) (s x : Operand)
    (ho : o.op = .call { callee := .builtin .append, args := #[s, x], argTypes := #[t, t] })
    (Bd : Nat) (v1 : Value) (es : List LoadD) (d : LoadD) (cells : Array Value) (hcells : cells = (ldV d).toArray) (W : World) (hw1 : w = W.alloc (.cells cells e)) (hs : a.eval s = v1) (nb : Nat) (hnb : nb = W.heap.size) (hx : a.eval x = .slice (some ⟨nb, 0, none⟩) 1 1)
    (h1 : LdRow e Bd W v1 es) (hl : es.length ≤ 1000000) (hB : Bd ≤ W.heap.size)
    (h : ∀ g cap w', LdRow e Bd w' (.slice (some ⟨g, 0, none⟩) (es.length + 1) cap) (es ++ [d]) → Turns (fun k => v1.ownBlock = some k) W w' → (v1.ownBlock = some g ∨ W.heap.size < g) → K (a.put o.dst (.slice (some ⟨g, 0, none⟩) (es.length + 1) cap)) w') :
    if Region.wanted o (yielded ops a.tmps) = true then Oper.wp Tryz.prog o a w K Q else E := by
  have hw : Region.wanted o (yielded ops a.tmps) = true := by simp [Region.wanted, hgd]
  rw [if_pos hw]
  exact wp_append_ld kk w s x ho Bd v1 es d cells hcells W hw1 hs nb hnb hx h1 hl hB h
theorem wpList_append_ld {t e : TypeId} (kk : LoadOf t e) (w : World) {ops : Array Oper} {rest : List Oper} {o : Oper} {a : Act} {Q : Exit → Act → World → Prop} (hw : Region.wanted o (yielded ops a.tmps) = true) (s x : Operand)
    (ho : o.op = .call { callee := .builtin .append, args := #[s, x], argTypes := #[t, t] })
    (Bd : Nat) (v1 : Value) (es : List LoadD) (d : LoadD) (cells : Array Value) (hcells : cells = (ldV d).toArray) (W : World) (hw1 : w = W.alloc (.cells cells e)) (hs : a.eval s = v1) (nb : Nat) (hnb : nb = W.heap.size) (hx : a.eval x = .slice (some ⟨nb, 0, none⟩) 1 1)
    (h1 : LdRow e Bd W v1 es) (hl : es.length ≤ 1000000) (hB : Bd ≤ W.heap.size)
    (h : ∀ g cap w', LdRow e Bd w' (.slice (some ⟨g, 0, none⟩) (es.length + 1) cap) (es ++ [d]) → Turns (fun k => v1.ownBlock = some k) W w' → (v1.ownBlock = some g ∨ W.heap.size < g) → wpList Tryz.prog ops Q rest (a.put o.dst (.slice (some ⟨g, 0, none⟩) (es.length + 1) cap)) w') :
    wpList Tryz.prog ops Q (o :: rest) a w := by
  refine wpList_step fun K hK => ?_
  rw [if_pos hw]
  exact wp_append_ld kk w s x ho Bd v1 es d cells hcells W hw1 hs nb hnb hx h1 hl hB fun g cap w' k1 k2 k3 => hK _ _ (h g cap w' k1 k2 k3)
/-- What is answered: a slice that shows these loads. -/
def LdOut (w : World) (l : List LoadD) (e : Ending) (w' : World) : Prop := ∃ b c', e = .returned (.slice b l.length c') ∧ AtL w' b l ∧ Kept w w'
end Go.Proofs.YtlkbphogpbcjfaaGreatDoor
