/- A row of tasks of the call's own, copied from another one; a budget, a program in it that is changed. -/
import Derived.Test.YtcbpbidimocpjaaDoorTSo
namespace Go.Proofs.YtcbpbidimocpjaaDoor
open Go.RowKit Go.Sort

theorem flatT_len : ∀ (p : List TaskD) (r : List Value), r.length = p.length → (flatT p r).length = p.length * 5
  | [], [], _ => rfl
  | [], _ :: _, h => by simp at h
  | _ :: _, [], h => by simp at h
  | q :: p, x :: r, h => by
    simp only [flatT, List.length_append, List.length_cons]
    rw [flatT_len p r (by simpa using h)]
    simp [tkW]
    omega
theorem flatT_one : ∀ (p : List TaskD) (r : List Value), r.length = p.length → (∀ s ∈ r, s.oneCell' = true) → ∀ u ∈ flatT p r, u.oneCell' = true
  | [], [], _, _, u, h => by simp [flatT] at h
  | [], _ :: _, h, _, _, _ => by simp at h
  | _ :: _, [], h, _, _, _ => by simp at h
  | q :: p, x :: r, h, hs, u, hu => by
    simp only [flatT, List.mem_append] at hu
    rcases hu with hu | hu
    · simp only [tkW, List.mem_cons, List.not_mem_nil, or_false] at hu
      rcases hu with rfl | rfl | rfl | rfl | rfl
      · rfl
      · rfl
      · rfl
      · rfl
      · exact hs _ (by simp)
    · exact flatT_one p r (by simpa using h) (fun s hs2 => hs s (by simp [hs2])) u hu
/-- A task's budget is another one. -/
theorem flatT_bud : ∀ (p : List TaskD) (r : List Value) (j : Nat) (t : TaskD) (z : Int), r.length = p.length → p[j]? = some t → (flatT p r).set (j * 5 + 3) (.int .i64 z) = flatT (p.set j { t with budget := z }) r
  | [], _, _, _, _, _, h => by simp at h
  | _ :: _, [], _, _, _, h, _ => by simp at h
  | q :: p, x :: r, 0, t, z, _, h => by
    simp at h
    subst h
    simp [flatT, tkW]
  | q :: p, x :: r, j + 1, t, z, hl, h => by
    have ih := flatT_bud p r j t z (by simpa using hl) (by simpa using h)
    simp only [flatT, List.set_cons_succ]
    rw [← ih, List.set_append_right _ _ (by simp [tkW]; omega)]
    congr 2
    simp [tkW]
    omega
/-- A task's program is another one. -/
theorem flatT_prg : ∀ (p : List TaskD) (r : List Value) (j : Nat) (t : TaskD) (q : List OpD) (v : Value), r.length = p.length → p[j]? = some t → (flatT p r).set (j * 5 + 4) v = flatT (p.set j { t with prog := q }) (r.set j v)
  | [], _, _, _, _, _, _, h => by simp at h
  | _ :: _, [], _, _, _, _, h, _ => by simp at h
  | c :: p, x :: r, 0, t, q, v, _, h => by
    simp at h
    subst h
    simp [flatT, tkW]
  | c :: p, x :: r, j + 1, t, q, v, hl, h => by
    have ih := flatT_prg p r j t q v (by simpa using hl) (by simpa using h)
    simp only [flatT, List.set_cons_succ]
    rw [← ih, List.set_append_right _ _ (by simp [tkW]; omega)]
    congr 2
    simp [tkW]
    omega
/-- A row of tasks of the call's own, in block g, their programs beside it: those stay while the blocks of S turn. -/
structure CT (Bd : Nat) (S : Nat → Prop) (w : World) (g cap : Nat) (ts : List TaskD) (pvs : List Value) : Prop where
  len : pvs.length = ts.length
  row : w.ownsRow Bd 32 5 (.slice (some ⟨g, 0, none⟩) ts.length cap) ts.length (flatT ts pvs)
  pg : ∀ (j : Nat) (t : TaskD) (pv : Value), ts[j]? = some t → pvs[j]? = some pv → ∃ pa pc, pv = .slice pa t.prog.length pc ∧ t.prog.length ≤ pc ∧ ∀ w', Turns S w w' → AtP w' pa t.prog
theorem CT.less {Bd : Nat} {S S' : Nat → Prop} {w : World} {g cap : Nat} {ts : List TaskD} {pvs : List Value} (h : CT Bd S w g cap ts pvs) (hS : ∀ k, S' k → S k) : CT Bd S' w g cap ts pvs :=
  ⟨h.len, h.row, fun j t pv h1 h2 => by
    obtain ⟨pa, pc, e1, e2, e3⟩ := h.pg j t pv h1 h2
    exact ⟨pa, pc, e1, e2, fun w2 t2 => e3 w2 (t2.mono (fun k _ f => hS k f))⟩⟩
theorem CT.turns {Bd : Nat} {S S' : Nat → Prop} {w w' : World} {g cap : Nat} {ts : List TaskD} {pvs : List Value} (h : CT Bd S w g cap ts pvs) (k : Turns S' w w') (hS : ∀ k, S' k → S k) (hg : ¬ S' g) : CT Bd S w' g cap ts pvs :=
  ⟨h.len, owns_turns h.row k (fun q hq e => by simp [Value.ownBlock] at hq; subst hq; exact hg e), fun j t pv h1 h2 => by
    obtain ⟨pa, pc, e1, e2, e3⟩ := h.pg j t pv h1 h2
    exact ⟨pa, pc, e1, e2, fun w2 t2 => e3 w2 ((k.mono (fun i _ f => hS i f)).trans t2)⟩⟩
theorem CT.kept {Bd : Nat} {S : Nat → Prop} {w w' : World} {g cap : Nat} {ts : List TaskD} {pvs : List Value} (h : CT Bd S w g cap ts pvs) (k : Kept w w') : CT Bd S w' g cap ts pvs := h.turns k.turns (fun _ e => e.elim) (fun e => e)
theorem CT.at {Bd : Nat} {S : Nat → Prop} {w : World} {g cap : Nat} {ts : List TaskD} {pvs : List Value} (h : CT Bd S w g cap ts pvs) : AtT w (some ⟨g, 0, none⟩) ts := by
  intro j t hj
  have hj2 := (List.getElem?_eq_some_iff.1 hj).1
  obtain ⟨pv, hpv⟩ : ∃ pv, pvs[j]? = some pv := ⟨_, List.getElem?_eq_getElem (by rw [h.len]; exact hj2)⟩
  obtain ⟨pa, pc, e1, e2, e3⟩ := h.pg j t pv hj hpv
  have hc : ∀ i, i < 5 → w.cell? ⟨g, 0 + j * 5 + i, none⟩ = (tkW t pv)[i]? := by
    intro i hi
    rw [Nat.zero_add, h.row.cellAt (j * 5 + i) (by omega), flatT_get ts pvs j i t pv hj hpv hi]
  refine ⟨g, 0, rfl, hc 0 (by omega), hc 1 (by omega), hc 2 (by omega), hc 3 (by omega), pa, pc, ?_, e2, e3 w (Turns.refl _ _)⟩
  rw [hc 4 (by omega), ← e1]
  rfl
theorem CT.frozen {Bd : Nat} {S : Nat → Prop} {w : World} {g cap : Nat} {ts : List TaskD} {pvs : List Value} (h : CT Bd S w g cap ts pvs) (j : Nat) : w.frozen? ⟨g, j, none⟩ = false := h.row.frozenAt j
theorem CT.lt {Bd : Nat} {S : Nat → Prop} {w : World} {g cap : Nat} {ts : List TaskD} {pvs : List Value} (h : CT Bd S w g cap ts pvs) : Bd ≤ g ∧ g < w.heap.size := World.ownsRow.lt h.row g rfl
theorem CT.bud {Bd : Nat} {S : Nat → Prop} {w : World} {g cap : Nat} {ts : List TaskD} {pvs : List Value} (h : CT Bd S w g cap ts pvs) (hg : S g) {j : Nat} {t : TaskD} (hj : ts[j]? = some t) (z : Int) : CT Bd S (w.setCell ⟨g, j * 5 + 3, none⟩ (.int .i64 z)) g cap (ts.set j { t with budget := z }) pvs := by
  have hj2 := (List.getElem?_eq_some_iff.1 hj).1
  refine ⟨by rw [List.length_set]; exact h.len, ?_, fun i u pv h1 h2 => ?_⟩
  · have := (World.ownsRow.stored h.row (j * 5 + 3) (.int .i64 z)).1
    rw [List.length_set, ← flatT_bud ts pvs j t z h.len hj]
    exact this
  · have hT : Turns S w (w.setCell ⟨g, j * 5 + 3, none⟩ (.int .i64 z)) := (turn_set w g (j * 5 + 3) (.int .i64 z)).mono (fun k _ e => by rw [e]; exact hg)
    by_cases e : j = i
    · subst e
      rw [List.getElem?_set_self hj2] at h1
      cases h1
      obtain ⟨pa, pc, e1, e2, e3⟩ := h.pg j t pv hj h2
      exact ⟨pa, pc, e1, e2, fun w2 t2 => e3 w2 (hT.trans t2)⟩
    · rw [List.getElem?_set_ne e] at h1
      obtain ⟨pa, pc, e1, e2, e3⟩ := h.pg i u pv h1 h2
      exact ⟨pa, pc, e1, e2, fun w2 t2 => e3 w2 (hT.trans t2)⟩
theorem CT.prg {Bd : Nat} {S : Nat → Prop} {w : World} {g cap : Nat} {ts : List TaskD} {pvs : List Value} (h : CT Bd S w g cap ts pvs) (hg : S g) {j : Nat} {t : TaskD} (hj : ts[j]? = some t) (q : List OpD) (pa : Option Addr) (pc : Nat) (hpc : q.length ≤ pc) (hq : ∀ w', Turns S w w' → AtP w' pa q) : CT Bd S (w.setCell ⟨g, j * 5 + 4, none⟩ (.slice pa q.length pc)) g cap (ts.set j { t with prog := q }) (pvs.set j (.slice pa q.length pc)) := by
  have hj2 := (List.getElem?_eq_some_iff.1 hj).1
  refine ⟨by rw [List.length_set, List.length_set]; exact h.len, ?_, fun i u pv h1 h2 => ?_⟩
  · have := (World.ownsRow.stored h.row (j * 5 + 4) (.slice pa q.length pc)).1
    rw [List.length_set, ← flatT_prg ts pvs j t q _ h.len hj]
    exact this
  · have hT : Turns S w (w.setCell ⟨g, j * 5 + 4, none⟩ (.slice pa q.length pc)) := (turn_set w g (j * 5 + 4) (.slice pa q.length pc)).mono (fun k _ e => by rw [e]; exact hg)
    by_cases e : j = i
    · subst e
      rw [List.getElem?_set_self hj2] at h1
      rw [List.getElem?_set_self (by rw [h.len]; exact hj2)] at h2
      cases h1
      cases h2
      exact ⟨pa, pc, rfl, hpc, fun w2 t2 => hq w2 (hT.trans t2)⟩
    · rw [List.getElem?_set_ne e] at h1 h2
      obtain ⟨qa, qc, e1, e2, e3⟩ := h.pg i u pv h1 h2
      exact ⟨qa, qc, e1, e2, fun w2 t2 => e3 w2 (hT.trans t2)⟩
theorem infoIs : (Tryd.prog.info? 32).map (fun i => (i.zero, i.size, i.bytes)) = some (some (.agg #[.string ⟨#[]⟩, .int .i64 0, .int .i64 0, .int .i64 0, .slice none 0 0]), 5, 64) := by kernel_rfl
/-- The slices that a row of tasks holds. -/
def pvsOf (w : World) (b f n : Nat) : List Value := (List.range n).map (fun j => (w.cell? ⟨b, f + j * 5 + 4, none⟩).getD (.slice none 0 0))
theorem pvsOf_at {w : World} {b f : Nat} {ts : List TaskD} (h : AtT w (some ⟨b, f, none⟩) ts) {j : Nat} {t : TaskD} {pv : Value} (hj : ts[j]? = some t) (hp : (pvsOf w b f ts.length)[j]? = some pv) : ∃ pa pc, pv = .slice pa t.prog.length pc ∧ t.prog.length ≤ pc ∧ AtP w pa t.prog ∧ w.cell? ⟨b, f + j * 5 + 4, none⟩ = some pv := by
  have hj2 := (List.getElem?_eq_some_iff.1 hj).1
  obtain ⟨b', f', e, ht⟩ := h j t hj
  cases e
  obtain ⟨pa, pc, h1, h2, h3⟩ := ht.pg
  simp only [pvsOf, List.getElem?_map, List.getElem?_range hj2, Option.map_some, Option.some.injEq, h1, Option.getD_some] at hp
  subst hp
  exact ⟨pa, pc, rfl, h2, h3, h1⟩
theorem pvsOf_cells {w : World} {b f : Nat} : ∀ {ts : List TaskD} {pvs : List Value} (o : Nat), (∀ (j : Nat) (t : TaskD) (pv : Value), ts[j]? = some t → pvs[j]? = some pv → ∀ i, i < 5 → w.cell? ⟨b, f + (o + j) * 5 + i, none⟩ = (tkW t pv)[i]?) → ∀ (j : Nat) (u : Value), (flatT ts pvs)[j]? = some u → w.cell? ⟨b, f + o * 5 + j, none⟩ = some u
  | [], _, _, _, j, u, hu => by simp [flatT] at hu
  | _ :: _, [], _, _, j, u, hu => by simp [flatT] at hu
  | t :: ts, pv :: pvs, o, h, j, u, hu => by
    simp only [flatT] at hu
    by_cases hj : j < 5
    · rw [List.getElem?_append_left (by simp [tkW]; omega)] at hu
      have := h 0 t pv rfl rfl j hj
      rw [Nat.add_zero] at this
      rw [this]
      exact hu
    · rw [List.getElem?_append_right (by simp [tkW]; omega)] at hu
      have ih := pvsOf_cells (w := w) (b := b) (f := f) (ts := ts) (pvs := pvs) (o + 1) (fun k t' pv' h1 h2 i hi => by
        have := h (k + 1) t' pv' (by simpa using h1) (by simpa using h2) i hi
        rw [show o + (k + 1) = o + 1 + k by omega] at this
        exact this) (j - 5) u (by simpa [tkW] using hu)
      rw [show f + (o + 1) * 5 + (j - 5) = f + o * 5 + j by omega] at ih
      exact ih
/-- All tasks of a slice, as they lay in an older world, behind an empty row of the call's own. -/
theorem wpList_append_tks (w0 w : World) (K : Kept w0 w) {ops : Array Oper} {rest : List Oper} {o : Oper} {a : Act} {Q : Exit → Act → World → Prop} (hw : Region.wanted o (yielded ops a.tmps) = true) (s x : Operand)
    (ho : o.op = .call { callee := .builtin .append, args := #[s, x], argTypes := #[23, 23] })
    (ts : List TaskD) (b f n c eb : Nat) (hn : n = ts.length) (hl1 : 1 ≤ ts.length) (hl : ts.length ≤ 1000) (hs : a.eval s = .slice (some ⟨eb, 0, none⟩) 0 0) (hse : w.ownsRow w0.heap.size 32 5 (.slice (some ⟨eb, 0, none⟩) 0 0) 0 []) (hx : a.eval x = .slice (some ⟨b, f, none⟩) n c)
    (hA : AtT w0 (some ⟨b, f, none⟩) ts)
    (h : ∀ g cap w', CT w0.heap.size (fun k => w0.heap.size ≤ k) w' g cap ts (pvsOf w0 b f ts.length) → Turns (fun k => k = eb) w w' → (g = eb ∨ w.heap.size ≤ g) → wpList Tryd.prog ops Q rest (a.put o.dst (.slice (some ⟨g, 0, none⟩) n cap)) w') :
    wpList Tryd.prog ops Q (o :: rest) a w := by
  subst hn
  refine wpList_step fun K' hK => ?_
  rw [if_pos hw]
  obtain ⟨i, hi, hz0, hz1, hz2⟩ := info_parts infoIs
  have hlen : (pvsOf w0 b f ts.length).length = ts.length := by simp [pvsOf]
  have hcell : ∀ (j : Nat) (t : TaskD) (pv : Value), ts[j]? = some t → (pvsOf w0 b f ts.length)[j]? = some pv → ∀ i, i < 5 → w0.cell? ⟨b, f + (0 + j) * 5 + i, none⟩ = (tkW t pv)[i]? := by
    intro j t pv hj hp i hi
    obtain ⟨pa, pc, e1, e2, e3, e4⟩ := pvsOf_at hA hj hp
    obtain ⟨b', f', e, ht⟩ := hA j t hj
    cases e
    rw [Nat.zero_add]
    match i, hi with
    | 0, _ => exact ht.nm
    | 1, _ => exact ht.pd
    | 2, _ => exact ht.dl
    | 3, _ => exact ht.bu
    | 4, _ => exact e4
  have hcc : ∀ j u, (flatT ts (pvsOf w0 b f ts.length))[j]? = some u → w.cell? (Addr.add ⟨b, f, none⟩ j) = some u := by
    intro j u hu
    rw [Addr.add_lit]
    have := pvsOf_cells (w := w0) (b := b) (f := f) 0 hcell j u hu
    rw [Nat.zero_mul, Nat.add_zero] at this
    exact K.cell this
  have hone : ∀ u ∈ flatT ts (pvsOf w0 b f ts.length), u.oneCell' = true := flatT_one _ _ hlen (fun s hs => by
    obtain ⟨j, hj, e⟩ := List.getElem_of_mem hs
    rw [hlen] at hj
    obtain ⟨pa, pc, e1, _⟩ := pvsOf_at hA (List.getElem?_eq_getElem hj) (by rw [List.getElem?_eq_getElem (by rw [hlen]; exact hj), e])
    rw [e1]
    rfl)
  obtain ⟨v', w', hr, k1, k2, k3, k4⟩ := run_append_own_at (P := Tryd.prog) w w0.heap.size 23 o.type 32 i _ 5 64 Tryd.underlying23 hi hz0 hz1 hz2 rfl (by omega) _ 0 [] hse ⟨b, f, none⟩ ts.length c (flatT ts (pvsOf w0 b f ts.length)) (flatT_len _ _ hlen) hcc hone (by unfold maxLen; omega) (by omega) K.size
  rw [Nat.zero_add, List.nil_append] at k1
  obtain ⟨g, cap, rfl⟩ := own_form k1 (fun e => by have := k3.1 e; have := this.2; omega)
  have heb := (World.ownsRow.lt hse eb rfl).1
  have tt : Turns (fun k => k = eb) w w' := Turns.grown k2 (fun k e => by simp [Value.ownBlock] at e; exact e.symm)
  have KW : Kept w0 w' := tt.kept K (fun i e => by rw [e]; exact heb)
  unfold Oper.wp
  simp [execOp, ho, resolve, invoke, builtin, hs, hx, hr, Result.andThen]
  have hge : g = eb ∨ w.heap.size ≤ g := by
    rcases k4 with k4 | k4
    · left; simp [Value.ownBlock] at k4; exact k4
    · right; simp [Value.ownBlock] at k4; omega
  refine hK _ _ (h g cap w' ⟨hlen, k1, ?_⟩ tt hge)
  intro j t pv hj hp
  obtain ⟨pa, pc, e1, e2, e3, e4⟩ := pvsOf_at hA hj hp
  exact ⟨pa, pc, e1, e2, fun w2 t2 => e3.kept (t2.kept KW (fun i e => e))⟩
end Go.Proofs.YtcbpbidimocpjaaDoor
