/- TimerLater: its rows, and an array of rows in memory. -/
import Derived.Test.YtohgjdefgabfeaaTwins
namespace Go.Proofs.Ytohgjdefgabfeaa
open Go.RowKit Tm

/-- Behind c Ticks: id i, with what is left of it. -/
def entL (Z : List Int) (c i : Nat) : Du := ⟨(i : Int), 41 + Z.getD i 0 % 30 + (i : Int) - (c : Int)⟩
def rowL (Z : List Int) (c m : Nat) : List Du := (List.range m).map (entL Z c)
theorem rowL_len (Z : List Int) (c m : Nat) : (rowL Z c m).length = m := by simp [rowL]
theorem rowL_at (Z : List Int) (c m i : Nat) (h : i < m) : at' (rowL Z c m) i = entL Z c i := by simp [at', rowL, h]
theorem rowL_succ (Z : List Int) (c m : Nat) : rowL Z c (m + 1) = rowL Z c m ++ [entL Z c m] := by simp [rowL, List.range_succ]
theorem modL (Z : List Int) (i : Nat) : 0 ≤ Z.getD i 0 % 30 ∧ Z.getD i 0 % 30 < 30 := ⟨Int.emod_nonneg _ (by decide), Int.emod_lt_of_pos _ (by decide)⟩
theorem rest_map (L : List Nat) (Z : List Int) (c : Nat) (h : ∀ i ∈ L, (entL Z c i).left ≠ 1) : restR (L.map (entL Z c)) = L.map (entL Z (c + 1)) := by
  induction L with
  | nil => rfl
  | cons x r ih =>
    have h1 := h x (List.mem_cons_self ..)
    have ih' := ih (fun i hi => h i (List.mem_cons_of_mem _ hi))
    have hc : restR (List.map (entL Z c) (x :: r)) = ⟨(entL Z c x).id, (entL Z c x).left - 1⟩ :: restR (List.map (entL Z c) r) := by
      simp [restR, h1]
    rw [hc, ih', List.map_cons]
    congr 1
    simp only [entL]
    congr 1
    omega
theorem rowL_rest (Z : List Int) (c : Nat) (hc : c ≤ 39) : restR (rowL Z c c) = rowL Z (c + 1) c := by
  apply rest_map
  intro i _
  have := modL Z i
  simp only [entL]
  omega
theorem rowL_has (Z : List Int) (c m : Nat) : hasB (rowL Z c m) (m : Int) = false := by
  apply (plc_none (findL_none ?_)).2
  intro i hi
  rw [rowL_len] at hi
  rw [rowL_at Z c m i hi]
  simp [entL]
  omega
theorem rowL_left (Z : List Int) (c : Nat) : lftB (rowL Z (c + 1) (c + 1)) (c : Int) = 40 + Z.getD c 0 % 30 ∧ hasB (rowL Z (c + 1) (c + 1)) (c : Int) = true := by
  have hf : findL (rowL Z (c + 1) (c + 1)) (c : Int) = ((c : Nat) : Int) := by
    apply findL_eq c (by rw [rowL_len]; omega)
    · rw [rowL_at _ _ _ _ (by omega)]; rfl
    · intro j hj
      rw [rowL_at _ _ _ _ (by omega)]
      simp [entL]
      omega
  refine ⟨?_, (plc_some hf).2⟩
  rw [lft_some hf, rowL_at _ _ _ _ (by omega)]
  simp only [entL]
  omega

/-- Of the n those that are not cancelled, d of them asked. -/
def kept (G : Nat → Bool) (n d : Nat) : List Nat := (List.range n).filter (fun i => !(decide (i < d) && G i))
def rowG (Z : List Int) (G : Nat → Bool) (n d : Nat) : List Du := (kept G n d).map (entL Z n)
theorem rowG_zero (Z : List Int) (G : Nat → Bool) (n : Nat) : rowG Z G n 0 = rowL Z n n := by
  unfold rowG kept rowL
  rw [List.filter_eq_self.2 (by intro i _; simp)]
theorem kept_stay (G : Nat → Bool) (n d : Nat) (h : G d = false) : kept G n (d + 1) = kept G n d := by
  unfold kept
  apply List.filter_congr
  intro i _
  by_cases hi : i = d
  · subst hi; simp [h]
  · have : decide (i < d + 1) = decide (i < d) := by simp; omega
    rw [this]
theorem kept_gone (G : Nat → Bool) (n d : Nat) (h : G d = true) : kept G n (d + 1) = (kept G n d).filter (fun i => i != d) := by
  unfold kept
  rw [List.filter_filter]
  apply List.filter_congr
  intro i _
  by_cases hi : i = d
  · subst hi; simp [h]
  · have : decide (i < d + 1) = decide (i < d) := by simp; omega
    rw [this]
    simp [hi]

theorem can_filter (L : List Nat) (f : Nat → Du) (d : Nat) (hf : ∀ i, (f i).id = (i : Int)) (hd : d ∈ L) (hn : L.Nodup) : canE (L.map f) (d : Int) = 0 ∧ canR (L.map f) (d : Int) = (L.filter (fun i => i != d)).map f := by
  induction L with
  | nil => cases hd
  | cons x r ih =>
    rw [List.nodup_cons] at hn
    by_cases hx : x = d
    · subst hx
      have h0 : findL (List.map f (x :: r)) (x : Int) = ((0 : Nat) : Int) := findL_eq 0 (by simp) (by simp [at', hf]) (fun j hj => by omega)
      have h1 := plc_some h0
      have hfil : (x :: r).filter (fun i => i != x) = r := by
        rw [List.filter_cons]
        simp only [bne_self_eq_false, Bool.false_eq_true, if_false]
        apply List.filter_eq_self.2
        intro i hi
        have : i ≠ x := fun e => hn.1 (e ▸ hi)
        simpa using this
      unfold canE canR
      rw [h1.2, h0, hfil]
      simp
    · have hd' : d ∈ r := by rcases List.mem_cons.1 hd with h | h; exact absurd h.symm hx; exact h
      obtain ⟨e1, e2⟩ := ih hd' hn.2
      rcases can_cases (r.map f) (d : Int) with ⟨_, h, _⟩ | ⟨k, k1, k2, k3, k4⟩
      · rw [h] at e1; omega
      · have h0 : findL (List.map f (x :: r)) (d : Int) = ((k + 1 : Nat) : Int) := by
          rcases findL_cases (r.map f) (d : Int) with ⟨h, _⟩ | ⟨k', q1, q2, q3, q4⟩
          · rw [h] at k1; omega
          · have : k' = k := by rw [k1] at q3; omega
            subst this
            apply findL_eq (k' + 1) (by simp at k2 ⊢; omega)
            · simpa [at'] using q2
            · intro j hj
              cases j with
              | zero => simp [at', hf]; omega
              | succ j => have := q4 j (by omega); simpa [at'] using this
        have h1 := plc_some h0
        have hfil : (x :: r).filter (fun i => i != d) = x :: r.filter (fun i => i != d) := by
          rw [List.filter_cons]; simp [hx]
        rw [k4] at e2
        unfold canE canR
        rw [h1.2, h0, hfil]
        simp [e2]
theorem kept_mem (G : Nat → Bool) (n d : Nat) (h : d < n) : d ∈ kept G n d := by simp [kept, h]
theorem kept_nodup (G : Nat → Bool) (n d : Nat) : (kept G n d).Nodup := List.Pairwise.filter _ List.nodup_range
theorem rowG_can (Z : List Int) (G : Nat → Bool) (n d : Nat) (h : d < n) (hg : G d = true) : canE (rowG Z G n d) (d : Int) = 0 ∧ canR (rowG Z G n d) (d : Int) = rowG Z G n (d + 1) := by
  have := can_filter (kept G n d) (entL Z n) d (fun _ => rfl) (kept_mem G n d h) (kept_nodup G n d)
  refine ⟨this.1, ?_⟩
  unfold rowG
  rw [this.2, kept_gone G n d hg]
theorem rowG_stay (Z : List Int) (G : Nat → Bool) (n d : Nat) (h : G d = false) : rowG Z G n (d + 1) = rowG Z G n d := by unfold rowG; rw [kept_stay G n d h]
theorem rowG_lt (Z : List Int) (G : Nat → Bool) (n d : Nat) : ∀ x ∈ rowG Z G n d, x.left ≤ 79 := by
  intro x hx
  simp only [rowG, List.mem_map, kept, List.mem_filter, List.mem_range] at hx
  obtain ⟨i, ⟨hi, _⟩, rfl⟩ := hx
  have := modL Z i
  simp only [entL]
  omega

/-- What is wanted at x, of the first d. -/
def wantL (Z : List Int) (G : Nat → Bool) (n d : Nat) (x : Nat) : List Int := ((List.range d).filter (fun i => !G i && ((entL Z n i).left == (x : Int)))).map (fun i => ((i : Nat) : Int))
theorem wantL_gone (Z : List Int) (G : Nat → Bool) (n d x : Nat) (h : G d = true) : wantL Z G n (d + 1) x = wantL Z G n d x := by
  unfold wantL; rw [List.range_succ, List.filter_append, List.map_append]; simp [h]
theorem wantL_in (Z : List Int) (G : Nat → Bool) (n d x : Nat) (h : G d = false) (hx : (entL Z n d).left = (x : Int)) : wantL Z G n (d + 1) x = wantL Z G n d x ++ [(d : Int)] := by
  unfold wantL; rw [List.range_succ, List.filter_append, List.map_append]; simp [h, hx]
theorem wantL_out (Z : List Int) (G : Nat → Bool) (n d x : Nat) (hx : (entL Z n d).left ≠ (x : Int)) : wantL Z G n (d + 1) x = wantL Z G n d x := by
  unfold wantL; rw [List.range_succ, List.filter_append, List.map_append]; simp [hx]
theorem wantL_len (Z : List Int) (G : Nat → Bool) (n d x : Nat) : (wantL Z G n d x).length ≤ d := by
  unfold wantL; rw [List.length_map]
  exact Nat.le_trans (List.length_filter_le _ _) (by simp)
theorem due_want (Z : List Int) (G : Nat → Bool) (n x : Nat) : ((rowG Z G n n).filter (fun e => e.left == (x : Int))).map (·.id) = wantL Z G n n x := by
  unfold rowG kept wantL
  rw [List.filter_map, List.map_map, List.filter_filter]
  have e1 : ((fun x => x.id) ∘ entL Z n) = (fun i => ((i : Nat) : Int)) := rfl
  rw [e1]
  congr 1
  apply List.filter_congr
  intro i hi
  have hi' : i < n := by simpa using hi
  simp [hi', Bool.and_comm]

/-- An array of 80 rows of numbers. -/
def nilV : Value := .slice none 0 0
structure WantP (B : Nat) (w : World) (g : Nat) (vs : List Value) (L : Nat → List Int) : Prop where
  own : w.ownsRow B 48 1 (.slice (some ⟨g, 0, none⟩) 80 80) 80 vs
  row : ∀ x, x < 80 → IntRow B w (vs.getD x nilV) (L x)
  ap : ∀ x y k, x < 80 → y < 80 → x ≠ y → (vs.getD x nilV).ownBlock = some k → (vs.getD y nilV).ownBlock ≠ some k
  ng : ∀ x, x < 80 → (vs.getD x nilV).ownBlock ≠ some g
def FootW (g : Nat) (vs : List Value) (k : Nat) : Prop := k = g ∨ ∃ x, x < 80 ∧ (vs.getD x nilV).ownBlock = some k
theorem WantP.foot {B : Nat} {w : World} {g : Nat} {vs : List Value} {L : Nat → List Int} (h : WantP B w g vs L) (k : Nat) (hk : FootW g vs k) : B ≤ k ∧ k < w.heap.size := by
  rcases hk with rfl | ⟨x, hx, hk⟩
  · exact h.own.lt _ rfl
  · exact World.ownsRow.lt (h.row x hx) _ hk
theorem WantP.turns {S : Nat → Prop} {B : Nat} {w w' : World} {g : Nat} {vs : List Value} {L : Nat → List Int} (h : WantP B w g vs L) (t : Turns S w w') (hS : ∀ k, S k → ¬ FootW g vs k) : WantP B w' g vs L :=
  ⟨owns_turns h.own t (fun k hk hs => hS k hs (.inl (by simpa [Value.ownBlock] using hk.symm))), fun x hx => (h.row x hx).turns t (fun k hk hs => hS k hs (.inr ⟨x, hx, hk⟩)), h.ap, h.ng⟩
theorem WantP.cell {B : Nat} {w : World} {g : Nat} {vs : List Value} {L : Nat → List Int} (h : WantP B w g vs L) (x : Nat) (hx : x < 80) : w.cell? ⟨g, x, none⟩ = some (vs.getD x nilV) := by
  have hl : vs.length = 80 := by have := h.own.1; omega
  rw [h.own.cellAt x (by omega)]
  simp [hl, hx]
theorem getD_set (vs : List Value) (x y : Nat) (v : Value) (hx : x < vs.length) : (vs.set x v).getD y nilV = if x = y then v else vs.getD y nilV := by
  simp only [List.getD_eq_getElem?_getD, List.getElem?_set]
  by_cases h : x = y
  · subst h; simp [hx]
  · simp [h]
/-- One number more in one of the rows. -/
theorem WantP.put {B : Nat} {W w2 : World} {g : Nat} {vs : List Value} {L : Nat → List Int} (h : WantP B W g vs L) (x : Nat) (hx : x < 80) (i : Int) (g2 n2 c2 : Nat) (L' : Nat → List Int)
    (i2 : IntRow B w2 (.slice (some ⟨g2, 0, none⟩) n2 c2) (L x ++ [i])) (t2 : Turns (fun k => (vs.getD x nilV).ownBlock = some k) W w2) (e2 : (vs.getD x nilV).ownBlock = some g2 ∨ W.heap.size ≤ g2)
    (hL : ∀ y, L' y = if x = y then L x ++ [i] else L y) :
    w2.cell? ⟨g, x, none⟩ = some (vs.getD x nilV) ∧ w2.frozen? ⟨g, x, none⟩ = false ∧
    WantP B (w2.setCell ⟨g, x, none⟩ (.slice (some ⟨g2, 0, none⟩) n2 c2)) g (vs.set x (.slice (some ⟨g2, 0, none⟩) n2 c2)) L' ∧
    Turns (FootW g vs) W (w2.setCell ⟨g, x, none⟩ (.slice (some ⟨g2, 0, none⟩) n2 c2)) ∧ ∀ k, FootW g (vs.set x (.slice (some ⟨g2, 0, none⟩) n2 c2)) k → FootW g vs k ∨ W.heap.size ≤ k := by
  have hl : vs.length = 80 := by have := h.own.1; omega
  have hgl := (h.foot g (.inl rfl)).2
  have o2 := owns_turns h.own t2 (fun k hk hs => by simp [Value.ownBlock] at hk; subst hk; exact h.ng x hx hs)
  have g2g : g2 ≠ g := by
    rcases e2 with e | e
    · intro e3; exact h.ng x hx (by rw [e, e3])
    · omega
  have t3 : Turns (fun k => k = g) w2 (w2.setCell ⟨g, x, none⟩ (.slice (some ⟨g2, 0, none⟩) n2 c2)) := Turns.setCell (S := fun k => k = g) (Turns.refl _ w2) (p := ⟨g, x, none⟩) rfl _
  have lt : ∀ y k, y < 80 → (vs.getD y nilV).ownBlock = some k → k < W.heap.size := fun y k hy hk => (h.foot k (.inr ⟨y, hy, hk⟩)).2
  refine ⟨?_, o2.frozenAt x, ⟨(o2.stored x _).1, ?_, ?_, ?_⟩, ?_, ?_⟩
  · rw [o2.cellAt x (by omega)]; simp [hl, hx]
  · intro y hy
    rw [getD_set _ _ _ _ (by omega), hL y]
    by_cases hxy : x = y
    · subst hxy
      rw [if_pos rfl, if_pos rfl]
      exact i2.turns t3 (fun k hk e => by simp [Value.ownBlock] at hk; omega)
    · simp only [hxy, if_false]
      exact ((h.row y hy).turns t2 (fun k hk hs => h.ap x y k hx hy hxy hs hk)).turns t3 (fun k hk e => h.ng y hy (by rw [hk, e]))
  · intro y z k hy hz hyz
    rw [getD_set _ _ _ _ (by omega), getD_set _ _ _ _ (by omega)]
    by_cases h1 : x = y
    · have h2 : ¬ x = z := by omega
      simp only [h1, if_true]
      rw [if_neg (by omega)]
      intro e e'
      simp [Value.ownBlock] at e
      rcases e2 with q | q
      · exact h.ap x z k hx hz h2 (by rw [q, e]) e'
      · have := lt z k hz e'; omega
    · by_cases h2 : x = z
      · rw [if_neg h1, if_pos h2]
        intro e e'
        simp [Value.ownBlock] at e'
        rcases e2 with q | q
        · exact h.ap x y k hx hy h1 (by rw [q, e']) e
        · have := lt y k hy e; omega
      · rw [if_neg h1, if_neg h2]
        exact h.ap y z k hy hz hyz
  · intro y hy
    rw [getD_set _ _ _ _ (by omega)]
    by_cases h1 : x = y
    · rw [if_pos h1]; simpa [Value.ownBlock] using g2g
    · rw [if_neg h1]; exact h.ng y hy
  · exact (t2.mono (fun k _ hk => .inr ⟨x, hx, hk⟩)).trans (t3.mono (fun k _ hk => .inl hk))
  · intro k hk
    rcases hk with hk | ⟨y, hy, hk⟩
    · exact .inl (.inl hk)
    · rw [getD_set _ _ _ _ (by omega)] at hk
      by_cases h1 : x = y
      · rw [if_pos h1] at hk
        simp [Value.ownBlock] at hk
        rcases e2 with q | q
        · exact .inl (.inr ⟨x, hx, by rw [q, hk]⟩)
        · right; omega
      · rw [if_neg h1] at hk
        exact .inl (.inr ⟨y, hy, hk⟩)

theorem Try.zero48 : (Try.prog.info? 48).map (fun i => i.zero.map (fun z => z.cells)) = some (some (Array.replicate 80 (.slice none 0 0))) := by kernel_rfl

/-- The array, laid anew. -/
theorem wpList_alloc_want (w : World) {ops : Array Oper} {rest : List Oper} {o : Oper} {a : Act} {Q : Exit → Act → World → Prop} (hw : Region.wanted o (yielded ops a.tmps) = true) (ho : o.op = .alloc 48)
    (B : Nat) (hB : B ≤ w.heap.size)
    (h : ∀ w', WantP B w' w.heap.size (List.replicate 80 nilV) (fun _ => []) → Turns (fun _ => False) w w' → wpList Try.prog ops Q rest (a.put o.dst (.pointer (some ⟨w.heap.size, 0, none⟩))) w') :
    wpList Try.prog ops Q (o :: rest) a w := by
  refine wpList_step fun K hK => ?_
  rw [if_pos hw]
  have hz := Try.zero48
  cases hi : Try.prog.info? 48 with
  | none => rw [hi] at hz; cases hz
  | some i =>
    rw [hi] at hz
    simp only [Option.map_some, Option.some.injEq] at hz
    cases hi0 : i.zero with
    | none => rw [hi0] at hz; cases hz
    | some z =>
      rw [hi0] at hz
      simp only [Option.map_some, Option.some.injEq] at hz
      have hrun : (Instr.alloc 48 true (.tuple #[])).run Try.prog w = .ok (.pointer (some ⟨w.heap.size, 0, none⟩)) (w.alloc (.cells (Array.replicate 80 nilV) 48)) := by
        simp [Instr.alloc, zeroValue, typeInfo, hi, hi0, newVar, newRow, hz, nilV]
      unfold Oper.wp
      simp only [execOp, ho, hrun, Sem.run_bind, Sem.run_pure, Result.andThen_ok]
      refine hK _ _ (h _ ?_ ((Turns.refl _ _).alloc _))
      have own := World.ownsRow_lit (base := B) (e := 48) (size := 1) w (Array.replicate 80 nilV) 80 hB (by unfold maxLen; omega) (by simp)
      have nb : ∀ x, ((List.replicate 80 nilV).getD x nilV) = nilV := by
        intro x
        rw [List.getD_eq_getElem?_getD, List.getElem?_replicate]
        split <;> rfl
      refine ⟨by simpa using own, ?_, ?_, ?_⟩
      · intro x hx; rw [nb]; exact World.ownsRow_nil _ _ _ _
      · intro x y k _ _ _ e; rw [nb] at e; simp [nilV, Value.ownBlock] at e
      · intro x _; rw [nb]; simp [nilV, Value.ownBlock]
end Go.Proofs.Ytohgjdefgabfeaa
