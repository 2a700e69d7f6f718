/- Cases and ops in memory: what a slice of cases shows, rows of cases of the call's own, append. -/
import Derived.Test.YtolljdomnohmdabGreatDoorM2
namespace Go.Proofs.YtolljdomnohmdabGreatDoor
open Go.RowKit

def caseV (c : CaseD) : List Value := [.bool c.send, .int .i64 c.chan, .int .i64 c.v]
def flatC (row : List CaseD) : List Value := row.flatMap caseV
def zeroC : CaseD := ⟨false, 0, 0⟩
theorem flatC_append (a b : List CaseD) : flatC (a ++ b) = flatC a ++ flatC b := by simp [flatC]
theorem flatC_length (row : List CaseD) : (flatC row).length = row.length * 3 := by
  induction row with
  | nil => rfl
  | cons x r ih => simp only [flatC, List.flatMap_cons, List.length_append, List.length_cons] at *; simp [caseV, ih]; omega
theorem flatC_get (row : List CaseD) : ∀ (i j : Nat), i < row.length → j < 3 → (flatC row)[i * 3 + j]? = (caseV (row.getD i zeroC))[j]? := by
  induction row with
  | nil => intro i j h; simp at h
  | cons x r ih =>
    intro i j h hj
    simp only [flatC, List.flatMap_cons]
    cases i with
    | zero =>
      rw [List.getElem?_append_left (by simp [caseV]; omega)]
      simp
    | succ i =>
      rw [List.getElem?_append_right (by simp [caseV]; omega)]
      have := ih i j (by simpa using h) hj
      simp only [flatC] at this
      rw [show (i + 1) * 3 + j - (caseV x).length = i * 3 + j from by simp [caseV]; omega, this]
      simp
theorem flatC_one (row : List CaseD) : ∀ u ∈ flatC row, u.oneCell' = true := by
  intro u hu
  simp only [flatC, List.mem_flatMap] at hu
  obtain ⟨e, _, he⟩ := hu
  simp [caseV] at he
  rcases he with rfl | rfl | rfl <;> rfl

/-- What a slice of n cases shows. -/
def AtC (w : World) (a : Option Addr) (n : Nat) (l : List CaseD) : Prop :=
  l.length = n ∧ ∀ j, j < n → ∃ b f, a = some ⟨b, f, none⟩ ∧ w.cell? ⟨b, f + j * 3, none⟩ = some (.bool (l.getD j zeroC).send) ∧ w.cell? ⟨b, f + j * 3 + 1, none⟩ = some (.int .i64 (l.getD j zeroC).chan) ∧ w.cell? ⟨b, f + j * 3 + 2, none⟩ = some (.int .i64 (l.getD j zeroC).v)
theorem AtC.kept {w w' : World} {a : Option Addr} {n : Nat} {l : List CaseD} (h : AtC w a n l) (t : Kept w w') : AtC w' a n l := by
  refine ⟨h.1, fun j hj => ?_⟩
  obtain ⟨b, f, e, h1, h2, h3⟩ := h.2 j hj
  exact ⟨b, f, e, t.cell h1, t.cell h2, t.cell h3⟩
theorem AtC.none (w : World) : AtC w none 0 [] := ⟨rfl, fun j hj => by omega⟩
theorem AtC.get {w : World} {a : Option Addr} {n : Nat} {l : List CaseD} (h : AtC w a n l) (j : Nat) (hj : j < n) : ∃ b f, ∃ sd : Bool, ∃ ch v : Int, a = some ⟨b, f, Option.none⟩ ∧ w.cell? ⟨b, f + j * 3, Option.none⟩ = some (.bool sd) ∧ w.cell? ⟨b, f + j * 3 + 1, Option.none⟩ = some (.int .i64 ch) ∧ w.cell? ⟨b, f + j * 3 + 2, Option.none⟩ = some (.int .i64 v) ∧ b < w.heap.size ∧ l[j]? = some ⟨sd, ch, v⟩ ∧ l.take (j + 1) = l.take j ++ [⟨sd, ch, v⟩] ∧ l.drop j = ⟨sd, ch, v⟩ :: l.drop (j + 1) := by
  obtain ⟨b, f, e, h1, h2, h3⟩ := h.2 j hj
  have hl : j < l.length := by rw [h.1]; exact hj
  have hg : l.getD j zeroC = l[j] := by simp [List.getD_eq_getElem?_getD, hl]
  rw [hg] at h1 h2 h3
  refine ⟨b, f, l[j].send, l[j].chan, l[j].v, e, h1, h2, h3, cell_lt h1, ?_, ?_, ?_⟩
  · rw [List.getElem?_eq_getElem hl]
  · rw [List.take_add_one, List.getElem?_eq_getElem hl]; rfl
  · rw [List.drop_eq_getElem_cons hl]

/-- A row of cases that the call owns (e: their type). -/
def CRow (e : TypeId) (base : Nat) (w : World) (v : Value) (l : List CaseD) : Prop := w.ownsRow base e 3 v l.length (flatC l)
theorem CRow.at {e : TypeId} {base : Nat} {w : World} {v : Value} {l : List CaseD} (h : CRow e base w v l) : ∃ a c, v = .slice a l.length c ∧ l.length ≤ c ∧ AtC w a l.length l := by
  rcases h.2 with ⟨h1, h2⟩ | ⟨g, cap, cur, h1, _, _, h3, _⟩
  · refine ⟨Option.none, 0, by rw [h1, h2], by omega, rfl, ?_⟩
    intro i hi; omega
  · refine ⟨some ⟨g, 0, Option.none⟩, cap, h1, h3, rfl, ?_⟩
    intro j hj
    refine ⟨g, 0, rfl, ?_⟩
    have h' := h
    unfold CRow at h'
    rw [h1] at h'
    have hc : ∀ i, i < 3 → w.cell? ⟨g, 0 + j * 3 + i, Option.none⟩ = (caseV (l.getD j zeroC))[i]? := by
      intro i hi
      rw [Nat.zero_add, h'.cellAt (j * 3 + i) (by omega), flatC_get l j i hj hi]
    exact ⟨hc 0 (by omega), hc 1 (by omega), hc 2 (by omega)⟩
theorem CRow.nil (e : TypeId) (base : Nat) (w : World) : CRow e base w (.slice Option.none 0 0) [] := World.ownsRow_nil _ _ _ _
theorem CRow.kept {e : TypeId} {base : Nat} {w w' : World} {v : Value} {l : List CaseD} (h : CRow e base w v l) (t : Kept w w') : CRow e base w' v l := own_kept h t

/-- t is a slice of e, and e a case. -/
structure KindOf (t e : TypeId) : Prop where
  und : Tryz.prog.underlying t = some (.slice e)
  inf : (Tryz.prog.info? e).map (fun i => (i.zero, i.size, i.bytes)) = some (some (.agg #[.bool false, .int .i64 0, .int .i64 0]), 3, 24)
theorem kP : KindOf 35 57 := ⟨Tryz.underlying35, by kernel_rfl⟩
theorem kR : KindOf 100 108 := ⟨Tryz.underlying100, by kernel_rfl⟩

/-- One case behind a row of cases. -/
theorem wp_append_case {t e : TypeId} (kk : KindOf t e) (w : World) {o : Oper} {a : Act} {K : Act → World → Prop} {Q : Exit → Act → World → Prop} (s x : Operand)
    (ho : o.op = .call { callee := .builtin .append, args := #[s, x], argTypes := #[t, t] })
    (base : Nat) (v1 : Value) (l1 : List CaseD) (sd : Bool) (ch v : Int) (W : World) (hw1 : w = W.alloc (.cells #[.bool sd, .int .i64 ch, .int .i64 v] e)) (hs : a.eval s = v1) (nb : Nat) (hnb : nb = W.heap.size) (hx : a.eval x = .slice (some ⟨nb, 0, none⟩) 1 1) (h1 : CRow e base W v1 l1) (hl : l1.length ≤ 1000000) (hB : base ≤ W.heap.size)
    (h : ∀ g cap w', CRow e base w' (.slice (some ⟨g, 0, none⟩) (l1.length + 1) cap) (l1 ++ [⟨sd, ch, v⟩]) → w.grownBy w' v1.ownBlock → (v1.ownBlock = some g ∨ W.heap.size < g) → K (a.put o.dst (.slice (some ⟨g, 0, none⟩) (l1.length + 1) cap)) w') :
    o.wp Tryz.prog a w K Q := by
  subst hw1
  subst hnb
  obtain ⟨i, hi, hz0, hz1, hz2⟩ := info_parts kk.inf
  have hc : ∀ j u, (flatC [⟨sd, ch, v⟩])[j]? = some u → (W.alloc (.cells #[.bool sd, .int .i64 ch, .int .i64 v] e)).cell? (Addr.add ⟨W.heap.size, 0, none⟩ j) = some u := by
    intro j u hu
    rw [Addr.add_lit, Nat.zero_add, World.cell?_alloc_at _ _ _ _ rfl]
    simpa [flatC, caseV] using hu
  have h1' : (W.alloc (.cells #[.bool sd, .int .i64 ch, .int .i64 v] e)).ownsRow base e 3 v1 l1.length (flatC l1) := World.ownsRow.alloc h1 _
  have hB' := le_alloc (.cells #[.bool sd, .int .i64 ch, .int .i64 v] e) hB
  obtain ⟨v', w', hr, k1, k2, k3, k4⟩ := run_append_own_at (P := Tryz.prog) (W.alloc (.cells #[.bool sd, .int .i64 ch, .int .i64 v] e)) base t o.type e i _ 3 24 kk.und hi hz0 hz1 hz2 rfl (by omega) _ l1.length (flatC l1) h1' ⟨W.heap.size, 0, none⟩ 1 1 (flatC [⟨sd, ch, v⟩]) (by simp [flatC, caseV]) hc (flatC_one _) (by unfold maxLen; omega) (by omega) hB'
  obtain ⟨g, cap, rfl⟩ := own_form k1 (fun e => by have := k3.1 e; have := this.2; omega)
  unfold Oper.wp
  simp [execOp, ho, resolve, invoke, builtin, hs, hx, hr, Result.andThen]
  refine h g cap w' ?_ k2 ?_
  · unfold CRow
    rw [List.length_append, flatC_append]
    exact k1
  · rcases k4 with k4 | k4
    · exact .inl k4.symm
    · right; simp [Value.ownBlock] at k4; omega
theorem wpList_append_case {t e : TypeId} (kk : KindOf t e) (w : World) {ops : Array Oper} {rest : List Oper} {o : Oper} {a : Act} {Q : Exit → Act → World → Prop} (hw : Region.wanted o (yielded ops a.tmps) = true) (s x : Operand)
    (ho : o.op = .call { callee := .builtin .append, args := #[s, x], argTypes := #[t, t] })
    (base : Nat) (v1 : Value) (l1 : List CaseD) (sd : Bool) (ch v : Int) (W : World) (hw1 : w = W.alloc (.cells #[.bool sd, .int .i64 ch, .int .i64 v] e)) (hs : a.eval s = v1) (nb : Nat) (hnb : nb = W.heap.size) (hx : a.eval x = .slice (some ⟨nb, 0, none⟩) 1 1) (h1 : CRow e base W v1 l1) (hl : l1.length ≤ 1000000) (hB : base ≤ W.heap.size)
    (h : ∀ g cap w', CRow e base w' (.slice (some ⟨g, 0, none⟩) (l1.length + 1) cap) (l1 ++ [⟨sd, ch, v⟩]) → w.grownBy w' v1.ownBlock → (v1.ownBlock = some g ∨ W.heap.size < g) → wpList Tryz.prog ops Q rest (a.put o.dst (.slice (some ⟨g, 0, none⟩) (l1.length + 1) cap)) w') :
    wpList Tryz.prog ops Q (o :: rest) a w := by
  refine wpList_step fun K hK => ?_
  rw [if_pos hw]
  exact wp_append_case kk w s x ho base v1 l1 sd ch v W hw1 hs nb hnb hx h1 hl hB fun g cap w' k1 k2 k3 => hK _ _ (h g cap w' k1 k2 k3)
theorem step_append_case {t e : TypeId} (kk : KindOf t e) (w : World) {ops : Array Oper} {o : Oper} {a : Act} {K : Act → World → Prop} {Q : Exit → Act → World → Prop} {E : Prop} (hgd : o.guard = none) (s x : Operand)
    (ho : o.op = .call { callee := .builtin .append, args := #[s, x], argTypes := #[t, t] })
    (base : Nat) (v1 : Value) (l1 : List CaseD) (sd : Bool) (ch v : Int) (W : World) (hw1 : w = W.alloc (.cells #[.bool sd, .int .i64 ch, .int .i64 v] e)) (hs : a.eval s = v1) (nb : Nat) (hnb : nb = W.heap.size) (hx : a.eval x = .slice (some ⟨nb, 0, none⟩) 1 1) (h1 : CRow e base W v1 l1) (hl : l1.length ≤ 1000000) (hB : base ≤ W.heap.size)
    (h : ∀ g cap w', CRow e base w' (.slice (some ⟨g, 0, none⟩) (l1.length + 1) cap) (l1 ++ [⟨sd, ch, v⟩]) → w.grownBy w' v1.ownBlock → (v1.ownBlock = some g ∨ W.heap.size < g) → K (a.put o.dst (.slice (some ⟨g, 0, none⟩) (l1.length + 1) cap)) w') :
    if Region.wanted o (yielded ops a.tmps) = true then Oper.wp Tryz.prog o a w K Q else E := by
  have hw : Region.wanted o (yielded ops a.tmps) = true := by simp [Region.wanted, hgd]
  rw [if_pos hw]
  exact wp_append_case kk w s x ho base v1 l1 sd ch v W hw1 hs nb hnb hx h1 hl hB h

/-- A row of the table. -/
theorem Rdy.row {w : World} (h : Rdy w) (k : Nat) (hk : k ≤ 9) (i : Nat) (v : Value) (hv : (shV (shapeOf k))[i]? = some v) : w.cell? ⟨0, k * 7 + i, none⟩ = some v := h.sh k hk i v hv

theorem isKind_any (k : Int) (w : World) : Calls Tryz.prog 36 #[.int .i64 k] w fun e w' => e = .returned (.bool (isKindB k)) ∧ w' = w := by
  rcases h1 : decide (1 ≤ k) with _ | _
  · have HK : Hid (isKindB k = false) := by show _ = _; unfold isKindB; rw [h1]; rfl
    go_enter Tryz.func36, Tryz.ntmps36
    go_wp2_with fail
    go_ret
    rw [HK.out]
    exact ⟨rfl, rfl⟩
  · have HK : Hid (isKindB k = decide (k ≤ 9)) := by show _ = _; unfold isKindB; rw [h1]; rfl
    go_enter Tryz.func36, Tryz.ntmps36
    go_wp2_with fail
    go_ret
    rw [HK.out]
    exact ⟨rfl, rfl⟩

end Go.Proofs.YtolljdomnohmdabGreatDoor
