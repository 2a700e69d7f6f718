/- slices.Delete of one entry, by its contract. -/
import Derived.Test.YtohgjdefgabfeaaTick
namespace Go.Proofs.Ytohgjdefgabfeaa
open Go.RowKit Tm

theorem own_setCells {B : Nat} {e : TypeId} {size g n cap : Nat} (vs : List Value) : ∀ (o : Nat) (w : World) (xs : List Value), w.ownsRow B e size (.slice (some ⟨g, 0, none⟩) n cap) n xs → o + vs.length ≤ xs.length →
    (w.setCells g o vs).ownsRow B e size (.slice (some ⟨g, 0, none⟩) n cap) n (xs.take o ++ vs ++ xs.drop (o + vs.length)) ∧ Turns (fun k => k = g) w (w.setCells g o vs) := by
  induction vs with
  | nil =>
    intro o w xs h _
    refine ⟨?_, Turns.refl _ _⟩
    simpa [World.setCells] using h
  | cons v r ih =>
    intro o w xs h hl
    simp only [List.length_cons] at hl
    have h1 := (h.stored o v).1
    obtain ⟨k1, k2⟩ := ih (o + 1) _ _ h1 (by rw [List.length_set]; omega)
    rw [World.setCells]
    refine ⟨?_, (Turns.setCell (S := fun k => k = g) (Turns.refl _ w) (p := ⟨g, o, none⟩) rfl v).trans k2⟩
    have e1 : (xs.set o v).take (o + 1) = xs.take o ++ [v] := by
      rw [List.take_add_one, List.take_set_of_le (Nat.le_refl _), List.getElem?_set_self (by omega)]; rfl
    have e2 : (xs.set o v).drop (o + 1 + r.length) = xs.drop (o + (r.length + 1)) := by
      rw [List.drop_set_of_lt (by omega)]; congr 1; omega
    rw [e1, e2] at k1
    simpa using k1

/-- The entries behind place k, laid one place ahead. -/
theorem step_shift (w : World) {ops : Array Oper} {o : Oper} {a : Act} {K : Act → World → Prop} {Q : Exit → Act → World → Prop} {E : Prop} (hgd : o.guard = none) (s x : Operand)
    (ho : o.op = .call { callee := .builtin .append, args := #[s, x], argTypes := #[51, 51] })
    (B g n cap k c : Nat) (row : List Du) (ad : Addr) (m : Nat) (hs : a.eval s = .slice (some ⟨g, 0, none⟩) k cap) (hx : a.eval x = .slice (some ad) m c) (hm : m = n - (k + 1))
    (h1 : w.ownsRow B 57 2 (.slice (some ⟨g, 0, none⟩) n cap) n (flat row)) (hn : row.length = n) (hk : k < n) (had : n = k + 1 ∨ ad = ⟨g, (k + 1) * 2, none⟩)
    (h : ∀ w1 ys, w1.ownsRow B 57 2 (.slice (some ⟨g, 0, none⟩) n cap) n ys → ys.take ((n - 1) * 2) = flat (row.eraseIdx k) → Turns (fun j => j = g) w w1 → K (a.put o.dst (.slice (some ⟨g, 0, none⟩) (n - 1) cap)) w1) :
    if Region.wanted o (yielded ops a.tmps) = true then Oper.wp Try.prog o a w K Q else E := by
  have hw : Region.wanted o (yielded ops a.tmps) = true := by simp [Region.wanted, hgd]
  rw [if_pos hw]
  subst hm
  obtain ⟨i, hi, hz0, hz1, hz2⟩ := info_parts kT.inf
  have hcap : n ≤ cap := by
    rcases h1.2 with ⟨e, _⟩ | ⟨g', cap', cur, e, _, _, h3, _⟩
    · cases e
    · cases e; exact h3
  have hfl : (flat row).length = n * 2 := by rw [flat_length, hn]
  have hdl : (flat (row.drop (k + 1))).length = (n - (k + 1)) * 2 := by rw [flat_length, List.length_drop, hn]
  have hsplit : flat row = flat (row.take (k + 1)) ++ flat (row.drop (k + 1)) := by rw [← flat_append, List.take_append_drop]
  have hnews : ∀ j u, (flat (row.drop (k + 1)))[j]? = some u → w.cell? (ad.add j) = some u := by
    intro j u hu
    have hj : j < (n - (k + 1)) * 2 := by rw [← hdl]; exact (List.getElem?_eq_some_iff.1 hu).1
    rcases had with e | rfl
    · omega
    · rw [Addr.add_lit, h1.cellAt _ (by omega), hsplit, List.getElem?_append_right (by rw [flat_length, List.length_take]; omega)]
      rw [flat_length, List.length_take, Nat.min_eq_left (by omega), Nat.add_sub_cancel_left]
      exact hu
  have hrun := run_append_room_cells (P := Try.prog) w 51 o.type 57 i kT.und hi g 0 k cap ad (n - (k + 1)) c (flat (row.drop (k + 1))) (by rw [hz1]; exact hdl) hnews (flat_one _) (by omega)
    (by
      intro j hj
      rw [hdl] at hj
      rw [hz1, h1.cellAt _ (by omega)]
      rw [List.getElem?_eq_getElem (by omega)]; rfl)
    (by intro j hj; exact h1.frozenAt _)
  obtain ⟨o1, t1⟩ := own_setCells (flat (row.drop (k + 1))) (k * 2) w (flat row) h1 (by omega)
  unfold Oper.wp
  simp [execOp, ho, resolve, invoke, builtin, hs, hx, hrun, Result.andThen]
  rw [hz1, show k + (n - (k + 1)) = n - 1 from by omega]
  refine h _ _ o1 ?_ t1
  rw [List.take_append_of_le_length (by rw [List.length_append, List.length_take, hdl]; omega)]
  rw [List.take_of_length_le (by rw [List.length_append, List.length_take, hdl]; omega), flat_take, ← flat_append]
  rw [List.eraseIdx_eq_take_drop_succ]

theorem wpList_clear_last (w : World) {ops : Array Oper} {rest : List Oper} {o : Oper} {a : Act} {Q : Exit → Act → World → Prop} (hw : Region.wanted o (yielded ops a.tmps) = true) (s : Operand)
    (ho : o.op = .call { callee := .builtin .clear, args := #[s], argTypes := #[51] })
    (B g n cap m c : Nat) (xs : List Value) (hs : a.eval s = .slice (some ⟨g, (n - 1) * 2, none⟩) m c) (hm : m = 1) (h1 : w.ownsRow B 57 2 (.slice (some ⟨g, 0, none⟩) n cap) n xs) (hn : 0 < n)
    (h : ∀ w1 ys, w1.ownsRow B 57 2 (.slice (some ⟨g, 0, none⟩) n cap) n ys → ys.take ((n - 1) * 2) = xs.take ((n - 1) * 2) → Turns (fun j => j = g) w w1 → wpList Try.prog ops Q rest (a.put o.dst (.tuple #[])) w1) :
    wpList Try.prog ops Q (o :: rest) a w := by
  refine wpList_step fun K hK => ?_
  rw [if_pos hw]
  subst hm
  obtain ⟨i, hi, hz0, hz1, hz2⟩ := info_parts kT.inf
  have hv : ∀ w, (zeroValue 57).run Try.prog w = .ok (.agg #[.int .i64 0, .int .i64 0]) w := by
    intro w; simp [zeroValue, typeInfo, hi, hz0]
  have hzc : (Builtin.zeroCells (Value.agg #[.int .i64 0, .int .i64 0]).cells 1).toList = [.int .i64 0, .int .i64 0] := by kernel_rfl
  have hxl := h1.1
  have hst := run_storeCells_cells (P := Try.prog) g ((n - 1) * 2) [.int .i64 0, .int .i64 0] 0 w
    (by intro j hj; simp at hj; rw [h1.cellAt _ (by omega), List.getElem?_eq_getElem (by omega)]; rfl) (by intro j hj; exact h1.frozenAt _) (by intro v hv; simp at hv; subst hv; rfl)
  simp only [Nat.add_zero] at hst
  have hrun : (Builtin.clear_ #[51] o.type #[.slice (some ⟨g, (n - 1) * 2, none⟩) 1 c]).run Try.prog w = .ok (.tuple #[]) (w.setCells g ((n - 1) * 2) [.int .i64 0, .int .i64 0]) := by
    simp [Builtin.clear_, run_underlying kT.und, hv, hzc, hst]
  obtain ⟨o1, t1⟩ := own_setCells [.int .i64 0, .int .i64 0] ((n - 1) * 2) w xs h1 (by simp; omega)
  unfold Oper.wp
  simp [execOp, ho, resolve, invoke, builtin, hs, hrun, Result.andThen]
  refine hK _ _ (h _ _ o1 ?_ t1)
  rw [List.append_assoc, List.take_append_of_le_length (by rw [List.length_take]; omega), List.take_take, Nat.min_self]
set_option maxHeartbeats 2000000 in
theorem delete_any {B : Nat} {w : World} {g cap : Nat} {row : List Du} (k : Nat) (h : w.ownsRow B 57 2 (.slice (some ⟨g, 0, none⟩) row.length cap) row.length (flat row)) (hk : k < row.length) (hl : row.length ≤ 1000) :
    Calls Try.prog 22 #[.slice (some ⟨g, 0, none⟩) row.length cap, .int .i64 (k : Int), .int .i64 ((k : Int) + 1)] w fun e w' => e = .returned (.slice (some ⟨g, 0, none⟩) (row.length - 1) cap) ∧
      w'.ownsRow B 57 2 (.slice (some ⟨g, 0, none⟩) (row.length - 1) cap) (row.length - 1) (flat (row.eraseIdx k)) ∧ Turns (fun j => j = g) w w' := by
  have hcap : row.length ≤ cap := by
    rcases h.2 with ⟨e, _⟩ | ⟨g', cap', cur, e, _, _, h3, _⟩
    · cases e
    · cases e; exact h3
  have b1 : (k : Int) < (row.length : Int) := by omega
  have b2 : (0 : Int) ≤ (k : Int) := by omega
  have b3 : (k : Int) + 1 ≤ (row.length : Int) := by omega
  have b4 : (k : Int) ≤ (cap : Int) := by omega
  have b5 : ((k : Int) + 1).toNat = k + 1 := by omega
  have b7 : (0 : Int) ≤ (k : Int) + 1 := by omega
  have b8 : (k : Int) ≤ (k : Int) + 1 := by omega
  have b9 : (row.length : Int) ≤ (cap : Int) := by omega
  have q : ((k : Int) == (k : Int) + 1) = false := by simp; omega
  have hD : w.drew.ownsRow B 57 2 (.slice (some ⟨g, 0, none⟩) row.length cap) row.length (flat row) := h
  have b10 : ((row.length - 1 : Nat) : Int) ≤ (row.length : Int) := by omega
  have b11 : (0 : Int) ≤ ((row.length - 1 : Nat) : Int) := by omega
  by_cases hc : cap = k + 1
  · have HC2 : Hid (row.length = k + 1) := by show _ = _; omega
    subst hc
    go_enter Try.func22, Try.ntmps22
    go_wp2_with fail
    go_region_law (refine step_shift _ (by rfl) _ _ (by rfl) B g row.length (k + 1) k 0 row ⟨g, 0, none⟩ 0 (by rfl) (by rfl) (by omega) hD rfl hk (.inl HC2.out) ?_; intro w1 ys o1 y1 t1)
    all_goals have b12 : ¬ (k + 1) = row.length - 1 := by omega
    all_goals go_wp2_with (refine wpList_clear_last _ (by rfl) (.tmp 31) rfl B g row.length (k + 1) (row.length - (row.length - 1)) _ ys (by rfl) (by omega) o1 (by omega) ?_; intro w2 zs o2 y2 t2)
    all_goals go_ret
    all_goals
      have o3 := own_take o2 (r := row.length - 1) (by omega)
      rw [y2, y1] at o3
      exact ⟨rfl, o3, ((Turns.refl _ _).drew).trans (t1.trans t2)⟩
  · go_enter Try.func22, Try.ntmps22
    go_wp2_with fail
    go_region_law (refine step_shift _ (by rfl) _ _ (by rfl) B g row.length cap k (cap - (k + 1)) row ⟨g, (k + 1) * 2, none⟩ (row.length - (k + 1)) (by rfl) (by rfl) rfl hD rfl hk (.inr rfl) ?_; intro w1 ys o1 y1 t1)
    all_goals have b12 : ¬ cap = row.length - 1 := by omega
    all_goals go_wp2_with (refine wpList_clear_last _ (by rfl) (.tmp 31) rfl B g row.length cap (row.length - (row.length - 1)) _ ys (by rfl) (by omega) o1 (by omega) ?_; intro w2 zs o2 y2 t2)
    all_goals go_ret
    all_goals
      have o3 := own_take o2 (r := row.length - 1) (by omega)
      rw [y2, y1] at o3
      exact ⟨rfl, o3, ((Turns.refl _ _).drew).trans (t1.trans t2)⟩
end Go.Proofs.Ytohgjdefgabfeaa
