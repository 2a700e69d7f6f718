/- Tick of a timer, by its contract. -/
import Derived.Test.YtohgjdefgabfeaaPut
namespace Go.Proofs.Ytohgjdefgabfeaa
open Go.RowKit Tm

/-- One entry appended within a row that is longer than the slice. -/
theorem wpList_append_in (w : World) {ops : Array Oper} {rest : List Oper} {o : Oper} {a : Act} {Q : Exit → Act → World → Prop} (hw : Region.wanted o (yielded ops a.tmps) = true) (s x : Operand)
    (ho : o.op = .call { callee := .builtin .append, args := #[s, x], argTypes := #[51, 51] })
    (B g r n cap : Nat) (M : List Du) (d : Du) (W : World) (hw1 : w = W.alloc (.cells #[.int .i64 d.id, .int .i64 d.left] 57)) (hs : a.eval s = .slice (some ⟨g, 0, none⟩) r cap) (nb : Nat) (hnb : nb = W.heap.size) (hx : a.eval x = .slice (some ⟨nb, 0, none⟩) 1 1)
    (h1 : W.ownsRow B 57 2 (.slice (some ⟨g, 0, none⟩) n cap) n (flat M)) (hn : M.length = n) (hr : r < n)
    (h : ∀ w', w'.ownsRow B 57 2 (.slice (some ⟨g, 0, none⟩) n cap) n (flat (M.set r d)) → Turns (fun k => k = g) W w' → wpList Try.prog ops Q rest (a.put o.dst (.slice (some ⟨g, 0, none⟩) (r + 1) cap)) w') :
    wpList Try.prog ops Q (o :: rest) a w := by
  refine wpList_step fun K hK => ?_
  rw [if_pos hw]
  subst hw1
  subst hnb
  obtain ⟨i, hi, hz0, hz1, hz2⟩ := info_parts kT.inf
  have o1 := h1.alloc (.cells #[.int .i64 d.id, .int .i64 d.left] 57)
  have hcap : n ≤ cap := by
    rcases h1.2 with ⟨e, _⟩ | ⟨g', cap', cur, e, _, _, h3, _⟩
    · cases e
    · cases e; exact h3
  have hnews : ∀ j u, (duV d)[j]? = some u → (W.alloc (.cells #[.int .i64 d.id, .int .i64 d.left] 57)).cell? ((⟨W.heap.size, 0, none⟩ : Addr).add j) = some u := by
    intro j u hu
    rw [Addr.add_lit, Nat.zero_add, World.cell?_alloc_at _ _ _ _ rfl]
    simpa [duV] using hu
  have hsz : i.size = 2 := hz1
  have hrun := run_append_room_cells (P := Try.prog) (W.alloc (.cells #[.int .i64 d.id, .int .i64 d.left] 57)) 51 o.type 57 i kT.und hi g 0 r cap ⟨W.heap.size, 0, none⟩ 1 1 (duV d) (by rw [hsz]; rfl) hnews (by intro u hu; simp [duV] at hu; rcases hu with rfl | rfl <;> rfl) (by omega)
    (by
      intro j hj
      simp [duV] at hj
      rw [hsz, o1.cellAt _ (by omega)]
      rw [show 0 + r * 2 + j = r * 2 + j from by omega, flat_get' M r j (by omega) (by omega)]
      rfl)
    (by intro j hj; exact o1.frozenAt _)
  unfold Oper.wp
  simp [execOp, ho, resolve, invoke, builtin, hs, hx, hrun, Result.andThen]
  refine hK _ _ (h _ ?_ ?_)
  · rw [hsz]
    have := own_set o1 r (by omega) d
    simpa [duV, World.setCells] using this
  · rw [hsz]
    simp only [duV, World.setCells]
    exact (((Turns.refl (fun k => k = g) W).alloc _).setCell (p := ⟨g, r * 2, none⟩) rfl _).setCell (p := ⟨g, r * 2 + 1, none⟩) rfl _

set_option maxHeartbeats 1000000 in
theorem tick_nil {B : Nat} {w : World} {tb : Nat} (h : TP 57 53 B w tb (.slice none 0 0) []) :
    Calls Try.prog 14 #[.pointer (some ⟨tb, 0, none⟩)] w fun e w' => e = .returned (.slice none 0 0) ∧ Out 57 53 B w w' tb (.slice none 0 0) (.slice none 0 0) [] := by
  have hc := h.c0
  have hf := h.f0
  have R := tp_store (S := fun _ => False) h (Turns.refl _ w) (fun x => x) h.own (by simp [Value.ownBlock]) h.pos (by simp)
  go_enter Try.func14, Try.ntmps14
  go_wp2_with fail
  go_step3
  go_wp2_with fail
  go_step3
  go_wp2_with fail
  go_loopw [3, 4, 17] (fun d r i wr => d = .slice none 0 0 ∧ r = .slice none 0 0 ∧ i = .int .i64 0 ∧ wr = w) (fun _ _ _ _ => 0)
  case atStart => exact ⟨rfl, rfl, rfl, rfl⟩
  case round =>
    obtain ⟨rfl, rfl, rfl, rfl⟩ := hrel
    go_wp2
    rw [Exit.noGoto_ret]
    go_ret
    exact ⟨rfl, R.2.2.1, R.2.2.2.mono (fun k _ x => by rcases x with x | x; exact .inl x; exact x.elim), fun k e => .inl e⟩

/-- In the midst of a Tick: c of the row are told. -/
structure TickSt (row : List Du) (c : Nat) (M : List Du) : Prop where
  len : M.length = row.length
  tk : M.take (restR (row.take c)).length = restR (row.take c)
  rest : ∀ j, c ≤ j → at' M j = at' row j
theorem tick_le (row : List Du) (c : Nat) : (restR (row.take c)).length ≤ c := by
  have := restR_le (row.take c); simp at this; omega
theorem TickSt.start (row : List Du) : TickSt row 0 row := ⟨rfl, rfl, fun _ _ => rfl⟩
theorem TickSt.due {row M : List Du} {c : Nat} (h : TickSt row c M) (hc : c < row.length) (hl : (at' row c).left = 1) : TickSt row (c + 1) M := by
  obtain ⟨_, e⟩ := due_step_in row c hc hl
  exact ⟨h.len, by rw [e]; exact h.tk, fun j hj => h.rest j (by omega)⟩
theorem at_set (row : List Du) (i j : Nat) (x : Du) (h : i ≠ j) : at' (row.set i x) j = at' row j := by
  unfold at'
  simp only [List.getD_eq_getElem?_getD, List.getElem?_set_ne h]
theorem TickSt.stay {row M : List Du} {c : Nat} (h : TickSt row c M) (hc : c < row.length) (hl : (at' row c).left ≠ 1) : TickSt row (c + 1) (M.set (restR (row.take c)).length ⟨(at' row c).id, (at' row c).left - 1⟩) := by
  obtain ⟨_, e⟩ := due_step_out row c hc hl
  have hle := tick_le row c
  have hlen := h.len
  refine ⟨by rw [List.length_set]; exact h.len, ?_, ?_⟩
  · rw [e, List.length_append]
    simp only [List.length_cons, List.length_nil]
    rw [List.take_add_one, List.take_set_of_le (Nat.le_refl _), h.tk, List.getElem?_set_self (by omega)]
    rfl
  · intro j hj
    rw [at_set _ _ _ _ (by omega)]
    exact h.rest j (by omega)

set_option maxHeartbeats 2000000 in
theorem tick_some {B : Nat} {w : World} {tb g cap : Nat} {row : List Du} (h : TP 57 53 B w tb (.slice (some ⟨g, 0, none⟩) row.length cap) row) (hB : B ≤ w.heap.size) :
    Calls Try.prog 14 #[.pointer (some ⟨tb, 0, none⟩)] w fun e w' => ∃ dv, e = .returned dv ∧ IntRow B w' dv (dueR row) ∧ (∀ k, dv.ownBlock = some k → w.heap.size ≤ k) ∧ ∃ rv', Out 57 53 B w w' tb (.slice (some ⟨g, 0, none⟩) row.length cap) rv' (restR row) ∧ rv'.ownBlock = some g := by
  have hc := h.c0
  have hf := h.f0
  have hlen := h.len
  have hown := h.own
  have hpos := h.pos
  have hcap : row.length ≤ cap := by
    rcases h.form with ⟨e, _⟩ | ⟨g', cap', e, h1, _⟩
    · cases e
    · cases e; exact h1
  have hgl : g < w.heap.size := (h.foot g (.inr rfl)).2
  go_enter Try.func14, Try.ntmps14
  go_wp2_with fail
  go_step3
  go_wp2_with fail
  go_step3
  go_wp2_with fail
  go_loopw [3, 4, 17] (fun d r i wr => ∃ (c : Nat) (M : List Du), i = .int .i64 c ∧ c ≤ row.length ∧ r = .slice (some ⟨g, 0, none⟩) (restR (row.take c)).length cap ∧ IntRow B wr d (dueR (row.take c)) ∧ Hid (∀ k, d.ownBlock = some k → w.heap.size ≤ k) ∧ wr.ownsRow B 57 2 (.slice (some ⟨g, 0, none⟩) row.length cap) row.length (flat M) ∧ TickSt row c M ∧ Turns (fun k => k = g) w wr) (fun _ _ i _ => row.length - (intOf i).toNat)
  case atStart => exact ⟨0, row, rfl, by omega, rfl, World.ownsRow_nil _ _ _ _, (fun k e => by simp [Value.ownBlock] at e), hown, TickSt.start row, Turns.refl _ _⟩
  case round =>
    obtain ⟨c, M, rfl, hcl, rfl, hd, HD, hM, hst, T⟩ := hrel
    have hsz := T.size
    by_cases hlt : c < row.length
    · have hml := hst.len
      have hq := own_get (e := 57) hM hml.symm c (by omega)
      rw [hst.rest c (Nat.le_refl _)] at hq
      obtain ⟨gx, gy⟩ := hq
      have hp := hpos.at c hlt
      have s1 := hst.due hlt
      have s2 := hst.stay hlt
      have d1 := due_step_in row c hlt
      have d2 := due_step_out row c hlt
      have hrl := tick_le row c
      generalize at' row c = X at *
      obtain ⟨x, y⟩ := X
      simp only at gx gy hp s1 s2 d1 d2
      have HS1 : Hid (y = 1 → TickSt row (c + 1) M) := s1
      have HS2 : Hid (y ≠ 1 → TickSt row (c + 1) (M.set (restR (row.take c)).length ⟨x, y - 1⟩)) := s2
      have HD1 : Hid (y = 1 → dueR (row.take (c + 1)) = dueR (row.take c) ++ [x] ∧ restR (row.take (c + 1)) = restR (row.take c)) := d1
      have HD2 : Hid (y ≠ 1 → dueR (row.take (c + 1)) = dueR (row.take c) ∧ restR (row.take (c + 1)) = restR (row.take c) ++ [⟨x, y - 1⟩]) := d2
      clear s1 s2 d1 d2
      obtain ⟨p1, p2⟩ := hp
      have b1 : (c : Int) < (row.length : Int) := by omega
      have b2 : (0 : Int) ≤ (c : Int) := by omega
      have hgr : g < wr.heap.size := by omega
      have hdl : (dueR (row.take c)).length ≤ 100000 := by have := dueR_le (row.take c); simp at this; omega
      have hd1 : IntRow B (wr.alloc (.cells #[.int .i64 x, .int .i64 (y - 1)] 57)) u3 (dueR (row.take c)) := World.ownsRow.alloc hd _
      have hM1 := hM.alloc (.cells #[.int .i64 x, .int .i64 (y - 1)] 57)
      have hB1 : B ≤ (wr.alloc (.cells #[.int .i64 x, .int .i64 (y - 1)] 57)).heap.size := le_alloc _ (by omega)
      have T1 : Turns (fun k => k = g) w (wr.alloc (.cells #[.int .i64 x, .int .i64 (y - 1)] 57)) := T.alloc _
      by_cases hy : y = 1
      · have q : (y - 1 == 0) = true := by simp; omega
        have HY : Hid (y = 1) := hy
        clear hy
        go_wp2_with (at_builtin; refine wpList_append_int _ (by rfl) _ _ rfl B u3 (dueR (row.take c)) x _ rfl (by rfl) (wr.heap.size + 1) (by simp) (by rfl) hd1 hdl hB1 ?_; intro g2 c2 w2 i2 t2 n2)
        go_roundw
        case rel =>
          have hng : ∀ k, k = g → ¬ u3.ownBlock = some k := fun k e e2 => by have := HD.out k e2; omega
          have hs2 := t2.size
          refine ⟨c + 1, M, by go_num, by omega, by rw [(HD1.out HY.out).2], ?_, ?_, owns_turns hM1 t2 (fun k hk e => by simp [Value.ownBlock] at hk; exact hng k hk.symm e), HS1.out HY.out, T1.next t2 (fun k hk e => by have := HD.out k e; omega)⟩
          · rw [(HD1.out HY.out).1]; simpa using i2
          · intro k e
            simp [Value.ownBlock] at e
            rcases n2 with n2 | n2
            · exact HD.out k (by rw [n2, e])
            · have := T1.size; omega
        case measure => simp [intOf]; omega
      · have q : (y - 1 == 0) = false := by simp; omega
        have HY : Hid (y ≠ 1) := hy
        clear hy
        go_wp2_with (at_builtin; refine wpList_append_in _ (by rfl) _ _ rfl B g (restR (row.take c)).length row.length cap M ⟨x, y - 1⟩ _ rfl (by rfl) (wr.heap.size + 1) (by simp) (by rfl) hM1 hml (by omega) ?_; intro w2 o2 t2)
        go_roundw
        case rel =>
          refine ⟨c + 1, _, by go_num, by omega, by rw [(HD2.out HY.out).2]; simp, ?_, HD, o2, HS2.out HY.out, T1.trans t2⟩
          rw [(HD2.out HY.out).1]
          exact hd1.turns t2 (fun k e e2 => by have := HD.out k e; omega)
        case measure => simp [intOf]; omega
    · have hce : c = row.length := by omega
      subst hce
      have b1 : ¬ ((row.length : Nat) : Int) < (row.length : Int) := by omega
      have hro := own_take hM (r := (restR row).length) (restR_le row)
      rw [flat_take] at hro
      have htk := hst.tk
      rw [List.take_length] at htk hd
      rw [htk] at hro
      have hrest : restR (List.take row.length row) = restR row := by rw [List.take_length]
      have R := tp_store h T (fun e => h.d (by rw [e]; rfl)) hro (by simp [Value.ownBlock]; exact fun e => h.d (by rw [e]; rfl)) h.pos.rest (by have := restR_le row; omega)
      obtain ⟨r1, r2, r3, r4⟩ := R
      have R3 : Hid (TP 57 53 B (wr.setCell ⟨tb, 0, none⟩ (.slice (some ⟨g, 0, none⟩) (restR row).length cap)) tb (.slice (some ⟨g, 0, none⟩) (restR row).length cap) (restR row)) := r3
      have R4 : Hid (Turns (fun k => k = tb ∨ k = g) w (wr.setCell ⟨tb, 0, none⟩ (.slice (some ⟨g, 0, none⟩) (restR row).length cap))) := r4
      clear r3 r4
      rw [hrest]
      go_wp2
      go_ret
      have htl := h.tb_lt
      refine ⟨_, rfl, ?_, HD.out, _, ⟨R3.out, R4.out.mono (fun k _ e => by rcases e with e | e; exact .inl e; exact .inr (by simp [Value.ownBlock, e])), fun k e => .inl e⟩, rfl⟩
      exact hd.turns (Turns.setCell (S := fun k => k = tb) (Turns.refl _ wr) (p := ⟨tb, 0, none⟩) rfl _) (fun k e e2 => by have := HD.out k e; omega)

theorem tick_any {B : Nat} {w : World} {tb : Nat} {rv : Value} {row : List Du} (h : TP 57 53 B w tb rv row) (hB : B ≤ w.heap.size) :
    Calls Try.prog 14 #[.pointer (some ⟨tb, 0, none⟩)] w fun e w' => ∃ dv, e = .returned dv ∧ IntRow B w' dv (dueR row) ∧ ∃ rv', Out 57 53 B w w' tb rv rv' (restR row) ∧ ∀ k, dv.ownBlock = some k → w.heap.size ≤ k ∧ ¬ Foot tb rv' k := by
  rcases h.form with ⟨rfl, rfl⟩ | ⟨g, cap, rfl, _, _⟩
  · refine (tick_nil h).mono ?_
    rintro e w' ⟨rfl, o⟩
    exact ⟨_, rfl, World.ownsRow_nil _ _ _ _, _, o, fun k e => by simp [Value.ownBlock] at e⟩
  · refine (tick_some h hB).mono ?_
    rintro e w' ⟨dv, rfl, i1, l1, rv', o, e1⟩
    refine ⟨dv, rfl, i1, rv', o, ?_⟩
    intro k hk
    have := l1 k hk
    refine ⟨this, ?_⟩
    have h1 := (h.foot tb (.inl rfl)).2
    have h2 := (h.foot g (.inr rfl)).2
    rintro (hf | hf)
    · omega
    · rw [e1] at hf; cases hf; omega
end Go.Proofs.Ytohgjdefgabfeaa
