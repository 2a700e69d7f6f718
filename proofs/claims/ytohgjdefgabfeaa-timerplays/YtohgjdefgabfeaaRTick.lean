/- The reference's Tick, by its contract. -/
import Derived.Test.YtohgjdefgabfeaaKnown
namespace Go.Proofs.Ytohgjdefgabfeaa
open Go.RowKit Tm

theorem lit_du' (e : TypeId) (w : World) (d : Du) (nb : Nat) (hnb : nb = w.heap.size) : DuSrc (w.alloc (.cells #[.int .i64 d.id, .int .i64 d.left] e)) (.slice (some ⟨nb, 0, none⟩) 1 1) [d] := by
  subst hnb; exact lit_du e w d

/-- One entry behind a row. -/
theorem wpList_append_du {t e : TypeId} (kk : KindOf t e) (w : World) {ops : Array Oper} {rest : List Oper} {o : Oper} {a : Act} {Q : Exit → Act → World → Prop} (hw : Region.wanted o (yielded ops a.tmps) = true) (s x : Operand)
    (ho : o.op = .call { callee := .builtin .append, args := #[s, x], argTypes := #[t, t] })
    (B : Nat) (v1 : Value) (l1 : List Du) (d : Du) (W : World) (hw1 : w = W.alloc (.cells #[.int .i64 d.id, .int .i64 d.left] e)) (hs : a.eval s = v1) (nb : Nat) (hnb : nb = W.heap.size) (hx : a.eval x = .slice (some ⟨nb, 0, none⟩) 1 1) (h1 : DuRow e B W v1 l1) (hl : l1.length ≤ 10000) (hB : B ≤ W.heap.size)
    (h : ∀ g cap w', DuRow e B w' (.slice (some ⟨g, 0, none⟩) (l1.length + 1) cap) (l1 ++ [d]) → Turns (fun k => v1.ownBlock = some k) W w' → (v1.ownBlock = some g ∨ W.heap.size ≤ g) → wpList Try.prog ops Q rest (a.put o.dst (.slice (some ⟨g, 0, none⟩) (l1.length + 1) cap)) w') :
    wpList Try.prog ops Q (o :: rest) a w := by
  subst hw1
  refine wpList_append_dus kk _ hw s x ho B v1 _ l1 [d] hs hx (World.ownsRow.alloc h1 _) (lit_du' e W d nb hnb) (.inr (by simp)) (by simp; omega) (le_alloc _ hB) ?_
  intro g cap w' k1 k2 k3
  refine h g cap w' k1 (((Turns.refl (fun k => v1.ownBlock = some k) W).alloc _).trans (Turns.grown k2 (fun k e => e))) ?_
  rcases k3 with k3 | k3
  · exact .inl k3
  · right
    have : (W.alloc (.cells #[.int .i64 d.id, .int .i64 d.left] e)).heap.size = W.heap.size + 1 := by simp
    omega

set_option maxHeartbeats 2000000 in
theorem rtick_any {B : Nat} {w : World} {tb : Nat} {rv : Value} {row : List Du} (h : TP 59 29 B w tb rv row) (hB : B ≤ w.heap.size) :
    Calls Try.prog 15 #[.pointer (some ⟨tb, 0, none⟩)] w fun e w' => ∃ dv, e = .returned dv ∧ IntRow B w' dv (dueR row) ∧ ∃ rv', Out 59 29 B w w' tb rv rv' (restR row) ∧ ∀ k, dv.ownBlock = some k → w.heap.size ≤ k ∧ ¬ Foot tb rv' k := by
  have hlen := h.len
  have hpos := h.pos
  have htl := h.tb_lt
  obtain ⟨ra, rc, rfl⟩ := h.sl
  go_enter Try.func15, Try.ntmps15
  go_wp2_with fail
  go_loopw [3, 4, 5] (fun d r i wr => ∃ (c : Nat), i = .int .i64 c ∧ c ≤ row.length ∧ IntRow B wr d (dueR (row.take c)) ∧ DuRow 59 B wr r (restR (row.take c)) ∧ Hid (∀ k, d.ownBlock = some k → w.heap.size ≤ k) ∧ Hid (∀ k, r.ownBlock = some k → w.heap.size ≤ k ∧ d.ownBlock ≠ some k) ∧ Turns (fun _ => False) w wr) (fun _ _ i _ => row.length - (intOf i).toNat)
  case atStart => exact ⟨0, rfl, by omega, World.ownsRow_nil _ _ _ _, World.ownsRow_nil _ _ _ _, (fun k e => by simp [Value.ownBlock] at e), (fun k e => by simp [Value.ownBlock] at e), Turns.refl _ _⟩
  case round =>
    obtain ⟨c, rfl, hcl, hd, hr, HD, HR, T⟩ := hrel
    have hsz := T.size
    have hw := h.keep T
    have hc := hw.c0
    by_cases hlt : c < row.length
    · rcases h.form with ⟨e, e2⟩ | ⟨g, cap, e, _, _⟩
      · rw [e2] at hlt; simp at hlt
      · cases e
        have hq := own_get hw.own rfl c hlt
        obtain ⟨gx, gy⟩ := hq
        have hp := hpos.at c hlt
        have d1 := due_step_in row c hlt
        have d2 := due_step_out row c hlt
        generalize at' row c = X at *
        obtain ⟨x, y⟩ := X
        simp only at gx gy hp d1 d2
        have HD1 : Hid (y = 1 → dueR (row.take (c + 1)) = dueR (row.take c) ++ [x] ∧ restR (row.take (c + 1)) = restR (row.take c)) := d1
        have HD2 : Hid (y ≠ 1 → dueR (row.take (c + 1)) = dueR (row.take c) ∧ restR (row.take (c + 1)) = restR (row.take c) ++ [⟨x, y - 1⟩]) := d2
        clear d1 d2
        obtain ⟨p1, p2⟩ := hp
        have b1 : (c : Int) < (row.length : Int) := by omega
        have b2 : (0 : Int) ≤ (c : Int) := by omega
        have hdl : (dueR (row.take c)).length ≤ 100000 := by have := dueR_le (row.take c); simp at this; omega
        have hrl : (restR (row.take c)).length ≤ 10000 := by have := restR_le (row.take c); simp at this; omega
        have hd1 : IntRow B (wr.alloc (.cells #[.int .i64 x, .int .i64 (y - 1)] 59)) u3 (dueR (row.take c)) := World.ownsRow.alloc hd _
        have hr1 : DuRow 59 B (wr.alloc (.cells #[.int .i64 x, .int .i64 (y - 1)] 59)) u4 (restR (row.take c)) := World.ownsRow.alloc hr _
        have hB1 : B ≤ (wr.alloc (.cells #[.int .i64 x, .int .i64 (y - 1)] 59)).heap.size := le_alloc _ (by omega)
        have T1 : Turns (fun _ => False) w (wr.alloc (.cells #[.int .i64 x, .int .i64 (y - 1)] 59)) := T.alloc _
        have dlt := hd.lt
        have rlt := hr.lt
        have hz : (wr.alloc (.cells #[.int .i64 x, .int .i64 (y - 1)] 59)).heap.size = wr.heap.size + 1 := by simp
        have HZ : Hid ((wr.alloc (.cells #[.int .i64 x, .int .i64 (y - 1)] 59)).heap.size = wr.heap.size + 1) := hz
        have HDL : Hid (∀ k, u3.ownBlock = some k → B ≤ k ∧ k < wr.heap.size) := dlt
        have HRL : Hid (∀ k, u4.ownBlock = some k → B ≤ k ∧ k < wr.heap.size) := rlt
        clear hz dlt rlt
        by_cases hy : y = 1
        · have q : (y - 1 == 0) = true := by simp; omega
          have HY : Hid (y = 1) := hy
          clear hy
          go_wp2_with (at_builtin; refine wpList_append_int _ (by rfl) _ _ rfl B u3 (dueR (row.take c)) x _ rfl (by rfl) (wr.heap.size + 1) (by simp) (by rfl) hd1 hdl hB1 ?_; intro g2 c2 w2 i2 t2 n2)
          go_roundw
          case rel =>
            refine ⟨c + 1, by go_num, by omega, ?_, ?_, ?_, ?_, T1.next t2 (fun k hk e => by have := HD.out k e; omega)⟩
            · rw [(HD1.out HY.out).1]; simpa using i2
            · rw [(HD1.out HY.out).2]; exact owns_turns hr1 t2 (fun k e e2 => (HR.out k e).2 e2)
            · intro k e
              simp [Value.ownBlock] at e
              rcases n2 with n2 | n2
              · exact HD.out k (by rw [n2, e])
              · have := T1.size; omega
            · intro k e
              refine ⟨(HR.out k e).1, ?_⟩
              intro e2
              simp [Value.ownBlock] at e2
              rcases n2 with n2 | n2
              · exact (HR.out k e).2 (by rw [n2, e2])
              · have := (HRL.out k e).2; have := HZ.out; omega
          case measure => simp [intOf]; omega
        · have q : (y - 1 == 0) = false := by simp; omega
          have HY : Hid (y ≠ 1) := hy
          clear hy
          go_wp2_with (at_builtin; refine wpList_append_du kR _ (by rfl) _ _ rfl B u4 (restR (row.take c)) ⟨x, y - 1⟩ _ rfl (by rfl) (wr.heap.size + 1) (by simp) (by rfl) hr1 hrl hB1 ?_; intro g2 c2 w2 i2 t2 n2)
          go_roundw
          case rel =>
            refine ⟨c + 1, by go_num, by omega, ?_, ?_, HD, ?_, T1.next t2 (fun k hk e => by have := (HR.out k e).1; omega)⟩
            · rw [(HD2.out HY.out).1]; exact hd1.turns t2 (fun k e e2 => (HR.out k e2).2 e)
            · rw [(HD2.out HY.out).2]; exact i2
            · intro k e
              simp [Value.ownBlock] at e
              subst e
              rcases n2 with n2 | n2
              · exact HR.out _ n2
              · refine ⟨by have := T1.size; omega, ?_⟩
                intro e2
                have := (HDL.out _ e2).2; have := HZ.out; omega
          case measure => simp [intOf]; omega
    · have hce : c = row.length := by omega
      subst hce
      have b1 : ¬ ((row.length : Nat) : Int) < (row.length : Int) := by omega
      rw [List.take_length] at hd hr
      have hvt : u4.ownBlock ≠ some tb := fun e => by have := (HR.out tb e).1; omega
      have R := tp_store h T (fun x => x) hr hvt h.pos.rest (by have := restR_le row; omega)
      have hlast : ∀ k, u3.ownBlock = some k → w.heap.size ≤ k ∧ ¬ Foot tb u4 k := by
        intro k e
        refine ⟨HD.out k e, ?_⟩
        rintro (hf | hf)
        · have := HD.out k e; omega
        · exact (HR.out k hf).2 e
      have HLA : Hid (∀ k, u3.ownBlock = some k → w.heap.size ≤ k ∧ ¬ Foot tb u4 k) := hlast
      have hnw : Newer w (.slice ra row.length rc) u4 := fun k e => .inr (HR.out k e).1
      have HNW : Hid (Newer w (.slice ra row.length rc) u4) := hnw
      have hit : IntRow B (wr.setCell ⟨tb, 0, none⟩ u4) u3 (dueR row) := hd.turns (Turns.setCell (S := fun k => k = tb) (Turns.refl _ wr) (p := ⟨tb, 0, none⟩) rfl _) (fun k e e2 => by have := HD.out k e; omega)
      clear hlast hnw
      obtain ⟨r1, r2, r3, r4⟩ := R
      have HO : Hid (Out 59 29 B w (wr.setCell ⟨tb, 0, none⟩ u4) tb (.slice ra row.length rc) u4 (restR row)) := ⟨r3, r4.mono (fun k _ x => by rcases x with x | x; exact .inl x; exact x.elim), HNW.out⟩
      clear r3 r4
      rcases hr.2 with ⟨h1, _⟩ | ⟨g, cap, cur, h1, _⟩
      all_goals
        subst h1
        go_wp2
        go_ret
        exact ⟨_, rfl, hit, _, HO.out, HLA.out⟩
end Go.Proofs.Ytohgjdefgabfeaa
