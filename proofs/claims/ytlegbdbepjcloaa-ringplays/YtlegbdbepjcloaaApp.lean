/- append of numbers behind a row of numbers of the call's own. -/
import Derived.Test.YtlegbdbepjcloaaAsk
namespace Go.Proofs.Ytlegbdbepjcloaa
open Go.RowKit Go.Conc

theorem Try.info2 : (Try.prog.info? 2).map (fun i => (i.zero, i.size, i.bytes)) = some (some (.int .i64 0), 1, 8) := by kernel_rfl

/-- Numbers that can be read off a slice. -/
def IntSrc (w : World) (v : Value) (l : List Int) : Prop := (v = .slice none 0 0 ∧ l = []) ∨ ∃ ad c, v = .slice (some ad) l.length c ∧ ∀ j u, (l.map intV)[j]? = some u → w.cell? (ad.add j) = some u

theorem IntRow.src {B : Nat} {w : World} {v : Value} {l : List Int} (h : IntRow B w v l) : IntSrc w v l := by
  rcases h.2 with ⟨h1, h2⟩ | ⟨g, cap, cur, h1, _⟩
  · exact .inl ⟨h1, List.eq_nil_of_length_eq_zero h2⟩
  · refine .inr ⟨⟨g, 0, none⟩, cap, h1, ?_⟩
    have h' := h
    unfold IntRow at h'
    exact h'.cells (by rw [h1]; rfl)
theorem IntSrc.turns {w w' : World} {v : Value} {l : List Int} (h : IntSrc w v l) (t : Turns (fun _ => False) w w') : IntSrc w' v l := by
  rcases h with h | ⟨ad, c, h1, h2⟩
  · exact .inl h
  · exact .inr ⟨ad, c, h1, fun j u hu => t.cell (h2 j u hu) (cell_lt (h2 j u hu)) (fun x => x)⟩

theorem wp_append_ints (w : World) {o : Oper} {a : Act} {K : Act → World → Prop} {Q : Exit → Act → World → Prop} (s x : Operand)
    (ho : o.op = .call { callee := .builtin .append, args := #[s, x], argTypes := #[22, 22] })
    (B : Nat) (v1 v2 : Value) (l1 l2 : List Int) (hs : a.eval s = v1) (hx : a.eval x = v2) (h1 : IntRow B w v1 l1) (h2 : IntSrc w v2 l2) (hnn : v1 ≠ .slice none 0 0 ∨ 0 < l2.length) (hl : l1.length + l2.length ≤ 100000) (hB : B ≤ w.heap.size)
    (h : ∀ g cap w', IntRow B w' (.slice (some ⟨g, 0, none⟩) (l1.length + l2.length) cap) (l1 ++ l2) → w.grownBy w' v1.ownBlock → (v1.ownBlock = some g ∨ g = w.heap.size) → K (a.put o.dst (.slice (some ⟨g, 0, none⟩) (l1.length + l2.length) cap)) w') :
    o.wp Try.prog a w K Q := by
  obtain ⟨i, hi, hz0, hz1, hz2⟩ := info_parts Try.info2
  rcases h2 with ⟨hv, hn⟩ | ⟨ad, c, hv, hc⟩
  · subst hn
    have hnv : v1 ≠ .slice none 0 0 := by rcases hnn with h | h; exact h; simp at h
    have hrun := run_append_owned_none (P := Try.prog) w B 22 o.type 2 i 1 Try.underlying22 hi _ l1.length (l1.map intV) h1
    obtain ⟨g, cap, hg⟩ := own_form h1 hnv
    rw [hv] at hx
    unfold Oper.wp
    simp [execOp, ho, resolve, invoke, builtin, hs, hx, hrun, Result.andThen]
    have := h g cap w (by rw [List.append_nil]; simp only [List.length_nil, Nat.add_zero]; rw [← hg]; exact h1) (World.grownBy.refl _ _) (.inl (by rw [hg]; rfl))
    simp only [List.length_nil, Nat.add_zero] at this
    rw [hg]; exact this
  · subst hv
    obtain ⟨v', w', hr, k1, k2, k3, k4⟩ := run_append_own_at (P := Try.prog) w B 22 o.type 2 i _ 1 8 Try.underlying22 hi hz0 hz1 hz2 rfl (by omega) _ l1.length (l1.map intV) h1 ad l2.length c (l2.map intV) (by simp) hc (ints_ones l2) (by unfold maxLen; omega) (by omega) hB
    obtain ⟨g, cap, rfl⟩ := own_form k1 (fun e => by have := k3.1 e; rcases hnn with h | h; exact h this.1; have := this.2; omega)
    unfold Oper.wp
    simp [execOp, ho, resolve, invoke, builtin, hs, hx, hr, Result.andThen]
    refine h g cap w' ?_ k2 ?_
    · unfold IntRow
      rw [List.length_append, List.map_append]
      exact k1
    · rcases k4 with k4 | k4
      · exact .inl k4.symm
      · right; simpa [Value.ownBlock] using k4

theorem wpList_append_ints (w : World) {ops : Array Oper} {rest : List Oper} {o : Oper} {a : Act} {Q : Exit → Act → World → Prop} (hw : Region.wanted o (yielded ops a.tmps) = true) (s x : Operand)
    (ho : o.op = .call { callee := .builtin .append, args := #[s, x], argTypes := #[22, 22] })
    (B : Nat) (v1 v2 : Value) (l1 l2 : List Int) (hs : a.eval s = v1) (hx : a.eval x = v2) (h1 : IntRow B w v1 l1) (h2 : IntSrc w v2 l2) (hnn : v1 ≠ .slice none 0 0 ∨ 0 < l2.length) (hl : l1.length + l2.length ≤ 100000) (hB : B ≤ w.heap.size)
    (h : ∀ g cap w', IntRow B w' (.slice (some ⟨g, 0, none⟩) (l1.length + l2.length) cap) (l1 ++ l2) → w.grownBy w' v1.ownBlock → (v1.ownBlock = some g ∨ g = w.heap.size) → wpList Try.prog ops Q rest (a.put o.dst (.slice (some ⟨g, 0, none⟩) (l1.length + l2.length) cap)) w') :
    wpList Try.prog ops Q (o :: rest) a w := by
  refine wpList_step fun K hK => ?_
  rw [if_pos hw]
  refine wp_append_ints w s x ho B v1 v2 l1 l2 hs hx h1 h2 hnn hl hB ?_
  intro g cap w' k1 k2 k3
  exact hK _ _ (h g cap w' k1 k2 k3)

/-- An empty row that was just made, and what is read behind it. -/
theorem wpList_copy_ints (w : World) {ops : Array Oper} {rest : List Oper} {o : Oper} {a : Act} {Q : Exit → Act → World → Prop} (hw : Region.wanted o (yielded ops a.tmps) = true) (s x : Operand)
    (ho : o.op = .call { callee := .builtin .append, args := #[s, x], argTypes := #[22, 22] })
    (B g1 : Nat) (v2 : Value) (l2 : List Int) (hs : a.eval s = .slice (some ⟨g1, 0, none⟩) 0 0) (hx : a.eval x = v2) (h1 : IntRow B w (.slice (some ⟨g1, 0, none⟩) 0 0) []) (h2 : IntSrc w v2 l2) (hl : l2.length ≤ 100000) (hB : B ≤ w.heap.size)
    (h : ∀ g cap w', IntRow B w' (.slice (some ⟨g, 0, none⟩) l2.length cap) l2 → w.grownBy w' (some g1) → (g = g1 ∨ g = w.heap.size) → wpList Try.prog ops Q rest (a.put o.dst (.slice (some ⟨g, 0, none⟩) l2.length cap)) w') :
    wpList Try.prog ops Q (o :: rest) a w := by
  refine wpList_append_ints w hw s x ho B (.slice (some ⟨g1, 0, none⟩) 0 0) v2 [] l2 hs hx h1 h2 (.inl (by simp)) (by simpa using hl) hB ?_
  intro g cap w' k1 k2 k3
  simp only [List.length_nil, Nat.zero_add, List.nil_append] at k1 ⊢
  exact h g cap w' k1 k2 (by simpa [Value.ownBlock, eq_comm] using k3)

theorem made_ints (B : Nat) (w : World) (hB : B ≤ w.heap.size) : IntRow B (w.alloc (.cells #[] 2)) (.slice (some ⟨w.heap.size, 0, none⟩) 0 0) [] :=
  World.ownsRow_made w #[] 0 hB (by unfold maxLen; omega) rfl
theorem lit_one (w : World) (n : Int) : IntSrc (w.alloc (.cells #[.int .i64 n] 2)) (.slice (some ⟨w.heap.size, 0, none⟩) 1 1) [n] := by
  refine .inr ⟨_, _, rfl, ?_⟩
  intro j u hu
  rw [Addr.add_lit, Nat.zero_add, World.cell?_alloc_at _ _ _ _ rfl]
  simpa [intV] using hu

/-- One number behind a row of numbers. -/
theorem wpList_append_int (w : World) {ops : Array Oper} {rest : List Oper} {o : Oper} {a : Act} {Q : Exit → Act → World → Prop} (hw : Region.wanted o (yielded ops a.tmps) = true) (s x : Operand)
    (ho : o.op = .call { callee := .builtin .append, args := #[s, x], argTypes := #[22, 22] })
    (B : Nat) (v1 : Value) (l1 : List Int) (n : Int) (W : World) (hw1 : w = W.alloc (.cells #[.int .i64 n] 2)) (hs : a.eval s = v1) (nb : Nat) (hnb : nb = W.heap.size) (hx : a.eval x = .slice (some ⟨nb, 0, none⟩) 1 1) (h1 : IntRow B W v1 l1) (hl : l1.length ≤ 90000) (hB : B ≤ W.heap.size)
    (h : ∀ g cap w', IntRow B w' (.slice (some ⟨g, 0, none⟩) (l1.length + 1) cap) (l1 ++ [n]) → Turns (fun k => v1.ownBlock = some k) W w' → (v1.ownBlock = some g ∨ W.heap.size ≤ g) → wpList Try.prog ops Q rest (a.put o.dst (.slice (some ⟨g, 0, none⟩) (l1.length + 1) cap)) w') :
    wpList Try.prog ops Q (o :: rest) a w := by
  subst hw1
  subst hnb
  refine wpList_append_ints _ hw s x ho B v1 _ l1 [n] hs hx (World.ownsRow.alloc h1 _) (lit_one W n) (.inr (by simp)) (by simp; omega) (le_alloc _ hB) ?_
  intro g cap w' k1 k2 k3
  refine h g cap w' k1 (((Turns.refl (fun k => v1.ownBlock = some k) W).alloc _).trans (Turns.grown k2 (fun k e => e))) ?_
  rcases k3 with k3 | k3
  · exact .inl k3
  · right
    have : (W.alloc (.cells #[.int .i64 n] 2)).heap.size = W.heap.size + 1 := by simp
    omega
end Go.Proofs.Ytlegbdbepjcloaa
