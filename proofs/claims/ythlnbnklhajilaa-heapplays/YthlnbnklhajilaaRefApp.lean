/- append of entries of the reference behind a row of the call's own, whatever the source's shape. -/
import Derived.Test.YthlnbnklhajilaaRef
namespace Go.Proofs.Ythlnbnklhajilaa
open Go.RowKit Hp

theorem Try.info65 : (Try.prog.info? 65).map (fun i => (i.zero, i.size, i.bytes)) = some (some (.agg #[.int .i64 0, .int .i64 0, .int .i64 0]), 3, 24) := by kernel_rfl

/-- A row of entries that the call owns. -/
def EntRow (B : Nat) (w : World) (v : Value) (l : List Ent) : Prop := w.ownsRow B 65 3 v l.length (flat l)
/-- Entries that can be read off a slice. -/
def EntSrc (w : World) (v : Value) (l : List Ent) : Prop := (v = .slice none 0 0 ∧ l = []) ∨ ∃ ad c, v = .slice (some ad) l.length c ∧ ∀ j u, (flat l)[j]? = some u → w.cell? (ad.add j) = some u

theorem EntRow.src {B : Nat} {w : World} {v : Value} {l : List Ent} (h : EntRow B w v l) : EntSrc w v l := by
  rcases h.2 with ⟨h1, h2⟩ | ⟨g, cap, cur, h1, _⟩
  · exact .inl ⟨h1, List.eq_nil_of_length_eq_zero h2⟩
  · refine .inr ⟨⟨g, 0, none⟩, cap, h1, ?_⟩
    have h' := h
    unfold EntRow at h'
    exact h'.cells (by rw [h1]; rfl)
theorem EntSrc.of_cells {w w' : World} {v : Value} {l : List Ent} (h : EntSrc w v l) (hc : ∀ p u, w.cell? p = some u → w'.cell? p = some u) : EntSrc w' v l := by
  rcases h with h | ⟨ad, c, h1, h2⟩
  · exact .inl h
  · exact .inr ⟨ad, c, h1, fun j u hu => hc _ _ (h2 j u hu)⟩
theorem EntSrc.turns {w w' : World} {v : Value} {l : List Ent} (h : EntSrc w v l) (t : Turns (fun _ => False) w w') : EntSrc w' v l :=
  h.of_cells (fun _ _ hu => t.cell hu (cell_lt hu) (fun x => x))

theorem wp_append_ents (w : World) {o : Oper} {a : Act} {K : Act → World → Prop} {Q : Exit → Act → World → Prop} (s x : Operand)
    (ho : o.op = .call { callee := .builtin .append, args := #[s, x], argTypes := #[43, 43] })
    (B g1 n1 c1 : Nat) (v2 : Value) (l1 l2 : List Ent) (hs : a.eval s = .slice (some ⟨g1, 0, none⟩) n1 c1) (hx : a.eval x = v2) (h1 : EntRow B w (.slice (some ⟨g1, 0, none⟩) n1 c1) l1) (h2 : EntSrc w v2 l2) (hl : l1.length + l2.length ≤ 100000) (hB : B ≤ w.heap.size)
    (h : ∀ g cap w', EntRow B w' (.slice (some ⟨g, 0, none⟩) (l1.length + l2.length) cap) (l1 ++ l2) → w.grownBy w' (some g1) → (g = g1 ∨ g = w.heap.size) → K (a.put o.dst (.slice (some ⟨g, 0, none⟩) (l1.length + l2.length) cap)) w') :
    o.wp Try.prog a w K Q := by
  obtain ⟨i, hi, hz0, hz1, hz2⟩ := info_parts Try.info65
  have hn1 : n1 = l1.length := by
    rcases h1.2 with ⟨h, _⟩ | ⟨g, cap, cur, h, _⟩
    · cases h
    · cases h; rfl
  subst hn1
  rcases h2 with ⟨hv, hn⟩ | ⟨ad, c, hv, hc⟩
  · subst hn
    have hrun := run_append_owned_none (P := Try.prog) w B 43 o.type 65 i 3 Try.underlying43 hi _ l1.length (flat l1) h1
    rw [hv] at hx
    unfold Oper.wp
    simp [execOp, ho, resolve, invoke, builtin, hs, hx, hrun, Result.andThen]
    refine h g1 c1 w ?_ (World.grownBy.refl _ _) (.inl rfl)
    rw [List.append_nil]; exact h1
  · subst hv
    obtain ⟨v', w', hr, k1, k2, k3, k4⟩ := run_append_own_at (P := Try.prog) w B 43 o.type 65 i _ 3 24 Try.underlying43 hi hz0 hz1 hz2 rfl (by omega) _ l1.length (flat l1) h1 ad l2.length c (flat l2) (flat_length l2) hc (flat_one l2) (by unfold maxLen; omega) (by omega) hB
    obtain ⟨g, cap, rfl⟩ := own_form k1 (fun e => by have := k3.1 e; cases this.1)
    unfold Oper.wp
    simp [execOp, ho, resolve, invoke, builtin, hs, hx, hr, Result.andThen]
    refine h g cap w' ?_ k2 (by simpa [Value.ownBlock] using k4)
    unfold EntRow
    rw [List.length_append, show flat (l1 ++ l2) = flat l1 ++ flat l2 from by simp [flat]]
    exact k1

theorem wpList_append_ents (w : World) {ops : Array Oper} {rest : List Oper} {o : Oper} {a : Act} {Q : Exit → Act → World → Prop} (hw : Region.wanted o (yielded ops a.tmps) = true) (s x : Operand)
    (ho : o.op = .call { callee := .builtin .append, args := #[s, x], argTypes := #[43, 43] })
    (B g1 n1 c1 : Nat) (v2 : Value) (l1 l2 : List Ent) (hs : a.eval s = .slice (some ⟨g1, 0, none⟩) n1 c1) (hx : a.eval x = v2) (h1 : EntRow B w (.slice (some ⟨g1, 0, none⟩) n1 c1) l1) (h2 : EntSrc w v2 l2) (hl : l1.length + l2.length ≤ 100000) (hB : B ≤ w.heap.size)
    (h : ∀ g cap w', EntRow B w' (.slice (some ⟨g, 0, none⟩) (l1.length + l2.length) cap) (l1 ++ l2) → w.grownBy w' (some g1) → (g = g1 ∨ g = w.heap.size) → wpList Try.prog ops Q rest (a.put o.dst (.slice (some ⟨g, 0, none⟩) (l1.length + l2.length) cap)) w') :
    wpList Try.prog ops Q (o :: rest) a w := by
  refine wpList_step fun K hK => ?_
  rw [if_pos hw]
  exact wp_append_ents w s x ho B g1 n1 c1 v2 l1 l2 hs hx h1 h2 hl hB fun g cap w' k1 k2 k3 => hK _ _ (h g cap w' k1 k2 k3)

theorem step_append_ents (w : World) {ops : Array Oper} {o : Oper} {a : Act} {K : Act → World → Prop} {Q : Exit → Act → World → Prop} {E : Prop} (hgd : o.guard = none) (s x : Operand)
    (ho : o.op = .call { callee := .builtin .append, args := #[s, x], argTypes := #[43, 43] })
    (B g1 n1 c1 : Nat) (v2 : Value) (l1 l2 : List Ent) (hs : a.eval s = .slice (some ⟨g1, 0, none⟩) n1 c1) (hx : a.eval x = v2) (h1 : EntRow B w (.slice (some ⟨g1, 0, none⟩) n1 c1) l1) (h2 : EntSrc w v2 l2) (hl : l1.length + l2.length ≤ 100000) (hB : B ≤ w.heap.size)
    (h : ∀ g cap w', EntRow B w' (.slice (some ⟨g, 0, none⟩) (l1.length + l2.length) cap) (l1 ++ l2) → w.grownBy w' (some g1) → (g = g1 ∨ g = w.heap.size) → K (a.put o.dst (.slice (some ⟨g, 0, none⟩) (l1.length + l2.length) cap)) w') :
    if Region.wanted o (yielded ops a.tmps) = true then Oper.wp Try.prog o a w K Q else E := by
  have hw : Region.wanted o (yielded ops a.tmps) = true := by simp [Region.wanted, hgd]
  rw [if_pos hw]
  exact wp_append_ents w s x ho B g1 n1 c1 v2 l1 l2 hs hx h1 h2 hl hB h

theorem made_ents (B : Nat) (w : World) (hB : B ≤ w.heap.size) : EntRow B (w.alloc (.cells #[] 65)) (.slice (some ⟨w.heap.size, 0, none⟩) 0 0) [] :=
  World.ownsRow_made w #[] 0 hB (by unfold maxLen; omega) rfl
theorem lit_ent (w : World) (e : Ent) : EntSrc (w.alloc (.cells #[.int .i64 e.id, .int .i64 e.prio, .int .i64 e.seq] 65)) (.slice (some ⟨w.heap.size, 0, none⟩) 1 1) [e] := by
  refine .inr ⟨_, _, rfl, ?_⟩
  intro j u hu
  rw [Addr.add_lit, Nat.zero_add, World.cell?_alloc_at _ _ _ _ rfl]
  simpa [flat, entV] using hu

/-- Behind a store of the row into the reference's heap. -/
theorem rp_store {B : Nat} {w w1 : World} {mb most g cap n : Nat} {lv : Value} {l l' : List Ent} (h : RP B w mb lv most l) (t : Turns (fun _ => False) w w1) (hr : EntRow B w1 (.slice (some ⟨g, 0, none⟩) n cap) l') (hg : w.heap.size ≤ g) (hgood : Hp.Good most l') :
    w1.cell? ⟨mb, 1, none⟩ = some lv ∧ (∀ j, w1.frozen? ⟨mb, j, none⟩ = false) ∧ RP B (w1.setCell ⟨mb, 1, none⟩ (.slice (some ⟨g, 0, none⟩) n cap)) mb (.slice (some ⟨g, 0, none⟩) n cap) most l' ∧ Turns (fun k => k = mb) w (w1.setCell ⟨mb, 1, none⟩ (.slice (some ⟨g, 0, none⟩) n cap)) := by
  have hmb : mb < w.heap.size := (h.foot mb (.inl rfl)).2
  have o2 := owns_turns h.hd t (fun _ _ h => h)
  have s2 := (o2.stored 1 (.slice (some ⟨g, 0, none⟩) n cap)).1
  have t2 : Turns (fun k => k = mb) w1 (w1.setCell ⟨mb, 1, none⟩ (.slice (some ⟨g, 0, none⟩) n cap)) := Turns.setCell (S := fun k => k = mb) (Turns.refl _ _) rfl _
  refine ⟨by rw [o2.cellAt 1 (by omega)]; rfl, o2.frozenAt, ⟨owns_turns hr t2 (fun k hk e => by simp [Value.ownBlock] at hk; omega), s2, ?_, hgood, h.top⟩, (t.mono (fun _ _ h => h.elim)).trans t2⟩
  intro e; simp [Value.ownBlock] at e; omega
end Go.Proofs.Ythlnbnklhajilaa
