/- append of one row of numbers behind another one, whatever its shape. -/
import Derived.Test.YthlnbnklhajilaaRaisedP
namespace Go.Proofs.Ythlnbnklhajilaa
open Go.RowKit Hp

theorem ints_ones (l : List Int) : ∀ u ∈ l.map intV, u.oneCell' = true := by
  intro u hu
  simp only [List.mem_map] at hu
  obtain ⟨e, _, rfl⟩ := hu
  rfl

theorem wp_append_ints (w : World) {o : Oper} {a : Act} {K : Act → World → Prop} {Q : Exit → Act → World → Prop} (s x : Operand)
    (ho : o.op = .call { callee := .builtin .append, args := #[s, x], argTypes := #[48, 48] })
    (B C : Nat) (v1 v2 : Value) (l1 l2 : List Int) (hs : a.eval s = v1) (hx : a.eval x = v2) (h1 : IntRow B w v1 l1) (h2 : IntRow C w v2 l2) (hl : l1.length + l2.length ≤ 100000) (hB : B ≤ w.heap.size)
    (h : ∀ v' w', IntRow B w' v' (l1 ++ l2) → w.grownBy w' v1.ownBlock → (v'.ownBlock = v1.ownBlock ∨ v'.ownBlock = some w.heap.size) → K (a.put o.dst v') w') :
    o.wp Try.prog a w K Q := by
  obtain ⟨i, hi, hz0, hz1, hz2⟩ := info_parts Try.info3
  have h2' := h2
  unfold IntRow at h2'
  rcases h2'.2 with ⟨hv, hn⟩ | ⟨g, cap, cur, hv, _⟩
  · have hl2 : l2 = [] := List.eq_nil_of_length_eq_zero hn
    subst hl2
    have hrun := run_append_owned_none (P := Try.prog) w B 48 o.type 3 i 1 Try.underlying48 hi v1 l1.length (l1.map intV) h1
    rw [hv] at hx
    unfold Oper.wp
    simp [execOp, ho, resolve, invoke, builtin, hs, hx, hrun, Result.andThen]
    refine h v1 w ?_ (World.grownBy.refl _ _) (.inl rfl)
    rw [List.append_nil]; exact h1
  · subst hv
    obtain ⟨v', w', hr, k1, k2, _, k4⟩ := run_append_own_at (P := Try.prog) w B 48 o.type 3 i _ 1 8 Try.underlying48 hi hz0 hz1 hz2 rfl (by omega) v1 l1.length (l1.map intV) h1 ⟨g, 0, none⟩ l2.length cap (l2.map intV) (by simp) (h2'.cells rfl) (ints_ones l2) (by unfold maxLen; omega) (by omega) hB
    unfold Oper.wp
    simp [execOp, ho, resolve, invoke, builtin, hs, hx, hr, Result.andThen]
    refine h v' w' ?_ k2 k4
    unfold IntRow
    rw [List.length_append, List.map_append]
    exact k1

theorem wpList_append_ints (w : World) {ops : Array Oper} {rest : List Oper} {o : Oper} {a : Act} {Q : Exit → Act → World → Prop} (hw : Region.wanted o (yielded ops a.tmps) = true) (s x : Operand)
    (ho : o.op = .call { callee := .builtin .append, args := #[s, x], argTypes := #[48, 48] })
    (B C : Nat) (v1 v2 : Value) (l1 l2 : List Int) (hs : a.eval s = v1) (hx : a.eval x = v2) (h1 : IntRow B w v1 l1) (h2 : IntRow C w v2 l2) (hl : l1.length + l2.length ≤ 100000) (hB : B ≤ w.heap.size)
    (h : ∀ v' w', IntRow B w' v' (l1 ++ l2) → w.grownBy w' v1.ownBlock → (v'.ownBlock = v1.ownBlock ∨ v'.ownBlock = some w.heap.size) → wpList Try.prog ops Q rest (a.put o.dst v') w') :
    wpList Try.prog ops Q (o :: rest) a w := by
  refine wpList_step fun K hK => ?_
  rw [if_pos hw]
  exact wp_append_ints w s x ho B C v1 v2 l1 l2 hs hx h1 h2 hl hB fun v' w' k1 k2 k3 => hK _ _ (h v' w' k1 k2 k3)
end Go.Proofs.Ythlnbnklhajilaa
