/- append of texts, Join, waitText, caseWords. -/
import Derived.Test.YtiiddfahpddffaaDoorTrn
import Derived.Test.YtiiddfahpddffaaDoorRWrd
namespace Go.Proofs.YtiiddfahpddffaaDoor
open Go.RowKit

/-- Some texts behind a row of texts. -/
theorem wpList_append_strs (w : World) {ops : Array Oper} {rest : List Oper} {o : Oper} {a : Act} {Q : Exit → Act → World → Prop} (hw : Region.wanted o (yielded ops a.tmps) = true) (s x : Operand)
    (ho : o.op = .call { callee := .builtin .append, args := #[s, x], argTypes := #[57, 57] })
    (base : Nat) (v1 : Value) (l1 l2 : List (List UInt8)) (b2 f2 c2 : Nat) (hs : a.eval s = v1) (hx : a.eval x = .slice (some ⟨b2, f2, none⟩) l2.length c2) (h1 : StrRow base w v1 l1) (h2 : At w (some ⟨b2, f2, none⟩) l2.length l2) (h0 : 0 < l2.length) (hl : l1.length + l2.length ≤ 1000000) (hB : base ≤ w.heap.size)
    (h : ∀ g cap w', StrRow base w' (.slice (some ⟨g, 0, none⟩) (l1.length + l2.length) cap) (l1 ++ l2) → Turns (fun k => v1.ownBlock = some k) w w' → (v1.ownBlock = some g ∨ w.heap.size ≤ g) → wpList Tryd.prog ops Q rest (a.put o.dst (.slice (some ⟨g, 0, none⟩) (l1.length + l2.length) cap)) w') :
    wpList Tryd.prog ops Q (o :: rest) a w := by
  refine wpList_step fun K hK => ?_
  rw [if_pos hw]
  obtain ⟨i, hi, hz0, hz1, hz2⟩ := info_parts info9
  have hc : ∀ j u, (l2.map strV)[j]? = some u → w.cell? (Addr.add ⟨b2, f2, none⟩ j) = some u := by
    intro j u hu
    have hj : j < l2.length := by
      rcases Nat.lt_or_ge j l2.length with h | h
      · exact h
      · rw [List.getElem?_eq_none (by simpa using h)] at hu; cases hu
    obtain ⟨b, f, e, hcell⟩ := h2.2 j hj
    cases e
    rw [Addr.add_lit, hcell]
    rw [List.getElem?_map] at hu
    simp [hj, strV] at hu
    rw [← hu]
    simp [hj, List.getD_eq_getElem?_getD]
  obtain ⟨v', w', hr, k1, k2, k3, k4⟩ := run_append_own_at (P := Tryd.prog) w base 57 o.type 9 i _ 1 16 Tryd.underlying57 hi hz0 hz1 hz2 rfl (by omega) _ l1.length (l1.map strV) h1 ⟨b2, f2, none⟩ l2.length c2 (l2.map strV) (by simp) hc (strs_ones l2) (by unfold maxLen; omega) (by omega) hB
  obtain ⟨g, cap, rfl⟩ := own_form k1 (fun e => by have := k3.1 e; have := this.2; omega)
  unfold Oper.wp
  simp [execOp, ho, resolve, invoke, builtin, hs, hx, hr, Result.andThen]
  refine hK _ _ (h g cap w' ?_ ?_ ?_)
  · unfold StrRow
    rw [List.length_append, List.map_append]
    exact k1
  · exact Turns.grown k2 (fun k e => e)
  · rcases k4 with k4 | k4
    · exact .inl k4.symm
    · right; simp [Value.ownBlock] at k4; omega

theorem join_W : ∀ l : List (List UInt8), Lib.join l [32] = joinW l
  | [] => rfl
  | [x] => by simp [Lib.join, joinW]
  | x :: y :: r => by
    have ih := join_W (y :: r)
    rw [joinW, ← ih]
    simp [Lib.join]
theorem joinW_le (b : Nat) : ∀ (ls : List (List UInt8)), (∀ x ∈ ls, x.length ≤ b) → (joinW ls).length ≤ (b + 1) * ls.length
  | [], _ => by simp [joinW]
  | [x], h => by have := h x (by simp); simp [joinW]; omega
  | x :: y :: r, h => by
    have := joinW_le b (y :: r) (fun z hz => h z (List.mem_cons_of_mem _ hz))
    have h1 := h x (by simp)
    rw [joinW, List.length_append, List.length_cons]
    simp only [List.length_cons] at *
    rw [Nat.mul_add, Nat.mul_one]
    omega
theorem itoa_len {n : Int} (h : in64 n) : (Lib.itoa n).length ≤ 20 := by
  unfold Lib.itoa
  unfold in64 at h
  split
  · have := dec_len19 n.natAbs (by omega)
    rw [List.length_cons]; omega
  · have := dec_len19 n.toNat (by omega)
    omega
theorem waitT_len {n : Int} (h : in64 n) : (waitT n).length ≤ 20 := by
  unfold waitT
  split
  · simp
  · exact itoa_len h

theorem join_any {base : Nat} {w : World} {v : Value} {l : List (List UInt8)} (h : StrRow base w v l) (hl : 0 < l.length) (hb : ∀ x ∈ l, x.length ≤ 60) (hn : l.length ≤ 1000) :
    Calls Tryd.prog 29 #[v, .string ⟨#[32]⟩] w fun e w' => e = .returned (.string (B (joinW l))) ∧ Kept w w' := by
  rcases h.2 with ⟨h1, h2⟩ | ⟨g, cap, cur, h1, _, hgg, h3, _⟩
  · omega
  · subst h1
    have hle := joinW_le 60 l hb
    have hm : (60 + 1) * l.length ≤ 61 * 1000 := Nat.mul_le_mul_left 61 hn
    have := Tryd.strings_Join g 0 cap (l.map B) ⟨#[32]⟩ w ?_ (Array.getElem?_eq_some_iff.1 hgg).1 (by rw [List.length_map]; omega) (by rw [List.length_map]; exact h3) ?_
    · rw [List.length_map, List.map_map] at this
      rw [show ((fun x : ByteArray => x.data.toList) ∘ B) = id from rfl, List.map_id] at this
      rw [show (⟨#[32]⟩ : ByteArray).data.toList = [32] from rfl, join_W] at this
      exact this
    · intro j x hj
      have h' := h
      unfold StrRow at h'
      rw [h'.cellAt (0 + j) ?_]
      · rw [Nat.zero_add, List.getElem?_map]
        rw [List.getElem?_map] at hj
        obtain ⟨y, hy, rfl⟩ := Option.map_eq_some_iff.1 hj
        rw [hy]; rfl
      · have : j < l.length := by
          rcases Nat.lt_or_ge j l.length with h | h
          · exact h
          · rw [List.getElem?_eq_none (by simpa using h)] at hj; cases hj
        omega
    · rw [List.map_map, show ((fun x : ByteArray => x.data.toList) ∘ B) = id from rfl, List.map_id, show (⟨#[32]⟩ : ByteArray).data.toList = [32] from rfl, join_W]
      omega

theorem waitText_any (n : Int) (h : in64 n) (w : World) (hr : Rdy w) :
    Calls Tryd.prog 27 #[.int .i64 n] w fun e w' => e = .returned (.string (B (waitT n))) ∧ Kept w w' := by
  by_cases hn : n = -1
  · subst hn
    go_enter Tryd.func27, Tryd.ntmps27
    go_wp2_with fail
    go_ret
    exact ⟨rfl, Kept.refl _⟩
  · have h1 : (n == -1) = false := by simp [hn]
    have HT : Hid (waitT n = Lib.itoa n) := by show _ = _; unfold waitT; rw [if_neg hn]
    go_enter Tryd.func27, Tryd.ntmps27
    go_wp2_with fail
    refine (text_any n h.1 h.2 w hr).mono ?_
    rintro e w1 ⟨rfl, t1⟩
    go_wp2_with fail
    go_ret
    rw [HT.out]
    exact ⟨rfl, t1⟩
end Go.Proofs.YtiiddfahpddffaaDoor
