/- The reference's Cancel, by its contract. -/
import Derived.Test.YtohgjdefgabfeaaRTick
namespace Go.Proofs.Ytohgjdefgabfeaa
open Go.RowKit Tm

theorem src_none {w : World} (a : Addr) (c : Nat) : DuSrc w (.slice (some a) 0 c) [] := .inr ⟨a, c, rfl, fun j u hu => by simp [flat] at hu⟩
theorem src_take {e : TypeId} {B g cap : Nat} {w : World} {l : List Du} (h : DuRow e B w (.slice (some ⟨g, 0, none⟩) l.length cap) l) (k : Nat) (hk : k ≤ l.length) : DuSrc w (.slice (some ⟨g, 0, none⟩) k cap) (l.take k) := by
  have := own_take h hk
  rw [flat_take] at this
  have hl : (l.take k).length = k := by rw [List.length_take]; omega
  refine .inr ⟨⟨g, 0, none⟩, cap, by rw [hl], ?_⟩
  exact this.cells rfl
theorem src_drop {e : TypeId} {B g cap : Nat} {w : World} {l : List Du} (h : DuRow e B w (.slice (some ⟨g, 0, none⟩) l.length cap) l) (k : Nat) (hk : k ≤ l.length) : DuSrc w (.slice (some ⟨g, k * 2, none⟩) (l.length - k) (cap - k)) (l.drop k) := by
  have hl : (l.drop k).length = l.length - k := List.length_drop
  refine .inr ⟨⟨g, k * 2, none⟩, cap - k, by rw [hl], ?_⟩
  intro j u hu
  have hsplit : flat l = flat (l.take k) ++ flat (l.drop k) := by rw [← flat_append, List.take_append_drop]
  have hj : j < (flat (l.drop k)).length := (List.getElem?_eq_some_iff.1 hu).1
  rw [flat_length, hl] at hj
  rw [Addr.add_lit, World.ownsRow.cellAt h _ (by omega), hsplit, List.getElem?_append_right (by rw [flat_length, List.length_take]; omega)]
  rw [flat_length, List.length_take, Nat.min_eq_left (by omega), Nat.add_sub_cancel_left]
  exact hu

theorem app_turns' {w0 w w' : World} {o : Obj} {g1 : Nat} (t : Turns (fun _ => False) w0 w) (g : (w.alloc o).drew.grownBy w' (some g1)) (h1 : w0.heap.size ≤ g1) : Turns (fun _ => False) w0 w' :=
  (t.alloc o).drew.next (Turns.grown (S := fun j => j = g1) g (fun j e => by cases e; rfl)) (fun j hj e => by omega)
theorem app_ge' {w0 w : World} {o : Obj} {g g1 : Nat} (h : g = g1 ∨ g = (w.alloc o).drew.heap.size) (h1 : w0.heap.size ≤ g1) (h2 : w0.heap.size ≤ w.heap.size) : w0.heap.size ≤ g := by
  have : (w.alloc o).drew.heap.size = w.heap.size + 1 := by simp
  omega
theorem app_ge2 {w0 w : World} {g g1 n c : Nat} (h : (Value.slice (some ⟨g1, 0, none⟩) n c).ownBlock = some g ∨ g = w.heap.size) (h1 : w0.heap.size ≤ g1) (h2 : w0.heap.size ≤ w.heap.size) : w0.heap.size ≤ g := by
  rcases h with h | h
  · simp [Value.ownBlock] at h; omega
  · omega
theorem app_turns2 {w0 w w' : World} {g1 n c : Nat} (t : Turns (fun _ => False) w0 w) (g : w.grownBy w' (Value.slice (some ⟨g1, 0, none⟩) n c).ownBlock) (h1 : w0.heap.size ≤ g1) : Turns (fun _ => False) w0 w' :=
  t.next (Turns.grown (S := fun j => j = g1) g (fun j e => by simp [Value.ownBlock] at e; exact e.symm)) (fun j hj e => by omega)

set_option maxHeartbeats 1000000 in
theorem rcan_none {B : Nat} {w : World} {tb : Nat} {rv : Value} {row : List Du} (id : Int) (h : TP 59 29 B w tb rv row) (hf : findL row id = -1) :
    Calls Try.prog 12 #[.pointer (some ⟨tb, 0, none⟩), .int .i64 id] w fun e w' => e = .returned (.int .i64 8) ∧ w' = w := by
  have HF : Hid (findL row id = -1) := hf
  clear hf
  go_enter Try.func12, Try.ntmps12
  go_wp2_with fail
  refine (rfind_any id h).mono ?_
  rintro e w1 ⟨rfl, hw⟩
  subst w1
  rw [HF.out]
  go_wp2_with fail
  go_ret
  exact ⟨rfl, rfl⟩

set_option maxHeartbeats 4000000 in
set_option maxRecDepth 100000 in
theorem rcan_ok {B : Nat} {w : World} {tb : Nat} {rv : Value} {row : List Du} (id : Int) (k : Nat) (h : TP 59 29 B w tb rv row) (hf : findL row id = (k : Int)) (hk : k < row.length) (hB : B ≤ w.heap.size) :
    Calls Try.prog 12 #[.pointer (some ⟨tb, 0, none⟩), .int .i64 id] w fun e w' => e = .returned (.int .i64 0) ∧ ∃ rv', Out 59 29 B w w' tb rv rv' (row.eraseIdx k) := by
  have hc1 := h.c0
  have hlen := h.len
  have hmb := h.tb_lt
  have HG : Hid (Pos (row.eraseIdx k)) := h.pos.erase k
  have HF : Hid (findL row id = (k : Int)) := hf
  clear hf
  rcases h.form with ⟨rfl, hnil⟩ | ⟨g0, cap0, rfl, hcap, _⟩
  · rw [hnil] at hk; simp at hk
  · have n1 : DuRow 59 B (w.alloc (.cells #[] 59)).drew (.slice (some ⟨w.heap.size, 0, none⟩) 0 0) [] := made_dus 59 B w hB
    have hro : DuRow 59 B w (.slice (some ⟨g0, 0, none⟩) row.length cap0) row := h.own
    have s1 : DuSrc (w.alloc (.cells #[] 59)).drew (.slice (some ⟨g0, 0, none⟩) k cap0) (row.take k) := (src_take hro k (by omega)).turns ((Turns.refl (fun _ => False) w).alloc _).drew
    have b1 : (k : Int) < (row.length : Int) := by omega
    have b2 : (0 : Int) ≤ (k : Int) := by omega
    have b3 : (k : Int) + 1 ≤ (row.length : Int) := by omega
    have b4 : (k : Int) ≤ (cap0 : Int) := by omega
    have b5 : ((k : Int) + 1).toNat = k + 1 := by omega
    have b6 : IntKind.i64.wrap ((k : Int) + 1) = (k : Int) + 1 := by rw [IntKind.wrap_i64]; omega
    have b7 : (0 : Int) ≤ (k : Int) + 1 := by omega
    have HEL : Hid ((row.eraseIdx k).length ≤ 1000) := by show _ ≤ _; rw [List.length_eraseIdx]; split <;> omega
    obtain ⟨A, hA⟩ : ∃ A, A = row.take k := ⟨_, rfl⟩
    obtain ⟨D, hD⟩ : ∃ D, D = row.drop (k + 1) := ⟨_, rfl⟩
    have hAl : A.length = k := by rw [hA, List.length_take]; omega
    have hDl : D.length = row.length - (k + 1) := by rw [hD, List.length_drop]
    have HCA : Hid (row.eraseIdx k = A ++ D) := by show _ = _; rw [hA, hD, List.eraseIdx_eq_take_drop_succ]
    rw [← hA] at s1
    have hl1 : A.length ≤ 100000 := by omega
    have hl2 : A.length + D.length ≤ 100000 := by omega
    have hB2 : B ≤ (w.alloc (.cells #[] 59)).drew.heap.size := le_alloc _ hB
    by_cases hc : cap0 = k + 1
    · subst hc
      have s2 : DuSrc w (.slice (some ⟨g0, 0, none⟩) (row.length - (k + 1)) 0) D := by
        have e1 : row.length - (k + 1) = 0 := by omega
        have e2 : D = [] := List.eq_nil_of_length_eq_zero (by rw [hDl, e1])
        rw [e1, e2]
        exact src_none _ _
      have b8 : (k : Int) ≤ (k : Int) + 1 := by omega
      clear hcap hA hD
      go_enter Try.func12, Try.ntmps12
      go_wp2_with fail
      refine (rfind_any id h).mono ?_
      rintro e w1 ⟨rfl, hw⟩
      subst w1
      rw [HF.out]
      go_wp2_with fail
      go_region_law (first | (refine step_append_dus kR w1 (by rfl) _ _ (by rfl) B (.slice (some ⟨g1, 0, none⟩) k c1) (.slice (some ⟨g0, 0, none⟩) (row.length - (k + 1)) 0) A D (by rfl) (by rfl) o1' (s2.turns T1) (.inl (by simp)) hl2 hB1 ?_; intro g2 c2 w2 o2 gr2 at2; have T2 := app_turns2 T1 gr2 hg1; have hg2 := app_ge2 at2 hg1 T1.size; have R := new_out h T2 hg2 (by simp) o2 (by rw [← HCA.out]; exact HG.out) (by rw [← HCA.out]; exact HEL.out); have z2 := R.1; have z3 := R.2.1) | (refine step_append_dus kR w1 (by rfl) _ _ (by rfl) B (.slice (some ⟨g1, 0, none⟩) A.length c1) (.slice (some ⟨g0, 0, none⟩) (row.length - (k + 1)) 0) A D (by rfl) (by rfl) o1 (s2.turns T1) (.inl (by simp)) hl2 hB1 ?_; intro g2 c2 w2 o2 gr2 at2; have T2 := app_turns2 T1 gr2 hg1; have hg2 := app_ge2 at2 hg1 T1.size; have R := new_out h T2 hg2 (by simp) o2 (by rw [← HCA.out]; exact HG.out) (by rw [← HCA.out]; exact HEL.out); have z2 := R.1; have z3 := R.2.1) | (refine step_copy_dus kR _ (by rfl) _ _ (by rfl) B w.heap.size (.slice (some ⟨g0, 0, none⟩) k (k + 1)) A (by rfl) (by rfl) n1 s1 hl1 hB2 ?_; intro g1 c1 w1 o1 gr1 at1; have T1 := app_turns' (Turns.refl _ w) gr1 (Nat.le_refl _); have hg1 := app_ge' at1 (Nat.le_refl _) (Nat.le_refl _); have hB1 := Nat.le_trans hB T1.size; have o1' : DuRow 59 B w1 (.slice (some ⟨g1, 0, none⟩) k c1) A := (by rw [hAl] at o1; exact o1); have z1 := T1.cell hc1 hmb (fun x => x)))
      all_goals go_wp2_with fail
      all_goals go_ret
      all_goals
        have R3 := R.2.2
        rw [hAl, hDl] at R3
        rw [HCA.out]
        exact ⟨rfl, _, R3⟩
    · have s2 : DuSrc w (.slice (some ⟨g0, (k + 1) * 2, none⟩) (row.length - (k + 1)) (cap0 - (k + 1))) D := by rw [hD]; exact src_drop hro (k + 1) (by omega)
      clear hcap hA hD
      go_enter Try.func12, Try.ntmps12
      go_wp2_with fail
      refine (rfind_any id h).mono ?_
      rintro e w1 ⟨rfl, hw⟩
      subst w1
      rw [HF.out]
      go_wp2_with fail
      go_region_law (first | (refine step_append_dus kR w1 (by rfl) _ _ (by rfl) B (.slice (some ⟨g1, 0, none⟩) k c1) (.slice (some ⟨g0, (k + 1) * 2, none⟩) (row.length - (k + 1)) (cap0 - (k + 1))) A D (by rfl) (by rfl) o1' (s2.turns T1) (.inl (by simp)) hl2 hB1 ?_; intro g2 c2 w2 o2 gr2 at2; have T2 := app_turns2 T1 gr2 hg1; have hg2 := app_ge2 at2 hg1 T1.size; have R := new_out h T2 hg2 (by simp) o2 (by rw [← HCA.out]; exact HG.out) (by rw [← HCA.out]; exact HEL.out); have z2 := R.1; have z3 := R.2.1) | (refine step_append_dus kR w1 (by rfl) _ _ (by rfl) B (.slice (some ⟨g1, 0, none⟩) A.length c1) (.slice (some ⟨g0, (k + 1) * 2, none⟩) (row.length - (k + 1)) (cap0 - (k + 1))) A D (by rfl) (by rfl) o1 (s2.turns T1) (.inl (by simp)) hl2 hB1 ?_; intro g2 c2 w2 o2 gr2 at2; have T2 := app_turns2 T1 gr2 hg1; have hg2 := app_ge2 at2 hg1 T1.size; have R := new_out h T2 hg2 (by simp) o2 (by rw [← HCA.out]; exact HG.out) (by rw [← HCA.out]; exact HEL.out); have z2 := R.1; have z3 := R.2.1) | (refine step_copy_dus kR _ (by rfl) _ _ (by rfl) B w.heap.size (.slice (some ⟨g0, 0, none⟩) k cap0) A (by rfl) (by rfl) n1 s1 hl1 hB2 ?_; intro g1 c1 w1 o1 gr1 at1; have T1 := app_turns' (Turns.refl _ w) gr1 (Nat.le_refl _); have hg1 := app_ge' at1 (Nat.le_refl _) (Nat.le_refl _); have hB1 := Nat.le_trans hB T1.size; have o1' : DuRow 59 B w1 (.slice (some ⟨g1, 0, none⟩) k c1) A := (by rw [hAl] at o1; exact o1); have z1 := T1.cell hc1 hmb (fun x => x)))
      all_goals go_wp2_with fail
      all_goals go_ret
      all_goals
        have R3 := R.2.2
        rw [hAl, hDl] at R3
        rw [HCA.out]
        exact ⟨rfl, _, R3⟩

theorem rcan_any {B : Nat} {w : World} {tb : Nat} {rv : Value} {row : List Du} (id : Int) (h : TP 59 29 B w tb rv row) (hB : B ≤ w.heap.size) :
    Calls Try.prog 12 #[.pointer (some ⟨tb, 0, none⟩), .int .i64 id] w fun e w' => e = .returned (.int .i64 (canE row id)) ∧ ∃ rv', Out 59 29 B w w' tb rv rv' (canR row id) := by
  rcases can_cases row id with ⟨h1, h2, h3⟩ | ⟨k, h1, h2, h3, h4⟩
  · rw [h2, h3]
    refine (rcan_none id h h1).mono ?_
    rintro e w' ⟨rfl, rfl⟩
    exact ⟨rfl, _, Out.same h (Turns.refl _ _)⟩
  · rw [h3, h4]
    exact rcan_ok id k h h1 h2 hB
end Go.Proofs.Ytohgjdefgabfeaa
