/- Remove of the reference's heap, by its contract. -/
import Derived.Test.YthlnbnklhajilaaRefPut
import Derived.Deep.RegionLaw
namespace Go.Proofs.Ythlnbnklhajilaa
open Go.RowKit Hp

/-- Without the one at k. -/
def cutAt (l : List Ent) (k : Nat) : List Ent := l.take k ++ l.drop (k + 1)

theorem cutAt_len (l : List Ent) (k : Nat) (h : k < l.length) : (cutAt l k).length = l.length - 1 := by
  unfold cutAt; simp; omega

theorem cutAt_mem {most : Nat} {l : List Ent} (g : Hp.Good most l) (k : Nat) (hk : k < l.length) (x : Ent) : x ∈ cutAt l k ↔ x ∈ l ∧ x.id ≠ (at' l k).id := by
  have hl : l = l.take k ++ at' l k :: l.drop (k + 1) := by
    rw [← Hp.get_at l k hk, ← List.drop_eq_getElem_cons hk, List.take_append_drop]
  constructor
  · intro hx
    unfold cutAt at hx
    rw [List.mem_append] at hx
    rcases hx with hx | hx
    · obtain ⟨i, hi, rfl⟩ := List.getElem_of_mem hx
      simp only [List.length_take] at hi
      rw [List.getElem_take]
      have hil : i < l.length := by omega
      rw [Hp.get_at l i hil]
      refine ⟨at_mem hil, fun e => ?_⟩
      have := g.nd i k hil hk e
      omega
    · obtain ⟨i, hi, rfl⟩ := List.getElem_of_mem hx
      simp only [List.length_drop] at hi
      rw [List.getElem_drop]
      have hil : k + 1 + i < l.length := by omega
      rw [Hp.get_at l _ hil]
      refine ⟨at_mem hil, fun e => ?_⟩
      have := g.nd _ k hil hk e
      omega
  · rintro ⟨hx, hne⟩
    rw [hl, List.mem_append, List.mem_cons] at hx
    unfold cutAt
    rw [List.mem_append]
    rcases hx with hx | rfl | hx
    · exact .inl hx
    · exact absurd rfl hne
    · exact .inr hx

theorem at_cutAt (l : List Ent) (k i : Nat) (hk : k < l.length) (_hi : i < l.length - 1) : at' (cutAt l k) i = if i < k then at' l i else at' l (i + 1) := by
  unfold cutAt at'
  rw [List.getD_eq_getElem?_getD, List.getD_eq_getElem?_getD, List.getD_eq_getElem?_getD]
  split
  · rw [List.getElem?_append_left (by simp; omega), List.getElem?_take, if_pos (by omega)]
  · rw [List.getElem?_append_right (by simp; omega), List.getElem?_drop]
    congr 2
    simp
    omega

theorem good_cutAt {most : Nat} {l : List Ent} (g : Hp.Good most l) (k : Nat) (hk : k < l.length) : Hp.Good most (cutAt l k) := by
  refine ⟨?_, ?_, ?_⟩
  · intro i hi
    rw [cutAt_len l k hk] at hi
    rw [at_cutAt l k i hk hi]
    split
    · exact g.lo i (by omega)
    · exact g.lo (i + 1) (by omega)
  · intro i hi
    rw [cutAt_len l k hk] at hi
    rw [at_cutAt l k i hk hi]
    split
    · exact g.hi i (by omega)
    · exact g.hi (i + 1) (by omega)
  · intro i j hi hj h
    rw [cutAt_len l k hk] at hi hj
    rw [at_cutAt l k i hk hi, at_cutAt l k j hk hj] at h
    split at h <;> split at h
    · exact g.nd i j (by omega) (by omega) h
    · have := g.nd i (j + 1) (by omega) (by omega) h; omega
    · have := g.nd (i + 1) j (by omega) (by omega) h; omega
    · have := g.nd (i + 1) (j + 1) (by omega) (by omega) h; omega

theorem flat_take (l : List Ent) (k : Nat) : flat (l.take k) = (flat l).take (k * 3) := by
  induction l generalizing k with
  | nil => simp [flat]
  | cons x r ih =>
    cases k with
    | zero => simp [flat]
    | succ k =>
      have := ih k
      simp only [flat, List.take_succ_cons, List.flatMap_cons] at this ⊢
      rw [this]
      have e : (k + 1) * 3 = (entV x).length + k * 3 := by simp [entV]; omega
      rw [e, List.take_length_add_append]

theorem flat_drop (l : List Ent) (k : Nat) : flat (l.drop k) = (flat l).drop (k * 3) := by
  induction l generalizing k with
  | nil => simp [flat]
  | cons x r ih =>
    cases k with
    | zero => simp [flat]
    | succ k =>
      have := ih k
      simp only [flat, List.drop_succ_cons, List.flatMap_cons] at this ⊢
      rw [this]
      have e : (k + 1) * 3 = (entV x).length + k * 3 := by simp [entV]; omega
      rw [e, List.drop_length_add_append]

theorem src_take {B : Nat} {w : World} {g n c : Nat} {l : List Ent} (h : EntRow B w (.slice (some ⟨g, 0, none⟩) n c) l) (k : Nat) (hk : k ≤ l.length) : EntSrc w (.slice (some ⟨g, 0, none⟩) k c) (l.take k) := by
  refine .inr ⟨⟨g, 0, none⟩, c, by rw [List.length_take, Nat.min_eq_left hk], ?_⟩
  intro j u hu
  rw [flat_take, List.getElem?_take] at hu
  split at hu
  · exact World.ownsRow.cells h rfl j u hu
  · cases hu

theorem src_drop {B : Nat} {w : World} {g n c c' : Nat} {l : List Ent} (h : EntRow B w (.slice (some ⟨g, 0, none⟩) n c) l) (k : Nat) : EntSrc w (.slice (some ⟨g, k * 3, none⟩) (l.length - k) c') (l.drop k) := by
  refine .inr ⟨⟨g, k * 3, none⟩, c', by rw [List.length_drop], ?_⟩
  intro j u hu
  rw [flat_drop, List.getElem?_drop] at hu
  have := World.ownsRow.cells h rfl (k * 3 + j) u hu
  rw [Addr.add_lit] at this ⊢
  simpa using this

theorem src_none {w : World} (a : Addr) (c : Nat) : EntSrc w (.slice (some a) 0 c) [] := .inr ⟨a, c, rfl, fun j u hu => by simp [flat] at hu⟩

theorem app_turns' {w0 w w' : World} {o : Obj} {g1 : Nat} (t : Turns (fun _ => False) w0 w) (g : (w.alloc o).drew.grownBy w' (some g1)) (h1 : w0.heap.size ≤ g1) : Turns (fun _ => False) w0 w' :=
  (t.alloc o).drew.next (Turns.grown (S := fun j => j = g1) g (fun j e => by cases e; rfl)) (fun j hj e => by omega)
theorem app_ge' {w0 w : World} {o : Obj} {g g1 : Nat} (h : g = g1 ∨ g = (w.alloc o).drew.heap.size) (h1 : w0.heap.size ≤ g1) (h2 : w0.heap.size ≤ w.heap.size) : w0.heap.size ≤ g := by
  have : (w.alloc o).drew.heap.size = w.heap.size + 1 := by simp
  omega
theorem app_ge2 {w0 w : World} {g g1 : Nat} (h : g = g1 ∨ g = w.heap.size) (h1 : w0.heap.size ≤ g1) (h2 : w0.heap.size ≤ w.heap.size) : w0.heap.size ≤ g := by omega
theorem app_turns2 {w0 w w' : World} {g1 : Nat} (t : Turns (fun _ => False) w0 w) (g : w.grownBy w' (some g1)) (h1 : w0.heap.size ≤ g1) : Turns (fun _ => False) w0 w' :=
  t.next (Turns.grown (S := fun j => j = g1) g (fun j e => by cases e; rfl)) (fun j hj e => by omega)

set_option maxHeartbeats 1000000 in
theorem rrem_arg {B : Nat} {w : World} {mb most : Nat} {lv : Value} {l : List Ent} (id : Int) (h : RP B w mb lv most l) (hk : knB most id = false) :
    Calls Try.prog 16 #[.pointer (some ⟨mb, 0, none⟩), .int .i64 id] w fun e w' => e = .returned (.int .i64 1) ∧ w' = w := by
  have hc0 := h.c0
  rcases kn_false hk with h0 | ⟨h0, h1⟩
  all_goals
    clear hk
    go_enter Try.func16, Try.ntmps16
    go_wp2_with fail
    go_ret
    exact ⟨rfl, rfl⟩

set_option maxHeartbeats 1000000 in
theorem rrem_none {B : Nat} {w : World} {mb most : Nat} {lv : Value} {l : List Ent} (id : Int) (h : RP B w mb lv most l) (hk : knB most id = true) (hf : findL l id = -1) :
    Calls Try.prog 16 #[.pointer (some ⟨mb, 0, none⟩), .int .i64 id] w fun e w' => e = .returned (.int .i64 8) ∧ w' = w := by
  have hc0 := h.c0
  obtain ⟨k1, k2⟩ : 0 ≤ id ∧ id < (most : Int) := by simpa [knB] using hk
  have e1 : decide (id < 0) = false := decide_eq_false (by omega)
  have e2 : decide ((most : Int) ≤ id) = false := decide_eq_false (by omega)
  have HF : Hid (findL l id = -1) := hf
  clear hk hf
  go_enter Try.func16, Try.ntmps16
  go_wp2_with fail
  refine (rfind_any id h).mono ?_
  rintro e w1 ⟨rfl, rfl⟩
  rw [HF.out]
  go_wp2_with fail
  go_ret
  exact ⟨rfl, rfl⟩

set_option maxHeartbeats 4000000 in
set_option maxRecDepth 100000 in
theorem rrem_ok {B : Nat} {w : World} {mb most : Nat} {lv : Value} {l : List Ent} (id : Int) (k : Nat) (h : RP B w mb lv most l) (hk : knB most id = true) (hf : findL l id = (k : Int)) (hkl : k < l.length) (hB : B ≤ w.heap.size) :
    Calls Try.prog 16 #[.pointer (some ⟨mb, 0, none⟩), .int .i64 id] w fun e w' => e = .returned (.int .i64 0) ∧ ∃ lv',
      RP B w' mb lv' most (cutAt l k) ∧ Turns (fun k => k = mb) w w' ∧ ∀ k, lv'.ownBlock = some k → w.heap.size ≤ k := by
  have hc0 := h.c0
  have hc1 := h.c1
  have hlen := h.len
  obtain ⟨k1, k2⟩ : 0 ≤ id ∧ id < (most : Int) := by simpa [knB] using hk
  have e1 : decide (id < 0) = false := decide_eq_false (by omega)
  have e2 : decide ((most : Int) ≤ id) = false := decide_eq_false (by omega)
  have HG : Hid (Hp.Good most (cutAt l k)) := good_cutAt h.good k hkl
  have HF : Hid (findL l id = (k : Int)) := hf
  clear hk hf
  have hmb : mb < w.heap.size := (h.foot mb (.inl rfl)).2
  rcases h.form with ⟨rfl, hnil⟩ | ⟨g0, cap0, rfl, hcap, _⟩
  · rw [hnil] at hkl; simp at hkl
  · have n1 : EntRow B (w.alloc (.cells #[] 65)).drew (.slice (some ⟨w.heap.size, 0, none⟩) 0 0) [] := made_ents B w hB
    have hro : EntRow B w (.slice (some ⟨g0, 0, none⟩) l.length cap0) l := h.own
    have Ta : Turns (fun _ => False) w (w.alloc (.cells #[] 65)).drew := ((Turns.refl _ w).alloc _).drew
    have s1 := (src_take hro k (by omega)).turns Ta
    have b1 : (k : Int) < (l.length : Int) := by omega
    have b2 : (0 : Int) ≤ (k : Int) := by omega
    have b3 : (k : Int) + 1 ≤ (l.length : Int) := by omega
    have b4 : (k : Int) ≤ (cap0 : Int) := by omega
    have b5 : ((k : Int) + 1).toNat = k + 1 := by omega
    have b6 : IntKind.i64.wrap ((k : Int) + 1) = (k : Int) + 1 := by rw [IntKind.wrap_i64]; omega
    have b7 : (0 : Int) ≤ (k : Int) + 1 := by omega
    obtain ⟨A, hA⟩ : ∃ A, A = l.take k := ⟨_, rfl⟩
    obtain ⟨D, hD⟩ : ∃ D, D = l.drop (k + 1) := ⟨_, rfl⟩
    have hAl : A.length = k := by rw [hA, List.length_take]; omega
    have hDl : D.length = l.length - (k + 1) := by rw [hD, List.length_drop]
    have HCA : Hid (cutAt l k = A ++ D) := by show _ = _; unfold cutAt; rw [hA, hD]
    rw [← hA] at s1
    have hl1 : A.length ≤ 100000 := by omega
    have hl2 : A.length + D.length ≤ 100000 := by omega
    have hB2 : B ≤ (w.alloc (.cells #[] 65)).drew.heap.size := le_alloc _ hB
    have HS2 : Hid (EntSrc w (.slice (if cap0 = k + 1 then some ⟨g0, 0, none⟩ else some ⟨g0, (k + 1) * 3, none⟩) (l.length - (k + 1)) (cap0 - (k + 1))) D) := by
      show EntSrc _ _ _
      by_cases hc : cap0 = k + 1
      · rw [if_pos hc]
        have e1 : l.length - (k + 1) = 0 := by omega
        have e2 : D = [] := List.eq_nil_of_length_eq_zero (by rw [hDl, e1])
        rw [e1, e2]
        exact src_none _ _
      · rw [if_neg hc, hD]
        exact src_drop hro (k + 1)
    clear hA hD
    by_cases hc : cap0 = k + 1
    · subst hc
      have s2 : EntSrc w (.slice (some ⟨g0, 0, none⟩) (l.length - (k + 1)) 0) D := by
        have e1 : l.length - (k + 1) = 0 := by omega
        have e2 : D = [] := List.eq_nil_of_length_eq_zero (by rw [hDl, e1])
        rw [e1, e2]
        exact src_none _ _
      have b8 : (k : Int) ≤ (k : Int) + 1 := by omega
      clear hcap HS2
      go_enter Try.func16, Try.ntmps16
      go_wp2_with fail
      refine (rfind_any id h).mono ?_
      rintro e w1 ⟨rfl, hw⟩
      subst w1
      rw [HF.out]
      go_wp2_with fail
      go_region_law (first | (refine step_append_ents w1 (by rfl) _ _ (by rfl) B g1 k c1 (.slice (some ⟨g0, 0, none⟩) (l.length - (k + 1)) 0) A D (by rfl) (by rfl) o1' (s2.turns T1) hl2 hB1 ?_; intro g2 c2 w2 o2 gr2 at2; have T2 := app_turns2 T1 gr2 hg1; have hg2 := app_ge2 at2 hg1 T1.size; have R := rp_store h T2 o2 hg2 (by rw [← HCA.out]; exact HG.out); have z2 := R.1; have z3 := R.2.1) | (refine step_append_ents w1 (by rfl) _ _ (by rfl) B g1 A.length c1 (.slice (some ⟨g0, 0, none⟩) (l.length - (k + 1)) 0) A D (by rfl) (by rfl) o1 (s2.turns T1) hl2 hB1 ?_; intro g2 c2 w2 o2 gr2 at2; have T2 := app_turns2 T1 gr2 hg1; have hg2 := app_ge2 at2 hg1 T1.size; have R := rp_store h T2 o2 hg2 (by rw [← HCA.out]; exact HG.out); have z2 := R.1; have z3 := R.2.1) | (refine step_copy_ents _ (by rfl) _ _ (by rfl) B w.heap.size (.slice (some ⟨g0, 0, none⟩) k (k + 1)) A (by rfl) (by rfl) n1 s1 hl1 hB2 ?_; intro g1 c1 w1 o1 gr1 at1; have T1 := app_turns' (Turns.refl _ w) gr1 (Nat.le_refl _); have hg1 := app_ge' at1 (Nat.le_refl _) (Nat.le_refl _); have hB1 := Nat.le_trans hB T1.size; have o1' : EntRow B w1 (.slice (some ⟨g1, 0, none⟩) k c1) A := (by rw [hAl] at o1; exact o1); have z1 := T1.cell hc1 hmb (fun x => x)))
      all_goals go_wp2_with fail
      all_goals go_ret
      all_goals
        have R3 := R.2.2.1
        have R4 := R.2.2.2
        rw [hAl, hDl] at R3 R4
        rw [← HCA.out] at R3
        refine ⟨rfl, _, R3, R4, ?_⟩
        intro k e
        simp [Value.ownBlock] at e
        omega
    · have hcn : ¬ cap0 = k + 1 := hc
      have s2 : EntSrc w (.slice (some ⟨g0, (k + 1) * 3, none⟩) (l.length - (k + 1)) (cap0 - (k + 1))) D := by have := HS2.out; rw [if_neg hc] at this; exact this
      clear hc hcap HS2
      go_enter Try.func16, Try.ntmps16
      go_wp2_with fail
      refine (rfind_any id h).mono ?_
      rintro e w1 ⟨rfl, hw⟩
      subst w1
      rw [HF.out]
      go_wp2_with fail
      go_region_law (first | (refine step_append_ents w1 (by rfl) _ _ (by rfl) B g1 k c1 (.slice (some ⟨g0, (k + 1) * 3, none⟩) (l.length - (k + 1)) (cap0 - (k + 1))) A D (by rfl) (by rfl) o1' (s2.turns T1) hl2 hB1 ?_; intro g2 c2 w2 o2 gr2 at2; have T2 := app_turns2 T1 gr2 hg1; have hg2 := app_ge2 at2 hg1 T1.size; have R := rp_store h T2 o2 hg2 (by rw [← HCA.out]; exact HG.out); have z2 := R.1; have z3 := R.2.1) | (refine step_append_ents w1 (by rfl) _ _ (by rfl) B g1 A.length c1 (.slice (some ⟨g0, (k + 1) * 3, none⟩) (l.length - (k + 1)) (cap0 - (k + 1))) A D (by rfl) (by rfl) o1 (s2.turns T1) hl2 hB1 ?_; intro g2 c2 w2 o2 gr2 at2; have T2 := app_turns2 T1 gr2 hg1; have hg2 := app_ge2 at2 hg1 T1.size; have R := rp_store h T2 o2 hg2 (by rw [← HCA.out]; exact HG.out); have z2 := R.1; have z3 := R.2.1) | (refine step_copy_ents _ (by rfl) _ _ (by rfl) B w.heap.size (.slice (some ⟨g0, 0, none⟩) k cap0) A (by rfl) (by rfl) n1 s1 hl1 hB2 ?_; intro g1 c1 w1 o1 gr1 at1; have T1 := app_turns' (Turns.refl _ w) gr1 (Nat.le_refl _); have hg1 := app_ge' at1 (Nat.le_refl _) (Nat.le_refl _); have hB1 := Nat.le_trans hB T1.size; have o1' : EntRow B w1 (.slice (some ⟨g1, 0, none⟩) k c1) A := (by rw [hAl] at o1; exact o1); have z1 := T1.cell hc1 hmb (fun x => x)))
      all_goals go_wp2_with fail
      all_goals go_ret
      all_goals
        have R3 := R.2.2.1
        have R4 := R.2.2.2
        rw [hAl, hDl] at R3 R4
        rw [← HCA.out] at R3
        refine ⟨rfl, _, R3, R4, ?_⟩
        intro k e
        simp [Value.ownBlock] at e
        omega
end Go.Proofs.Ythlnbnklhajilaa
