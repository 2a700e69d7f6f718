/- Plain mathematics of a heap's order: rise, sink and settle keep the entries and bring them into a heap's order; who is at its head goes first. -/
import Derived.Test.YthlnbnklhajilaaSink
namespace Go.Proofs.Ythlnbnklhajilaa.Hp

theorem ahd_iff (x y : Ent) : ahd x y = true ↔ y.prio < x.prio ∨ (x.prio = y.prio ∧ (x.seq < y.seq ∨ (x.seq = y.seq ∧ x.id < y.id))) := by
  unfold ahd
  split
  · simp; omega
  · split
    · simp; omega
    · simp; omega

theorem ahd_not (x y : Ent) : ahd x y = false ↔ ¬ (y.prio < x.prio ∨ (x.prio = y.prio ∧ (x.seq < y.seq ∨ (x.seq = y.seq ∧ x.id < y.id)))) := by
  rw [← ahd_iff]; simp

theorem ahd_asymm {x y : Ent} (h : ahd x y = true) : ahd y x = false := by
  rw [ahd_iff] at h; rw [ahd_not]; omega

theorem ahd_irrefl (x : Ent) : ahd x x = false := by rw [ahd_not]; omega

/-- x is not behind y, y not behind z: x is not behind z. -/
theorem nb_trans {x y z : Ent} (h1 : ahd y x = false) (h2 : ahd z y = false) : ahd z x = false := by
  rw [ahd_not] at *; omega

theorem ahd_total {x y : Ent} (h : x.id ≠ y.id) : ahd x y = true ∨ ahd y x = true := by
  rw [ahd_iff, ahd_iff]; omega

theorem ahd_trans {x y z : Ent} (h1 : ahd x y = true) (h2 : ahd y z = true) : ahd x z = true := by
  rw [ahd_iff] at *; omega

theorem ahd_of_not {x y : Ent} (hid : x.id ≠ y.id) (h : ahd x y = false) : ahd y x = true := by
  rcases ahd_total hid with h1 | h1
  · rw [h] at h1; cases h1
  · exact h1

/-- None goes ahead of the one above it. -/
def Ord (row : List Ent) : Prop := ∀ i, 0 < i → i < row.length → ahd (at' row i) (at' row ((i - 1) / 2)) = false

/-- A heap's order but for place p: those below p are not ahead of the one above p. -/
structure Mid (p : Nat) (row : List Ent) : Prop where
  ok : ∀ i, 0 < i → i < row.length → i ≠ p → (i - 1) / 2 ≠ p → ahd (at' row i) (at' row ((i - 1) / 2)) = false
  gr : ∀ c, 0 < c → c < row.length → (c - 1) / 2 = p → 0 < p → ahd (at' row c) (at' row ((p - 1) / 2)) = false

theorem rise_len : ∀ (f : Nat) (row : List Ent) (p : Nat), (rise f row p).length = row.length
  | 0, _, _ => rfl
  | f + 1, row, p => by
    unfold rise
    split
    · rfl
    · split
      · rw [rise_len f, swp_length]
      · rfl

theorem sink_len : ∀ (f : Nat) (row : List Ent) (p : Nat), (sink f row p).length = row.length
  | 0, _, _ => rfl
  | f + 1, row, p => by
    unfold sink
    split
    · rfl
    · rw [sink_len f, swp_length]

theorem swp_perm (row : List Ent) (a b : Nat) (ha : a < row.length) (hb : b < row.length) : (swp row a b).Perm row := by
  unfold swp
  rw [← get_at row a ha, ← get_at row b hb]
  exact List.set_set_perm ha hb

theorem rise_perm : ∀ (f : Nat) (row : List Ent) (p : Nat), p < row.length → (rise f row p).Perm row
  | 0, _, _, _ => List.Perm.refl _
  | f + 1, row, p, h => by
    unfold rise
    split
    · exact List.Perm.refl _
    · split
      · exact (rise_perm f _ _ (by rw [swp_length]; omega)).trans (swp_perm row p _ h (by omega))
      · exact List.Perm.refl _

theorem sink_perm : ∀ (f : Nat) (row : List Ent) (p : Nat), p < row.length → (sink f row p).Perm row
  | 0, _, _, _ => List.Perm.refl _
  | f + 1, row, p, h => by
    unfold sink
    have hq := firstTo_lt row p h 2
    split
    · exact List.Perm.refl _
    · exact (sink_perm f _ _ (by rw [swp_length]; exact hq)).trans (swp_perm row p _ h hq)

/-- The order but for p upward. -/
structure Up (p : Nat) (row : List Ent) : Prop where
  ok : ∀ i, 0 < i → i < row.length → i ≠ p → ahd (at' row i) (at' row ((i - 1) / 2)) = false
  gr : ∀ c, 0 < c → c < row.length → (c - 1) / 2 = p → 0 < p → ahd (at' row c) (at' row ((p - 1) / 2)) = false

theorem rise_ord : ∀ (f : Nat) (row : List Ent) (p : Nat), p ≤ f → p < row.length → Up p row → Ord (rise f row p)
  | 0, row, p, hf, _, u => by
    unfold rise
    intro i h0 hi
    exact u.ok i h0 hi (by omega)
  | f + 1, row, p, hf, hp, u => by
    unfold rise
    by_cases h0 : p = 0
    · rw [if_pos h0]
      intro i hi0 hi
      exact u.ok i hi0 hi (by omega)
    · rw [if_neg h0]
      by_cases ha : ahd (at' row p) (at' row ((p - 1) / 2)) = true
      · rw [if_pos ha]
        have hq : (p - 1) / 2 < row.length := by omega
        have e := fun j => at_swp row p ((p - 1) / 2) j hp hq
        apply rise_ord f _ _ (by omega) (by rw [swp_length]; omega)
        constructor
        · intro i hi0 hi hne
          rw [swp_length] at hi
          rw [e, e]
          rw [if_neg hne]
          by_cases hip : i = p
          · subst hip
            rw [if_pos rfl, if_pos rfl]
            exact ahd_asymm ha
          · rw [if_neg hip]
            by_cases h1 : (i - 1) / 2 = (p - 1) / 2
            · rw [if_pos h1]
              have := u.ok i hi0 hi hip
              rw [h1] at this
              exact nb_trans (ahd_asymm ha) this
            · rw [if_neg h1]
              by_cases h2 : (i - 1) / 2 = p
              · rw [if_pos h2]
                exact u.gr i hi0 hi h2 (by omega)
              · rw [if_neg h2]
                exact u.ok i hi0 hi hip
        · intro c hc0 hc hcq hq0
          rw [swp_length] at hc
          rw [e, e]
          have n1 : ((p - 1) / 2 - 1) / 2 ≠ (p - 1) / 2 := by omega
          have n2 : ((p - 1) / 2 - 1) / 2 ≠ p := by omega
          have n3 : c ≠ (p - 1) / 2 := by omega
          rw [if_neg n3, if_neg n1, if_neg n2]
          have hok := u.ok ((p - 1) / 2) hq0 hq (by omega)
          by_cases hcp : c = p
          · rw [if_pos hcp]; exact hok
          · rw [if_neg hcp]
            have := u.ok c hc0 hc hcp
            rw [hcq] at this
            exact nb_trans hok this
      · rw [if_neg ha]
        intro i hi0 hi
        by_cases hip : i = p
        · subst hip; simpa using ha
        · exact u.ok i hi0 hi hip

/-- The order but for p downward. -/
structure Down (p : Nat) (row : List Ent) : Prop where
  ok : ∀ i, 0 < i → i < row.length → (i - 1) / 2 ≠ p → ahd (at' row i) (at' row ((i - 1) / 2)) = false
  gr : ∀ c, 0 < c → c < row.length → (c - 1) / 2 = p → 0 < p → ahd (at' row c) (at' row ((p - 1) / 2)) = false

theorem firstTo_best (row : List Ent) (p : Nat) (c : Nat) (h0 : 0 < c) (hc : c < row.length) (hp : (c - 1) / 2 = p) : ahd (at' row c) (at' row (firstTo row p 2)) = false := by
  have hcc : c = 2 * p + 1 ∨ c = 2 * p + 2 := by omega
  have e2 : firstTo row p 2 = if 2 * p + 1 + 1 < row.length ∧ ahd (at' row (2 * p + 1 + 1)) (at' row (firstTo row p 1)) = true then 2 * p + 1 + 1 else firstTo row p 1 := rfl
  have e1 : firstTo row p 1 = if 2 * p + 1 + 0 < row.length ∧ ahd (at' row (2 * p + 1 + 0)) (at' row p) = true then 2 * p + 1 + 0 else p := rfl
  have hb1 : 2 * p + 1 < row.length → ahd (at' row (2 * p + 1)) (at' row (firstTo row p 1)) = false := by
    intro hl
    rw [e1]
    split
    · exact ahd_irrefl _
    · rename_i h
      cases hx : ahd (at' row (2 * p + 1)) (at' row p)
      · rfl
      · exact absurd ⟨hl, hx⟩ h
  rw [e2]
  rcases hcc with rfl | rfl
  · split
    · rename_i h
      exact nb_trans (ahd_asymm h.2) (hb1 hc)
    · exact hb1 hc
  · split
    · exact ahd_irrefl _
    · rename_i h
      cases hx : ahd (at' row (2 * p + 2)) (at' row (firstTo row p 1))
      · rfl
      · exact absurd ⟨hc, hx⟩ h

theorem firstTo_ahead (row : List Ent) (p : Nat) (h : firstTo row p 2 ≠ p) : ahd (at' row (firstTo row p 2)) (at' row p) = true := by
  have e2 : firstTo row p 2 = if 2 * p + 1 + 1 < row.length ∧ ahd (at' row (2 * p + 1 + 1)) (at' row (firstTo row p 1)) = true then 2 * p + 1 + 1 else firstTo row p 1 := rfl
  have e1 : firstTo row p 1 = if 2 * p + 1 + 0 < row.length ∧ ahd (at' row (2 * p + 1 + 0)) (at' row p) = true then 2 * p + 1 + 0 else p := rfl
  have h1 : firstTo row p 1 ≠ p → ahd (at' row (firstTo row p 1)) (at' row p) = true := by
    intro hne
    rw [e1] at hne ⊢
    split
    · rename_i hh; exact hh.2
    · rename_i hh; rw [if_neg hh] at hne; exact absurd rfl hne
  rw [e2] at h ⊢
  split
  · rename_i hh
    by_cases hq : firstTo row p 1 = p
    · rw [hq] at hh; exact hh.2
    · exact ahd_trans hh.2 (h1 hq)
  · rename_i hh
    rw [if_neg hh] at h
    exact h1 h

theorem sink_ord : ∀ (f : Nat) (row : List Ent) (p : Nat), row.length - p ≤ f → p < row.length → Down p row → Ord (sink f row p)
  | 0, row, p, hf, hp, d => by omega
  | f + 1, row, p, hf, hp, d => by
    unfold sink
    have hq := firstTo_lt row p hp 2
    have hor := firstTo_or row p
    have hbest := firstTo_best row p
    have hah := firstTo_ahead row p
    generalize firstTo row p 2 = q at *
    by_cases hqp : q = p
    · rw [if_pos hqp]
      subst hqp
      intro i hi0 hi
      by_cases hpar : (i - 1) / 2 = q
      · have := hbest i hi0 hi hpar
        rw [hpar]; exact this
      · exact d.ok i hi0 hi hpar
    · rw [if_neg hqp]
      have ha := hah hqp
      have hqq : (q - 1) / 2 = p := by omega
      have hpq : p < q := by omega
      have e := fun j => at_swp row p q j hp hq
      apply sink_ord f _ _ (by rw [swp_length]; omega) (by rw [swp_length]; exact hq)
      constructor
      · intro i hi0 hi hne
        rw [swp_length] at hi
        rw [e, e]
        rw [if_neg hne]
        by_cases hiq : i = q
        · subst hiq
          rw [if_pos rfl, hqq, if_pos rfl]
          exact ahd_asymm ha
        · rw [if_neg hiq]
          by_cases hip : i = p
          · subst hip
            rw [if_pos rfl, if_neg (by omega)]
            exact d.gr q (by omega) hq hqq hi0
          · rw [if_neg hip]
            by_cases h2 : (i - 1) / 2 = p
            · rw [if_pos h2]
              exact hbest i hi0 hi h2
            · rw [if_neg h2]
              exact d.ok i hi0 hi h2
      · intro c hc0 hc hcq hq0
        rw [swp_length] at hc
        rw [e, e, hqq]
        rw [if_neg (by omega), if_neg (by omega), if_neg (by omega), if_pos rfl]
        have := d.ok c hc0 hc (by omega)
        rw [hcq] at this
        exact this

theorem ord_sink_self (f : Nat) (row : List Ent) (p : Nat) (h : Ord row) : sink f row p = row := by
  cases f with
  | zero => rfl
  | succ f =>
    unfold sink
    rw [if_pos]
    have e2 : firstTo row p 2 = if 2 * p + 1 + 1 < row.length ∧ ahd (at' row (2 * p + 1 + 1)) (at' row (firstTo row p 1)) = true then 2 * p + 1 + 1 else firstTo row p 1 := rfl
    have e1 : firstTo row p 1 = if 2 * p + 1 + 0 < row.length ∧ ahd (at' row (2 * p + 1 + 0)) (at' row p) = true then 2 * p + 1 + 0 else p := rfl
    have e1' : firstTo row p 1 = p := by
      rw [e1]
      split
      · rename_i hh
        have := h (2 * p + 1) (by omega) hh.1
        rw [show (2 * p + 1 - 1) / 2 = p from by omega] at this
        rw [show 2 * p + 1 + 0 = 2 * p + 1 from rfl, this] at hh
        cases hh.2
      · rfl
    rw [e2, e1']
    split
    · rename_i hh
      have := h (2 * p + 1 + 1) (by omega) hh.1
      rw [show (2 * p + 1 + 1 - 1) / 2 = p from by omega] at this
      rw [this] at hh
      cases hh.2
    · rfl

theorem settle_ord (row : List Ent) (p : Nat) (hp : p < row.length) (m : Mid p row) : Ord (sink row.length (rise p row p) p) := by
  by_cases h : 0 < p ∧ ahd (at' row p) (at' row ((p - 1) / 2)) = true
  · obtain ⟨h0, ha⟩ := h
    have u : Up p row := by
      refine ⟨?_, m.gr⟩
      intro i hi0 hi hne
      by_cases hpar : (i - 1) / 2 = p
      · rw [hpar]
        exact nb_trans (ahd_asymm ha) (m.gr i hi0 hi hpar h0)
      · exact m.ok i hi0 hi hne hpar
    have o := rise_ord p row p (Nat.le_refl _) hp u
    rw [ord_sink_self _ _ _ o]
    exact o
  · have hr : rise p row p = row := by
      cases p with
      | zero => rfl
      | succ p =>
        unfold rise
        rw [if_neg (by omega), if_neg (by intro hx; exact h ⟨by omega, hx⟩)]
    rw [hr]
    apply sink_ord _ _ _ (by omega) hp
    refine ⟨?_, m.gr⟩
    intro i hi0 hi hpar
    by_cases hip : i = p
    · subst hip
      cases hx : ahd (at' row i) (at' row ((i - 1) / 2))
      · rfl
      · exact absurd ⟨hi0, hx⟩ h
    · exact m.ok i hi0 hi hip hpar

/-- Who is at the head goes first. -/
theorem ord_head (row : List Ent) (h : Ord row) : ∀ i, i < row.length → ahd (at' row i) (at' row 0) = false := by
  intro i
  induction i using Nat.strongRecOn with
  | ind i ih =>
    intro hi
    by_cases h0 : i = 0
    · subst h0; exact ahd_irrefl _
    · have h1 := h i (by omega) hi
      have h2 := ih ((i - 1) / 2) (by omega) (by omega)
      exact nb_trans h2 h1

end Go.Proofs.Ythlnbnklhajilaa.Hp
