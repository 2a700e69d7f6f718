/- Loads, rounds, the least number that is its own round, as plain numbers. No program is named here. -/
import Derived.Test.YtlkbphogpbcjfaaGreatDoorRows
namespace Go.Proofs.YtlkbphogpbcjfaaGreatDoor

/-- A load: so much in each period. -/
structure LoadD where
  per : Int
  cost : Int

/-- It may be. -/
def lokB (x : LoadD) : Bool := decide (1 ≤ x.per) && decide (0 ≤ x.cost)
/-- How many periods begin within r ticks. -/
def timesR (r p : Int) : Int := if r % p > 0 then r / p + 1 else r / p
/-- The sum, from s on, load by load. -/
def sumR (r : Int) : Int → List LoadD → Int
  | s, [] => s
  | s, x :: l => sumR r (s + timesR r x.per * x.cost) l
/-- The same, within 64 bits: the second is the error. -/
def goR (r : Int) : Int → List LoadD → Int × Int
  | s, [] => (s, 0)
  | s, x :: l => if s + timesR r x.per * x.cost > 9223372036854775807 then (0, 14) else goR r (s + timesR r x.per * x.cost) l
/-- One round. -/
def nextR (r own : Int) (l : List LoadD) : Int × Int :=
  if (decide (0 ≤ r) && decide (0 ≤ own) && l.all lokB) = true then goR r own l else (0, 1)
/-- Round by round, f at most. -/
def fixR (own : Int) (l : List LoadD) (most : Int) : Nat → Int → Int → Int × Int × Int
  | 0, r, _ => if r > most then (0, 0, 13) else (0, 0, 15)
  | f + 1, r, k => if r > most then (0, 0, 13) else
      if (nextR r own l).2 ≠ 0 then (0, 0, (nextR r own l).2) else
      if (nextR r own l).1 = r then (r, k + 1, 0) else fixR own l most f (nextR r own l).1 (k + 1)
def fixT (own : Int) (l : List LoadD) (most : Int) : Int × Int × Int :=
  if (nextR 0 own l).2 ≠ 0 then (0, 0, (nextR 0 own l).2) else if most < 0 then (0, 0, 1) else fixR own l most 1000 own 0

theorem lok_iff {x : LoadD} : lokB x = true ↔ 1 ≤ x.per ∧ 0 ≤ x.cost := by simp [lokB]
theorem lok_all {l : List LoadD} : l.all lokB = true ↔ ∀ x ∈ l, 1 ≤ x.per ∧ 0 ≤ x.cost := by
  rw [List.all_eq_true]
  exact ⟨fun h x hx => lok_iff.1 (h x hx), fun h x hx => lok_iff.2 (h x hx)⟩
theorem times_nn {r p : Int} (hr : 0 ≤ r) (hp : 1 ≤ p) : 0 ≤ timesR r p := by
  have := Int.ediv_nonneg hr (by omega : 0 ≤ p)
  unfold timesR
  split <;> omega
/-- The least n with r ≤ n * p. -/
theorem times_le {r p : Int} (hp : 1 ≤ p) (n : Int) : timesR r p ≤ n ↔ r ≤ n * p := by
  have h1 := Int.ediv_mul_add_emod r p
  have h2 := Int.emod_nonneg r (by omega : p ≠ 0)
  have h3 := Int.emod_lt_of_pos r (by omega : 0 < p)
  unfold timesR
  constructor
  · intro h
    split at h
    · have : (r / p + 1) * p ≤ n * p := Int.mul_le_mul_of_nonneg_right h (by omega)
      rw [Int.add_mul] at this
      omega
    · have : r / p * p ≤ n * p := Int.mul_le_mul_of_nonneg_right h (by omega)
      omega
  · intro h
    split
    · rename_i hm
      have : r / p * p < n * p := by omega
      have := Int.lt_of_mul_lt_mul_right this (by omega)
      omega
    · rename_i hm
      have : r / p * p ≤ n * p := by omega
      exact Int.le_of_mul_le_mul_right this (by omega)
theorem times_mono {r r' p : Int} (hp : 1 ≤ p) (h : r ≤ r') : timesR r p ≤ timesR r' p := by
  rw [times_le hp]
  have := (times_le (r := r') hp _).1 (Int.le_refl _)
  omega
/-- A shorter period begins no less often. -/
theorem times_anti {r p p' : Int} (hr : 0 ≤ r) (hp : 1 ≤ p) (h : p ≤ p') : timesR r p' ≤ timesR r p := by
  rw [times_le (by omega)]
  have h1 := (times_le (r := r) hp _).1 (Int.le_refl _)
  have h2 := Int.mul_le_mul_of_nonneg_left h (times_nn hr hp)
  omega
theorem times_top {r p : Int} (hr : 0 ≤ r) (hp : 1 ≤ p) : timesR r p ≤ r := by
  rw [times_le hp]
  have := Int.mul_le_mul_of_nonneg_left hp hr
  omega
theorem times_one {r p : Int} (hr : 0 < r) (hp : r ≤ p) : timesR r p = 1 := by
  have h1 : timesR r p ≤ 1 := by rw [times_le (by omega)]; omega
  have h2 : ¬ timesR r p ≤ 0 := by rw [times_le (by omega)]; omega
  omega
theorem times_zero {p : Int} (hp : 1 ≤ p) : timesR 0 p = 0 := by
  have h1 : timesR 0 p ≤ 0 := by rw [times_le hp]; omega
  have := times_nn (Int.le_refl 0) hp
  omega
theorem term_nn {r : Int} {x : LoadD} (hr : 0 ≤ r) (hx : 1 ≤ x.per ∧ 0 ≤ x.cost) : 0 ≤ timesR r x.per * x.cost := Int.mul_nonneg (times_nn hr hx.1) hx.2
theorem sum_ge {r : Int} (hr : 0 ≤ r) : ∀ (l : List LoadD) (s : Int), (∀ x ∈ l, 1 ≤ x.per ∧ 0 ≤ x.cost) → s ≤ sumR r s l
  | [], s, _ => Int.le_refl _
  | x :: l, s, h => by
    have h1 := sum_ge hr l (s + timesR r x.per * x.cost) (fun y hy => h y (List.mem_cons_of_mem _ hy))
    have h2 := term_nn hr (h x (List.mem_cons_self ..))
    rw [sumR]
    omega
theorem sum_add (r : Int) : ∀ (l : List LoadD) (s d : Int), sumR r (s + d) l = sumR r s l + d
  | [], s, d => rfl
  | x :: l, s, d => by
    rw [sumR, sumR, show s + d + timesR r x.per * x.cost = s + timesR r x.per * x.cost + d by omega, sum_add r l]
theorem sum_app (r : Int) : ∀ (l m : List LoadD) (s : Int), sumR r s (l ++ m) = sumR r (sumR r s l) m
  | [], m, s => rfl
  | x :: l, m, s => by rw [List.cons_append, sumR, sumR, sum_app r l]
/-- Within 64 bits it is the sum itself. -/
theorem go_ok {r : Int} (hr : 0 ≤ r) : ∀ (l : List LoadD) (s : Int), (∀ x ∈ l, 1 ≤ x.per ∧ 0 ≤ x.cost) → s ≤ 9223372036854775807 → goR r s l = if sumR r s l > 9223372036854775807 then (0, 14) else (sumR r s l, 0)
  | [], s, _, hs => by rw [goR, sumR, if_neg (by omega)]
  | x :: l, s, h, hs => by
    rw [goR, sumR]
    have h1 := sum_ge hr l (s + timesR r x.per * x.cost) (fun y hy => h y (List.mem_cons_of_mem _ hy))
    by_cases hb : s + timesR r x.per * x.cost > 9223372036854775807
    · rw [if_pos hb, if_pos (by omega)]
    · rw [if_neg hb]
      exact go_ok hr l _ (fun y hy => h y (List.mem_cons_of_mem _ hy)) (by omega)
theorem next_ok {r own : Int} {l : List LoadD} (hr : 0 ≤ r) (ho : 0 ≤ own) (ho1 : own ≤ 9223372036854775807) (hl : ∀ x ∈ l, 1 ≤ x.per ∧ 0 ≤ x.cost) : nextR r own l = if sumR r own l > 9223372036854775807 then (0, 14) else (sumR r own l, 0) := by
  unfold nextR
  rw [if_pos (by simp only [Bool.and_eq_true, decide_eq_true_eq]; exact ⟨⟨hr, ho⟩, lok_all.2 hl⟩), go_ok hr l own hl ho1]
theorem sum_zero : ∀ (l : List LoadD) (s : Int), (∀ x ∈ l, 1 ≤ x.per ∧ 0 ≤ x.cost) → sumR 0 s l = s
  | [], s, _ => rfl
  | x :: l, s, h => by
    rw [sumR, times_zero (h x (List.mem_cons_self ..)).1, Int.zero_mul, Int.add_zero]
    exact sum_zero l s (fun y hy => h y (List.mem_cons_of_mem _ hy))
/-- Each load of the first is less than its fellow of the second. -/
inductive LessL : List LoadD → List LoadD → Prop
  | nil (m : List LoadD) (h : ∀ x ∈ m, 1 ≤ x.per ∧ 0 ≤ x.cost) : LessL [] m
  | cons (x y : LoadD) (l m : List LoadD) (hp : 1 ≤ y.per) (hc : 0 ≤ x.cost) (h1 : y.per ≤ x.per) (h2 : x.cost ≤ y.cost) (h : LessL l m) : LessL (x :: l) (y :: m)
theorem LessL.refl : ∀ (l : List LoadD), (∀ x ∈ l, 1 ≤ x.per ∧ 0 ≤ x.cost) → LessL l l
  | [], h => .nil [] h
  | x :: l, h => .cons x x l l (h x (List.mem_cons_self ..)).1 (h x (List.mem_cons_self ..)).2 (Int.le_refl _) (Int.le_refl _) (LessL.refl l (fun y hy => h y (List.mem_cons_of_mem _ hy)))
theorem LessL.left {l m : List LoadD} (h : LessL l m) : ∀ x ∈ l, 1 ≤ x.per ∧ 0 ≤ x.cost := by
  induction h with
  | nil m h => intro x hx; cases hx
  | cons x y l m hp hc h1 h2 h ih =>
    intro z hz
    cases hz with
    | head => exact ⟨by omega, hc⟩
    | tail _ hz => exact ih z hz
theorem LessL.right {l m : List LoadD} (h : LessL l m) : ∀ x ∈ m, 1 ≤ x.per ∧ 0 ≤ x.cost := by
  induction h with
  | nil m h => exact h
  | cons x y l m hp hc h1 h2 h ih =>
    intro z hz
    cases hz with
    | head => exact ⟨hp, by omega⟩
    | tail _ hz => exact ih z hz
theorem sum_less {l m : List LoadD} (h : LessL l m) {r r' : Int} (hr : 0 ≤ r) (hrr : r ≤ r') : ∀ {s s' : Int}, s ≤ s' → sumR r s l ≤ sumR r' s' m := by
  induction h with
  | nil m h =>
    intro s s' hs
    have := sum_ge (r := r') (by omega) m s' h
    show s ≤ _
    omega
  | cons x y l m hp hc h1 h2 h ih =>
    intro s s' hs
    rw [sumR, sumR]
    apply ih
    have a1 : timesR r x.per ≤ timesR r' y.per := Int.le_trans (times_anti hr hp h1) (times_mono hp hrr)
    have a2 := times_nn hr (by omega : 1 ≤ x.per)
    have a3 : timesR r x.per * x.cost ≤ timesR r' y.per * y.cost := Int.mul_le_mul a1 h2 hc (by omega)
    omega
theorem sum_mono {l : List LoadD} (h : ∀ x ∈ l, 1 ≤ x.per ∧ 0 ≤ x.cost) {r r' s : Int} (hr : 0 ≤ r) (hrr : r ≤ r') : sumR r s l ≤ sumR r' s l := sum_less (LessL.refl l h) hr hrr (Int.le_refl _)
/-- What is taken is its own round, and none below it is. -/
theorem fix_out {own : Int} {l : List LoadD} {most : Int} (ho : 0 ≤ own) (ho1 : own ≤ 9223372036854775807) (hl : ∀ x ∈ l, 1 ≤ x.per ∧ 0 ≤ x.cost) :
    ∀ (f : Nat) (r k q n : Int), 0 ≤ r → r ≤ sumR r own l → (∀ x, 0 ≤ x → x < r → x < sumR x own l) → 0 ≤ k → fixR own l most f r k = (q, n, 0) →
      r ≤ q ∧ q ≤ most ∧ sumR q own l = q ∧ nextR q own l = (q, 0) ∧ k + 1 ≤ n ∧ n ≤ k + f ∧ (∀ x, 0 ≤ x → x < q → nextR x own l = (sumR x own l, 0) ∧ x < sumR x own l)
  | 0, r, k, q, n, h0, h1, h2, hk, hf => by
    exfalso
    rw [fixR] at hf
    split at hf <;> simp at hf
  | f + 1, r, k, q, n, h0, h1, h2, hk, hf => by
    rw [fixR] at hf
    split at hf
    · simp at hf
    · rename_i hm
      have hn := next_ok (r := r) h0 ho ho1 hl
      split at hf
      · rename_i he
        exfalso
        simp only [Prod.mk.injEq] at hf
        exact he hf.2.2
      · rename_i he
        by_cases hb : sumR r own l > 9223372036854775807
        · rw [if_pos hb] at hn
          rw [hn] at he
          simp at he
        · rw [if_neg hb] at hn
          rw [hn] at hf
          simp only at hf
          split at hf
          · rename_i hs
            simp only [Prod.mk.injEq] at hf
            obtain ⟨rfl, rfl, -⟩ := hf
            refine ⟨Int.le_refl _, by omega, hs, by rw [hn, hs], by omega, by omega, fun x hx0 hx => ?_⟩
            have h3 := h2 x hx0 hx
            have h4 := sum_mono hl (s := own) hx0 (Int.le_of_lt hx)
            rw [next_ok hx0 ho ho1 hl, if_neg (by omega)]
            exact ⟨rfl, h3⟩
          · rename_i hs
            have h3 : ∀ x, 0 ≤ x → x < sumR r own l → x < sumR x own l := by
              intro x hx0 hx
              by_cases hxr : x < r
              · exact h2 x hx0 hxr
              · have := sum_mono hl (s := own) h0 (by omega : r ≤ x)
                omega
            obtain ⟨a1, a2, a3, a4, a5, a6, a7⟩ := fix_out ho ho1 hl f (sumR r own l) (k + 1) q n (by omega) (sum_mono hl h0 h1) h3 (by omega) hf
            exact ⟨by omega, a2, a3, a4, by omega, by omega, a7⟩
theorem fixT_out {own : Int} {l : List LoadD} {most q n : Int} (ho1 : own ≤ 9223372036854775807) (h : fixT own l most = (q, n, 0)) :
    0 ≤ own ∧ (∀ x ∈ l, 1 ≤ x.per ∧ 0 ≤ x.cost) ∧ 0 ≤ most ∧ own ≤ q ∧ q ≤ most ∧ sumR q own l = q ∧ nextR q own l = (q, 0) ∧ 1 ≤ n ∧ n ≤ 1000 ∧ (∀ x, 0 ≤ x → x < q → nextR x own l = (sumR x own l, 0) ∧ x < sumR x own l) := by
  unfold fixT at h
  split at h
  · rename_i he
    exfalso
    simp only [Prod.mk.injEq] at h
    exact he h.2.2
  · rename_i he
    split at h
    · simp at h
    · rename_i hm
      have h0 : 0 ≤ own ∧ (∀ x ∈ l, 1 ≤ x.per ∧ 0 ≤ x.cost) := by
        unfold nextR at he
        split at he
        · rename_i hc
          simp only [Bool.and_eq_true, decide_eq_true_eq] at hc
          exact ⟨hc.1.2, lok_all.1 hc.2⟩
        · simp at he
      obtain ⟨ho, hl⟩ := h0
      obtain ⟨a1, a2, a3, a4, a5, a6, a7⟩ := fix_out ho ho1 hl 1000 own 0 q n ho (sum_ge ho l own hl) (fun x hx0 hx => by
        have := sum_ge hx0 l own hl
        omega) (Int.le_refl _) h
      exact ⟨ho, hl, by omega, a1, a2, a3, a4, by omega, by omega, a7⟩
/-- A greater bound, just the answer: the same; one less: late. -/
theorem fix_bd {own : Int} {l : List LoadD} {most q n : Int} (ho : 0 ≤ own) (ho1 : own ≤ 9223372036854775807) (hl : ∀ x ∈ l, 1 ≤ x.per ∧ 0 ≤ x.cost) :
    ∀ (f : Nat) (r k : Int), 0 ≤ r → r ≤ sumR r own l → (∀ x, 0 ≤ x → x < r → x < sumR x own l) → 0 ≤ k → fixR own l most f r k = (q, n, 0) → ∀ b, fixR own l b f r k = if q ≤ b then (q, n, 0) else (0, 0, 13)
  | 0, r, k, h0, h1, h2, hk, hf, b => by
    exfalso
    rw [fixR] at hf
    split at hf <;> simp at hf
  | f + 1, r, k, h0, h1, h2, hk, hf, b => by
    have hrq := (fix_out ho ho1 hl (f + 1) r k q n h0 h1 h2 hk hf).1
    rw [fixR] at hf ⊢
    split at hf
    · simp at hf
    · rename_i hm
      split at hf
      · rename_i he
        exfalso
        simp only [Prod.mk.injEq] at hf
        exact he hf.2.2
      · rename_i he
        have hn := next_ok (r := r) h0 ho ho1 hl
        by_cases hb : sumR r own l > 9223372036854775807
        · rw [if_pos hb] at hn
          rw [hn] at he
          simp at he
        · rw [if_neg hb] at hn
          rw [hn] at hf ⊢
          simp only at hf ⊢
          by_cases hrb : r > b
          · rw [if_pos hrb, if_neg (by omega)]
          · rw [if_neg hrb, if_neg (by simp)]
            split at hf
            · rename_i hs
              rw [if_pos hs]
              simp only [Prod.mk.injEq] at hf
              obtain ⟨rfl, rfl, -⟩ := hf
              rw [if_pos (by omega)]
            · rename_i hs
              rw [if_neg hs]
              have h3 : ∀ x, 0 ≤ x → x < sumR r own l → x < sumR x own l := by
                intro x hx0 hx
                by_cases hxr : x < r
                · exact h2 x hx0 hxr
                · have := sum_mono hl (s := own) h0 (by omega : r ≤ x)
                  omega
              exact fix_bd ho ho1 hl f (sumR r own l) (k + 1) (by omega) (sum_mono hl h0 h1) h3 (by omega) hf b
theorem fixT_bd {own : Int} {l : List LoadD} {most q n : Int} (ho1 : own ≤ 9223372036854775807) (h : fixT own l most = (q, n, 0)) (b : Int) (hb : 0 ≤ b) : fixT own l b = if q ≤ b then (q, n, 0) else (0, 0, 13) := by
  obtain ⟨ho, hl, hm, -⟩ := fixT_out ho1 h
  have h0 : (nextR 0 own l) = (own, 0) := by rw [next_ok (Int.le_refl 0) ho ho1 hl, sum_zero l own hl, if_neg (by omega)]
  unfold fixT at h ⊢
  rw [h0] at h ⊢
  rw [if_neg (by simp), if_neg (by omega)] at h ⊢
  exact fix_bd ho ho1 hl 1000 own 0 ho (sum_ge ho l own hl) (fun x hx0 hx => by
    have := sum_ge hx0 l own hl
    omega) (Int.le_refl _) h b
/-- Whoever has less to do is done no later. -/
theorem fix_less {own own' : Int} {l m : List LoadD} {most q : Int} (hL : LessL l m) (ho : 0 ≤ own) (hoo : own ≤ own') (ho1 : own ≤ 9223372036854775807) (hq : sumR q own' m = q) (hqm : q ≤ most) (hq1 : q ≤ 9223372036854775807) :
    ∀ (f : Nat) (r k : Int), 0 ≤ r → r ≤ q → ∃ x n e, fixR own l most f r k = (x, n, e) ∧ (e = 0 ∧ x ≤ q ∨ e = 15)
  | 0, r, k, h0, h1 => ⟨0, 0, 15, by rw [fixR, if_neg (by omega)], .inr rfl⟩
  | f + 1, r, k, h0, h1 => by
    have hl := hL.left
    have h2 := sum_less hL h0 h1 hoo
    have h4 := sum_ge h0 l own hl
    have hn := next_ok (r := r) h0 ho ho1 hl
    rw [if_neg (by omega)] at hn
    rw [fixR, hn, if_neg (by omega), if_neg (by simp)]
    simp only
    split
    · exact ⟨r, k + 1, 0, rfl, .inl ⟨rfl, h1⟩⟩
    · exact fix_less hL ho hoo ho1 hq hqm hq1 f (sumR r own l) (k + 1) (by omega) (by omega)
theorem fixT_less {own own' : Int} {l m : List LoadD} {most q n : Int} (hL : LessL l m) (ho : 0 ≤ own) (hoo : own ≤ own') (ho1 : own' ≤ 9223372036854775807) (hm1 : most ≤ 9223372036854775807) (h : fixT own' m most = (q, n, 0)) :
    ∃ x n' e, fixT own l most = (x, n', e) ∧ (e = 0 ∧ x ≤ q ∨ e = 15) := by
  obtain ⟨_, _, hm, hq0, hqm, hq, _⟩ := fixT_out ho1 h
  have hl := hL.left
  have h0 : (nextR 0 own l) = (own, 0) := by rw [next_ok (Int.le_refl 0) ho (by omega) hl, sum_zero l own hl, if_neg (by omega)]
  unfold fixT
  rw [h0, if_neg (by simp), if_neg (by omega)]
  exact fix_less hL ho hoo (by omega) hq hqm (by omega) 1000 own 0 ho (by omega)
/-- Of small numbers none is too great. -/
theorem sum_small {r R C : Int} (hr : 0 ≤ r) (hrR : r ≤ R) : ∀ (l : List LoadD) (s : Int), (∀ x ∈ l, 1 ≤ x.per ∧ 0 ≤ x.cost ∧ x.cost ≤ C) → sumR r s l ≤ s + l.length * (R * C)
  | [], s, _ => by simp [sumR]
  | x :: l, s, h => by
    have hx := h x (List.mem_cons_self ..)
    have h1 := sum_small hr hrR l (s + timesR r x.per * x.cost) (fun y hy => h y (List.mem_cons_of_mem _ hy))
    have h2 : timesR r x.per * x.cost ≤ R * C := Int.mul_le_mul (Int.le_trans (times_top hr hx.1) hrR) hx.2.2 hx.2.1 (by omega)
    rw [sumR, List.length_cons]
    have h3 : ((l.length + 1 : Nat) : Int) * (R * C) = l.length * (R * C) + R * C := by rw [Int.natCast_add, Int.add_mul]; simp
    omega
/-- Of small numbers an error is that it is late, or that there are too many rounds. -/
theorem fix_err {own C most : Int} {l : List LoadD} (ho : 0 ≤ own) (ho1 : own ≤ 9223372036854775807) (hl : ∀ x ∈ l, 1 ≤ x.per ∧ 0 ≤ x.cost ∧ x.cost ≤ C) (hs : own + l.length * (most * C) ≤ 9223372036854775807) :
    ∀ (f : Nat) (r k : Int), 0 ≤ r → (fixR own l most f r k).2.2 = 0 ∨ fixR own l most f r k = (0, 0, 13) ∨ fixR own l most f r k = (0, 0, 15)
  | 0, r, k, h0 => by rw [fixR]; split <;> simp
  | f + 1, r, k, h0 => by
    rw [fixR]
    split
    · simp
    · rename_i hm
      have hl2 : ∀ x ∈ l, 1 ≤ x.per ∧ 0 ≤ x.cost := fun x hx => ⟨(hl x hx).1, (hl x hx).2.1⟩
      have h1 := sum_small h0 (by omega : r ≤ most) l own hl
      have hn := next_ok (r := r) h0 ho ho1 hl2
      rw [if_neg (by omega)] at hn
      rw [hn, if_neg (by simp)]
      simp only
      split
      · simp
      · have := sum_ge h0 l own hl2
        exact fix_err ho ho1 hl hs f _ _ (by omega)
theorem fixT_err {own C most : Int} {l : List LoadD} (ho : 0 ≤ own) (ho1 : own ≤ 9223372036854775807) (hm : 0 ≤ most) (hl : ∀ x ∈ l, 1 ≤ x.per ∧ 0 ≤ x.cost ∧ x.cost ≤ C) (hs : own + l.length * (most * C) ≤ 9223372036854775807) :
    (fixT own l most).2.2 = 0 ∨ fixT own l most = (0, 0, 13) ∨ fixT own l most = (0, 0, 15) := by
  have hl2 : ∀ x ∈ l, 1 ≤ x.per ∧ 0 ≤ x.cost := fun x hx => ⟨(hl x hx).1, (hl x hx).2.1⟩
  have h0 : (nextR 0 own l) = (own, 0) := by rw [next_ok (Int.le_refl 0) ho (by omega) hl2, sum_zero l own hl2, if_neg (by omega)]
  unfold fixT
  rw [h0, if_neg (by simp), if_neg (by omega)]
  exact fix_err ho ho1 hl hs 1000 own 0 ho
end Go.Proofs.YtlkbphogpbcjfaaGreatDoor
