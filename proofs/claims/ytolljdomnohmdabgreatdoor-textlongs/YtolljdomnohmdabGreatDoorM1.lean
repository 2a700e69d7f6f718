/- Plain mathematics of texts: lines, words, numbers in decimal. No program is named here. -/
import Derived.Lib.IndexMore
import Derived.Lib.ItoaMem
import Derived.Lib.ParseIntB
import GoSem.Op.String
namespace Go.Proofs.YtolljdomnohmdabGreatDoor

/-- Not empty, and all bytes from lo to hi. -/
def within (lo hi : Nat) (l : List UInt8) : Bool := !l.isEmpty && l.all (fun c => decide (lo ≤ c.toNat) && decide (c.toNat ≤ hi))

/-- Lines: cur is what stands ahead of the next end. -/
def linesGo (cur : List UInt8) : List UInt8 → List (List UInt8)
  | [] => []
  | c :: r => if c = 10 then cur :: linesGo [] r else linesGo (cur ++ [c]) r
def linesOf (l : List UInt8) : List (List UInt8) := linesGo [] l
/-- May it be lines? -/
def linesOk (l : List UInt8) : Bool := l.isEmpty || l.getLast? == some 10

/-- Words: cur is the word so far. -/
def splitGo (cur : List UInt8) : List UInt8 → Option (List (List UInt8))
  | [] => if cur = [] then none else some [cur]
  | c :: r => if c = 32 then (if cur = [] then none else (splitGo [] r).map (cur :: ·))
    else if c.toNat < 33 ∨ 126 < c.toNat then none else splitGo (cur ++ [c]) r
def splitOf (l : List UInt8) : Option (List (List UInt8)) := if l = [] then some [] else splitGo [] l

theorem within_iff (lo hi : Nat) (l : List UInt8) : within lo hi l = true ↔ l ≠ [] ∧ ∀ c ∈ l, lo ≤ c.toNat ∧ c.toNat ≤ hi := by
  simp [within, List.all_eq_true]

theorem ite_iff {p q : Prop} [Decidable p] [Decidable q] {α : Type} (h : p ↔ q) (a b : α) : (if p then a else b) = if q then a else b := by
  by_cases hp : p
  · rw [if_pos hp, if_pos (h.1 hp)]
  · rw [if_neg hp, if_neg (fun x => hp (h.2 x))]

/-- Where the first c stands. -/
theorem index_one (c : UInt8) : ∀ l : List UInt8, (∃ a b, l = a ++ c :: b ∧ c ∉ a ∧ Lib.index l [c] = a.length) ∨ (c ∉ l ∧ Lib.index l [c] = -1)
  | [] => .inr ⟨by simp, rfl⟩
  | x :: l => by
    by_cases hx : x = c
    · subst hx
      refine .inl ⟨[], l, rfl, by simp, ?_⟩
      simp [Lib.index]
    · have hx' : ¬ c = x := fun e => hx e.symm
      have h0 : ([c] : List UInt8).isPrefixOf (x :: l) = false := by simp [List.isPrefixOf, hx']
      rcases index_one c l with ⟨a, b, e, hn, hi⟩ | ⟨hn, hi⟩
      · refine .inl ⟨x :: a, b, by rw [e]; rfl, by simp [hn, hx'], ?_⟩
        rw [Lib.index, h0, hi]
        have : ((a.length : Int) == -1) = false := by rw [beq_eq_false_iff_ne]; omega
        simp [this]
      · refine .inr ⟨by simp [hn, hx'], ?_⟩
        rw [Lib.index, h0, hi]; rfl
theorem cut_one (c : UInt8) (l : List UInt8) : (∃ a b, l = a ++ c :: b ∧ c ∉ a ∧ Lib.cut l [c] = (a, b, true)) ∨ (c ∉ l ∧ Lib.cut l [c] = (l, [], false)) := by
  rcases index_one c l with ⟨a, b, e, hn, hi⟩ | ⟨hn, hi⟩
  · refine .inl ⟨a, b, e, hn, ?_⟩
    unfold Lib.cut
    rw [hi, if_pos (by omega)]
    subst e
    simp
  · refine .inr ⟨hn, ?_⟩
    unfold Lib.cut
    rw [hi, if_neg (by omega)]

theorem linesGo_hit : ∀ (a b cur : List UInt8), (10 : UInt8) ∉ a → linesGo cur (a ++ 10 :: b) = (cur ++ a) :: linesGo [] b
  | [], b, cur, _ => by simp [linesGo]
  | x :: a, b, cur, h => by
    have hx : x ≠ 10 := fun e => h (by simp [e])
    have := linesGo_hit a b (cur ++ [x]) (fun e => h (by simp [e]))
    simp only [List.cons_append, linesGo, if_neg hx, this]
    simp
theorem linesGo_miss : ∀ (l cur : List UInt8), (10 : UInt8) ∉ l → linesGo cur l = []
  | [], _, _ => rfl
  | x :: a, cur, h => by
    have hx : x ≠ 10 := fun e => h (by simp [e])
    rw [linesGo, if_neg hx]
    exact linesGo_miss a _ (fun e => h (by simp [e]))
theorem linesOf_hit (a b : List UInt8) (h : (10 : UInt8) ∉ a) : linesOf (a ++ 10 :: b) = a :: linesOf b := by
  simpa [linesOf] using linesGo_hit a b [] h
theorem linesOf_miss (l : List UInt8) (h : (10 : UInt8) ∉ l) : linesOf l = [] := linesGo_miss l [] h

theorem splitGo_hit : ∀ (a b cur : List UInt8), (32 : UInt8) ∉ a → splitGo cur (a ++ 32 :: b) = if cur ++ a ≠ [] ∧ ∀ c ∈ a, 33 ≤ c.toNat ∧ c.toNat ≤ 126 then (splitGo [] b).map ((cur ++ a) :: ·) else none
  | [], b, cur, _ => by
    by_cases hc : cur = []
    · simp [splitGo, hc]
    · simp [splitGo, hc]
  | x :: a, b, cur, h => by
    have hx : x ≠ 32 := fun e => h (by simp [e])
    have ih := splitGo_hit a b (cur ++ [x]) (fun e => h (by simp [e]))
    by_cases hr : x.toNat < 33 ∨ 126 < x.toNat
    · rw [List.cons_append, splitGo, if_neg hx, if_pos hr, if_neg]
      intro hh
      have := hh.2 x (by simp)
      omega
    · rw [List.cons_append, splitGo, if_neg hx, if_neg hr, ih]
      have e : cur ++ [x] ++ a = cur ++ x :: a := by simp
      rw [e]
      refine ite_iff ?_ _ _
      simp only [List.mem_cons, forall_eq_or_imp]
      constructor
      · rintro ⟨h1, h2⟩; exact ⟨h1, ⟨by omega, by omega⟩, h2⟩
      · rintro ⟨h1, _, h2⟩; exact ⟨h1, h2⟩
theorem splitGo_miss : ∀ (l cur : List UInt8), (32 : UInt8) ∉ l → splitGo cur l = if cur ++ l ≠ [] ∧ ∀ c ∈ l, 33 ≤ c.toNat ∧ c.toNat ≤ 126 then some [cur ++ l] else none
  | [], cur, _ => by
    by_cases hc : cur = []
    · simp [splitGo, hc]
    · simp [splitGo, hc]
  | x :: a, cur, h => by
    have hx : x ≠ 32 := fun e => h (by simp [e])
    have ih := splitGo_miss a (cur ++ [x]) (fun e => h (by simp [e]))
    by_cases hr : x.toNat < 33 ∨ 126 < x.toNat
    · rw [splitGo, if_neg hx, if_pos hr, if_neg]
      intro hh
      have := hh.2 x (by simp)
      omega
    · rw [splitGo, if_neg hx, if_neg hr, ih]
      have e : cur ++ [x] ++ a = cur ++ x :: a := by simp
      rw [e]
      refine ite_iff ?_ _ _
      simp only [List.mem_cons, forall_eq_or_imp]
      constructor
      · rintro ⟨h1, h2⟩; exact ⟨h1, ⟨by omega, by omega⟩, h2⟩
      · rintro ⟨h1, _, h2⟩; exact ⟨h1, h2⟩
theorem split_hit (a b : List UInt8) (h : (32 : UInt8) ∉ a) : splitGo [] (a ++ 32 :: b) = if within 33 126 a then (splitGo [] b).map (a :: ·) else none := by
  rw [splitGo_hit a b [] h, List.nil_append]
  exact ite_iff (within_iff 33 126 a).symm _ _
theorem split_miss (l : List UInt8) (h : (32 : UInt8) ∉ l) : splitGo [] l = if within 33 126 l then some [l] else none := by
  rw [splitGo_miss l [] h, List.nil_append]
  exact ite_iff (within_iff 33 126 l).symm _ _

/-! Numbers. -/

/-- What digits spell behind acc. -/
def val (acc : Nat) : List UInt8 → Nat
  | [] => acc
  | c :: r => val (acc * 10 + (c.toNat - 48)) r
/-- Is it below 0? -/
def isNeg (l : List UInt8) : Bool := l.head? == some 45
def digs (l : List UInt8) : List UInt8 := if isNeg l then l.tail else l
/-- Written as a number is. -/
def decForm (l : List UInt8) : Bool := if (digs l).head? == some 48 then decide (digs l = [48]) && !isNeg l else within 48 57 (digs l)
/-- The number and the error. -/
def numOf (l : List UInt8) : Int × Int :=
  if decForm l then
    (if isNeg l then (if val 0 (digs l) ≤ 9223372036854775808 then (-(val 0 (digs l) : Int), 0) else (0, 14))
     else (if val 0 (digs l) < 9223372036854775808 then ((val 0 (digs l) : Int), 0) else (0, 14)))
  else (0, 2)

theorem val_le : ∀ (l : List UInt8) (acc : Nat), acc ≤ val acc l
  | [], _ => Nat.le_refl _
  | _ :: r, _ => Nat.le_trans (by omega) (val_le r _)
theorem val_append : ∀ (a b : List UInt8) (acc : Nat), val acc (a ++ b) = val (val acc a) b
  | [], _, _ => rfl
  | _ :: r, b, _ => val_append r b _

theorem val_one (acc : Nat) (c : UInt8) : val acc [c] = acc * 10 + (c.toNat - 48) := rfl

theorem parseUint_val : ∀ (l : List UInt8) (acc : Nat), (∀ c ∈ l, 48 ≤ c.toNat ∧ c.toNat ≤ 57) → acc ≤ 18446744073709551615 →
    Lib.parseUintM 18446744073709551615 acc l = if val acc l ≤ 18446744073709551615 then .ok (val acc l) else .range
  | [], acc, _, ha => by rw [Lib.parseUintM, show val acc [] = acc from rfl, if_pos ha]
  | c :: r, acc, h, ha => by
    have hc := h c (by simp)
    have hv := val_le r (acc * 10 + (c.toNat - 48))
    rw [Lib.parseUintM, if_pos hc, show val acc (c :: r) = val (acc * 10 + (c.toNat - 48)) r from rfl]
    by_cases h1 : 1844674407370955162 ≤ acc
    · rw [if_pos h1, if_neg (by omega)]
    · rw [if_neg h1]
      by_cases h2 : 18446744073709551615 < acc * 10 + (c.toNat - 48)
      · rw [if_pos h2, if_neg (by omega)]
      · rw [if_neg h2]
        exact parseUint_val r _ (fun x hx => h x (by simp [hx])) (by omega)

/-- What is written as a number is digits. -/
theorem decForm_digits {l : List UInt8} (h : decForm l = true) : digs l ≠ [] ∧ ∀ c ∈ digs l, 48 ≤ c.toNat ∧ c.toNat ≤ 57 := by
  unfold decForm at h
  by_cases h0 : ((digs l).head? == some 48) = true
  · rw [if_pos h0] at h
    simp at h
    rw [h.1]
    decide
  · rw [if_neg h0] at h
    exact (within_iff _ _ _).1 h

theorem parseInt_ok {l : List UInt8} (h : decForm l = true) (n : Int) (hn : numOf l = (n, 0)) : Lib.parseIntB 64 l = .ok n := by
  obtain ⟨hd0, hd⟩ := decForm_digits h
  unfold numOf at hn
  rw [if_pos h] at hn
  rcases l with _ | ⟨c, r⟩
  · simp [digs, isNeg] at hd0
  · have hM : (2 ^ 64 - 1 : Nat) = 18446744073709551615 := by decide
    by_cases hneg : c = 45
    · subst hneg
      have hi : isNeg (45 :: r) = true := rfl
      have hdg : digs (45 :: r) = r := by simp [digs, hi]
      rw [hi, if_pos rfl, hdg] at hn
      rw [hdg] at hd hd0
      have hp := parseUint_val r 0 hd (by omega)
      split at hn
      · simp only [Prod.mk.injEq, and_true] at hn
        rw [if_pos (by omega)] at hp
        simp only [Lib.parseIntB, Lib.parseUintB, hM]
        have h45 : (45 : UInt8).toNat = 45 := rfl
        simp only [h45, or_true, if_true, hd0, if_false, hp, not_true_eq_false, false_and, true_and]
        rw [if_neg (by omega), hn]
      · simp at hn
    · have hi : isNeg (c :: r) = false := by simp [isNeg, hneg]
      have hdg : digs (c :: r) = c :: r := by simp [digs, hi]
      rw [hdg] at hd hd0
      rw [hi, hdg] at hn
      have hp := parseUint_val (c :: r) 0 hd (by omega)
      have hc := hd c (by simp)
      simp only [Bool.false_eq_true, if_false] at hn
      split at hn
      · simp only [Prod.mk.injEq, and_true] at hn
        rw [if_pos (by omega)] at hp
        simp only [Lib.parseIntB, Lib.parseUintB, hM]
        have h43 : ¬ c.toNat = 43 := by omega
        have h45 : ¬ c.toNat = 45 := by omega
        simp only [h43, h45, or_self, if_false, hd0, hp, false_and, not_false_eq_true, true_and]
        rw [if_neg (by omega), ← hn]
      · simp at hn

theorem parseInt_range {l : List UInt8} (h : decForm l = true) (n : Int) (hn : numOf l = (n, 14)) : n = 0 ∧ Lib.parseIntB 64 l = .range := by
  obtain ⟨hd0, hd⟩ := decForm_digits h
  unfold numOf at hn
  rw [if_pos h] at hn
  rcases l with _ | ⟨c, r⟩
  · simp [digs, isNeg] at hd0
  · have hM : (2 ^ 64 - 1 : Nat) = 18446744073709551615 := by decide
    by_cases hneg : c = 45
    · subst hneg
      have hi : isNeg (45 :: r) = true := rfl
      have hdg : digs (45 :: r) = r := by simp [digs, hi]
      rw [hi, if_pos rfl, hdg] at hn
      rw [hdg] at hd hd0
      have hp := parseUint_val r 0 hd (by omega)
      split at hn
      · simp at hn
      · simp only [Prod.mk.injEq, and_true] at hn
        refine ⟨hn.symm, ?_⟩
        simp only [Lib.parseIntB, Lib.parseUintB, hM]
        have h45 : (45 : UInt8).toNat = 45 := rfl
        by_cases hb : val 0 r ≤ 18446744073709551615
        · rw [if_pos hb] at hp
          simp only [h45, or_true, if_true, hd0, if_false, hp, not_true_eq_false, false_and, true_and]
          rw [if_pos (by omega)]
        · rw [if_neg hb] at hp
          simp only [h45, or_true, if_true, hd0, if_false, hp]
    · have hi : isNeg (c :: r) = false := by simp [isNeg, hneg]
      have hdg : digs (c :: r) = c :: r := by simp [digs, hi]
      rw [hdg] at hd hd0
      rw [hi, hdg] at hn
      have hp := parseUint_val (c :: r) 0 hd (by omega)
      have hc := hd c (by simp)
      simp only [Bool.false_eq_true, if_false] at hn
      split at hn
      · simp at hn
      · simp only [Prod.mk.injEq, and_true] at hn
        refine ⟨hn.symm, ?_⟩
        simp only [Lib.parseIntB, Lib.parseUintB, hM]
        have h43 : ¬ c.toNat = 43 := by omega
        have h45 : ¬ c.toNat = 45 := by omega
        by_cases hb : val 0 (c :: r) ≤ 18446744073709551615
        · rw [if_pos hb] at hp
          simp only [h43, h45, or_self, if_false, hd0, hp, false_and, not_false_eq_true, true_and]
          rw [if_pos (by omega)]
        · rw [if_neg hb] at hp
          simp only [h43, h45, or_self, if_false, hd0, hp]
theorem numOf_cases (l : List UInt8) : (decForm l = false ∧ numOf l = (0, 2)) ∨ (decForm l = true ∧ (numOf l = (0, 14) ∨ ∃ n : Int, numOf l = (n, 0) ∧ -9223372036854775808 ≤ n ∧ n ≤ 9223372036854775807)) := by
  unfold numOf
  by_cases h : decForm l = true
  · refine .inr ⟨h, ?_⟩
    rw [if_pos h]
    split
    · split
      · exact .inr ⟨_, rfl, by omega, by omega⟩
      · exact .inl rfl
    · split
      · exact .inr ⟨_, rfl, by omega, by omega⟩
      · exact .inl rfl
  · rw [if_neg h]
    exact .inl ⟨by simpa using h, rfl⟩

/-! Decimal digits. -/
theorem ofNat_digit {d : Nat} (h : d < 10) : (UInt8.ofNat (48 + d)).toNat = 48 + d := by
  rw [UInt8.toNat_ofNat']; omega
theorem dec_rec {u : Nat} (h : ¬ u < 10) : Lib.decDigits u = Lib.decDigits (u / 10) ++ [UInt8.ofNat (48 + u % 10)] := by
  rw [Lib.decDigits, dif_neg h]
theorem dec_digits (u : Nat) : Lib.decDigits u ≠ [] ∧ ∀ c ∈ Lib.decDigits u, 48 ≤ c.toNat ∧ c.toNat ≤ 57 := by
  induction u using Nat.strongRecOn with
  | _ u ih =>
    by_cases h : u < 10
    · rw [Lib.decDigits_one h]
      refine ⟨by simp, fun c hc => ?_⟩
      simp only [List.mem_singleton] at hc
      subst hc
      rw [ofNat_digit h]; omega
    · rw [dec_rec h]
      refine ⟨by simp, fun c hc => ?_⟩
      rcases List.mem_append.1 hc with hc | hc
      · exact (ih (u / 10) (by omega)).2 c hc
      · simp only [List.mem_singleton] at hc
        subst hc
        rw [ofNat_digit (Nat.mod_lt _ (by decide))]
        have := Nat.mod_lt u (show 0 < 10 by decide)
        omega
theorem val_dec (u : Nat) : val 0 (Lib.decDigits u) = u := by
  induction u using Nat.strongRecOn with
  | _ u ih =>
    by_cases h : u < 10
    · rw [Lib.decDigits_one h]
      rw [val_one, ofNat_digit h]; omega
    · rw [dec_rec h, val_append, ih (u / 10) (by omega)]
      rw [val_one, ofNat_digit (Nat.mod_lt u (show 0 < 10 by decide))]
      omega
theorem dec_head (u : Nat) (h : u ≠ 0) : (Lib.decDigits u).head? ≠ some 48 := by
  induction u using Nat.strongRecOn with
  | _ u ih =>
    by_cases h9 : u < 10
    · rw [Lib.decDigits_one h9]
      simp only [List.head?_cons, ne_eq, Option.some.injEq]
      intro e
      have := congrArg UInt8.toNat e
      rw [ofNat_digit h9] at this
      have h48 : (48 : UInt8).toNat = 48 := rfl
      omega
    · rw [dec_rec h9]
      have := ih (u / 10) (by omega) (by omega)
      rcases hd : Lib.decDigits (u / 10) with _ | ⟨c, r⟩
      · exact absurd hd (dec_digits _).1
      · rw [hd] at this
        simpa using this
theorem dec_val_app (t : List UInt8) (c : UInt8) (hc : 48 ≤ c.toNat ∧ c.toNat ≤ 57) (ht : val 0 t ≠ 0) (h : Lib.decDigits (val 0 t) = t) : Lib.decDigits (val 0 (t ++ [c])) = t ++ [c] := by
  have e : val 0 (t ++ [c]) = val 0 t * 10 + (c.toNat - 48) := by rw [val_append, val_one]
  rw [e, dec_rec (by omega)]
  have e1 : (val 0 t * 10 + (c.toNat - 48)) / 10 = val 0 t := by omega
  have e2 : (val 0 t * 10 + (c.toNat - 48)) % 10 = c.toNat - 48 := by omega
  rw [e1, e2, h]
  have : UInt8.ofNat (48 + (c.toNat - 48)) = c := by
    apply UInt8.toNat_inj.1
    rw [UInt8.toNat_ofNat']
    have := c.toNat_lt
    omega
  rw [this]
/-- Digits without a nought ahead are those of what they spell. -/
theorem dec_val_rev : ∀ (r : List UInt8) (c : UInt8), (∀ x ∈ c :: r.reverse, 48 ≤ x.toNat ∧ x.toNat ≤ 57) → c ≠ 48 → val 0 (c :: r.reverse) ≠ 0 ∧ Lib.decDigits (val 0 (c :: r.reverse)) = c :: r.reverse
  | [], c, h, hc => by
    have h1 := h c (by simp)
    have hne : c.toNat ≠ 48 := fun e => hc (UInt8.toNat_inj.1 e)
    have e : val 0 [c] = c.toNat - 48 := by rw [val_one]; omega
    simp only [List.reverse_nil]
    rw [e, Lib.decDigits_one (by omega)]
    refine ⟨by omega, ?_⟩
    have : UInt8.ofNat (48 + (c.toNat - 48)) = c := by
      apply UInt8.toNat_inj.1
      rw [UInt8.toNat_ofNat']
      have := c.toNat_lt
      omega
    rw [this]
  | d :: r, c, h, hc => by
    have ih := dec_val_rev r c (fun x hx => h x (by simp at hx ⊢; rcases hx with hx | hx; exact .inl hx; exact .inr (.inl hx))) hc
    have hd := h d (by simp)
    rw [List.reverse_cons, ← List.cons_append]
    refine ⟨?_, dec_val_app _ d hd ih.1 ih.2⟩
    rw [val_append]
    have := val_le [d] (val 0 (c :: r.reverse))
    have := ih.1
    omega
theorem dec_val (c : UInt8) (r : List UInt8) (h : ∀ x ∈ c :: r, 48 ≤ x.toNat ∧ x.toNat ≤ 57) (hc : c ≠ 48) : val 0 (c :: r) ≠ 0 ∧ Lib.decDigits (val 0 (c :: r)) = c :: r := by
  have := dec_val_rev r.reverse c (by simpa using h) hc
  simpa using this
theorem dec_zero : Lib.decDigits 0 = [48] := by rw [Lib.decDigits_one (by omega)]; rfl

theorem dec_form (u : Nat) : decForm (Lib.decDigits u) = true ∧ isNeg (Lib.decDigits u) = false ∧ digs (Lib.decDigits u) = Lib.decDigits u := by
  obtain ⟨h0, hd⟩ := dec_digits u
  have hneg : isNeg (Lib.decDigits u) = false := by
    rcases hx : Lib.decDigits u with _ | ⟨c, r⟩
    · rfl
    · have := hd c (by rw [hx]; simp)
      have hc : c ≠ 45 := fun e => by rw [e] at this; revert this; decide
      simp [isNeg, hc]
  have hdg : digs (Lib.decDigits u) = Lib.decDigits u := by simp [digs, hneg]
  refine ⟨?_, hneg, hdg⟩
  unfold decForm
  rw [hdg, hneg]
  by_cases hu : u = 0
  · subst hu; rw [dec_zero]; decide
  · have := dec_head u hu
    rw [if_neg (by simpa using this)]
    exact (within_iff _ _ _).2 ⟨h0, hd⟩
theorem neg_form (u : Nat) (hu : u ≠ 0) : decForm (45 :: Lib.decDigits u) = true ∧ isNeg (45 :: Lib.decDigits u) = true ∧ digs (45 :: Lib.decDigits u) = Lib.decDigits u := by
  obtain ⟨h0, hd⟩ := dec_digits u
  have hneg : isNeg (45 :: Lib.decDigits u) = true := rfl
  have hdg : digs (45 :: Lib.decDigits u) = Lib.decDigits u := by simp [digs, hneg]
  refine ⟨?_, hneg, hdg⟩
  unfold decForm
  rw [hdg, hneg]
  have := dec_head u hu
  rw [if_neg (by simpa using this)]
  exact (within_iff _ _ _).2 ⟨h0, hd⟩
/-- A number in words, and back. -/
theorem num_itoa (n : Int) (h0 : -9223372036854775808 ≤ n) (h1 : n ≤ 9223372036854775807) : numOf (Lib.itoa n) = (n, 0) := by
  unfold Lib.itoa
  split
  · obtain ⟨f1, f2, f3⟩ := neg_form n.natAbs (by omega)
    unfold numOf
    rw [if_pos f1, f2, f3, if_pos rfl, val_dec, if_pos (by omega)]
    simp only [Prod.mk.injEq, and_true]
    omega
  · obtain ⟨f1, f2, f3⟩ := dec_form n.toNat
    unfold numOf
    rw [if_pos f1, f2, f3, val_dec]
    simp only [Bool.false_eq_true, if_false]
    rw [if_pos (by omega)]
    simp only [Prod.mk.injEq, and_true]
    omega
/-- What is a number is told so again. -/
theorem itoa_num {l : List UInt8} {n : Int} (h : numOf l = (n, 0)) : Lib.itoa n = l := by
  rcases numOf_cases l with ⟨_, e⟩ | ⟨hf, _⟩
  · rw [e] at h; simp at h
  · obtain ⟨hd0, hd⟩ := decForm_digits hf
    have hf' := hf
    unfold numOf at h
    rw [if_pos hf] at h
    unfold decForm at hf'
    rcases l with _ | ⟨c, r⟩
    · simp [digs, isNeg] at hd0
    · by_cases hneg : c = 45
      · subst hneg
        have hi : isNeg (45 :: r) = true := rfl
        have hdg : digs (45 :: r) = r := by simp [digs, hi]
        rw [hi, if_pos rfl, hdg] at h
        rw [hdg, hi] at hf'
        rw [hdg] at hd hd0
        rcases r with _ | ⟨x, q⟩
        · exact absurd rfl hd0
        · by_cases hx : x = 48
          · subst hx; simp at hf'
          · obtain ⟨v0, v1⟩ := dec_val x q hd hx
            split at h
            · simp only [Prod.mk.injEq, and_true] at h
              rw [← h, Lib.itoa_neg _ (by omega), v1]
            · simp at h
      · have hi : isNeg (c :: r) = false := by simp [isNeg, hneg]
        have hdg : digs (c :: r) = c :: r := by simp [digs, hi]
        rw [hdg] at hd hd0 hf'
        rw [hi, hdg] at h
        simp only [Bool.false_eq_true, if_false] at h
        split at h
        · simp only [Prod.mk.injEq, and_true] at h
          rw [← h, Lib.itoa_nonneg]
          by_cases hx : c = 48
          · subst hx
            simp [hi] at hf'
            subst hf'
            exact dec_zero
          · exact (dec_val c r hd hx).2
        · simp at h
end Go.Proofs.YtolljdomnohmdabGreatDoor
namespace Go.Proofs.YtolljdomnohmdabGreatDoor

structure CaseD where
  send : Bool
  chan : Int
  v : Int
structure OpD where
  kind : Int
  n : Int
  v : Int
  wait : Int
  cases : List CaseD
structure ShapeD where
  word : List UInt8
  hasN : Bool
  hasV : Bool
  waits : Bool
  picks : Bool
  least : Int
  most : Int

def sendW : List UInt8 := [115, 101, 110, 100]
def recvW : List UInt8 := [114, 101, 99, 118]

/-- The table of the Kinds. -/
def shapeOf : Nat → ShapeD
  | 1 => ⟨[114, 117, 110], true, false, false, false, 1, 1000⟩
  | 2 => ⟨[108, 111, 99, 107], true, false, false, false, 0, 7⟩
  | 3 => ⟨[117, 110, 108, 111, 99, 107], true, false, false, false, 0, 7⟩
  | 4 => ⟨[115, 101, 110, 100], true, true, true, false, 0, 7⟩
  | 5 => ⟨[114, 101, 99, 118], true, false, true, false, 0, 7⟩
  | 6 => ⟨[99, 108, 111, 115, 101], true, false, false, false, 0, 7⟩
  | 7 => ⟨[115, 101, 108, 101, 99, 116], false, false, true, true, 0, 0⟩
  | 8 => ⟨[108, 111, 111, 112], true, false, false, false, 1, 32⟩
  | 9 => ⟨[101, 110, 100], false, false, false, false, 0, 0⟩
  | _ => ⟨[], false, false, false, false, 0, 0⟩

def isKindB (k : Int) : Bool := decide (1 ≤ k) && decide (k ≤ 9)
def takesB (s : ShapeD) (n v wt : Int) (len : Nat) : Bool :=
  !(decide (n < s.least) || decide (s.most < n) || (!(v == 0) && !s.hasV)) && !((!s.waits && !(wt == 0)) || decide (wt < -1) || decide (1000 < wt)) && (s.picks || len == 0)
/-- A case by itself: may it not be? -/
def badC (c : CaseD) : Bool := decide (c.chan < 0) || decide (8 ≤ c.chan) || (!(c.v == 0) && !c.send)
def hasC (seen : List CaseD) (ch : Int) : Bool := seen.any (fun d => d.chan == ch)
def casesE (seen : List CaseD) : List CaseD → Int
  | [] => 0
  | c :: r => if badC c then 1 else if hasC seen c.chan then 6 else casesE (seen ++ [c]) r
def checkD (o : OpD) : Int :=
  if isKindB o.kind then
    if takesB (shapeOf o.kind.toNat) o.n o.v o.wait o.cases.length then
      if (shapeOf o.kind.toNat).picks && (o.cases.length == 0 || decide (4 < o.cases.length)) then 18 else casesE [] o.cases
    else 1
  else 3
def sameC (a b : CaseD) : Bool := (a.send == b.send) && (a.chan == b.chan) && (a.v == b.v)
def sameL : List CaseD → List CaseD → Bool
  | [], [] => true
  | a :: r, b :: t => sameC a b && sameL r t
  | _, _ => false
def sameD (a b : OpD) : Bool := (a.kind == b.kind) && (a.n == b.n) && (a.v == b.v) && (a.wait == b.wait) && sameL a.cases b.cases
def waitsD (o : OpD) : Bool := isKindB o.kind && (shapeOf o.kind.toNat).waits && !(o.wait == 0)

/-- Words with blanks between. -/
def joinW : List (List UInt8) → List UInt8
  | [] => []
  | [w] => w
  | w :: x :: r => w ++ 32 :: joinW (x :: r)
def waitT (n : Int) : List UInt8 := if n = -1 then [45] else Lib.itoa n
def caseW (c : CaseD) : List (List UInt8) := if c.send then [sendW, Lib.itoa c.chan, Lib.itoa c.v] else [recvW, Lib.itoa c.chan]
def wordsD (o : OpD) : List (List UInt8) :=
  [(shapeOf o.kind.toNat).word] ++ (if (shapeOf o.kind.toNat).hasN then [Lib.itoa o.n] else []) ++ (if (shapeOf o.kind.toNat).hasV then [Lib.itoa o.v] else []) ++ (if (shapeOf o.kind.toNat).waits then [waitT o.wait] else []) ++ (if (shapeOf o.kind.toNat).picks then o.cases.flatMap caseW else [])
def textD (o : OpD) : List UInt8 := joinW (wordsD o)

/-- A first word's Kind; 0: none. -/
def kindOf (w : List UInt8) : Nat :=
  if w = [114, 117, 110] then 1 else if w = [108, 111, 99, 107] then 2 else if w = [117, 110, 108, 111, 99, 107] then 3 else if w = [115, 101, 110, 100] then 4 else if w = [114, 101, 99, 118] then 5
  else if w = [99, 108, 111, 115, 101] then 6 else if w = [115, 101, 108, 101, 99, 116] then 7 else if w = [108, 111, 111, 112] then 8 else if w = [101, 110, 100] then 9 else 0
def areB : List (List UInt8) → Bool
  | [] => true
  | [_] => false
  | k :: _ :: r => if k = sendW then (match r with
      | [] => false
      | _ :: r' => areB r') else if k = recvW then areB r else false
def aheadN (s : ShapeD) : Nat := 1 + (if s.hasN then 1 else 0) + (if s.hasV then 1 else 0) + (if s.waits then 1 else 0)
def fitsB (s : ShapeD) (ws : List (List UInt8)) : Bool :=
  if ws.length < aheadN s ∨ s.picks = false then ws.length == aheadN s else areB (ws.drop (aheadN s))
def waitOf (l : List UInt8) : Int × Int :=
  if l = [45] then (-1, 0) else if (numOf l).2 = 0 then (if (numOf l).1 < 0 then (0, 2) else numOf l) else numOf l
def consC (c : CaseD) (x : List CaseD × Int) : List CaseD × Int := if x.2 = 0 then (c :: x.1, 0) else ([], x.2)
def casesOf : List (List UInt8) → List CaseD × Int
  | [] => ([], 0)
  | [_] => ([], 2)
  | k :: a :: r => if (numOf a).2 = 0 then
      (if k = sendW then (match r with
        | [] => ([], 2)
        | b :: r' => if (numOf b).2 = 0 then consC ⟨true, (numOf a).1, (numOf b).1⟩ (casesOf r') else ([], (numOf b).2))
      else consC ⟨false, (numOf a).1, 0⟩ (casesOf r)) else ([], (numOf a).2)
def zeroD : OpD := ⟨0, 0, 0, 0, []⟩
def readD (k : Nat) (r : List (List UInt8)) : OpD × Int :=
  if k = 4 then
    (match r with
    | [a, b, c] => if (numOf a).2 = 0 then (if (numOf b).2 = 0 then (if (waitOf c).2 = 0 then (⟨4, (numOf a).1, (numOf b).1, (waitOf c).1, []⟩, 0) else (zeroD, (waitOf c).2)) else (zeroD, (numOf b).2)) else (zeroD, (numOf a).2)
    | _ => (zeroD, 2))
  else if k = 5 then
    (match r with
    | [a, c] => if (numOf a).2 = 0 then (if (waitOf c).2 = 0 then (⟨5, (numOf a).1, 0, (waitOf c).1, []⟩, 0) else (zeroD, (waitOf c).2)) else (zeroD, (numOf a).2)
    | _ => (zeroD, 2))
  else if k = 7 then
    (match r with
    | c :: t => if (waitOf c).2 = 0 then (if (casesOf t).2 = 0 then (⟨7, 0, 0, (waitOf c).1, (casesOf t).1⟩, 0) else (zeroD, (casesOf t).2)) else (zeroD, (waitOf c).2)
    | _ => (zeroD, 2))
  else if k = 9 then (match r with
    | [] => (⟨9, 0, 0, 0, []⟩, 0)
    | _ => (zeroD, 2))
  else (match r with
    | [a] => if (numOf a).2 = 0 then (⟨(k : Int), (numOf a).1, 0, 0, []⟩, 0) else (zeroD, (numOf a).2)
    | _ => (zeroD, 2))
/-- What is refused is nothing. -/
def checked (x : OpD × Int) : OpD × Int := if x.2 = 0 then (if checkD x.1 = 0 then x else (zeroD, checkD x.1)) else (zeroD, x.2)
def parseW (ws : List (List UInt8)) : OpD × Int :=
  match ws with
  | [] => (zeroD, 2)
  | w :: r => if kindOf w = 0 then (zeroD, 2) else if fitsB (shapeOf (kindOf w)) (w :: r) then checked (readD (kindOf w) r) else (zeroD, 2)
def parseD (s : List UInt8) : OpD × Int :=
  match splitOf s with
  | none => (zeroD, 2)
  | some ws => parseW ws

end Go.Proofs.YtolljdomnohmdabGreatDoor
