/- Plain mathematics of texts: lines, words, numbers in decimal. No program is named here. Ops as plain data: what is wrong with one, its words, and back. No program is named here. Ops in words and back, there and back: plain mathematics. Programs as plain data: what is wrong with one, what is done. No program of Go's is named here. -/
import Derived.Lib.IndexMore
import Derived.Lib.ItoaMem
import Derived.Lib.ParseIntB
import GoSem.Op.String
namespace Go.Proofs.YtlkbphogpbcjfaaGreatDoor

/-- Not empty, and all bytes from lo to hi. -/
def within (lo hi : Nat) (l : List UInt8) : Bool := !l.isEmpty && l.all (fun c => decide (lo ≤ c.toNat) && decide (c.toNat ≤ hi))

/-- Lines: cur is what stands ahead of the next end. -/
def linesGo (cur : List UInt8) : List UInt8 → List (List UInt8)
  | [] => []
  | c :: r => if c = 10 then cur :: linesGo [] r else linesGo (cur ++ [c]) r
def linesOf (l : List UInt8) : List (List UInt8) := linesGo [] l
/-- May it be lines? -/
def linesOk (l : List UInt8) : Bool := l.isEmpty || l.getLast? == some 10

/-- Words: cur is the word so far. -/
def splitGo (cur : List UInt8) : List UInt8 → Option (List (List UInt8))
  | [] => if cur = [] then none else some [cur]
  | c :: r => if c = 32 then (if cur = [] then none else (splitGo [] r).map (cur :: ·))
    else if c.toNat < 33 ∨ 126 < c.toNat then none else splitGo (cur ++ [c]) r
def splitOf (l : List UInt8) : Option (List (List UInt8)) := if l = [] then some [] else splitGo [] l

theorem within_iff (lo hi : Nat) (l : List UInt8) : within lo hi l = true ↔ l ≠ [] ∧ ∀ c ∈ l, lo ≤ c.toNat ∧ c.toNat ≤ hi := by
  simp [within, List.all_eq_true]

theorem ite_iff {p q : Prop} [Decidable p] [Decidable q] {α : Type} (h : p ↔ q) (a b : α) : (if p then a else b) = if q then a else b := by
  by_cases hp : p
  · rw [if_pos hp, if_pos (h.1 hp)]
  · rw [if_neg hp, if_neg (fun x => hp (h.2 x))]

/-- Where the first c stands. -/
theorem index_one (c : UInt8) : ∀ l : List UInt8, (∃ a b, l = a ++ c :: b ∧ c ∉ a ∧ Lib.index l [c] = a.length) ∨ (c ∉ l ∧ Lib.index l [c] = -1)
  | [] => .inr ⟨by simp, rfl⟩
  | x :: l => by
    by_cases hx : x = c
    · subst hx
      refine .inl ⟨[], l, rfl, by simp, ?_⟩
      simp [Lib.index]
    · have hx' : ¬ c = x := fun e => hx e.symm
      have h0 : ([c] : List UInt8).isPrefixOf (x :: l) = false := by simp [List.isPrefixOf, hx']
      rcases index_one c l with ⟨a, b, e, hn, hi⟩ | ⟨hn, hi⟩
      · refine .inl ⟨x :: a, b, by rw [e]; rfl, by simp [hn, hx'], ?_⟩
        rw [Lib.index, h0, hi]
        have : ((a.length : Int) == -1) = false := by rw [beq_eq_false_iff_ne]; omega
        simp [this]
      · refine .inr ⟨by simp [hn, hx'], ?_⟩
        rw [Lib.index, h0, hi]; rfl
theorem cut_one (c : UInt8) (l : List UInt8) : (∃ a b, l = a ++ c :: b ∧ c ∉ a ∧ Lib.cut l [c] = (a, b, true)) ∨ (c ∉ l ∧ Lib.cut l [c] = (l, [], false)) := by
  rcases index_one c l with ⟨a, b, e, hn, hi⟩ | ⟨hn, hi⟩
  · refine .inl ⟨a, b, e, hn, ?_⟩
    unfold Lib.cut
    rw [hi, if_pos (by omega)]
    subst e
    simp
  · refine .inr ⟨hn, ?_⟩
    unfold Lib.cut
    rw [hi, if_neg (by omega)]

theorem linesGo_hit : ∀ (a b cur : List UInt8), (10 : UInt8) ∉ a → linesGo cur (a ++ 10 :: b) = (cur ++ a) :: linesGo [] b
  | [], b, cur, _ => by simp [linesGo]
  | x :: a, b, cur, h => by
    have hx : x ≠ 10 := fun e => h (by simp [e])
    have := linesGo_hit a b (cur ++ [x]) (fun e => h (by simp [e]))
    simp only [List.cons_append, linesGo, if_neg hx, this]
    simp
theorem linesGo_miss : ∀ (l cur : List UInt8), (10 : UInt8) ∉ l → linesGo cur l = []
  | [], _, _ => rfl
  | x :: a, cur, h => by
    have hx : x ≠ 10 := fun e => h (by simp [e])
    rw [linesGo, if_neg hx]
    exact linesGo_miss a _ (fun e => h (by simp [e]))
theorem linesOf_hit (a b : List UInt8) (h : (10 : UInt8) ∉ a) : linesOf (a ++ 10 :: b) = a :: linesOf b := by
  simpa [linesOf] using linesGo_hit a b [] h
theorem linesOf_miss (l : List UInt8) (h : (10 : UInt8) ∉ l) : linesOf l = [] := linesGo_miss l [] h

theorem splitGo_hit : ∀ (a b cur : List UInt8), (32 : UInt8) ∉ a → splitGo cur (a ++ 32 :: b) = if cur ++ a ≠ [] ∧ ∀ c ∈ a, 33 ≤ c.toNat ∧ c.toNat ≤ 126 then (splitGo [] b).map ((cur ++ a) :: ·) else none
  | [], b, cur, _ => by
    by_cases hc : cur = []
    · simp [splitGo, hc]
    · simp [splitGo, hc]
  | x :: a, b, cur, h => by
    have hx : x ≠ 32 := fun e => h (by simp [e])
    have ih := splitGo_hit a b (cur ++ [x]) (fun e => h (by simp [e]))
    by_cases hr : x.toNat < 33 ∨ 126 < x.toNat
    · rw [List.cons_append, splitGo, if_neg hx, if_pos hr, if_neg]
      intro hh
      have := hh.2 x (by simp)
      omega
    · rw [List.cons_append, splitGo, if_neg hx, if_neg hr, ih]
      have e : cur ++ [x] ++ a = cur ++ x :: a := by simp
      rw [e]
      refine ite_iff ?_ _ _
      simp only [List.mem_cons, forall_eq_or_imp]
      constructor
      · rintro ⟨h1, h2⟩; exact ⟨h1, ⟨by omega, by omega⟩, h2⟩
      · rintro ⟨h1, _, h2⟩; exact ⟨h1, h2⟩
theorem splitGo_miss : ∀ (l cur : List UInt8), (32 : UInt8) ∉ l → splitGo cur l = if cur ++ l ≠ [] ∧ ∀ c ∈ l, 33 ≤ c.toNat ∧ c.toNat ≤ 126 then some [cur ++ l] else none
  | [], cur, _ => by
    by_cases hc : cur = []
    · simp [splitGo, hc]
    · simp [splitGo, hc]
  | x :: a, cur, h => by
    have hx : x ≠ 32 := fun e => h (by simp [e])
    have ih := splitGo_miss a (cur ++ [x]) (fun e => h (by simp [e]))
    by_cases hr : x.toNat < 33 ∨ 126 < x.toNat
    · rw [splitGo, if_neg hx, if_pos hr, if_neg]
      intro hh
      have := hh.2 x (by simp)
      omega
    · rw [splitGo, if_neg hx, if_neg hr, ih]
      have e : cur ++ [x] ++ a = cur ++ x :: a := by simp
      rw [e]
      refine ite_iff ?_ _ _
      simp only [List.mem_cons, forall_eq_or_imp]
      constructor
      · rintro ⟨h1, h2⟩; exact ⟨h1, ⟨by omega, by omega⟩, h2⟩
      · rintro ⟨h1, _, h2⟩; exact ⟨h1, h2⟩
theorem split_hit (a b : List UInt8) (h : (32 : UInt8) ∉ a) : splitGo [] (a ++ 32 :: b) = if within 33 126 a then (splitGo [] b).map (a :: ·) else none := by
  rw [splitGo_hit a b [] h, List.nil_append]
  exact ite_iff (within_iff 33 126 a).symm _ _
theorem split_miss (l : List UInt8) (h : (32 : UInt8) ∉ l) : splitGo [] l = if within 33 126 l then some [l] else none := by
  rw [splitGo_miss l [] h, List.nil_append]
  exact ite_iff (within_iff 33 126 l).symm _ _

/-! Numbers. -/

/-- What digits spell behind acc. -/
def val (acc : Nat) : List UInt8 → Nat
  | [] => acc
  | c :: r => val (acc * 10 + (c.toNat - 48)) r
/-- Is it below 0? -/
def isNeg (l : List UInt8) : Bool := l.head? == some 45
def digs (l : List UInt8) : List UInt8 := if isNeg l then l.tail else l
/-- Written as a number is. -/
def decForm (l : List UInt8) : Bool := if (digs l).head? == some 48 then decide (digs l = [48]) && !isNeg l else within 48 57 (digs l)
/-- The number and the error. -/
def numOf (l : List UInt8) : Int × Int :=
  if decForm l then
    (if isNeg l then (if val 0 (digs l) ≤ 9223372036854775808 then (-(val 0 (digs l) : Int), 0) else (0, 14))
     else (if val 0 (digs l) < 9223372036854775808 then ((val 0 (digs l) : Int), 0) else (0, 14)))
  else (0, 2)

theorem val_le : ∀ (l : List UInt8) (acc : Nat), acc ≤ val acc l
  | [], _ => Nat.le_refl _
  | _ :: r, _ => Nat.le_trans (by omega) (val_le r _)
theorem val_append : ∀ (a b : List UInt8) (acc : Nat), val acc (a ++ b) = val (val acc a) b
  | [], _, _ => rfl
  | _ :: r, b, _ => val_append r b _

theorem val_one (acc : Nat) (c : UInt8) : val acc [c] = acc * 10 + (c.toNat - 48) := rfl

theorem parseUint_val : ∀ (l : List UInt8) (acc : Nat), (∀ c ∈ l, 48 ≤ c.toNat ∧ c.toNat ≤ 57) → acc ≤ 18446744073709551615 →
    Lib.parseUintM 18446744073709551615 acc l = if val acc l ≤ 18446744073709551615 then .ok (val acc l) else .range
  | [], acc, _, ha => by rw [Lib.parseUintM, show val acc [] = acc from rfl, if_pos ha]
  | c :: r, acc, h, ha => by
    have hc := h c (by simp)
    have hv := val_le r (acc * 10 + (c.toNat - 48))
    rw [Lib.parseUintM, if_pos hc, show val acc (c :: r) = val (acc * 10 + (c.toNat - 48)) r from rfl]
    by_cases h1 : 1844674407370955162 ≤ acc
    · rw [if_pos h1, if_neg (by omega)]
    · rw [if_neg h1]
      by_cases h2 : 18446744073709551615 < acc * 10 + (c.toNat - 48)
      · rw [if_pos h2, if_neg (by omega)]
      · rw [if_neg h2]
        exact parseUint_val r _ (fun x hx => h x (by simp [hx])) (by omega)

/-- What is written as a number is digits. -/
theorem decForm_digits {l : List UInt8} (h : decForm l = true) : digs l ≠ [] ∧ ∀ c ∈ digs l, 48 ≤ c.toNat ∧ c.toNat ≤ 57 := by
  unfold decForm at h
  by_cases h0 : ((digs l).head? == some 48) = true
  · rw [if_pos h0] at h
    simp at h
    rw [h.1]
    decide
  · rw [if_neg h0] at h
    exact (within_iff _ _ _).1 h

theorem parseInt_ok {l : List UInt8} (h : decForm l = true) (n : Int) (hn : numOf l = (n, 0)) : Lib.parseIntB 64 l = .ok n := by
  obtain ⟨hd0, hd⟩ := decForm_digits h
  unfold numOf at hn
  rw [if_pos h] at hn
  rcases l with _ | ⟨c, r⟩
  · simp [digs, isNeg] at hd0
  · have hM : (2 ^ 64 - 1 : Nat) = 18446744073709551615 := by decide
    by_cases hneg : c = 45
    · subst hneg
      have hi : isNeg (45 :: r) = true := rfl
      have hdg : digs (45 :: r) = r := by simp [digs, hi]
      rw [hi, if_pos rfl, hdg] at hn
      rw [hdg] at hd hd0
      have hp := parseUint_val r 0 hd (by omega)
      split at hn
      · simp only [Prod.mk.injEq, and_true] at hn
        rw [if_pos (by omega)] at hp
        simp only [Lib.parseIntB, Lib.parseUintB, hM]
        have h45 : (45 : UInt8).toNat = 45 := rfl
        simp only [h45, or_true, if_true, hd0, if_false, hp, not_true_eq_false, false_and, true_and]
        rw [if_neg (by omega), hn]
      · simp at hn
    · have hi : isNeg (c :: r) = false := by simp [isNeg, hneg]
      have hdg : digs (c :: r) = c :: r := by simp [digs, hi]
      rw [hdg] at hd hd0
      rw [hi, hdg] at hn
      have hp := parseUint_val (c :: r) 0 hd (by omega)
      have hc := hd c (by simp)
      simp only [Bool.false_eq_true, if_false] at hn
      split at hn
      · simp only [Prod.mk.injEq, and_true] at hn
        rw [if_pos (by omega)] at hp
        simp only [Lib.parseIntB, Lib.parseUintB, hM]
        have h43 : ¬ c.toNat = 43 := by omega
        have h45 : ¬ c.toNat = 45 := by omega
        simp only [h43, h45, or_self, if_false, hd0, hp, false_and, not_false_eq_true, true_and]
        rw [if_neg (by omega), ← hn]
      · simp at hn

theorem parseInt_range {l : List UInt8} (h : decForm l = true) (n : Int) (hn : numOf l = (n, 14)) : n = 0 ∧ Lib.parseIntB 64 l = .range := by
  obtain ⟨hd0, hd⟩ := decForm_digits h
  unfold numOf at hn
  rw [if_pos h] at hn
  rcases l with _ | ⟨c, r⟩
  · simp [digs, isNeg] at hd0
  · have hM : (2 ^ 64 - 1 : Nat) = 18446744073709551615 := by decide
    by_cases hneg : c = 45
    · subst hneg
      have hi : isNeg (45 :: r) = true := rfl
      have hdg : digs (45 :: r) = r := by simp [digs, hi]
      rw [hi, if_pos rfl, hdg] at hn
      rw [hdg] at hd hd0
      have hp := parseUint_val r 0 hd (by omega)
      split at hn
      · simp at hn
      · simp only [Prod.mk.injEq, and_true] at hn
        refine ⟨hn.symm, ?_⟩
        simp only [Lib.parseIntB, Lib.parseUintB, hM]
        have h45 : (45 : UInt8).toNat = 45 := rfl
        by_cases hb : val 0 r ≤ 18446744073709551615
        · rw [if_pos hb] at hp
          simp only [h45, or_true, if_true, hd0, if_false, hp, not_true_eq_false, false_and, true_and]
          rw [if_pos (by omega)]
        · rw [if_neg hb] at hp
          simp only [h45, or_true, if_true, hd0, if_false, hp]
    · have hi : isNeg (c :: r) = false := by simp [isNeg, hneg]
      have hdg : digs (c :: r) = c :: r := by simp [digs, hi]
      rw [hdg] at hd hd0
      rw [hi, hdg] at hn
      have hp := parseUint_val (c :: r) 0 hd (by omega)
      have hc := hd c (by simp)
      simp only [Bool.false_eq_true, if_false] at hn
      split at hn
      · simp at hn
      · simp only [Prod.mk.injEq, and_true] at hn
        refine ⟨hn.symm, ?_⟩
        simp only [Lib.parseIntB, Lib.parseUintB, hM]
        have h43 : ¬ c.toNat = 43 := by omega
        have h45 : ¬ c.toNat = 45 := by omega
        by_cases hb : val 0 (c :: r) ≤ 18446744073709551615
        · rw [if_pos hb] at hp
          simp only [h43, h45, or_self, if_false, hd0, hp, false_and, not_false_eq_true, true_and]
          rw [if_pos (by omega)]
        · rw [if_neg hb] at hp
          simp only [h43, h45, or_self, if_false, hd0, hp]
theorem numOf_cases (l : List UInt8) : (decForm l = false ∧ numOf l = (0, 2)) ∨ (decForm l = true ∧ (numOf l = (0, 14) ∨ ∃ n : Int, numOf l = (n, 0) ∧ -9223372036854775808 ≤ n ∧ n ≤ 9223372036854775807)) := by
  unfold numOf
  by_cases h : decForm l = true
  · refine .inr ⟨h, ?_⟩
    rw [if_pos h]
    split
    · split
      · exact .inr ⟨_, rfl, by omega, by omega⟩
      · exact .inl rfl
    · split
      · exact .inr ⟨_, rfl, by omega, by omega⟩
      · exact .inl rfl
  · rw [if_neg h]
    exact .inl ⟨by simpa using h, rfl⟩

/-! Decimal digits. -/
theorem ofNat_digit {d : Nat} (h : d < 10) : (UInt8.ofNat (48 + d)).toNat = 48 + d := by
  rw [UInt8.toNat_ofNat']; omega
theorem dec_rec {u : Nat} (h : ¬ u < 10) : Lib.decDigits u = Lib.decDigits (u / 10) ++ [UInt8.ofNat (48 + u % 10)] := by
  rw [Lib.decDigits, dif_neg h]
theorem dec_digits (u : Nat) : Lib.decDigits u ≠ [] ∧ ∀ c ∈ Lib.decDigits u, 48 ≤ c.toNat ∧ c.toNat ≤ 57 := by
  induction u using Nat.strongRecOn with
  | _ u ih =>
    by_cases h : u < 10
    · rw [Lib.decDigits_one h]
      refine ⟨by simp, fun c hc => ?_⟩
      simp only [List.mem_singleton] at hc
      subst hc
      rw [ofNat_digit h]; omega
    · rw [dec_rec h]
      refine ⟨by simp, fun c hc => ?_⟩
      rcases List.mem_append.1 hc with hc | hc
      · exact (ih (u / 10) (by omega)).2 c hc
      · simp only [List.mem_singleton] at hc
        subst hc
        rw [ofNat_digit (Nat.mod_lt _ (by decide))]
        have := Nat.mod_lt u (show 0 < 10 by decide)
        omega
theorem val_dec (u : Nat) : val 0 (Lib.decDigits u) = u := by
  induction u using Nat.strongRecOn with
  | _ u ih =>
    by_cases h : u < 10
    · rw [Lib.decDigits_one h]
      rw [val_one, ofNat_digit h]; omega
    · rw [dec_rec h, val_append, ih (u / 10) (by omega)]
      rw [val_one, ofNat_digit (Nat.mod_lt u (show 0 < 10 by decide))]
      omega
theorem dec_head (u : Nat) (h : u ≠ 0) : (Lib.decDigits u).head? ≠ some 48 := by
  induction u using Nat.strongRecOn with
  | _ u ih =>
    by_cases h9 : u < 10
    · rw [Lib.decDigits_one h9]
      simp only [List.head?_cons, ne_eq, Option.some.injEq]
      intro e
      have := congrArg UInt8.toNat e
      rw [ofNat_digit h9] at this
      have h48 : (48 : UInt8).toNat = 48 := rfl
      omega
    · rw [dec_rec h9]
      have := ih (u / 10) (by omega) (by omega)
      rcases hd : Lib.decDigits (u / 10) with _ | ⟨c, r⟩
      · exact absurd hd (dec_digits _).1
      · rw [hd] at this
        simpa using this
theorem dec_val_app (t : List UInt8) (c : UInt8) (hc : 48 ≤ c.toNat ∧ c.toNat ≤ 57) (ht : val 0 t ≠ 0) (h : Lib.decDigits (val 0 t) = t) : Lib.decDigits (val 0 (t ++ [c])) = t ++ [c] := by
  have e : val 0 (t ++ [c]) = val 0 t * 10 + (c.toNat - 48) := by rw [val_append, val_one]
  rw [e, dec_rec (by omega)]
  have e1 : (val 0 t * 10 + (c.toNat - 48)) / 10 = val 0 t := by omega
  have e2 : (val 0 t * 10 + (c.toNat - 48)) % 10 = c.toNat - 48 := by omega
  rw [e1, e2, h]
  have : UInt8.ofNat (48 + (c.toNat - 48)) = c := by
    apply UInt8.toNat_inj.1
    rw [UInt8.toNat_ofNat']
    have := c.toNat_lt
    omega
  rw [this]
/-- Digits without a nought ahead are those of what they spell. -/
theorem dec_val_rev : ∀ (r : List UInt8) (c : UInt8), (∀ x ∈ c :: r.reverse, 48 ≤ x.toNat ∧ x.toNat ≤ 57) → c ≠ 48 → val 0 (c :: r.reverse) ≠ 0 ∧ Lib.decDigits (val 0 (c :: r.reverse)) = c :: r.reverse
  | [], c, h, hc => by
    have h1 := h c (by simp)
    have hne : c.toNat ≠ 48 := fun e => hc (UInt8.toNat_inj.1 e)
    have e : val 0 [c] = c.toNat - 48 := by rw [val_one]; omega
    simp only [List.reverse_nil]
    rw [e, Lib.decDigits_one (by omega)]
    refine ⟨by omega, ?_⟩
    have : UInt8.ofNat (48 + (c.toNat - 48)) = c := by
      apply UInt8.toNat_inj.1
      rw [UInt8.toNat_ofNat']
      have := c.toNat_lt
      omega
    rw [this]
  | d :: r, c, h, hc => by
    have ih := dec_val_rev r c (fun x hx => h x (by simp at hx ⊢; rcases hx with hx | hx; exact .inl hx; exact .inr (.inl hx))) hc
    have hd := h d (by simp)
    rw [List.reverse_cons, ← List.cons_append]
    refine ⟨?_, dec_val_app _ d hd ih.1 ih.2⟩
    rw [val_append]
    have := val_le [d] (val 0 (c :: r.reverse))
    have := ih.1
    omega
theorem dec_val (c : UInt8) (r : List UInt8) (h : ∀ x ∈ c :: r, 48 ≤ x.toNat ∧ x.toNat ≤ 57) (hc : c ≠ 48) : val 0 (c :: r) ≠ 0 ∧ Lib.decDigits (val 0 (c :: r)) = c :: r := by
  have := dec_val_rev r.reverse c (by simpa using h) hc
  simpa using this
theorem dec_zero : Lib.decDigits 0 = [48] := by rw [Lib.decDigits_one (by omega)]; rfl

theorem dec_form (u : Nat) : decForm (Lib.decDigits u) = true ∧ isNeg (Lib.decDigits u) = false ∧ digs (Lib.decDigits u) = Lib.decDigits u := by
  obtain ⟨h0, hd⟩ := dec_digits u
  have hneg : isNeg (Lib.decDigits u) = false := by
    rcases hx : Lib.decDigits u with _ | ⟨c, r⟩
    · rfl
    · have := hd c (by rw [hx]; simp)
      have hc : c ≠ 45 := fun e => by rw [e] at this; revert this; decide
      simp [isNeg, hc]
  have hdg : digs (Lib.decDigits u) = Lib.decDigits u := by simp [digs, hneg]
  refine ⟨?_, hneg, hdg⟩
  unfold decForm
  rw [hdg, hneg]
  by_cases hu : u = 0
  · subst hu; rw [dec_zero]; decide
  · have := dec_head u hu
    rw [if_neg (by simpa using this)]
    exact (within_iff _ _ _).2 ⟨h0, hd⟩
theorem neg_form (u : Nat) (hu : u ≠ 0) : decForm (45 :: Lib.decDigits u) = true ∧ isNeg (45 :: Lib.decDigits u) = true ∧ digs (45 :: Lib.decDigits u) = Lib.decDigits u := by
  obtain ⟨h0, hd⟩ := dec_digits u
  have hneg : isNeg (45 :: Lib.decDigits u) = true := rfl
  have hdg : digs (45 :: Lib.decDigits u) = Lib.decDigits u := by simp [digs, hneg]
  refine ⟨?_, hneg, hdg⟩
  unfold decForm
  rw [hdg, hneg]
  have := dec_head u hu
  rw [if_neg (by simpa using this)]
  exact (within_iff _ _ _).2 ⟨h0, hd⟩
/-- A number in words, and back. -/
theorem num_itoa (n : Int) (h0 : -9223372036854775808 ≤ n) (h1 : n ≤ 9223372036854775807) : numOf (Lib.itoa n) = (n, 0) := by
  unfold Lib.itoa
  split
  · obtain ⟨f1, f2, f3⟩ := neg_form n.natAbs (by omega)
    unfold numOf
    rw [if_pos f1, f2, f3, if_pos rfl, val_dec, if_pos (by omega)]
    simp only [Prod.mk.injEq, and_true]
    omega
  · obtain ⟨f1, f2, f3⟩ := dec_form n.toNat
    unfold numOf
    rw [if_pos f1, f2, f3, val_dec]
    simp only [Bool.false_eq_true, if_false]
    rw [if_pos (by omega)]
    simp only [Prod.mk.injEq, and_true]
    omega
/-- What is a number is told so again. -/
theorem itoa_num {l : List UInt8} {n : Int} (h : numOf l = (n, 0)) : Lib.itoa n = l := by
  rcases numOf_cases l with ⟨_, e⟩ | ⟨hf, _⟩
  · rw [e] at h; simp at h
  · obtain ⟨hd0, hd⟩ := decForm_digits hf
    have hf' := hf
    unfold numOf at h
    rw [if_pos hf] at h
    unfold decForm at hf'
    rcases l with _ | ⟨c, r⟩
    · simp [digs, isNeg] at hd0
    · by_cases hneg : c = 45
      · subst hneg
        have hi : isNeg (45 :: r) = true := rfl
        have hdg : digs (45 :: r) = r := by simp [digs, hi]
        rw [hi, if_pos rfl, hdg] at h
        rw [hdg, hi] at hf'
        rw [hdg] at hd hd0
        rcases r with _ | ⟨x, q⟩
        · exact absurd rfl hd0
        · by_cases hx : x = 48
          · subst hx; simp at hf'
          · obtain ⟨v0, v1⟩ := dec_val x q hd hx
            split at h
            · simp only [Prod.mk.injEq, and_true] at h
              rw [← h, Lib.itoa_neg _ (by omega), v1]
            · simp at h
      · have hi : isNeg (c :: r) = false := by simp [isNeg, hneg]
        have hdg : digs (c :: r) = c :: r := by simp [digs, hi]
        rw [hdg] at hd hd0 hf'
        rw [hi, hdg] at h
        simp only [Bool.false_eq_true, if_false] at h
        split at h
        · simp only [Prod.mk.injEq, and_true] at h
          rw [← h, Lib.itoa_nonneg]
          by_cases hx : c = 48
          · subst hx
            simp [hi] at hf'
            subst hf'
            exact dec_zero
          · exact (dec_val c r hd hx).2
        · simp at h
end Go.Proofs.YtlkbphogpbcjfaaGreatDoor
namespace Go.Proofs.YtlkbphogpbcjfaaGreatDoor

structure CaseD where
  send : Bool
  chan : Int
  v : Int
structure OpD where
  kind : Int
  n : Int
  v : Int
  wait : Int
  cases : List CaseD
structure ShapeD where
  word : List UInt8
  hasN : Bool
  hasV : Bool
  waits : Bool
  picks : Bool
  least : Int
  most : Int

def sendW : List UInt8 := [115, 101, 110, 100]
def recvW : List UInt8 := [114, 101, 99, 118]

/-- The table of the Kinds. -/
def shapeOf : Nat → ShapeD
  | 1 => ⟨[114, 117, 110], true, false, false, false, 1, 1000⟩
  | 2 => ⟨[108, 111, 99, 107], true, false, false, false, 0, 7⟩
  | 3 => ⟨[117, 110, 108, 111, 99, 107], true, false, false, false, 0, 7⟩
  | 4 => ⟨[115, 101, 110, 100], true, true, true, false, 0, 7⟩
  | 5 => ⟨[114, 101, 99, 118], true, false, true, false, 0, 7⟩
  | 6 => ⟨[99, 108, 111, 115, 101], true, false, false, false, 0, 7⟩
  | 7 => ⟨[115, 101, 108, 101, 99, 116], false, false, true, true, 0, 0⟩
  | 8 => ⟨[108, 111, 111, 112], true, false, false, false, 1, 32⟩
  | 9 => ⟨[101, 110, 100], false, false, false, false, 0, 0⟩
  | _ => ⟨[], false, false, false, false, 0, 0⟩

def isKindB (k : Int) : Bool := decide (1 ≤ k) && decide (k ≤ 9)
def takesB (s : ShapeD) (n v wt : Int) (len : Nat) : Bool :=
  !(decide (n < s.least) || decide (s.most < n) || (!(v == 0) && !s.hasV)) && !((!s.waits && !(wt == 0)) || decide (wt < -1) || decide (1000 < wt)) && (s.picks || len == 0)
/-- A case by itself: may it not be? -/
def badC (c : CaseD) : Bool := decide (c.chan < 0) || decide (8 ≤ c.chan) || (!(c.v == 0) && !c.send)
def hasC (seen : List CaseD) (ch : Int) : Bool := seen.any (fun d => d.chan == ch)
def casesE (seen : List CaseD) : List CaseD → Int
  | [] => 0
  | c :: r => if badC c then 1 else if hasC seen c.chan then 6 else casesE (seen ++ [c]) r
def checkD (o : OpD) : Int :=
  if isKindB o.kind then
    if takesB (shapeOf o.kind.toNat) o.n o.v o.wait o.cases.length then
      if (shapeOf o.kind.toNat).picks && (o.cases.length == 0 || decide (4 < o.cases.length)) then 18 else casesE [] o.cases
    else 1
  else 3
def sameC (a b : CaseD) : Bool := (a.send == b.send) && (a.chan == b.chan) && (a.v == b.v)
def sameL : List CaseD → List CaseD → Bool
  | [], [] => true
  | a :: r, b :: t => sameC a b && sameL r t
  | _, _ => false
def sameD (a b : OpD) : Bool := (a.kind == b.kind) && (a.n == b.n) && (a.v == b.v) && (a.wait == b.wait) && sameL a.cases b.cases
def waitsD (o : OpD) : Bool := isKindB o.kind && (shapeOf o.kind.toNat).waits && !(o.wait == 0)

/-- Words with blanks between. -/
def joinW : List (List UInt8) → List UInt8
  | [] => []
  | [w] => w
  | w :: x :: r => w ++ 32 :: joinW (x :: r)
def waitT (n : Int) : List UInt8 := if n = -1 then [45] else Lib.itoa n
def caseW (c : CaseD) : List (List UInt8) := if c.send then [sendW, Lib.itoa c.chan, Lib.itoa c.v] else [recvW, Lib.itoa c.chan]
def wordsD (o : OpD) : List (List UInt8) :=
  [(shapeOf o.kind.toNat).word] ++ (if (shapeOf o.kind.toNat).hasN then [Lib.itoa o.n] else []) ++ (if (shapeOf o.kind.toNat).hasV then [Lib.itoa o.v] else []) ++ (if (shapeOf o.kind.toNat).waits then [waitT o.wait] else []) ++ (if (shapeOf o.kind.toNat).picks then o.cases.flatMap caseW else [])
def textD (o : OpD) : List UInt8 := joinW (wordsD o)

/-- A first word's Kind; 0: none. -/
def kindOf (w : List UInt8) : Nat :=
  if w = [114, 117, 110] then 1 else if w = [108, 111, 99, 107] then 2 else if w = [117, 110, 108, 111, 99, 107] then 3 else if w = [115, 101, 110, 100] then 4 else if w = [114, 101, 99, 118] then 5
  else if w = [99, 108, 111, 115, 101] then 6 else if w = [115, 101, 108, 101, 99, 116] then 7 else if w = [108, 111, 111, 112] then 8 else if w = [101, 110, 100] then 9 else 0
def areB : List (List UInt8) → Bool
  | [] => true
  | [_] => false
  | k :: _ :: r => if k = sendW then (match r with
      | [] => false
      | _ :: r' => areB r') else if k = recvW then areB r else false
def aheadN (s : ShapeD) : Nat := 1 + (if s.hasN then 1 else 0) + (if s.hasV then 1 else 0) + (if s.waits then 1 else 0)
def fitsB (s : ShapeD) (ws : List (List UInt8)) : Bool :=
  if ws.length < aheadN s ∨ s.picks = false then ws.length == aheadN s else areB (ws.drop (aheadN s))
def waitOf (l : List UInt8) : Int × Int :=
  if l = [45] then (-1, 0) else if (numOf l).2 = 0 then (if (numOf l).1 < 0 then (0, 2) else numOf l) else numOf l
def consC (c : CaseD) (x : List CaseD × Int) : List CaseD × Int := if x.2 = 0 then (c :: x.1, 0) else ([], x.2)
def casesOf : List (List UInt8) → List CaseD × Int
  | [] => ([], 0)
  | [_] => ([], 2)
  | k :: a :: r => if (numOf a).2 = 0 then
      (if k = sendW then (match r with
        | [] => ([], 2)
        | b :: r' => if (numOf b).2 = 0 then consC ⟨true, (numOf a).1, (numOf b).1⟩ (casesOf r') else ([], (numOf b).2))
      else consC ⟨false, (numOf a).1, 0⟩ (casesOf r)) else ([], (numOf a).2)
def zeroD : OpD := ⟨0, 0, 0, 0, []⟩
def readD (k : Nat) (r : List (List UInt8)) : OpD × Int :=
  if k = 4 then
    (match r with
    | [a, b, c] => if (numOf a).2 = 0 then (if (numOf b).2 = 0 then (if (waitOf c).2 = 0 then (⟨4, (numOf a).1, (numOf b).1, (waitOf c).1, []⟩, 0) else (zeroD, (waitOf c).2)) else (zeroD, (numOf b).2)) else (zeroD, (numOf a).2)
    | _ => (zeroD, 2))
  else if k = 5 then
    (match r with
    | [a, c] => if (numOf a).2 = 0 then (if (waitOf c).2 = 0 then (⟨5, (numOf a).1, 0, (waitOf c).1, []⟩, 0) else (zeroD, (waitOf c).2)) else (zeroD, (numOf a).2)
    | _ => (zeroD, 2))
  else if k = 7 then
    (match r with
    | c :: t => if (waitOf c).2 = 0 then (if (casesOf t).2 = 0 then (⟨7, 0, 0, (waitOf c).1, (casesOf t).1⟩, 0) else (zeroD, (casesOf t).2)) else (zeroD, (waitOf c).2)
    | _ => (zeroD, 2))
  else if k = 9 then (match r with
    | [] => (⟨9, 0, 0, 0, []⟩, 0)
    | _ => (zeroD, 2))
  else (match r with
    | [a] => if (numOf a).2 = 0 then (⟨(k : Int), (numOf a).1, 0, 0, []⟩, 0) else (zeroD, (numOf a).2)
    | _ => (zeroD, 2))
/-- What is refused is nothing. -/
def checked (x : OpD × Int) : OpD × Int := if x.2 = 0 then (if checkD x.1 = 0 then x else (zeroD, checkD x.1)) else (zeroD, x.2)
def parseW (ws : List (List UInt8)) : OpD × Int :=
  match ws with
  | [] => (zeroD, 2)
  | w :: r => if kindOf w = 0 then (zeroD, 2) else if fitsB (shapeOf (kindOf w)) (w :: r) then checked (readD (kindOf w) r) else (zeroD, 2)
def parseD (s : List UInt8) : OpD × Int :=
  match splitOf s with
  | none => (zeroD, 2)
  | some ws => parseW ws

end Go.Proofs.YtlkbphogpbcjfaaGreatDoor
namespace Go.Proofs.YtlkbphogpbcjfaaGreatDoor

theorem joinW_cons (w : List UInt8) (r : List (List UInt8)) (h : r ≠ []) : joinW (w :: r) = w ++ 32 :: joinW r := by
  cases r with
  | nil => exact absurd rfl h
  | cons x r => rfl
theorem joinW_snoc : ∀ (ws : List (List UInt8)) (w : List UInt8), ws ≠ [] → joinW (ws ++ [w]) = joinW ws ++ 32 :: w
  | [], _, h => absurd rfl h
  | [x], w, _ => rfl
  | x :: y :: r, w, _ => by
    have ih := joinW_snoc (y :: r) w (by simp)
    rw [List.cons_append, joinW_cons x _ (by simp), ih, joinW_cons x (y :: r) (by simp)]
    simp
theorem splitGo_ne : ∀ (l cur : List UInt8) (ws : List (List UInt8)), splitGo cur l = some ws → ws ≠ []
  | [], cur, ws, h => by
    rw [splitGo] at h
    split at h
    · cases h
    · cases h; simp
  | c :: r, cur, ws, h => by
    rw [splitGo] at h
    split at h
    · split at h
      · cases h
      · obtain ⟨y, _, rfl⟩ := Option.map_eq_some_iff.1 h
        simp
    · split at h
      · cases h
      · exact splitGo_ne r _ ws h
theorem splitGo_join : ∀ (l cur : List UInt8) (ws : List (List UInt8)), splitGo cur l = some ws → joinW ws = cur ++ l
  | [], cur, ws, h => by
    rw [splitGo] at h
    split at h
    · cases h
    · cases h; simp [joinW]
  | c :: r, cur, ws, h => by
    rw [splitGo] at h
    split at h
    · rename_i hc
      split at h
      · cases h
      · obtain ⟨y, hy, rfl⟩ := Option.map_eq_some_iff.1 h
        rw [joinW_cons _ _ (splitGo_ne r [] y hy), splitGo_join r [] y hy, hc]
        simp
    · split at h
      · cases h
      · rw [splitGo_join r _ ws h]
        simp
theorem splitOf_join (l : List UInt8) (ws : List (List UInt8)) (h : splitOf l = some ws) : joinW ws = l := by
  unfold splitOf at h
  split at h
  · rename_i hl
    cases h
    rw [hl]; rfl
  · simpa using splitGo_join l [] ws h
def goodB (ls : List (List UInt8)) : Bool := ls.all (fun x => within 33 126 x)
theorem split_join : ∀ (ls : List (List UInt8)), ls ≠ [] → (∀ x ∈ ls, within 33 126 x = true) → splitGo [] (joinW ls) = some ls
  | [], h, _ => absurd rfl h
  | [x], _, hg => by
    have hx := hg x (by simp)
    have h32 : (32 : UInt8) ∉ x := fun hm => by have := ((within_iff _ _ _).1 hx).2 32 hm; revert this; decide
    rw [show joinW [x] = x from rfl, split_miss x h32, hx]; rfl
  | x :: y :: r, _, hg => by
    have hx := hg x (by simp)
    have h32 : (32 : UInt8) ∉ x := fun hm => by have := ((within_iff _ _ _).1 hx).2 32 hm; revert this; decide
    have ih := split_join (y :: r) (by simp) (fun z hz => hg z (by simp at hz ⊢; exact .inr hz))
    rw [joinW_cons x (y :: r) (by simp), split_hit x _ h32, hx, ih]; rfl
theorem good_mem {ls : List (List UInt8)} (h : goodB ls = true) : ∀ x ∈ ls, within 33 126 x = true := by
  simpa [goodB, List.all_eq_true] using h
theorem splitOf_joinW (ls : List (List UInt8)) (h : goodB ls = true) : splitOf (joinW ls) = some ls := by
  cases ls with
  | nil => rfl
  | cons x r =>
    have hx := (within_iff _ _ _).1 (good_mem h x (by simp))
    unfold splitOf
    rw [if_neg ?_, split_join _ (by simp) (good_mem h)]
    cases r with
    | nil => exact hx.1
    | cons y r => rw [joinW_cons x (y :: r) (by simp)]; simp
theorem splitGo_len : ∀ (l cur : List UInt8) (x : List (List UInt8)), splitGo cur l = some x → x.length ≤ l.length + 1
  | [], cur, x, h => by
    rw [splitGo] at h
    split at h
    · cases h
    · cases h; simp
  | c :: r, cur, x, h => by
    rw [splitGo] at h
    split at h
    · split at h
      · cases h
      · obtain ⟨y, hy, rfl⟩ := Option.map_eq_some_iff.1 h
        have := splitGo_len r [] y hy
        simp; omega
    · split at h
      · cases h
      · have := splitGo_len r (cur ++ [c]) x h
        simp; omega

theorem dec_within (u : Nat) : within 33 126 (Lib.decDigits u) = true := by
  obtain ⟨h0, h⟩ := dec_digits u
  exact (within_iff _ _ _).2 ⟨h0, fun c hc => by have := h c hc; omega⟩
theorem itoa_within (n : Int) : within 33 126 (Lib.itoa n) = true := by
  unfold Lib.itoa
  split
  · obtain ⟨h0, h⟩ := dec_digits n.natAbs
    refine (within_iff _ _ _).2 ⟨by simp, fun c hc => ?_⟩
    rcases List.mem_cons.1 hc with rfl | hc
    · decide
    · have := h c hc; omega
  · exact dec_within _
theorem waitT_within (n : Int) : within 33 126 (waitT n) = true := by
  unfold waitT
  split
  · decide
  · exact itoa_within n
theorem case_within (c : CaseD) : ∀ x ∈ caseW c, within 33 126 x = true := by
  intro x hx
  unfold caseW at hx
  split at hx
  · simp only [List.mem_cons, List.not_mem_nil, or_false] at hx
    rcases hx with rfl | rfl | rfl
    · decide
    · exact itoa_within _
    · exact itoa_within _
  · simp only [List.mem_cons, List.not_mem_nil, or_false] at hx
    rcases hx with rfl | rfl
    · decide
    · exact itoa_within _
theorem kind_cases {k : Int} (h : isKindB k = true) : k = 1 ∨ k = 2 ∨ k = 3 ∨ k = 4 ∨ k = 5 ∨ k = 6 ∨ k = 7 ∨ k = 8 ∨ k = 9 := by
  simp [isKindB] at h
  omega
theorem shape_within {k : Int} (h : isKindB k = true) : within 33 126 (shapeOf k.toNat).word = true := by
  rcases kind_cases h with rfl | rfl | rfl | rfl | rfl | rfl | rfl | rfl | rfl <;> decide
theorem words_good (o : OpD) (h : isKindB o.kind = true) : goodB (wordsD o) = true := by
  unfold goodB
  rw [List.all_eq_true]
  intro x hx
  unfold wordsD at hx
  simp only [List.mem_append] at hx
  rcases hx with (((hx | hx) | hx) | hx) | hx
  · rw [List.mem_singleton.1 hx]; exact shape_within h
  · split at hx
    · rw [List.mem_singleton.1 hx]; exact itoa_within _
    · cases hx
  · split at hx
    · rw [List.mem_singleton.1 hx]; exact itoa_within _
    · cases hx
  · split at hx
    · rw [List.mem_singleton.1 hx]; exact waitT_within _
    · cases hx
  · split at hx
    · obtain ⟨c, _, hc⟩ := List.mem_flatMap.1 hx
      exact case_within c x hc
    · cases hx
theorem split_words (o : OpD) (h : isKindB o.kind = true) : splitOf (textD o) = some (wordsD o) := splitOf_joinW _ (words_good o h)

def in64 (n : Int) : Prop := -9223372036854775808 ≤ n ∧ n ≤ 9223372036854775807
structure In64 (o : OpD) : Prop where
  kind : in64 o.kind
  n : in64 o.n
  v : in64 o.v
  wait : in64 o.wait
  cases : ∀ c ∈ o.cases, in64 c.chan ∧ in64 c.v

theorem num_it {n : Int} (h : in64 n) : numOf (Lib.itoa n) = (n, 0) := num_itoa n h.1 h.2
theorem num_dash : numOf [45] = (0, 2) := by decide +kernel
theorem waitOf_T {n : Int} (h0 : -1 ≤ n) (h1 : n ≤ 1000) : waitOf (waitT n) = (n, 0) := by
  unfold waitT
  split
  · rename_i h; subst h; rfl
  · have hn := num_itoa n (by omega) (by omega)
    unfold waitOf
    rw [if_neg ?_, hn]
    · simp; omega
    · intro e
      rw [e, num_dash] at hn
      simp at hn
theorem waitT_of {l : List UInt8} {n : Int} (h : waitOf l = (n, 0)) : waitT n = l ∧ (l = [45] ∨ numOf l = (n, 0) ∧ 0 ≤ n) := by
  unfold waitOf at h
  split at h
  · rename_i hl
    simp only [Prod.mk.injEq, and_true] at h
    subst h
    exact ⟨hl.symm, .inl hl⟩
  · split at h
    · split at h
      · simp at h
      · rename_i h0
        rw [h] at h0
        simp only at h0
        refine ⟨?_, .inr ⟨h, by omega⟩⟩
        unfold waitT
        rw [if_neg (by omega)]
        exact itoa_num h
    · rename_i h2
      rw [h] at h2
      exact absurd rfl h2

theorem areB_cons (k a : List UInt8) (r : List (List UInt8)) : areB (k :: a :: r) = if k = sendW then (match r with
      | [] => false
      | _ :: r' => areB r') else if k = recvW then areB r else false := by (rw [areB.eq_def]) <;> rfl
theorem casesOf_cons (k a : List UInt8) (r : List (List UInt8)) : casesOf (k :: a :: r) = if (numOf a).2 = 0 then
      (if k = sendW then (match r with
        | [] => ([], 2)
        | b :: r' => if (numOf b).2 = 0 then consC ⟨true, (numOf a).1, (numOf b).1⟩ (casesOf r') else ([], (numOf b).2))
      else consC ⟨false, (numOf a).1, 0⟩ (casesOf r)) else ([], (numOf a).2) := by (rw [casesOf.eq_def]) <;> rfl
theorem caseW_send (ch v : Int) : caseW ⟨true, ch, v⟩ = [sendW, Lib.itoa ch, Lib.itoa v] := rfl
theorem caseW_recv (ch v : Int) : caseW ⟨false, ch, v⟩ = [recvW, Lib.itoa ch] := rfl
theorem areB_words : ∀ cs : List CaseD, areB (cs.flatMap caseW) = true
  | [] => rfl
  | c :: r => by
    have ih := areB_words r
    obtain ⟨sd, ch, v⟩ := c
    rw [List.flatMap_cons]
    cases sd with
    | true => rw [caseW_send, List.cons_append, List.cons_append, List.cons_append, List.nil_append, areB_cons, if_pos rfl]; exact ih
    | false => rw [caseW_recv, List.cons_append, List.cons_append, List.nil_append, areB_cons, if_neg (by decide), if_pos rfl]; exact ih
theorem casesOf_words : ∀ cs : List CaseD, (∀ c ∈ cs, in64 c.chan ∧ in64 c.v) → (∀ c ∈ cs, c.send = false → c.v = 0) → casesOf (cs.flatMap caseW) = (cs, 0)
  | [], _, _ => rfl
  | c :: r, h, hv => by
    have ih := casesOf_words r (fun d hd => h d (List.mem_cons_of_mem _ hd)) (fun d hd => hv d (List.mem_cons_of_mem _ hd))
    obtain ⟨h1, h2⟩ := h c (List.mem_cons_self)
    obtain ⟨sd, ch, v⟩ := c
    simp only at h1 h2
    rw [List.flatMap_cons]
    cases sd with
    | true =>
      rw [caseW_send, List.cons_append, List.cons_append, List.cons_append, List.nil_append, casesOf_cons, num_it h1, if_pos rfl, if_pos rfl]
      simp only [num_it h2, if_true]
      rw [ih]; rfl
    | false =>
      have : v = 0 := hv _ (List.mem_cons_self) rfl
      subst this
      rw [caseW_recv, List.cons_append, List.cons_append, List.nil_append, casesOf_cons, num_it h1, if_pos rfl, if_neg (by decide), ih]; rfl
theorem consC_inv {c : CaseD} {x : List CaseD × Int} {cs : List CaseD} (h : consC c x = (cs, 0)) : ∃ t, cs = c :: t ∧ x = (t, 0) := by
  unfold consC at h
  split at h
  · rename_i hx
    simp only [Prod.mk.injEq, and_true] at h
    exact ⟨x.1, h.symm, by rw [← hx]⟩
  · rename_i hx
    simp only [Prod.mk.injEq] at h
    exact absurd h.2 hx
theorem pair_fst {x : Int × Int} (h : x.2 = 0) : x = (x.1, 0) := by rw [← h]
theorem words_casesOf : ∀ (n : Nat) (ws : List (List UInt8)) (cs : List CaseD), ws.length ≤ n → areB ws = true → casesOf ws = (cs, 0) → cs.flatMap caseW = ws
  | _, [], cs, _, _, h => by
    rw [casesOf] at h
    simp only [Prod.mk.injEq, and_true] at h
    rw [← h]; rfl
  | _, [_], cs, _, h, _ => by simp [areB] at h
  | 0, _ :: _ :: _, _, h, _, _ => by simp at h
  | n + 1, k :: a :: r, cs, hl, hb, h => by
    rw [casesOf_cons] at h
    rw [areB_cons] at hb
    split at h
    · rename_i ha
      split at h
      · rename_i hk
        rw [if_pos hk] at hb
        cases r with
        | nil => simp at hb
        | cons b r' =>
          simp only at h hb
          split at h
          · rename_i hb2
            obtain ⟨t, rfl, ht⟩ := consC_inv h
            have ih := words_casesOf n r' t (by simp at hl; omega) hb ht
            rw [List.flatMap_cons, ih]
            simp only [caseW, if_true, List.cons_append, List.nil_append]
            rw [itoa_num (pair_fst ha), itoa_num (pair_fst hb2), hk]
          · simp only [Prod.mk.injEq] at h
            rename_i hb2
            exact absurd h.2 hb2
      · rename_i hk
        rw [if_neg hk] at hb
        split at hb
        · rename_i hk2
          obtain ⟨t, rfl, ht⟩ := consC_inv h
          have ih := words_casesOf n r t (by simp at hl; omega) hb ht
          rw [List.flatMap_cons, ih]
          simp only [caseW, Bool.false_eq_true, if_false, List.cons_append, List.nil_append]
          rw [itoa_num (pair_fst ha), hk2]
        · cases hb
    · simp only [Prod.mk.injEq] at h
      rename_i ha
      exact absurd h.2 ha

theorem casesE_good : ∀ (cs seen : List CaseD), casesE seen cs = 0 → ∀ c ∈ cs, badC c = false
  | [], _, _, c, hc => by cases hc
  | d :: r, seen, h, c, hc => by
    rw [casesE] at h
    split at h
    · simp at h
    · rename_i hd
      split at h
      · simp at h
      · rcases List.mem_cons.1 hc with rfl | hc
        · simpa using hd
        · exact casesE_good r _ h c hc
theorem badC_no {c : CaseD} (h : badC c = false) : 0 ≤ c.chan ∧ c.chan < 8 ∧ (c.send = false → c.v = 0) := by
  simp [badC] at h
  obtain ⟨⟨h1, h2⟩, h3⟩ := h
  refine ⟨h1, h2, fun hs => ?_⟩
  by_cases hv : c.v = 0
  · exact hv
  · have := h3 hv; rw [hs] at this; cases this

/-- What Check takes. -/
structure Taken (o : OpD) : Prop where
  kind : isKindB o.kind = true
  takes : takesB (shapeOf o.kind.toNat) o.n o.v o.wait o.cases.length = true
  cases : casesE [] o.cases = 0
  many : (shapeOf o.kind.toNat).picks = true → o.cases.length ≤ 4
theorem taken_of {o : OpD} (h : checkD o = 0) : Taken o := by
  unfold checkD at h
  split at h
  · rename_i hk
    split at h
    · rename_i ht
      split at h
      · simp at h
      · rename_i hm
        refine ⟨hk, ht, h, fun hp => ?_⟩
        rw [hp] at hm
        simp at hm
        omega
    · simp at h
  · simp at h
theorem taken_wait {o : OpD} (h : Taken o) : -1 ≤ o.wait ∧ o.wait ≤ 1000 := by
  have := h.takes
  simp [takesB] at this
  omega

theorem read_words {o : OpD} (h : Taken o) (hi : In64 o) : ∃ k : Nat, (k : Int) = o.kind ∧ k ≠ 0 ∧ ∃ w r, wordsD o = w :: r ∧ kindOf w = k ∧ fitsB (shapeOf k) (w :: r) = true ∧ readD k r = (o, 0) := by
  have ht := h.takes
  have hw := taken_wait h
  have hk := kind_cases h.kind
  have hc := casesOf_words o.cases hi.cases (fun c hc => (badC_no (casesE_good _ _ h.cases c hc)).2.2)
  have ha := areB_words o.cases
  have hn := num_it hi.n
  have hv := num_it hi.v
  have hwt := waitOf_T hw.1 hw.2
  obtain ⟨kd, n, v, wt, cs⟩ := o
  simp only at hk ht hn hv hwt hc ha
  rcases hk with rfl | rfl | rfl | rfl | rfl | rfl | rfl | rfl | rfl
  · simp [takesB, shapeOf] at ht
    obtain ⟨⟨⟨_, rfl⟩, ⟨rfl, _⟩, _⟩, rfl⟩ := ht
    exact ⟨1, rfl, by decide, [114, 117, 110], [Lib.itoa n], rfl, by decide, rfl, by simp [readD, hn]⟩
  · simp [takesB, shapeOf] at ht
    obtain ⟨⟨⟨_, rfl⟩, ⟨rfl, _⟩, _⟩, rfl⟩ := ht
    exact ⟨2, rfl, by decide, [108, 111, 99, 107], [Lib.itoa n], rfl, by decide, rfl, by simp [readD, hn]⟩
  · simp [takesB, shapeOf] at ht
    obtain ⟨⟨⟨_, rfl⟩, ⟨rfl, _⟩, _⟩, rfl⟩ := ht
    exact ⟨3, rfl, by decide, [117, 110, 108, 111, 99, 107], [Lib.itoa n], rfl, by decide, rfl, by simp [readD, hn]⟩
  · simp [takesB, shapeOf] at ht
    obtain ⟨_, rfl⟩ := ht
    exact ⟨4, rfl, by decide, [115, 101, 110, 100], [Lib.itoa n, Lib.itoa v, waitT wt], rfl, by decide, rfl, by simp [readD, hn, hv, hwt]⟩
  · simp [takesB, shapeOf] at ht
    obtain ⟨⟨⟨_, rfl⟩, _⟩, rfl⟩ := ht
    exact ⟨5, rfl, by decide, [114, 101, 99, 118], [Lib.itoa n, waitT wt], rfl, by decide, rfl, by simp [readD, hn, hwt]⟩
  · simp [takesB, shapeOf] at ht
    obtain ⟨⟨⟨_, rfl⟩, ⟨rfl, _⟩, _⟩, rfl⟩ := ht
    exact ⟨6, rfl, by decide, [99, 108, 111, 115, 101], [Lib.itoa n], rfl, by decide, rfl, by simp [readD, hn]⟩
  · simp [takesB, shapeOf] at ht
    obtain ⟨⟨⟨_, _⟩, rfl⟩, _⟩ := ht
    obtain rfl : n = 0 := by omega
    refine ⟨7, rfl, by decide, [115, 101, 108, 101, 99, 116], waitT wt :: cs.flatMap caseW, rfl, by decide, ?_, by simp [readD, hwt, hc]⟩
    unfold fitsB
    rw [if_neg (by simp [aheadN, shapeOf])]
    exact ha
  · simp [takesB, shapeOf] at ht
    obtain ⟨⟨⟨_, rfl⟩, ⟨rfl, _⟩, _⟩, rfl⟩ := ht
    exact ⟨8, rfl, by decide, [108, 111, 111, 112], [Lib.itoa n], rfl, by decide, rfl, by simp [readD, hn]⟩
  · simp [takesB, shapeOf] at ht
    obtain ⟨⟨⟨⟨_, _⟩, rfl⟩, ⟨rfl, _⟩, _⟩, rfl⟩ := ht
    obtain rfl : n = 0 := by omega
    exact ⟨9, rfl, by decide, [101, 110, 100], [], rfl, by decide, rfl, rfl⟩

/-- There and back. -/
theorem parse_text {o : OpD} (h : checkD o = 0) (hi : In64 o) : parseD (textD o) = (o, 0) := by
  have ht := taken_of h
  obtain ⟨k, hk, hk0, w, r, h1, h2, h3, h4⟩ := read_words ht hi
  unfold parseD
  rw [split_words o ht.kind, h1]
  show parseW (w :: r) = _
  unfold parseW
  simp only [h2, if_neg hk0, h3, if_true, h4, checked, h]

theorem checked_inv {x : OpD × Int} {o : OpD} (h : checked x = (o, 0)) : x = (o, 0) ∧ checkD o = 0 := by
  unfold checked at h
  split at h
  · split at h
    · rename_i hc
      subst h
      exact ⟨rfl, hc⟩
    · rename_i hc
      simp only [Prod.mk.injEq] at h
      exact absurd h.2 hc
  · rename_i hx
    simp only [Prod.mk.injEq] at h
    exact absurd h.2 hx
theorem kindOf_word {w : List UInt8} (h : kindOf w ≠ 0) : (shapeOf (kindOf w)).word = w ∧ 1 ≤ kindOf w ∧ kindOf w ≤ 9 := by
  unfold kindOf at h ⊢
  split <;> (try (rename_i e; subst e; decide))
  split <;> (try (rename_i e; subst e; decide))
  split <;> (try (rename_i e; subst e; decide))
  split <;> (try (rename_i e; subst e; decide))
  split <;> (try (rename_i e; subst e; decide))
  split <;> (try (rename_i e; subst e; decide))
  split <;> (try (rename_i e; subst e; decide))
  split <;> (try (rename_i e; subst e; decide))
  split <;> (try (rename_i e; subst e; decide))
  rename_i h1 h2 h3 h4 h5 h6 h7 h8 h9
  simp [h1, h2, h3, h4, h5, h6, h7, h8, h9] at h
theorem pair_ne {o : OpD} {x : OpD} {e : Int} (h : (x, e) = (o, (0 : Int))) (he : e ≠ 0) : False := by
  simp only [Prod.mk.injEq] at h
  exact he h.2
theorem words_read {k : Nat} (hk : 1 ≤ k ∧ k ≤ 9) {r : List (List UInt8)} {o : OpD} (hf : fitsB (shapeOf k) ((shapeOf k).word :: r) = true) (h : readD k r = (o, 0)) : wordsD o = (shapeOf k).word :: r := by
  have hk' : k = 4 ∨ k = 5 ∨ k = 7 ∨ k = 9 ∨ (k = 1 ∨ k = 2 ∨ k = 3 ∨ k = 6 ∨ k = 8) := by omega
  rcases hk' with rfl | rfl | rfl | rfl | hk'
  · unfold readD at h
    rw [if_pos rfl] at h
    split at h
    · rename_i a b c
      split at h <;> (try exact (pair_ne h (by assumption)).elim)
      split at h <;> (try exact (pair_ne h (by assumption)).elim)
      split at h <;> (try exact (pair_ne h (by assumption)).elim)
      rename_i h1 h2 h3
      simp only [Prod.mk.injEq, and_true] at h
      subst h
      show [_, Lib.itoa _, Lib.itoa _, waitT _] = _
      rw [itoa_num (pair_fst h1), itoa_num (pair_fst h2), (waitT_of (pair_fst h3)).1]
      rfl
    · simp at h
  · unfold readD at h
    rw [if_neg (by decide), if_pos rfl] at h
    split at h
    · rename_i a c
      split at h <;> (try exact (pair_ne h (by assumption)).elim)
      split at h <;> (try exact (pair_ne h (by assumption)).elim)
      rename_i h1 h3
      simp only [Prod.mk.injEq, and_true] at h
      subst h
      show [_, Lib.itoa _, waitT _] = _
      rw [itoa_num (pair_fst h1), (waitT_of (pair_fst h3)).1]
      rfl
    · simp at h
  · unfold readD at h
    rw [if_neg (by decide), if_neg (by decide), if_pos rfl] at h
    split at h
    · rename_i c t
      split at h <;> (try exact (pair_ne h (by assumption)).elim)
      split at h <;> (try exact (pair_ne h (by assumption)).elim)
      rename_i h1 h2
      simp only [Prod.mk.injEq, and_true] at h
      subst h
      have ha : areB t = true := by
        unfold fitsB at hf
        rw [if_neg (by simp [aheadN, shapeOf])] at hf
        exact hf
      have := words_casesOf t.length t _ (Nat.le_refl _) ha (show casesOf t = ((casesOf t).1, 0) by rw [← h2])
      show [_] ++ [] ++ [] ++ [waitT _] ++ _ = _
      rw [(waitT_of (pair_fst h1)).1]
      simp only [shapeOf]
      rw [show (List.flatMap caseW (casesOf t).1) = t from this]
      rfl
    · simp at h
  · unfold readD at h
    rw [if_neg (by decide), if_neg (by decide), if_neg (by decide), if_pos rfl] at h
    split at h
    · simp only [Prod.mk.injEq, and_true] at h
      subst h
      rfl
    · simp at h
  · unfold readD at h
    rw [if_neg (by omega), if_neg (by omega), if_neg (by omega), if_neg (by omega)] at h
    split at h
    · rename_i a
      split at h <;> (try exact (pair_ne h (by assumption)).elim)
      rename_i h1
      simp only [Prod.mk.injEq, and_true] at h
      subst h
      have hi := itoa_num (pair_fst h1)
      rcases hk' with rfl | rfl | rfl | rfl | rfl <;> (show [_, Lib.itoa _] = _; rw [hi]; rfl)
    · simp at h
/-- What is one is told so again. -/
theorem text_parse {s : List UInt8} {o : OpD} (h : parseD s = (o, 0)) : textD o = s ∧ checkD o = 0 := by
  unfold parseD at h
  split at h
  · simp at h
  · rename_i ws hs
    unfold parseW at h
    split at h
    · simp at h
    · rename_i w r
      split at h
      · simp at h
      · rename_i hk
        split at h
        · rename_i hf
          obtain ⟨h1, h2⟩ := checked_inv h
          obtain ⟨e1, e2⟩ := kindOf_word hk
          have := words_read e2 (by rw [e1]; exact hf) h1
          rw [e1] at this
          exact ⟨by unfold textD; rw [this]; exact splitOf_join s _ hs, h2⟩
        · simp at h

theorem sameC_iff (a b : CaseD) : sameC a b = true ↔ a = b := by
  obtain ⟨a1, a2, a3⟩ := a
  obtain ⟨b1, b2, b3⟩ := b
  simp [sameC, and_assoc]
theorem sameL_iff : ∀ a b : List CaseD, sameL a b = true ↔ a = b
  | [], [] => by simp [sameL]
  | [], _ :: _ => by simp [sameL]
  | _ :: _, [] => by simp [sameL]
  | a :: r, b :: t => by simp [sameL, sameC_iff, sameL_iff r t]
theorem sameD_iff (a b : OpD) : sameD a b = true ↔ a = b := by
  obtain ⟨a1, a2, a3, a4, a5⟩ := a
  obtain ⟨b1, b2, b3, b4, b5⟩ := b
  simp [sameD, sameL_iff, and_assoc]
theorem sameD_self (a : OpD) : sameD a a = true := (sameD_iff a a).2 rfl
theorem sameD_symm (a b : OpD) : sameD a b = sameD b a := by
  rw [Bool.eq_iff_iff, sameD_iff, sameD_iff]
  exact eq_comm
/-- Two that are taken are told alike just where they are alike. -/
theorem text_apart {a b : OpD} (ha : checkD a = 0) (hb : checkD b = 0) (ia : In64 a) (ib : In64 b) : (textD a == textD b) = sameD a b := by
  rw [Bool.eq_iff_iff, sameD_iff, beq_iff_eq]
  constructor
  · intro h
    have h1 := parse_text ha ia
    rw [h, parse_text hb ib] at h1
    simp only [Prod.mk.injEq, and_true] at h1
    exact h1.symm
  · intro h; rw [h]

/-- A channel's number that is none, told otherwise. -/
def clC (f : Int → Int) (c : CaseD) : CaseD := ⟨c.send, f c.chan, c.v⟩
structure Cl (f : Int → Int) : Prop where
  ok : ∀ n, 0 ≤ n → n < 8 → f n = n
  no : ∀ n, n < 0 ∨ 8 ≤ n → f n < 0 ∨ 8 ≤ f n
theorem clC_good {f : Int → Int} (hf : Cl f) {c : CaseD} (h : badC c = false) : clC f c = c := by
  have := badC_no h
  obtain ⟨a, b, d⟩ := c
  simp only [clC, hf.ok b this.1 this.2.1]
theorem clC_bad {f : Int → Int} (hf : Cl f) {c : CaseD} (h : badC c = true) : badC (clC f c) = true := by
  obtain ⟨a, b, d⟩ := c
  by_cases hb : 0 ≤ b ∧ b < 8
  · have : clC f ⟨a, b, d⟩ = ⟨a, b, d⟩ := by simp only [clC, hf.ok b hb.1 hb.2]
    rw [this]; exact h
  · rcases hf.no b (by omega) with h | h
    · simp [badC, clC, h]
    · simp [badC, clC, h]
theorem casesE_cl {f : Int → Int} (hf : Cl f) : ∀ (cs seen : List CaseD), casesE seen (cs.map (clC f)) = casesE seen cs
  | [], _ => rfl
  | c :: r, seen => by
    rw [List.map_cons, casesE, casesE]
    cases h : badC c with
    | true => rw [clC_bad hf h]; rfl
    | false => rw [clC_good hf h, h, casesE_cl hf r]
theorem map_cl {f : Int → Int} (hf : Cl f) : ∀ (cs : List CaseD), (∀ c ∈ cs, badC c = false) → cs.map (clC f) = cs
  | [], _ => rfl
  | c :: r, h => by rw [List.map_cons, clC_good hf (h c List.mem_cons_self), map_cl hf r (fun d hd => h d (List.mem_cons_of_mem _ hd))]
def clO (f : Int → Int) (o : OpD) : OpD := ⟨o.kind, o.n, o.v, o.wait, o.cases.map (clC f)⟩
theorem checkD_cl {f : Int → Int} (hf : Cl f) (o : OpD) : checkD (clO f o) = checkD o := by
  unfold checkD clO
  simp only [List.length_map, casesE_cl hf]
theorem clO_taken {f : Int → Int} (hf : Cl f) {o : OpD} (h : checkD o = 0) : clO f o = o := by
  have := casesE_good _ _ (taken_of h).cases
  unfold clO
  rw [map_cl hf _ this]
def chan8 (n : Int) : Int := if n < 0 ∨ 8 ≤ n then -1 else n
def chan40 (n : Int) : Int := if n < -1099511627776 ∨ 1099511627776 < n then -1 else n
theorem cl8 : Cl chan8 := ⟨fun n h0 h1 => by rw [chan8, if_neg (by omega)], fun n h => by rw [chan8, if_pos h]; omega⟩
theorem cl40 : Cl chan40 := ⟨fun n h0 h1 => by rw [chan40, if_neg (by omega)], fun n h => by unfold chan40; split <;> omega⟩
/-- What comes of a reading whose channels are told otherwise. -/
theorem checked_cl {f : Int → Int} (hf : Cl f) (x : OpD × Int) : checked (clO f x.1, x.2) = checked x := by
  unfold checked
  simp only [checkD_cl hf]
  split
  · split
    · rename_i h1 h2
      rw [clO_taken hf h2]
    · rfl
  · rfl
end Go.Proofs.YtlkbphogpbcjfaaGreatDoor
namespace Go.Proofs.YtlkbphogpbcjfaaGreatDoor

/-- One op between two: m has a bit for each lock that is held; lp is what each open Loop began with, the innermost one first. -/
def takeM (m : Nat) (lp : List Nat) (o : OpD) : Option (Nat × List Nat) :=
  if o.kind = 2 then (if m < 2 ^ o.n.toNat then some (m + 2 ^ o.n.toNat, lp) else none)
  else if o.kind = 3 then (if 2 ^ o.n.toNat ≤ m ∧ m < 2 * 2 ^ o.n.toNat then some (m - 2 ^ o.n.toNat, lp) else none)
  else if o.kind = 8 then (if lp.length = 3 then none else some (m, m :: lp))
  else if o.kind = 9 then (match lp with
    | [] => none
    | x :: r => if x = m then some (m, r) else none)
  else if m = 0 ∨ waitsD o = false then some (m, lp) else none
/-- The order of ops: at which place it is wrong, and the error. -/
def ordGo (i m : Nat) (lp : List Nat) : List OpD → Nat × Int
  | [] => (0, 0)
  | o :: r => match takeM m lp o with
    | none => (i, 11)
    | some (m', lp') => if r = [] ∧ (m' ≠ 0 ∨ lp' ≠ []) then (i, 11) else ordGo (i + 1) m' lp' r
/-- Op by op. -/
def eachGo (i : Nat) : List OpD → Nat × Int
  | [] => (0, 0)
  | o :: r => if checkD o = 0 then eachGo (i + 1) r else (i, checkD o)
/-- How often each op is done; the innermost Loop's rounds first. -/
def timesGo : List Int → List OpD → List Int
  | _, [] => []
  | st, o :: r => if o.kind = 8 then 0 :: timesGo ((st.headD 1 * o.n) :: st) r else if o.kind = 9 then 0 :: timesGo (if 1 < st.length then st.tail else st) r else st.headD 1 :: timesGo st r
def sumL : List Int → Int
  | [] => 0
  | x :: r => x + sumL r
def stepsD (p : List OpD) : Int := sumL (timesGo [1] p)
def checkP (p : List OpD) : Nat × Int :=
  if 48 < p.length then (0, 18) else if (eachGo 0 p).2 = 0 then (if (ordGo 0 0 [] p).2 = 0 then (if 512 < stepsD p then (0, 4) else (0, 0)) else ordGo 0 0 [] p) else eachGo 0 p

def rep (n : Nat) (g : List OpD) : List OpD := (List.replicate n g).flatten
/-- p is in order, its loops at most d deep; m is held ahead of it, m' behind it; f is all that is done. -/
inductive Bal : Nat → Nat → Nat → List OpD → List OpD → Prop
  | nil (d m : Nat) : Bal d m m [] []
  | one {d m m1 m' : Nat} {o : OpD} {p f : List OpD} (h8 : o.kind ≠ 8) (h9 : o.kind ≠ 9) (ht : takeM m [] o = some (m1, [])) (hp : Bal d m1 m' p f) : Bal d m m' (o :: p) (o :: f)
  | loop {d m m' : Nat} {o e : OpD} {b g p f : List OpD} (h8 : o.kind = 8) (h9 : e.kind = 9) (hb : Bal d m m b g) (hp : Bal (d + 1) m m' p f) : Bal (d + 1) m m' (o :: (b ++ e :: p)) (rep o.n.toNat g ++ f)

/-- All ops one behind the other. -/
def runM (m : Nat) (lp : List Nat) : List OpD → Option (Nat × List Nat)
  | [] => some (m, lp)
  | o :: r => match takeM m lp o with
    | none => none
    | some (m', lp') => runM m' lp' r

theorem take_plain {m : Nat} {lp : List Nat} {o : OpD} (h8 : o.kind ≠ 8) (h9 : o.kind ≠ 9) {x : Nat × List Nat} (h : takeM m lp o = some x) : takeM m [] o = some (x.1, []) ∧ x.2 = lp := by
  unfold takeM at h ⊢
  split at h
  · rename_i hk
    rw [if_pos hk]
    split at h
    · rename_i hc
      cases h
      rw [if_pos hc]
      exact ⟨rfl, rfl⟩
    · cases h
  · rename_i hk
    rw [if_neg hk]
    split at h
    · rename_i hk3
      rw [if_pos hk3]
      split at h
      · rename_i hc
        cases h
        rw [if_pos hc]
        exact ⟨rfl, rfl⟩
      · cases h
    · rename_i hk3
      rw [if_neg hk3, if_neg h8, if_neg h9]
      split at h
      · rename_i hc
        cases h
        rw [if_pos hc]
        exact ⟨rfl, rfl⟩
      · cases h
theorem take_loop {m : Nat} {lp : List Nat} {o : OpD} (h8 : o.kind = 8) {x : Nat × List Nat} (h : takeM m lp o = some x) : lp.length ≠ 3 ∧ x = (m, m :: lp) := by
  unfold takeM at h
  rw [if_neg (by omega), if_neg (by omega), if_pos h8] at h
  split at h
  · cases h
  · rename_i hc
    cases h
    exact ⟨hc, rfl⟩
theorem take_end {m : Nat} {lp : List Nat} {o : OpD} (h9 : o.kind = 9) {x : Nat × List Nat} (h : takeM m lp o = some x) : ∃ r, lp = m :: r ∧ x = (m, r) := by
  unfold takeM at h
  rw [if_neg (by omega), if_neg (by omega), if_neg (by omega), if_pos h9] at h
  split at h
  · cases h
  · split at h
    · rename_i hx
      cases h
      subst hx
      exact ⟨_, rfl, rfl⟩
    · cases h
/-- What runs to an end without an open Loop is in order, up to the End of each Loop that was open ahead of it. -/
theorem run_bal : ∀ (k : Nat) (p : List OpD) (m : Nat) (lp : List Nat) (m' : Nat), p.length ≤ k → lp.length ≤ 3 → runM m lp p = some (m', []) →
    (lp = [] → ∃ f, Bal 3 m m' p f) ∧ (∀ x r, lp = x :: r → ∃ b g e q, p = b ++ e :: q ∧ e.kind = 9 ∧ Bal (3 - lp.length) m x b g ∧ runM x r q = some (m', []))
  | k, [], m, lp, m', _, _, h => by
    simp only [runM, Option.some.injEq, Prod.mk.injEq] at h
    obtain ⟨rfl, rfl⟩ := h
    exact ⟨fun _ => ⟨[], .nil _ _⟩, fun x r e => by cases e⟩
  | 0, _ :: _, _, _, _, hk, _, _ => by simp at hk
  | k + 1, o :: p, m, lp, m', hk, hl, h => by
    have hk' : p.length ≤ k := by simp at hk; omega
    rw [runM] at h
    cases ht : takeM m lp o with
    | none => rw [ht] at h; cases h
    | some y =>
      rw [ht] at h
      obtain ⟨m1, lp1⟩ := y
      simp only at h
      by_cases h8 : o.kind = 8
      · obtain ⟨hl3, hx⟩ := take_loop h8 ht
        cases hx
        have ih := (run_bal k p m (m :: lp) m' hk' (by simp; omega) h).2 m lp rfl
        obtain ⟨b, g, e, q, rfl, he, hb, hq⟩ := ih
        have hq2 := run_bal k q m lp m' (by simp at hk'; omega) hl hq
        refine ⟨fun e0 => ?_, fun x r e0 => ?_⟩
        · obtain ⟨f, hf⟩ := hq2.1 e0
          subst e0
          exact ⟨_, .loop h8 he (by simpa using hb) hf⟩
        · obtain ⟨b2, g2, e2, q2, rfl, he2, hb2, hr2⟩ := hq2.2 x r e0
          refine ⟨o :: (b ++ e :: b2), rep o.n.toNat g ++ g2, e2, q2, by simp, he2, ?_, hr2⟩
          have hd : 3 - lp.length = (3 - (m :: lp).length) + 1 := by simp; omega
          rw [hd] at hb2 ⊢
          exact .loop h8 he hb hb2
      · by_cases h9 : o.kind = 9
        · obtain ⟨r, rfl, hx⟩ := take_end h9 ht
          cases hx
          refine ⟨(fun e0 => by cases e0), fun x r' e0 => ?_⟩
          cases e0
          exact ⟨[], [], o, p, rfl, h9, .nil _ _, h⟩
        · obtain ⟨ht1, hx⟩ := take_plain h8 h9 ht
          simp only at hx ht1
          subst hx
          have ih := run_bal k p m1 lp1 m' hk' hl h
          refine ⟨fun e0 => ?_, fun x r e0 => ?_⟩
          · obtain ⟨f, hf⟩ := ih.1 e0
            exact ⟨_, .one h8 h9 ht1 hf⟩
          · obtain ⟨b, g, e, q, rfl, he, hb, hq⟩ := ih.2 x r e0
            exact ⟨o :: b, o :: g, e, q, rfl, he, .one h8 h9 ht1 hb, hq⟩
theorem ord_run : ∀ (p : List OpD) (i m : Nat) (lp : List Nat), p ≠ [] → (ordGo i m lp p).2 = 0 → runM m lp p = some (0, [])
  | [], _, _, _, hn, _ => absurd rfl hn
  | o :: r, i, m, lp, _, h => by
    rw [ordGo] at h
    rw [runM]
    cases ht : takeM m lp o with
    | none => rw [ht] at h; simp at h
    | some y =>
      rw [ht] at h
      obtain ⟨m1, lp1⟩ := y
      simp only at h ⊢
      by_cases hr : r = []
      · subst hr
        split at h
        · simp at h
        · rename_i hc
          simp at hc
          rw [runM, hc.1, hc.2]
      · rw [if_neg (fun x => hr x.1)] at h
        exact ord_run r (i + 1) m1 lp1 hr h
/-- A program that is in order. -/
theorem ord_bal {p : List OpD} (h : (ordGo 0 0 [] p).2 = 0) : ∃ f, Bal 3 0 0 p f := by
  by_cases hp : p = []
  · subst hp
    exact ⟨[], .nil _ _⟩
  · exact (run_bal p.length p 0 [] 0 (Nat.le_refl _) (by simp) (ord_run p 0 0 [] hp h)).1 rfl
theorem each_all : ∀ (p : List OpD) (i : Nat), (eachGo i p).2 = 0 → ∀ o ∈ p, checkD o = 0
  | [], _, _, o, ho => by cases ho
  | x :: r, i, h, o, ho => by
    rw [eachGo] at h
    split at h
    · rename_i hx
      rcases List.mem_cons.1 ho with rfl | ho
      · exact hx
      · exact each_all r (i + 1) h o ho
    · rename_i hx
      exact absurd h hx
theorem all_each : ∀ (p : List OpD) (i : Nat), (∀ o ∈ p, checkD o = 0) → eachGo i p = (0, 0)
  | [], _, _ => rfl
  | x :: r, i, h => by
    rw [eachGo, if_pos (h x (by simp))]
    exact all_each r (i + 1) (fun o ho => h o (by simp [ho]))
theorem rep_mem {n : Nat} {g : List OpD} {o : OpD} (h : o ∈ rep n g) : o ∈ g := by
  unfold rep at h
  simp only [List.mem_flatten, List.mem_replicate] at h
  obtain ⟨l, ⟨_, rfl⟩, hl⟩ := h
  exact hl
/-- What is done is of the program. -/
theorem bal_mem {d m m' : Nat} {p f : List OpD} (h : Bal d m m' p f) : ∀ o ∈ f, o ∈ p ∧ o.kind ≠ 8 ∧ o.kind ≠ 9 := by
  induction h with
  | nil => intro o ho; cases ho
  | one h8 h9 _ _ ih =>
    intro o ho
    rcases List.mem_cons.1 ho with rfl | ho
    · exact ⟨by simp, h8, h9⟩
    · exact ⟨by simp [(ih o ho).1], (ih o ho).2⟩
  | loop h8 h9 _ _ ihb ihp =>
    intro o ho
    rcases List.mem_append.1 ho with ho | ho
    · have := ihb o (rep_mem ho)
      exact ⟨by simp [this.1], this.2⟩
    · have := ihp o ho
      exact ⟨by simp [this.1], this.2⟩
end Go.Proofs.YtlkbphogpbcjfaaGreatDoor
