/- The reference's Locks and into. The reference's Section. The reference's Need. -/
import Derived.Test.YtlkbphogpbcjfaaDoorQLs
import Derived.Test.YtlkbphogpbcjfaaDoorQbase
import Derived.Test.YtlkbphogpbcjfaaDoorQUf
import Derived.Test.YtlkbphogpbcjfaaDoorQSt
namespace Go.Proofs.YtlkbphogpbcjfaaDoor
open Go.RowKit

/-- A number in its place, once. -/
def intoD : List Int → Int → List Int
  | [], n => [n]
  | x :: r, n => if x < n then x :: intoD r n else if x = n then x :: r else n :: x :: r
theorem intoD_mem : ∀ (l : List Int) (n x : Int), x ∈ intoD l n ↔ x = n ∨ x ∈ l
  | [], n, x => by simp [intoD]
  | y :: r, n, x => by
    rw [intoD]
    split
    · rw [List.mem_cons, intoD_mem r n x, List.mem_cons]
      constructor
      · rintro (h | h | h) <;> simp [h]
      · rintro (h | h | h) <;> simp [h]
    · split
      · rename_i h1 h2
        subst h2
        simp
      · simp
theorem intoD_sorted : ∀ (l : List Int) (n : Int), l.Pairwise (· < ·) → (intoD l n).Pairwise (· < ·)
  | [], n, _ => by simp [intoD]
  | y :: r, n, h => by
    rw [List.pairwise_cons] at h
    rw [intoD]
    split
    · rename_i h1
      rw [List.pairwise_cons]
      refine ⟨fun z hz => ?_, intoD_sorted r n h.2⟩
      rcases (intoD_mem r n z).1 hz with e | e
      · omega
      · exact h.1 z e
    · split
      · rw [List.pairwise_cons]
        exact h
      · rw [List.pairwise_cons, List.pairwise_cons]
        refine ⟨fun z hz => ?_, h⟩
        rcases List.mem_cons.1 hz with e | e
        · omega
        · have := h.1 z e
          omega
theorem intoD_at : ∀ (l : List Int) (n : Int) (k : Nat), k ≤ l.length → (∀ x ∈ l.take k, x < n) → (∀ x, l[k]? = some x → n ≤ x) → intoD l n = if l[k]? = some n then l else l.take k ++ [n] ++ l.drop k
  | [], n, k, hk, _, _ => by
    have : k = 0 := by simpa using hk
    subst this
    simp [intoD]
  | y :: r, n, 0, _, _, h2 => by
    have hy := h2 y rfl
    rw [intoD, if_neg (by omega)]
    by_cases e : y = n
    · subst e
      simp
    · rw [if_neg e, if_neg (by simpa using e)]
      simp
  | y :: r, n, k + 1, hk, h1, h2 => by
    have hy := h1 y (by simp)
    rw [intoD, if_pos hy, intoD_at r n k (by simpa using hk) (fun x hx => h1 x (by simp [hx])) (fun x hx => h2 x (by simpa using hx))]
    by_cases e : r[k]? = some n
    · rw [if_pos e, if_pos (by simpa using e)]
    · rw [if_neg e, if_neg (by simpa using e)]
      simp
def foldI (l : List Int) : List Int := l.foldl intoD []
theorem foldI_next (l : List Int) (n : Int) : foldI (l ++ [n]) = intoD (foldI l) n := by simp [foldI]
theorem foldl_into : ∀ (l acc : List Int), acc.Pairwise (· < ·) → (l.foldl intoD acc).Pairwise (· < ·) ∧ ∀ x, x ∈ l.foldl intoD acc ↔ x ∈ acc ∨ x ∈ l
  | [], acc, h => ⟨h, fun x => by simp⟩
  | y :: r, acc, h => by
    obtain ⟨h1, h2⟩ := foldl_into r (intoD acc y) (intoD_sorted acc y h)
    refine ⟨h1, fun x => ?_⟩
    rw [List.foldl_cons, h2, intoD_mem, List.mem_cons]
    constructor
    · rintro ((h | h) | h) <;> simp [h]
    · rintro (h | h | h) <;> simp [h]
theorem foldI_locks (p : List OpD) : foldI (lockNs p) = locksD p := by
  obtain ⟨h1, h2⟩ := foldl_into (lockNs p) [] List.Pairwise.nil
  exact strict_ext _ _ h1 (locksD_strict p) (fun x => by unfold foldI; rw [h2, locksD_mem]; simp)
theorem intoD_len : ∀ (l : List Int) (n : Int), (intoD l n).length ≤ l.length + 1
  | [], n => by simp [intoD]
  | y :: r, n => by
    rw [intoD]
    have := intoD_len r n
    split
    · simp only [List.length_cons]; omega
    · split <;> simp
theorem foldI_len (l : List Int) : (foldI l).length ≤ l.length := by
  have h : ∀ (l acc : List Int), (l.foldl intoD acc).length ≤ acc.length + l.length := by
    intro l
    induction l with
    | nil => intro acc; simp
    | cons y r ih =>
      intro acc
      have h1 := ih (intoD acc y)
      have h2 := intoD_len acc y
      simp only [List.foldl_cons, List.length_cons]
      omega
  have := h l []
  simpa [foldI] using this

/-- Numbers that lie somewhere, behind a row of the call's own. -/
theorem wpList_app_nums (w : World) {ops : Array Oper} {rest : List Oper} {o : Oper} {a : Act} {Q : Exit → Act → World → Prop} (hw : Region.wanted o (yielded ops a.tmps) = true) (s x : Operand)
    (ho : o.op = .call { callee := .builtin .append, args := #[s, x], argTypes := #[64, 64] }) (base : Nat) (v1 : Value) (l1 : List Int) (hs : a.eval s = v1) (ca0 : Option Addr) (n cc : Nat) (l : List Int) (hln : n = l.length) (hx : a.eval x = .slice ca0 n cc) (hn : ca0 = none → cc = 0) (hA : AtI w ca0 l) (h1 : IRow 3 base w v1 l1) (hl1 : l1.length ≤ 1000000) (hl : l.length ≤ 1000000) (hB : base ≤ w.heap.size)
    (h : ∀ v w', IRow 3 base w' v (l1 ++ l) → Turns (fun k => v1.ownBlock = some k) w w' → wpList Tryd.prog ops Q rest (a.put o.dst v) w') : wpList Tryd.prog ops Q (o :: rest) a w := by
  subst hln
  refine wpList_step fun K hK => ?_
  rw [if_pos hw]
  obtain ⟨i, hi, hz0, hz1, hz2⟩ := info_parts nInt.inf
  have h0 : w.ownsRow base 3 1 v1 l1.length (l1.map intV) := h1
  cases ca0 with
  | none =>
    have hl0 : l = [] := by
      cases l with
      | nil => rfl
      | cons c r =>
        obtain ⟨b, f, e, _⟩ := hA 0 c rfl
        cases e
    subst hl0
    have hc0 := hn rfl
    subst hc0
    have hrun := run_append_owned_none (P := Tryd.prog) w base 64 o.type 3 i 1 nInt.und hi v1 l1.length (l1.map intV) h0
    unfold Oper.wp
    simp [execOp, ho, resolve, invoke, builtin, hs, hx, hrun, Result.andThen]
    exact hK _ _ (h _ _ (by rw [List.append_nil]; exact h1) (Turns.refl _ _))
  | some ca =>
  have hsrc : ∀ j u, (l.map intV)[j]? = some u → w.cell? (Addr.add ca j) = some u := by
    intro j u hu
    rw [List.getElem?_map] at hu
    cases hj : l[j]? with
    | none => rw [hj] at hu; simp at hu
    | some y =>
      rw [hj] at hu
      simp at hu
      subst hu
      obtain ⟨b, f, e, hc⟩ := hA j y hj
      cases e
      rw [Addr.add_lit]
      exact hc
  obtain ⟨v', w', hr, k1, k2, k3, k4⟩ := run_append_own_at (P := Tryd.prog) w base 64 o.type 3 i _ 1 8 nInt.und hi hz0 hz1 hz2 rfl (by omega) v1 l1.length (l1.map intV) h0 ca l.length cc (l.map intV) (by simp) hsrc (int_ones l) (by unfold maxLen; omega) (by omega) hB
  unfold Oper.wp
  simp [execOp, ho, resolve, invoke, builtin, hs, hx, hr, Result.andThen]
  refine hK _ _ (h v' w' ?_ (Turns.grown k2 (fun k e => e)))
  unfold IRow
  rw [List.length_append, List.map_append]
  exact k1
theorem atI_drop {w : World} {b f : Nat} {l : List Int} (h : AtI w (some ⟨b, f, none⟩) l) (k : Nat) : AtI w (some ⟨b, f + k, none⟩) (l.drop k) := by
  intro j x hj
  rw [List.getElem?_drop] at hj
  obtain ⟨b', f', e, hc⟩ := h (k + j) x hj
  cases e
  exact ⟨b, f + k, rfl, by rw [Nat.add_assoc]; exact hc⟩
theorem atI_take {w : World} {a : Option Addr} {l : List Int} (h : AtI w a l) (k : Nat) : AtI w a (l.take k) := by
  intro j x hj
  rw [List.getElem?_take] at hj
  split at hj
  · exact h j x hj
  · cases hj
theorem irow_form {B : Nat} {w : World} {v : Value} {l : List Int} (h : IRow 3 B w v l) : (v = .slice none 0 0 ∧ l = []) ∨ ∃ g c, v = .slice (some ⟨g, 0, none⟩) l.length c ∧ l.length ≤ c := by
  rcases h.2 with ⟨h1, h2⟩ | ⟨g, cap, cur, h1, _, _, h3, _⟩
  · exact .inl ⟨h1, List.eq_nil_of_length_eq_zero h2⟩
  · exact .inr ⟨g, cap, h1, h3⟩

end Go.Proofs.YtlkbphogpbcjfaaDoor
namespace Go.Proofs.YtlkbphogpbcjfaaDoor
open Go.RowKit

theorem balf {d m m' : Nat} {p f : List OpD} (h : Bal d m m' p f) : Bal 0 m m' f f := by
  induction h with
  | nil => exact .nil _ _
  | one h8 h9 ht _ ih => exact .one h8 h9 ht ih
  | @loop d m m' o e b g p f h8 h9 hb _ ihb ihp =>
    have hr : ∀ n : Nat, Bal 0 m m (rep n g) (rep n g) := by
      intro n
      induction n with
      | zero => exact .nil _ _
      | succ n ih => rw [rep_succ]; exact bal_app ih ihb
    exact bal_app (hr _) ihp
def hR (lock : Int) (h : Bool) (o : OpD) : Bool := if o.kind = 2 then (if o.n = lock then true else h) else if o.kind = 3 then (if o.n = lock then false else h) else h
def nR (lock n : Int) (h : Bool) (o : OpD) : Int := if o.kind = 2 then (if o.n = lock then 0 else n) else if o.kind = 1 then (if h = true then n + o.n else n) else n
/-- What the reference's Section counts: the best, what runs now, whether the lock is held. -/
def secR (lock b n : Int) (h : Bool) : List OpD → Int
  | [] => b
  | o :: r => secR lock (if hR lock h o = true ∧ nR lock n h o > b then nR lock n h o else b) (nR lock n h o) (hR lock h o) r
theorem sg_run {lock x c : Int} {o : OpD} {r : List OpD} (h1 : o.kind = 1) : secGo lock x c (o :: r) = secGo lock x (c + o.n) r := by rw [secGo, if_pos h1]
theorem sg_lock {lock x c : Int} {o : OpD} {r : List OpD} (h1 : ¬ o.kind = 1) (h2 : o.kind = 2 ∧ o.n = lock) : secGo lock x c (o :: r) = secGo lock x 0 r := by rw [secGo, if_neg h1, if_pos h2]
theorem sg_unl {lock x c : Int} {o : OpD} {r : List OpD} (h1 : ¬ o.kind = 1) (h2 : ¬ (o.kind = 2 ∧ o.n = lock)) (h3 : o.kind = 3 ∧ o.n = lock) : secGo lock x c (o :: r) = secGo lock (max x c) c r := by rw [secGo, if_neg h1, if_neg h2, if_pos h3]
theorem sg_oth {lock x c : Int} {o : OpD} {r : List OpD} (h1 : ¬ o.kind = 1) (h2 : ¬ (o.kind = 2 ∧ o.n = lock)) (h3 : ¬ (o.kind = 3 ∧ o.n = lock)) : secGo lock x c (o :: r) = secGo lock x c r := by rw [secGo, if_neg h1, if_neg h2, if_neg h3]
theorem rsec_eq (lock : Nat) : ∀ (f : List OpD) (m : Nat) (x n c : Int), Bal 0 m 0 f f → (∀ o ∈ f, 0 ≤ o.n) → (m.testBit lock = false → secR lock x n false f = secGo lock x c f) ∧ (m.testBit lock = true → secR lock (max x c) c true f = secGo lock x c f)
  | [], m, x, n, c, h, _ => by
    cases h
    exact ⟨fun _ => rfl, fun h => by simp at h⟩
  | o :: r, m, x, n, c, h, hn => by
    cases h with
    | @one _ _ m1 _ _ _ _ h8 h9 ht hp =>
      have hn0 := hn o (by simp)
      have hnr : ∀ o ∈ r, 0 ≤ o.n := fun o ho => hn o (by simp [ho])
      obtain ⟨N, hN⟩ : ∃ N : Nat, o.n = (N : Int) := ⟨o.n.toNat, by omega⟩
      unfold takeM at ht
      rw [hN, show ((N : Int)).toNat = N from rfl] at ht
      rw [secR, secR]
      by_cases h1 : o.kind = 1
      · have q2 : ¬ o.kind = 2 := by omega
        have q3 : ¬ o.kind = 3 := by omega
        rw [if_neg q2, if_neg q3, if_neg h8, if_neg h9] at ht
        rw [sg_run h1]
        have e1 : hR lock false o = false := by simp [hR, q2, q3]
        have e2 : hR lock true o = true := by simp [hR, q2, q3]
        have e3 : nR lock n false o = n := by simp [nR, h1]
        have e4 : nR lock c true o = c + o.n := by simp [nR, h1]
        rw [e1, e2, e3, e4]
        split at ht
        · simp at ht
          subst ht
          refine ⟨fun hm => ?_, fun hm => ?_⟩
          · rw [if_neg (by simp)]
            exact (rsec_eq lock r m x n (c + o.n) hp hnr).1 hm
          · have e5 : (if true = true ∧ c + o.n > max x c then c + o.n else max x c) = max x (c + o.n) := by
              by_cases hc : c + o.n > max x c
              · rw [if_pos ⟨rfl, hc⟩]; omega
              · rw [if_neg (fun h => hc h.2)]; omega
            rw [e5]
            exact (rsec_eq lock r m x n (c + o.n) hp hnr).2 hm
        · cases ht
      · by_cases h2 : o.kind = 2
        · rw [if_pos h2] at ht
          split at ht
          · rename_i hlt
            simp at ht
            subst ht
            by_cases hl : o.n = (lock : Int)
            · obtain rfl : N = lock := by omega
              have e1 : ∀ h, hR N h o = true := fun h => by simp [hR, h2, hl]
              have e3 : ∀ z h, nR N z h o = 0 := fun z h => by simp [nR, h2, hl]
              rw [sg_lock h1 ⟨h2, hl⟩, e1, e1, e3, e3]
              refine ⟨fun hm => ?_, fun hm => ?_⟩
              · have e5 : (if true = true ∧ (0 : Int) > x then 0 else x) = max x 0 := by
                  by_cases hc : (0 : Int) > x
                  · rw [if_pos ⟨rfl, hc⟩]; omega
                  · rw [if_neg (fun h => hc h.2)]; omega
                rw [e5]
                refine (rsec_eq N r (m + 2 ^ N) x 0 0 hp hnr).2 ?_
                rw [Nat.add_comm, Nat.testBit_two_pow_add_eq, hm]
                rfl
              · rw [Nat.testBit_lt_two_pow hlt] at hm
                cases hm
            · have hne : N ≠ lock := by omega
              have e1 : ∀ h, hR lock h o = h := fun h => by simp [hR, h2, hl]
              have e3 : ∀ z h, nR lock z h o = z := fun z h => by simp [nR, h2, hl]
              rw [sg_oth h1 (fun e => hl e.2) (fun e => hl e.2), e1, e1, e3, e3]
              refine ⟨fun hm => ?_, fun hm => ?_⟩
              · rw [if_neg (by simp)]
                refine (rsec_eq lock r _ x n c hp hnr).1 ?_
                rcases Nat.lt_or_gt_of_ne hne with hlt2 | hgt
                · refine Nat.testBit_lt_two_pow ?_
                  have : 2 ^ (N + 1) ≤ 2 ^ lock := Nat.pow_le_pow_right (by omega) hlt2
                  rw [Nat.pow_succ] at this
                  omega
                · rw [Nat.add_comm, Nat.testBit_two_pow_add_gt hgt]
                  exact hm
              · rw [if_neg (fun h => by have := h.2; omega)]
                refine (rsec_eq lock r _ x n c hp hnr).2 ?_
                rcases Nat.lt_or_gt_of_ne hne with hlt2 | hgt
                · exfalso
                  have : 2 ^ N ≤ 2 ^ lock := Nat.pow_le_pow_right (by omega) (by omega)
                  rw [Nat.testBit_lt_two_pow (by omega)] at hm
                  cases hm
                · rw [Nat.add_comm, Nat.testBit_two_pow_add_gt hgt]
                  exact hm
          · cases ht
        · rw [if_neg h2] at ht
          by_cases h3 : o.kind = 3
          · rw [if_pos h3] at ht
            split at ht
            · rename_i hlt
              simp at ht
              obtain ⟨y, rfl⟩ : ∃ y, m = 2 ^ N + y := ⟨m - 2 ^ N, by omega⟩
              have hy : y < 2 ^ N := by omega
              have e0 : m1 = y := by omega
              subst e0
              by_cases hl : o.n = (lock : Int)
              · obtain rfl : N = lock := by omega
                have e1 : ∀ h, hR N h o = false := fun h => by simp [hR, h3, hl]
                have e3 : ∀ z h, nR N z h o = z := fun z h => by simp [nR, h3]
                rw [sg_unl h1 (fun e => h2 e.1) ⟨h3, hl⟩, e1, e1, e3, e3]
                refine ⟨fun hm => ?_, fun hm => ?_⟩
                · rw [Nat.testBit_two_pow_add_eq, Nat.testBit_lt_two_pow hy] at hm
                  cases hm
                · rw [if_neg (by simp)]
                  exact (rsec_eq N r m1 (max x c) c c hp hnr).1 (Nat.testBit_lt_two_pow hy)
              · have hne : N ≠ lock := by omega
                have e1 : ∀ h, hR lock h o = h := fun h => by simp [hR, h3, hl]
                have e3 : ∀ z h, nR lock z h o = z := fun z h => by simp [nR, h3]
                rw [sg_oth h1 (fun e => hl e.2) (fun e => hl e.2), e1, e1, e3, e3]
                refine ⟨fun hm => ?_, fun hm => ?_⟩
                · rw [if_neg (by simp)]
                  refine (rsec_eq lock r _ x n c hp hnr).1 ?_
                  rcases Nat.lt_or_gt_of_ne hne with hlt2 | hgt
                  · refine Nat.testBit_lt_two_pow ?_
                    have : 2 ^ N ≤ 2 ^ lock := Nat.pow_le_pow_right (by omega) (by omega)
                    omega
                  · rw [Nat.testBit_two_pow_add_gt hgt] at hm
                    exact hm
                · rw [if_neg (fun h => by have := h.2; omega)]
                  refine (rsec_eq lock r _ x n c hp hnr).2 ?_
                  rcases Nat.lt_or_gt_of_ne hne with hlt2 | hgt
                  · exfalso
                    have : 2 ^ (N + 1) ≤ 2 ^ lock := Nat.pow_le_pow_right (by omega) hlt2
                    rw [Nat.pow_succ] at this
                    rw [Nat.testBit_lt_two_pow (by omega)] at hm
                    cases hm
                  · rw [Nat.testBit_two_pow_add_gt hgt] at hm
                    exact hm
            · cases ht
          · rw [if_neg h3, if_neg h8, if_neg h9] at ht
            have e1 : ∀ h, hR lock h o = h := fun h => by simp [hR, h2, h3]
            have e3 : ∀ z h, nR lock z h o = z := fun z h => by simp [nR, h1, h2]
            rw [sg_oth h1 (fun e => h2 e.1) (fun e => h3 e.1), e1, e1, e3, e3]
            split at ht
            · simp at ht
              subst ht
              refine ⟨fun hm => ?_, fun hm => ?_⟩
              · rw [if_neg (by simp)]
                exact (rsec_eq lock r m x n c hp hnr).1 hm
              · rw [if_neg (fun h => by have := h.2; omega)]
                exact (rsec_eq lock r m x n c hp hnr).2 hm
            · cases ht
theorem rsec_less (lock : Int) (hl : lock < 0) : ∀ (f : List OpD) (x n c : Int), (∀ o ∈ f, 0 ≤ o.n) → secR lock x n false f = secGo lock x c f
  | [], _, _, _, _ => rfl
  | o :: r, x, n, c, hn => by
    have hn0 := hn o (by simp)
    have hnr : ∀ o ∈ r, 0 ≤ o.n := fun o ho => hn o (by simp [ho])
    have hne : ¬ o.n = lock := by omega
    have e1 : hR lock false o = false := by unfold hR; simp [hne]
    rw [secR, e1, if_neg (by simp)]
    by_cases h1 : o.kind = 1
    · rw [sg_run h1]
      exact rsec_less lock hl r x _ _ hnr
    · rw [sg_oth h1 (fun e => hne e.2) (fun e => hne e.2)]
      exact rsec_less lock hl r x _ _ hnr
theorem rsec_all (lock : Int) {f : List OpD} (h : Bal 0 0 0 f f) (hn : ∀ o ∈ f, 0 ≤ o.n) : secR lock 0 0 false f = secGo lock 0 0 f := by
  by_cases hl : lock < 0
  · exact rsec_less lock hl f 0 0 0 hn
  · obtain ⟨N, rfl⟩ : ∃ N : Nat, lock = (N : Int) := ⟨lock.toNat, by omega⟩
    exact (rsec_eq N f 0 0 0 0 h hn).1 (by simp)

end Go.Proofs.YtlkbphogpbcjfaaDoor
namespace Go.Proofs.YtlkbphogpbcjfaaDoor
open Go.RowKit

end Go.Proofs.YtlkbphogpbcjfaaDoor
