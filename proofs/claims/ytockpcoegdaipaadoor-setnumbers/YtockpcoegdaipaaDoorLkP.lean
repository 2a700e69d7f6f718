/- Locks within one another: what it is, as plain data. -/
import Derived.Test.YtockpcoegdaipaaDoorBpp
import Derived.Test.YtockpcoegdaipaaDoorLooP
import Derived.Test.YtockpcoegdaipaaDoorLck
namespace Go.Proofs.YtockpcoegdaipaaDoor

def oRun (r : Int) : OpD := ⟨1, r, 0, 0, []⟩
def oLock (k : Int) : OpD := ⟨2, k, 0, 0, []⟩
def oUnl (k : Int) : OpD := ⟨3, k, 0, 0, []⟩
/-- Runs and locks, up. -/
def lkU : List (Int × Int) → List OpD
  | [] => []
  | (r, k) :: z => oRun r :: oLock k :: lkU z
def lkN (r : Int) : List (Int × Int) → List OpD
  | [] => [oRun r]
  | (r0, k) :: z => oRun r0 :: oLock k :: (lkN r z ++ [oUnl k])
def lkK (z : List (Int × Int)) : List Int := z.map Prod.snd
theorem lkN_eq (r : Int) : ∀ z, lkN r z = lkU z ++ [oRun r] ++ (lkK z).reverse.map oUnl
  | [] => rfl
  | (r0, k) :: z => by
    rw [lkN, lkN_eq r z, lkU, lkK, lkK]
    simp
theorem lkU_len : ∀ z, (lkU z).length = 2 * z.length
  | [] => rfl
  | (r, k) :: z => by
    have := lkU_len z
    simp [lkU]
    omega
theorem lkN_len (r : Int) (z : List (Int × Int)) : (lkN r z).length = 3 * z.length + 1 := by
  rw [lkN_eq]
  simp [lkU_len, lkK]
  omega
theorem lkU_app : ∀ (z : List (Int × Int)) (r k : Int), lkU (z ++ [(r, k)]) = lkU z ++ [oRun r, oLock k]
  | [], _, _ => rfl
  | (r0, k0) :: z, r, k => by simp [lkU, lkU_app z r k]
theorem lkN_nil (r : Int) : ∀ z, ∀ o ∈ lkN r z, o.cases = []
  | [], o, ho => by simp [lkN] at ho; subst ho; rfl
  | (r0, k) :: z, o, ho => by
    simp [lkN] at ho
    rcases ho with rfl | rfl | ho | rfl
    · rfl
    · rfl
    · exact lkN_nil r z o ho
    · rfl
/-- Rising, each above what is ahead. -/
def risB (last : Int) : List Int → Bool
  | [] => true
  | k :: r => decide (k > last) && risB k r
def lastI (last : Int) : List Int → Int
  | [] => last
  | k :: r => lastI k r
theorem risB_app : ∀ (l : List Int) (last k : Int), risB last (l ++ [k]) = (risB last l && decide (k > lastI last l))
  | [], last, k => by simp [risB, lastI]
  | x :: r, last, k => by
    simp only [List.cons_append, risB, lastI]
    rw [risB_app r x k]
    cases decide (x > last) <;> cases risB x r <;> rfl
theorem lastI_app : ∀ (l : List Int) (last k : Int), lastI last (l ++ [k]) = k
  | [], _, _ => rfl
  | x :: r, last, k => by rw [List.cons_append, lastI, lastI_app r x k]
theorem ris_above : ∀ (l : List Int) (last : Int), risB last l = true → ∀ k ∈ l, last < k
  | [], _, _, k, hk => by cases hk
  | x :: r, last, h, k, hk => by
    simp [risB] at h
    rcases List.mem_cons.1 hk with rfl | hk
    · omega
    · have := ris_above r x h.2 k hk
      omega
theorem ris_pair : ∀ (l : List Int) (last : Int), risB last l = true → l.Pairwise (· < ·)
  | [], _, _ => List.Pairwise.nil
  | x :: r, last, h => by
    have h2 := h
    simp [risB] at h2
    exact List.Pairwise.cons (ris_above r x h2.2) (ris_pair r x h2.2)
theorem run_run {m : Nat} {lp : List Nat} {r : Int} : takeM m lp (oRun r) = some (m, lp) := by
  unfold takeM oRun
  simp [waitsD]
theorem run_lock {m : Nat} {lp : List Nat} {k : Int} : takeM m lp (oLock k) = if m < 2 ^ k.toNat then some (m + 2 ^ k.toNat, lp) else none := by
  unfold takeM oLock
  simp
/-- In order where they rise. -/
theorem lkN_bal (r : Int) : ∀ (z : List (Int × Int)) (last : Int) (m : Nat), (∀ x ∈ z, 0 ≤ x.2) → risB last (lkK z) = true → -1 ≤ last → m < 2 ^ (last + 1).toNat → Bal 3 m m (lkN r z) (lkN r z)
  | [], _, m, _, _, _, _ => .one (m1 := m) (by simp [oRun]) (by simp [oRun]) run_run (.nil _ _)
  | (r0, k) :: z, last, m, hz, hr, hl, hm => by
    have hk : 0 ≤ k := hz (r0, k) (by simp)
    simp [lkK, risB] at hr
    have h1 : (last + 1).toNat ≤ k.toNat := by omega
    have h2 : m < 2 ^ k.toNat := Nat.lt_of_lt_of_le hm (Nat.pow_le_pow_right (by omega) h1)
    have h3 : (k + 1).toNat = k.toNat + 1 := by omega
    have ih := lkN_bal r z k (m + 2 ^ k.toNat) (fun x hx => hz x (by simp [hx])) hr.2 (by omega) (by rw [h3, Nat.pow_succ]; omega)
    refine .one (m1 := m) (by simp [oRun]) (by simp [oRun]) run_run (.one (m1 := m + 2 ^ k.toNat) (by simp [oLock]) (by simp [oLock]) (by rw [run_lock, if_pos h2]) (bal_app ih ?_))
    refine .one (m1 := m) (by simp [oUnl]) (by simp [oUnl]) ?_ (.nil _ _)
    unfold takeM oUnl
    simp only [show ¬ (3 : Int) = 2 by omega, if_false, if_true]
    rw [if_pos (by omega), Nat.add_sub_cancel]
theorem run_up : ∀ (z : List (Int × Int)) (q : List OpD) (last : Int) (m : Nat) (x : Nat × List Nat), (∀ x ∈ z, 0 ≤ x.2) → 2 ^ (last + 1).toNat ≤ 2 * m + (if last = -1 then 1 else 0) → -1 ≤ last → runM m [] (lkU z ++ q) = some x → risB last (lkK z) = true
  | [], _, _, _, _, _, _, _, _ => rfl
  | (r0, k) :: z, q, last, m, x, hz, hm, hl, h => by
    have hk : 0 ≤ k := hz (r0, k) (by simp)
    rw [lkU, List.cons_append, runM, run_run] at h
    simp only at h
    rw [List.cons_append, runM, run_lock] at h
    by_cases hc : m < 2 ^ k.toNat
    · rw [if_pos hc] at h
      simp only at h
      have h3 : (k + 1).toNat = k.toNat + 1 := by omega
      have ih := run_up z q k (m + 2 ^ k.toNat) x (fun x hx => hz x (by simp [hx])) (by rw [h3, Nat.pow_succ]; omega) (by omega) h
      simp only [lkK, List.map_cons, risB, Bool.and_eq_true, decide_eq_true_eq]
      refine ⟨?_, ih⟩
      by_cases h4 : last < k
      · exact h4
      · exfalso
        have h5 : k.toNat + 1 ≤ (last + 1).toNat := by omega
        have h6 := Nat.pow_le_pow_right (n := 2) (by omega) h5
        rw [Nat.pow_succ] at h6
        rw [if_neg (by omega)] at hm
        omega
    · rw [if_neg hc] at h
      cases h
theorem nlock {k : Int} (h0 : 0 ≤ k) (h1 : k ≤ 7) : checkD (oLock k) = 0 := by
  unfold checkD oLock
  rw [if_pos (show isKindB (OpD.mk 2 k 0 0 []).kind = true from rfl), if_pos (by simp [takesB, shapeOf]; omega)]
  rfl
theorem nunl {k : Int} (h0 : 0 ≤ k) (h1 : k ≤ 7) : checkD (oUnl k) = 0 := by
  unfold checkD oUnl
  rw [if_pos (show isKindB (OpD.mk 3 k 0 0 []).kind = true from rfl), if_pos (by simp [takesB, shapeOf]; omega)]
  rfl
def LkOk (r : Int) (z : List (Int × Int)) : Prop := (1 ≤ r ∧ r ≤ 9) ∧ ∀ x ∈ z, (1 ≤ x.1 ∧ x.1 ≤ 9) ∧ 0 ≤ x.2 ∧ x.2 ≤ 7
theorem lkN_all (r : Int) : ∀ z, LkOk r z → ∀ o ∈ lkN r z, checkD o = 0
  | [], h, o, ho => by simp [lkN] at ho; subst ho; exact nrun h.1.1 (by have := h.1.2; omega)
  | (r0, k) :: z, h, o, ho => by
    obtain ⟨⟨h1, h2⟩, h3, h4⟩ := h.2 (r0, k) (by simp)
    simp only at h1 h2 h3 h4
    simp [lkN] at ho
    rcases ho with rfl | rfl | ho | rfl
    · exact nrun h1 (by omega)
    · exact nlock h3 h4
    · exact lkN_all r z ⟨h.1, fun x hx => h.2 x (by simp [hx])⟩ o ho
    · exact nunl h3 h4
theorem lkN_check (r : Int) (z : List (Int × Int)) (h : LkOk r z) (hl : z.length ≤ 8) : (checkP (lkN r z)).2 = if risB (-1) (lkK z) then 0 else 11 := by
  have h0 : ∀ x ∈ z, 0 ≤ x.2 := fun x hx => (h.2 x hx).2.1
  cases hr : risB (-1) (lkK z) with
  | true =>
    have hb := lkN_bal r z (-1) 0 h0 hr (by omega) (by simp)
    rw [bal_check hb (by rw [lkN_len]; omega) (lkN_all r z h) (by rw [lkN_len]; omega)]
    rfl
  | false =>
    unfold checkP
    rw [if_neg (by rw [lkN_len]; omega), all_each _ 0 (lkN_all r z h), if_pos rfl]
    rcases ord_err (lkN r z) 0 0 [] with he | he
    · exfalso
      have h1 := run_of_ord (p := lkN r z) (by rw [he])
      rw [lkN_eq, List.append_assoc] at h1
      have := run_up z _ (-1) 0 _ h0 (by simp) (by omega) h1
      rw [hr] at this
      cases this
    · rw [if_neg (by rw [he]; omega), he]
      rfl
/-- All runs from here on. -/
def totL (r : Int) : List (Int × Int) → Int
  | [] => r
  | (r0, _) :: z => r0 + totL r z
def innL (lock r : Int) : List (Int × Int) → Int
  | [] => 0
  | (_, k) :: z => if k = lock then totL r z else innL lock r z
theorem sec_out (lock r : Int) : ∀ (z : List (Int × Int)) (m c : Int) (q : List OpD), lock ∉ lkK z → secGo lock m c (lkN r z ++ q) = secGo lock m (c + totL r z) q
  | [], m, c, q, _ => by simp [lkN, oRun, secGo, totL]
  | (r0, k) :: z, m, c, q, h => by
    simp [lkK] at h
    have h1 : ¬ k = lock := fun e => h.1 e.symm
    have ih := sec_out lock r z m (c + r0) (oUnl k :: q) (by simp [lkK]; exact h.2)
    simp only [lkN, List.cons_append, List.append_assoc, List.nil_append]
    rw [show secGo lock m c (oRun r0 :: oLock k :: (lkN r z ++ oUnl k :: q)) = secGo lock m (c + r0) (lkN r z ++ oUnl k :: q) by simp [secGo, oRun, oLock, h1], ih]
    simp [secGo, oUnl, h1, totL, Int.add_assoc]
theorem tot_pos (r : Int) : ∀ z, LkOk r z → 0 ≤ totL r z
  | [], h => by have := h.1.1; simp [totL]; omega
  | (r0, k) :: z, h => by
    have h1 := (h.2 (r0, k) (by simp)).1.1
    have := tot_pos r z ⟨h.1, fun x hx => h.2 x (by simp [hx])⟩
    simp only [totL] at h1 ⊢
    omega
theorem sec_in (lock r : Int) : ∀ (z : List (Int × Int)) (c : Int) (q : List OpD), LkOk r z → (lkK z).Pairwise (· < ·) → ∃ c', secGo lock 0 c (lkN r z ++ q) = secGo lock (innL lock r z) c' q
  | [], c, q, _, _ => ⟨c + r, by simp [lkN, oRun, secGo, innL]⟩
  | (r0, k) :: z, c, q, h, hp => by
    have hz : LkOk r z := ⟨h.1, fun x hx => h.2 x (by simp [hx])⟩
    have hp2 : (∀ y ∈ lkK z, k < y) ∧ (lkK z).Pairwise (· < ·) := by simpa [lkK] using hp
    simp only [lkN, List.cons_append, List.append_assoc, List.nil_append]
    by_cases hk : k = lock
    · subst hk
      have hn : k ∉ lkK z := fun hm => by have := hp2.1 k hm; omega
      refine ⟨totL r z, ?_⟩
      rw [show secGo k 0 c (oRun r0 :: oLock k :: (lkN r z ++ oUnl k :: q)) = secGo k 0 0 (lkN r z ++ oUnl k :: q) by simp [secGo, oRun, oLock], sec_out k r z 0 0 _ hn]
      have := tot_pos r z hz
      simp only [secGo, oUnl, innL, if_true, Int.zero_add, show ¬ (3 : Int) = 1 by omega, show ¬ (3 : Int) = 2 by omega, false_and, and_self, if_false]
      rw [show max 0 (totL r z) = totL r z by omega]
    · obtain ⟨c', ih⟩ := sec_in lock r z (c + r0) (oUnl k :: q) hz hp2.2
      refine ⟨c', ?_⟩
      rw [show secGo lock 0 c (oRun r0 :: oLock k :: (lkN r z ++ oUnl k :: q)) = secGo lock 0 (c + r0) (lkN r z ++ oUnl k :: q) by simp [secGo, oRun, oLock, hk], ih]
      simp [secGo, oUnl, innL, hk]
theorem inn_at (r : Int) : ∀ (z : List (Int × Int)) (i : Nat) (r0 k : Int), (lkK z).Pairwise (· < ·) → z[i]? = some (r0, k) → innL k r z = totL r (z.drop (i + 1))
  | [], _, _, _, _, h => by simp at h
  | (r1, k1) :: z, 0, r0, k, _, h => by
    simp at h
    simp [innL, h.2]
  | (r1, k1) :: z, i + 1, r0, k, hp, h => by
    have hp2 : (∀ y ∈ lkK z, k1 < y) ∧ (lkK z).Pairwise (· < ·) := by simpa [lkK] using hp
    have h2 : z[i]? = some (r0, k) := by simpa using h
    have hm : k ∈ lkK z := List.mem_map.2 ⟨(r0, k), List.mem_of_getElem? h2, rfl⟩
    have := hp2.1 k hm
    rw [innL, if_neg (by omega), inn_at r z i r0 k hp2.2 h2]
    rfl
/-- Each section is what runs within it. -/
theorem lkN_sec {r : Int} {z : List (Int × Int)} (h : LkOk r z) (hr : risB (-1) (lkK z) = true) {i : Nat} {r0 k : Int} (hi : z[i]? = some (r0, k)) : secGo k 0 0 (lkN r z) = totL r (z.drop (i + 1)) := by
  have hp := ris_pair _ _ hr
  obtain ⟨c', hc⟩ := sec_in k r z 0 [] h hp
  rw [List.append_nil] at hc
  rw [hc, inn_at r z i r0 k hp hi]
  rfl
theorem lkN_cost (r : Int) : ∀ z, costF (lkN r z) = totL r z
  | [] => by simp [lkN, costF, oRun, totL]
  | (r0, k) :: z => by
    simp only [lkN, costF, totL]
    rw [costF_append, lkN_cost r z]
    simp [oRun, oLock, oUnl, costF]
theorem lkN_locks (r : Int) : ∀ z, lockNs (lkN r z) = lkK z
  | [] => by simp [lkN, lockNs, oRun, lkK]
  | (r0, k) :: z => by
    have happ : ∀ a b : List OpD, lockNs (a ++ b) = lockNs a ++ lockNs b := by
      intro a b
      induction a with
      | nil => rfl
      | cons o a ih =>
        simp only [List.cons_append, lockNs, ih]
        split <;> rfl
    simp only [lkN, lockNs]
    rw [happ, lkN_locks r z]
    simp [oRun, oLock, oUnl, lockNs, lkK]
end Go.Proofs.YtockpcoegdaipaaDoor
