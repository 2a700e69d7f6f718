/- Tasks each with some locks: plain mathematics. -/
import Derived.Test.YtembbhbbmkijcaaDoorNeP
namespace Go.Proofs.YtembbhbbmkijcaaDoor
open Go.RowKit Go.Sort

theorem sec_app (lock : Int) : ∀ (f g : List OpD) (x c : Int), ∃ c', secGo lock x c (f ++ g) = secGo lock (secGo lock x c f) c' g
  | [], g, x, c => ⟨c, rfl⟩
  | o :: r, g, x, c => by
    rw [List.cons_append, secGo, secGo]
    split
    · exact sec_app lock r g _ _
    · split
      · exact sec_app lock r g _ _
      · split
        · exact sec_app lock r g _ _
        · exact sec_app lock r g _ _
/-- A run, then each lock that is had, with a run. -/
def pieceU (r : Int) (k : Nat) : List OpD := [oLock k, oRun r, oUnl k]
def progU (h : Nat → Bool) (r : Int) : Nat → List OpD
  | 0 => [oRun 1]
  | k + 1 => progU h r k ++ (if h k = true then pieceU r k else [])
theorem progU_next (h : Nat → Bool) (r : Int) (k : Nat) : progU h r (k + 1) = progU h r k ++ (if h k = true then pieceU r k else []) := rfl
theorem piece_bal (r : Int) (k : Nat) : Bal 3 0 0 (pieceU r k) (pieceU r k) := by
  have hp : 0 < 2 ^ k := Nat.pow_pos (by omega)
  refine .one (m1 := 2 ^ k) (by simp [oLock]) (by simp [oLock]) ?_ (.one (m1 := 2 ^ k) (by simp [oRun]) (by simp [oRun]) run_run (.one (m1 := 0) (by simp [oUnl]) (by simp [oUnl]) ?_ (.nil _ _)))
  · unfold takeM oLock
    simp [hp]
  · unfold takeM oUnl
    simp
    omega
theorem progU_bal (h : Nat → Bool) (r : Int) : ∀ k, Bal 3 0 0 (progU h r k) (progU h r k)
  | 0 => .one (m1 := 0) (by simp [oRun]) (by simp [oRun]) run_run (.nil _ _)
  | k + 1 => by
    rw [progU_next]
    split
    · exact bal_app (progU_bal h r k) (piece_bal r k)
    · rw [List.append_nil]
      exact progU_bal h r k
theorem progU_len (h : Nat → Bool) (r : Int) : ∀ k, (progU h r k).length ≤ 1 + 3 * k
  | 0 => by simp [progU]
  | k + 1 => by
    have := progU_len h r k
    rw [progU_next, List.length_append]
    split
    · simp [pieceU]; omega
    · simp; omega
theorem lock_ck : ∀ k : Fin 8, checkD (oLock (k.1 : Int)) = 0 ∧ checkD (oUnl (k.1 : Int)) = 0 := by decide +kernel
theorem progU_ck (h : Nat → Bool) {r : Int} (h1 : 1 ≤ r) (h2 : r ≤ 20) : ∀ k, k ≤ 8 → ∀ o ∈ progU h r k, checkD o = 0 ∧ o.cases = []
  | 0, _, o, ho => by
    simp only [progU, List.mem_singleton] at ho
    subst ho
    exact ⟨nrun (by omega) (by omega), rfl⟩
  | k + 1, hk, o, ho => by
    rw [progU_next, List.mem_append] at ho
    rcases ho with ho | ho
    · exact progU_ck h h1 h2 k (by omega) o ho
    · split at ho
      · simp only [pieceU, List.mem_cons, List.not_mem_nil, or_false] at ho
        rcases ho with rfl | rfl | rfl
        · exact ⟨(lock_ck ⟨k, by omega⟩).1, rfl⟩
        · exact ⟨nrun h1 (by omega), rfl⟩
        · exact ⟨(lock_ck ⟨k, by omega⟩).2, rfl⟩
      · cases ho
theorem progU_check (h : Nat → Bool) {r : Int} (h1 : 1 ≤ r) (h2 : r ≤ 20) : checkP (progU h r 8) = (0, 0) := by
  have hl := progU_len h r 8
  exact bal_check (progU_bal h r 8) (by omega) (fun o ho => (progU_ck h h1 h2 8 (by omega) o ho).1) (by omega)
theorem progU_costF (h : Nat → Bool) {r : Int} (h1 : 1 ≤ r) (q : Nat) : ∀ k, 1 + (if q < k ∧ h q = true then r else 0) ≤ costF (progU h r k)
  | 0 => by simp [progU, costF, oRun]
  | k + 1 => by
    have ih := progU_costF h h1 q k
    rw [progU_next, costF_append]
    by_cases hk : h k = true
    · rw [if_pos hk]
      have hp : costF (pieceU r k) = r := by simp [pieceU, costF, oLock, oRun, oUnl]
      rw [hp]
      by_cases e : q < k ∧ h q = true
      · rw [if_pos e] at ih
        rw [if_pos ⟨by omega, e.2⟩]
        omega
      · rw [if_neg e] at ih
        split <;> omega
    · rw [if_neg hk]
      have hz : costF [] = 0 := rfl
      rw [hz]
      by_cases e : q < k ∧ h q = true
      · rw [if_pos e] at ih
        rw [if_pos ⟨by omega, e.2⟩]
        omega
      · rw [if_neg (fun h2 => e ⟨by
          by_cases hqk : q = k
          · subst hqk; exact absurd h2.2 hk
          · omega, h2.2⟩)]
        rw [if_neg e] at ih
        omega
theorem progU_cost (h : Nat → Bool) {r : Int} (h1 : 1 ≤ r) (h2 : r ≤ 20) (q : Nat) (hq : q < 8) : 1 + (if h q = true then r else 0) ≤ costD (progU h r 8) := by
  rw [cost_len (progU_bal h r 8) (fun o ho => (progU_ck h h1 h2 8 (by omega) o ho).1)]
  have := progU_costF h h1 q 8
  by_cases e : h q = true
  · rw [if_pos ⟨hq, e⟩] at this
    rw [if_pos e]
    exact this
  · rw [if_neg (fun x => e x.2)] at this
    rw [if_neg e]
    exact this
theorem piece_sec (r x c : Int) (q k : Nat) : secGo (q : Int) x c (pieceU r k) = if q = k then max x r else x := by
  by_cases e : q = k
  · subst e
    simp [pieceU, secGo, oLock, oRun, oUnl]
  · have e2 : ¬ (k : Int) = (q : Int) := by omega
    simp [pieceU, secGo, oLock, oRun, oUnl, e, e2]
theorem progU_sec (h : Nat → Bool) {r : Int} (h1 : 1 ≤ r) (q : Nat) : ∀ k, secGo (q : Int) 0 0 (progU h r k) = if q < k ∧ h q = true then r else 0
  | 0 => by simp [progU, secGo, oRun]
  | k + 1 => by
    rw [progU_next]
    obtain ⟨c', e⟩ := sec_app (q : Int) (progU h r k) (if h k = true then pieceU r k else []) 0 0
    rw [e, progU_sec h h1 q k]
    by_cases hk : h k = true
    · rw [if_pos hk, piece_sec]
      by_cases hqk : q = k
      · subst hqk
        rw [if_pos rfl, if_neg (by omega), if_pos ⟨by omega, hk⟩]
        omega
      · rw [if_neg hqk]
        by_cases e2 : q < k ∧ h q = true
        · rw [if_pos e2, if_pos ⟨by omega, e2.2⟩]
        · rw [if_neg e2, if_neg (fun x => e2 ⟨by omega, x.2⟩)]
    · rw [if_neg hk]
      show (if q < k ∧ h q = true then r else 0) = _
      by_cases e2 : q < k ∧ h q = true
      · rw [if_pos e2, if_pos ⟨by omega, e2.2⟩]
      · rw [if_neg e2, if_neg (fun x => e2 ⟨by
          by_cases hqk : q = k
          · subst hqk; exact absurd x.2 hk
          · omega, x.2⟩)]
theorem lockNs_app (a b : List OpD) : lockNs (a ++ b) = lockNs a ++ lockNs b := by
  induction a with
  | nil => rfl
  | cons x r ih =>
    rw [List.cons_append, lockNs, lockNs, ih]
    split <;> simp
theorem progU_locks (h : Nat → Bool) (r : Int) (x : Int) : ∀ k, x ∈ lockNs (progU h r k) ↔ ∃ q : Nat, q < k ∧ h q = true ∧ x = (q : Int)
  | 0 => by simp [progU, lockNs, oRun]
  | k + 1 => by
    rw [progU_next, lockNs_app, List.mem_append, progU_locks h r x k]
    by_cases hk : h k = true
    · rw [if_pos hk]
      have hp : lockNs (pieceU r k) = [(k : Int)] := by simp [pieceU, lockNs, oLock, oRun, oUnl]
      rw [hp, List.mem_singleton]
      constructor
      · rintro (⟨q, h1, h2, h3⟩ | h1)
        · exact ⟨q, by omega, h2, h3⟩
        · exact ⟨k, by omega, hk, h1⟩
      · rintro ⟨q, h1, h2, h3⟩
        by_cases hqk : q = k
        · subst hqk; exact .inr h3
        · exact .inl ⟨q, by omega, h2, h3⟩
    · rw [if_neg hk]
      constructor
      · rintro (⟨q, h1, h2, h3⟩ | h1)
        · exact ⟨q, by omega, h2, h3⟩
        · simp [lockNs] at h1
      · rintro ⟨q, h1, h2, h3⟩
        by_cases hqk : q = k
        · subst hqk; exact absurd h2 hk
        · exact .inl ⟨q, by omega, h2, h3⟩
theorem progU_has (h : Nat → Bool) (r : Int) {q : Nat} (hq : q < 8) : (locksD (progU h r 8)).contains (q : Int) = h q := by
  rw [Bool.eq_iff_iff, List.contains_iff_mem, locksD_mem, progU_locks]
  constructor
  · rintro ⟨q', _, h2, h3⟩
    have : q = q' := by omega
    subst this
    exact h2
  · exact fun e => ⟨q, hq, e, rfl⟩
/-- Task i of them. -/
def taskU (H : Nat → Nat → Bool) (r b : Int) (i : Nat) : TaskD := ⟨[UInt8.ofNat (97 + i)], 900, 100 + (i : Int), b, progU (H i) r 8⟩
def tasksU (H : Nat → Nat → Bool) (r b : Int) (n : Nat) : List TaskD := (List.range n).map (taskU H r b)
theorem tasksU_len (H : Nat → Nat → Bool) (r b : Int) (n : Nat) : (tasksU H r b n).length = n := by simp [tasksU]
theorem tasksU_get {H : Nat → Nat → Bool} {r b : Int} {n i : Nat} (h : i < n) : (tasksU H r b n)[i]? = some (taskU H r b i) := by simp [tasksU, h]
theorem tasksU_next (H : Nat → Nat → Bool) (r b : Int) (n : Nat) : tasksU H r b (n + 1) = tasksU H r b n ++ [taskU H r b n] := by simp [tasksU, List.range_succ]
theorem tasksU_mem {H : Nat → Nat → Bool} {r b : Int} {n : Nat} {t : TaskD} (h : t ∈ tasksU H r b n) : ∃ i, i < n ∧ t = taskU H r b i := by
  simp only [tasksU, List.mem_map, List.mem_range] at h
  obtain ⟨i, hi, rfl⟩ := h
  exact ⟨i, hi, rfl⟩
theorem tasksU_dl {H : Nat → Nat → Bool} {r b : Int} {n i : Nat} (h : i < n) : dlT (tasksU H r b n) i = 100 + (i : Int) := by
  unfold dlT
  rw [tasksU_get h]
  rfl
theorem count_lt (i : Nat) : ∀ n, i ≤ n → (List.range n).countP (fun j => decide (j < i)) = i
  | 0, h => by
    have : i = 0 := by omega
    subst this
    rfl
  | n + 1, h => by
    rw [List.range_succ, List.countP_append]
    by_cases e : i = n + 1
    · subst e
      have h2 : (List.range n).countP (fun j => decide (j < n + 1)) = n := by
        have := List.countP_eq_length (p := fun j => decide (j < n + 1)) (l := List.range n)
        rw [List.length_range] at this
        exact this.2 (fun a ha => by have := List.mem_range.1 ha; simp; omega)
      rw [h2]
      simp
    · rw [count_lt i n (by omega)]
      simp
      omega
theorem tasksU_rank {H : Nat → Nat → Bool} {r b : Int} {n i : Nat} (h : i < n) : rank n (dlT (tasksU H r b n)) i = i := by
  have h2 : (List.range n).countP (fun j => befB (dlT (tasksU H r b n)) j i) = (List.range n).countP (fun j => decide (j < i)) := by
    refine List.countP_congr (fun j hj => ?_)
    have hj2 := List.mem_range.1 hj
    rw [befB_iff]
    unfold bef
    rw [tasksU_dl hj2, tasksU_dl h]
    simp only [decide_eq_true_eq]
    omega
  unfold rank
  exact h2.trans (count_lt i n (by omega))
theorem tasksU_pr {H : Nat → Nat → Bool} {r b : Int} {n i : Nat} (h : i < n) : prE (tasksU H r b n) i = (n : Int) - (i : Int) := by
  unfold prE
  rw [tasksU_len, tasksU_rank h]
theorem tasksU_has {H : Nat → Nat → Bool} {r b : Int} {n i k : Nat} (h : i < n) (hk : k < 8) : hasK (tasksU H r b n) k i = H i k := by
  unfold hasK
  rw [tasksU_get h]
  exact progU_has (H i) r hk
theorem ceilV_congr {E E' : Nat → Int} {h h' : Nat → Bool} : ∀ {n : Nat}, (∀ i, i < n → E i = E' i ∧ h i = h' i) → ceilV E h n = ceilV E' h' n
  | 0, _ => rfl
  | n + 1, hh => by
    rw [ceilV, ceilV, ceilV_congr (n := n) (fun i hi => hh i (by omega)), (hh n (by omega)).1, (hh n (by omega)).2]
/-- What is wanted of each lock, by the first i tasks; of task i its first k locks besides. -/
def wantU (H : Nat → Nat → Bool) (n i k : Nat) : List Int := (List.range 8).map (fun q => if q < k then ceilV (fun j => (n : Int) - (j : Int)) (fun j => H j q) (i + 1) else ceilV (fun j => (n : Int) - (j : Int)) (fun j => H j q) i)
theorem wantU_len (H : Nat → Nat → Bool) (n i k : Nat) : (wantU H n i k).length = 8 := by simp [wantU]
theorem wantU_zero (H : Nat → Nat → Bool) (n : Nat) : wantU H n 0 0 = List.replicate 8 0 := by
  simp [wantU, ceilV, List.range_succ]
theorem wantU_next (H : Nat → Nat → Bool) (n i : Nat) : wantU H n i 8 = wantU H n (i + 1) 0 := by
  unfold wantU
  refine List.map_congr_left (fun q hq => ?_)
  rw [if_pos (List.mem_range.1 hq), if_neg (by omega)]
theorem wantU_get {H : Nat → Nat → Bool} {n i k : Nat} (h : k < 8) : (wantU H n i k)[k]? = some (ceilV (fun j => (n : Int) - (j : Int)) (fun j => H j k) i) := by
  simp [wantU, h]
theorem wantU_set (H : Nat → Nat → Bool) (n i k : Nat) (hk : H i k = true) : (wantU H n i k).set k (max (ceilV (fun j => (n : Int) - (j : Int)) (fun j => H j k) i) ((n : Int) - (i : Int))) = wantU H n i (k + 1) := by
  apply List.ext_getElem
  · simp [wantU]
  · intro q h1 h2
    rw [List.getElem_set]
    simp only [wantU, List.getElem_map, List.getElem_range]
    by_cases e : k = q
    · subst e
      rw [if_pos rfl, if_pos (by omega), ceilV, if_pos hk]
    · rw [if_neg e]
      by_cases hlt : q < k
      · rw [if_pos hlt, if_pos (by omega)]
      · rw [if_neg hlt, if_neg (by omega)]
theorem wantU_same (H : Nat → Nat → Bool) (n i k : Nat) (hk : H i k = false) : wantU H n i k = wantU H n i (k + 1) := by
  unfold wantU
  refine List.map_congr_left (fun q _ => ?_)
  by_cases e : q = k
  · subst e
    rw [if_neg (by omega), if_pos (by omega), ceilV, hk, if_neg (by simp)]
  · by_cases hlt : q < k
    · rw [if_pos hlt, if_pos (by omega)]
    · rw [if_neg hlt, if_neg (by omega)]
theorem wantU_end (H : Nat → Nat → Bool) (r b : Int) (n : Nat) : ceilD (tasksU H r b n) 8 = wantU H n n 0 := by
  unfold ceilD wantU
  refine List.map_congr_left (fun q hq => ?_)
  have hq8 := List.mem_range.1 hq
  rw [if_neg (by omega), tasksU_len]
  exact ceilV_congr (fun i hi => ⟨tasksU_pr hi, tasksU_has hi hq8⟩)
theorem secU (H : Nat → Nat → Bool) {r b : Int} (h1 : 1 ≤ r) (h2 : r ≤ 20) (hb : 1 ≤ b) {n i k : Nat} (hi : i < n) (hk : k < 8) : secV (k : Int) (fun j => progU (H j) r 8) (tasksU H r b n) i = if H i k = true then min r b else 0 := by
  unfold secV
  rw [tasksU_get hi]
  have hc := progU_cost (H i) h1 h2 k hk
  have hs := progU_sec (H i) h1 k 8
  show min (secGo (k : Int) 0 0 (progU (H i) r 8)) (min (costD (progU (H i) r 8)) b) = _
  rw [hs]
  by_cases e : H i k = true
  · rw [if_pos e] at hc ⊢
    rw [if_pos ⟨hk, e⟩]
    omega
  · rw [if_neg e] at hc ⊢
    rw [if_neg (fun x => e x.2)]
    omega
end Go.Proofs.YtembbhbbmkijcaaDoor
