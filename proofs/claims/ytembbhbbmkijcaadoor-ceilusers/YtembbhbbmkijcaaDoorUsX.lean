/- CeilUsers: the plain part, the rows, the walk. -/
import Derived.Test.YtembbhbbmkijcaaDoorNeP
import Derived.Test.YtembbhbbmkijcaaDoorApp2
import Derived.Test.YtembbhbbmkijcaaDoorOpO
import Derived.Test.YtembbhbbmkijcaaDoorTwo
namespace Go.Proofs.YtembbhbbmkijcaaDoor
open Go.RowKit Go.Sort

theorem sec_app (lock : Int) : ∀ (f g : List OpD) (x c : Int), ∃ c', secGo lock x c (f ++ g) = secGo lock (secGo lock x c f) c' g
  | [], g, x, c => ⟨c, rfl⟩
  | o :: r, g, x, c => by
    rw [List.cons_append, secGo, secGo]
    split
    · exact sec_app lock r g _ _
    · split
      · exact sec_app lock r g _ _
      · split
        · exact sec_app lock r g _ _
        · exact sec_app lock r g _ _
/-- A run, then each lock that is had, with a run. -/
def pieceU (r : Int) (k : Nat) : List OpD := [oLock k, oRun r, oUnl k]
def progU (h : Nat → Bool) (r : Int) : Nat → List OpD
  | 0 => [oRun 1]
  | k + 1 => progU h r k ++ (if h k = true then pieceU r k else [])
theorem progU_next (h : Nat → Bool) (r : Int) (k : Nat) : progU h r (k + 1) = progU h r k ++ (if h k = true then pieceU r k else []) := rfl
theorem piece_bal (r : Int) (k : Nat) : Bal 3 0 0 (pieceU r k) (pieceU r k) := by
  have hp : 0 < 2 ^ k := Nat.pow_pos (by omega)
  refine .one (m1 := 2 ^ k) (by simp [oLock]) (by simp [oLock]) ?_ (.one (m1 := 2 ^ k) (by simp [oRun]) (by simp [oRun]) run_run (.one (m1 := 0) (by simp [oUnl]) (by simp [oUnl]) ?_ (.nil _ _)))
  · unfold takeM oLock
    simp [hp]
  · unfold takeM oUnl
    simp
    omega
theorem progU_bal (h : Nat → Bool) (r : Int) : ∀ k, Bal 3 0 0 (progU h r k) (progU h r k)
  | 0 => .one (m1 := 0) (by simp [oRun]) (by simp [oRun]) run_run (.nil _ _)
  | k + 1 => by
    rw [progU_next]
    split
    · exact bal_app (progU_bal h r k) (piece_bal r k)
    · rw [List.append_nil]
      exact progU_bal h r k
theorem progU_len (h : Nat → Bool) (r : Int) : ∀ k, (progU h r k).length ≤ 1 + 3 * k
  | 0 => by simp [progU]
  | k + 1 => by
    have := progU_len h r k
    rw [progU_next, List.length_append]
    split
    · simp [pieceU]; omega
    · simp; omega
theorem lock_ck : ∀ k : Fin 8, checkD (oLock (k.1 : Int)) = 0 ∧ checkD (oUnl (k.1 : Int)) = 0 := by decide +kernel
theorem progU_ck (h : Nat → Bool) {r : Int} (h1 : 1 ≤ r) (h2 : r ≤ 20) : ∀ k, k ≤ 8 → ∀ o ∈ progU h r k, checkD o = 0 ∧ o.cases = []
  | 0, _, o, ho => by
    simp only [progU, List.mem_singleton] at ho
    subst ho
    exact ⟨nrun (by omega) (by omega), rfl⟩
  | k + 1, hk, o, ho => by
    rw [progU_next, List.mem_append] at ho
    rcases ho with ho | ho
    · exact progU_ck h h1 h2 k (by omega) o ho
    · split at ho
      · simp only [pieceU, List.mem_cons, List.not_mem_nil, or_false] at ho
        rcases ho with rfl | rfl | rfl
        · exact ⟨(lock_ck ⟨k, by omega⟩).1, rfl⟩
        · exact ⟨nrun h1 (by omega), rfl⟩
        · exact ⟨(lock_ck ⟨k, by omega⟩).2, rfl⟩
      · cases ho
theorem progU_check (h : Nat → Bool) {r : Int} (h1 : 1 ≤ r) (h2 : r ≤ 20) : checkP (progU h r 8) = (0, 0) := by
  have hl := progU_len h r 8
  exact bal_check (progU_bal h r 8) (by omega) (fun o ho => (progU_ck h h1 h2 8 (by omega) o ho).1) (by omega)
theorem progU_costF (h : Nat → Bool) {r : Int} (h1 : 1 ≤ r) (q : Nat) : ∀ k, 1 + (if q < k ∧ h q = true then r else 0) ≤ costF (progU h r k)
  | 0 => by simp [progU, costF, oRun]
  | k + 1 => by
    have ih := progU_costF h h1 q k
    rw [progU_next, costF_append]
    by_cases hk : h k = true
    · rw [if_pos hk]
      have hp : costF (pieceU r k) = r := by simp [pieceU, costF, oLock, oRun, oUnl]
      rw [hp]
      by_cases e : q < k ∧ h q = true
      · rw [if_pos e] at ih
        rw [if_pos ⟨by omega, e.2⟩]
        omega
      · rw [if_neg e] at ih
        split <;> omega
    · rw [if_neg hk]
      have hz : costF [] = 0 := rfl
      rw [hz]
      by_cases e : q < k ∧ h q = true
      · rw [if_pos e] at ih
        rw [if_pos ⟨by omega, e.2⟩]
        omega
      · rw [if_neg (fun h2 => e ⟨by
          by_cases hqk : q = k
          · subst hqk; exact absurd h2.2 hk
          · omega, h2.2⟩)]
        rw [if_neg e] at ih
        omega
theorem progU_cost (h : Nat → Bool) {r : Int} (h1 : 1 ≤ r) (h2 : r ≤ 20) (q : Nat) (hq : q < 8) : 1 + (if h q = true then r else 0) ≤ costD (progU h r 8) := by
  rw [cost_len (progU_bal h r 8) (fun o ho => (progU_ck h h1 h2 8 (by omega) o ho).1)]
  have := progU_costF h h1 q 8
  by_cases e : h q = true
  · rw [if_pos ⟨hq, e⟩] at this
    rw [if_pos e]
    exact this
  · rw [if_neg (fun x => e x.2)] at this
    rw [if_neg e]
    exact this
theorem piece_sec (r x c : Int) (q k : Nat) : secGo (q : Int) x c (pieceU r k) = if q = k then max x r else x := by
  by_cases e : q = k
  · subst e
    simp [pieceU, secGo, oLock, oRun, oUnl]
  · have e2 : ¬ (k : Int) = (q : Int) := by omega
    simp [pieceU, secGo, oLock, oRun, oUnl, e, e2]
theorem progU_sec (h : Nat → Bool) {r : Int} (h1 : 1 ≤ r) (q : Nat) : ∀ k, secGo (q : Int) 0 0 (progU h r k) = if q < k ∧ h q = true then r else 0
  | 0 => by simp [progU, secGo, oRun]
  | k + 1 => by
    rw [progU_next]
    obtain ⟨c', e⟩ := sec_app (q : Int) (progU h r k) (if h k = true then pieceU r k else []) 0 0
    rw [e, progU_sec h h1 q k]
    by_cases hk : h k = true
    · rw [if_pos hk, piece_sec]
      by_cases hqk : q = k
      · subst hqk
        rw [if_pos rfl, if_neg (by omega), if_pos ⟨by omega, hk⟩]
        omega
      · rw [if_neg hqk]
        by_cases e2 : q < k ∧ h q = true
        · rw [if_pos e2, if_pos ⟨by omega, e2.2⟩]
        · rw [if_neg e2, if_neg (fun x => e2 ⟨by omega, x.2⟩)]
    · rw [if_neg hk]
      show (if q < k ∧ h q = true then r else 0) = _
      by_cases e2 : q < k ∧ h q = true
      · rw [if_pos e2, if_pos ⟨by omega, e2.2⟩]
      · rw [if_neg e2, if_neg (fun x => e2 ⟨by
          by_cases hqk : q = k
          · subst hqk; exact absurd x.2 hk
          · omega, x.2⟩)]
theorem lockNs_app (a b : List OpD) : lockNs (a ++ b) = lockNs a ++ lockNs b := by
  induction a with
  | nil => rfl
  | cons x r ih =>
    rw [List.cons_append, lockNs, lockNs, ih]
    split <;> simp
theorem progU_locks (h : Nat → Bool) (r : Int) (x : Int) : ∀ k, x ∈ lockNs (progU h r k) ↔ ∃ q : Nat, q < k ∧ h q = true ∧ x = (q : Int)
  | 0 => by simp [progU, lockNs, oRun]
  | k + 1 => by
    rw [progU_next, lockNs_app, List.mem_append, progU_locks h r x k]
    by_cases hk : h k = true
    · rw [if_pos hk]
      have hp : lockNs (pieceU r k) = [(k : Int)] := by simp [pieceU, lockNs, oLock, oRun, oUnl]
      rw [hp, List.mem_singleton]
      constructor
      · rintro (⟨q, h1, h2, h3⟩ | h1)
        · exact ⟨q, by omega, h2, h3⟩
        · exact ⟨k, by omega, hk, h1⟩
      · rintro ⟨q, h1, h2, h3⟩
        by_cases hqk : q = k
        · subst hqk; exact .inr h3
        · exact .inl ⟨q, by omega, h2, h3⟩
    · rw [if_neg hk]
      constructor
      · rintro (⟨q, h1, h2, h3⟩ | h1)
        · exact ⟨q, by omega, h2, h3⟩
        · simp [lockNs] at h1
      · rintro ⟨q, h1, h2, h3⟩
        by_cases hqk : q = k
        · subst hqk; exact absurd h2 hk
        · exact .inl ⟨q, by omega, h2, h3⟩
theorem progU_has (h : Nat → Bool) (r : Int) {q : Nat} (hq : q < 8) : (locksD (progU h r 8)).contains (q : Int) = h q := by
  rw [Bool.eq_iff_iff, List.contains_iff_mem, locksD_mem, progU_locks]
  constructor
  · rintro ⟨q', _, h2, h3⟩
    have : q = q' := by omega
    subst this
    exact h2
  · exact fun e => ⟨q, hq, e, rfl⟩
/-- Task i of them. -/
def taskU (H : Nat → Nat → Bool) (r b : Int) (i : Nat) : TaskD := ⟨[UInt8.ofNat (97 + i)], 900, 100 + (i : Int), b, progU (H i) r 8⟩
def tasksU (H : Nat → Nat → Bool) (r b : Int) (n : Nat) : List TaskD := (List.range n).map (taskU H r b)
theorem tasksU_len (H : Nat → Nat → Bool) (r b : Int) (n : Nat) : (tasksU H r b n).length = n := by simp [tasksU]
theorem tasksU_get {H : Nat → Nat → Bool} {r b : Int} {n i : Nat} (h : i < n) : (tasksU H r b n)[i]? = some (taskU H r b i) := by simp [tasksU, h]
theorem tasksU_next (H : Nat → Nat → Bool) (r b : Int) (n : Nat) : tasksU H r b (n + 1) = tasksU H r b n ++ [taskU H r b n] := by simp [tasksU, List.range_succ]
theorem tasksU_mem {H : Nat → Nat → Bool} {r b : Int} {n : Nat} {t : TaskD} (h : t ∈ tasksU H r b n) : ∃ i, i < n ∧ t = taskU H r b i := by
  simp only [tasksU, List.mem_map, List.mem_range] at h
  obtain ⟨i, hi, rfl⟩ := h
  exact ⟨i, hi, rfl⟩
theorem tasksU_dl {H : Nat → Nat → Bool} {r b : Int} {n i : Nat} (h : i < n) : dlT (tasksU H r b n) i = 100 + (i : Int) := by
  unfold dlT
  rw [tasksU_get h]
  rfl
theorem count_lt (i : Nat) : ∀ n, i ≤ n → (List.range n).countP (fun j => decide (j < i)) = i
  | 0, h => by
    have : i = 0 := by omega
    subst this
    rfl
  | n + 1, h => by
    rw [List.range_succ, List.countP_append]
    by_cases e : i = n + 1
    · subst e
      have h2 : (List.range n).countP (fun j => decide (j < n + 1)) = n := by
        have := List.countP_eq_length (p := fun j => decide (j < n + 1)) (l := List.range n)
        rw [List.length_range] at this
        exact this.2 (fun a ha => by have := List.mem_range.1 ha; simp; omega)
      rw [h2]
      simp
    · rw [count_lt i n (by omega)]
      simp
      omega
theorem tasksU_rank {H : Nat → Nat → Bool} {r b : Int} {n i : Nat} (h : i < n) : rank n (dlT (tasksU H r b n)) i = i := by
  have h2 : (List.range n).countP (fun j => befB (dlT (tasksU H r b n)) j i) = (List.range n).countP (fun j => decide (j < i)) := by
    refine List.countP_congr (fun j hj => ?_)
    have hj2 := List.mem_range.1 hj
    rw [befB_iff]
    unfold bef
    rw [tasksU_dl hj2, tasksU_dl h]
    simp only [decide_eq_true_eq]
    omega
  unfold rank
  exact h2.trans (count_lt i n (by omega))
theorem tasksU_pr {H : Nat → Nat → Bool} {r b : Int} {n i : Nat} (h : i < n) : prE (tasksU H r b n) i = (n : Int) - (i : Int) := by
  unfold prE
  rw [tasksU_len, tasksU_rank h]
theorem tasksU_has {H : Nat → Nat → Bool} {r b : Int} {n i k : Nat} (h : i < n) (hk : k < 8) : hasK (tasksU H r b n) k i = H i k := by
  unfold hasK
  rw [tasksU_get h]
  exact progU_has (H i) r hk
theorem ceilV_congr {E E' : Nat → Int} {h h' : Nat → Bool} : ∀ {n : Nat}, (∀ i, i < n → E i = E' i ∧ h i = h' i) → ceilV E h n = ceilV E' h' n
  | 0, _ => rfl
  | n + 1, hh => by
    rw [ceilV, ceilV, ceilV_congr (n := n) (fun i hi => hh i (by omega)), (hh n (by omega)).1, (hh n (by omega)).2]
/-- What is wanted of each lock, by the first i tasks; of task i its first k locks besides. -/
def wantU (H : Nat → Nat → Bool) (n i k : Nat) : List Int := (List.range 8).map (fun q => if q < k then ceilV (fun j => (n : Int) - (j : Int)) (fun j => H j q) (i + 1) else ceilV (fun j => (n : Int) - (j : Int)) (fun j => H j q) i)
theorem wantU_len (H : Nat → Nat → Bool) (n i k : Nat) : (wantU H n i k).length = 8 := by simp [wantU]
theorem wantU_zero (H : Nat → Nat → Bool) (n : Nat) : wantU H n 0 0 = List.replicate 8 0 := by
  simp [wantU, ceilV, List.range_succ]
theorem wantU_next (H : Nat → Nat → Bool) (n i : Nat) : wantU H n i 8 = wantU H n (i + 1) 0 := by
  unfold wantU
  refine List.map_congr_left (fun q hq => ?_)
  rw [if_pos (List.mem_range.1 hq), if_neg (by omega)]
theorem wantU_get {H : Nat → Nat → Bool} {n i k : Nat} (h : k < 8) : (wantU H n i k)[k]? = some (ceilV (fun j => (n : Int) - (j : Int)) (fun j => H j k) i) := by
  simp [wantU, h]
theorem wantU_set (H : Nat → Nat → Bool) (n i k : Nat) (hk : H i k = true) : (wantU H n i k).set k (max (ceilV (fun j => (n : Int) - (j : Int)) (fun j => H j k) i) ((n : Int) - (i : Int))) = wantU H n i (k + 1) := by
  apply List.ext_getElem
  · simp [wantU]
  · intro q h1 h2
    rw [List.getElem_set]
    simp only [wantU, List.getElem_map, List.getElem_range]
    by_cases e : k = q
    · subst e
      rw [if_pos rfl, if_pos (by omega), ceilV, if_pos hk]
    · rw [if_neg e]
      by_cases hlt : q < k
      · rw [if_pos hlt, if_pos (by omega)]
      · rw [if_neg hlt, if_neg (by omega)]
theorem wantU_same (H : Nat → Nat → Bool) (n i k : Nat) (hk : H i k = false) : wantU H n i k = wantU H n i (k + 1) := by
  unfold wantU
  refine List.map_congr_left (fun q _ => ?_)
  by_cases e : q = k
  · subst e
    rw [if_neg (by omega), if_pos (by omega), ceilV, hk, if_neg (by simp)]
  · by_cases hlt : q < k
    · rw [if_pos hlt, if_pos (by omega)]
    · rw [if_neg hlt, if_neg (by omega)]
theorem wantU_end (H : Nat → Nat → Bool) (r b : Int) (n : Nat) : ceilD (tasksU H r b n) 8 = wantU H n n 0 := by
  unfold ceilD wantU
  refine List.map_congr_left (fun q hq => ?_)
  have hq8 := List.mem_range.1 hq
  rw [if_neg (by omega), tasksU_len]
  exact ceilV_congr (fun i hi => ⟨tasksU_pr hi, tasksU_has hi hq8⟩)
theorem secU (H : Nat → Nat → Bool) {r b : Int} (h1 : 1 ≤ r) (h2 : r ≤ 20) (hb : 1 ≤ b) {n i k : Nat} (hi : i < n) (hk : k < 8) : secV (k : Int) (fun j => progU (H j) r 8) (tasksU H r b n) i = if H i k = true then min r b else 0 := by
  unfold secV
  rw [tasksU_get hi]
  have hc := progU_cost (H i) h1 h2 k hk
  have hs := progU_sec (H i) h1 k 8
  show min (secGo (k : Int) 0 0 (progU (H i) r 8)) (min (costD (progU (H i) r 8)) b) = _
  rw [hs]
  by_cases e : H i k = true
  · rw [if_pos e] at hc ⊢
    rw [if_pos ⟨hk, e⟩]
    omega
  · rw [if_neg e] at hc ⊢
    rw [if_neg (fun x => e x.2)]
    omega
end Go.Proofs.YtembbhbbmkijcaaDoor
namespace Go.Proofs.YtembbhbbmkijcaaDoor
open Go.RowKit

def hkV (c : ChanD) : List Value := [.int .i64 c.room, .int .i64 c.server]
def flatH (cs : List ChanD) : List Value := cs.flatMap hkV
theorem flatH_get : ∀ (l : List ChanD) (j i : Nat) (c : ChanD), l[j]? = some c → i < 2 → (flatH l)[j * 2 + i]? = (hkV c)[i]?
  | [], _, _, _, h, _ => by simp at h
  | x :: r, 0, i, e, h, hi => by
    simp at h
    subst h
    simp only [flatH, List.flatMap_cons]
    rw [List.getElem?_append_left (by simp [hkV]; omega)]
    simp
  | x :: r, j + 1, i, e, h, hi => by
    simp only [flatH, List.flatMap_cons]
    rw [List.getElem?_append_right (by simp [hkV]; omega)]
    have := flatH_get r j i e (by simpa using h) hi
    rw [show (j + 1) * 2 + i - (hkV x).length = j * 2 + i by simp [hkV]; omega]
    exact this
def HRow (Bd : Nat) (w : World) (v : Value) (cs : List ChanD) : Prop := w.ownsRow Bd 129 2 v cs.length (flatH cs)
theorem HRow.kept {Bd : Nat} {w w' : World} {v : Value} {l : List ChanD} (h : HRow Bd w v l) (t : Kept w w') : HRow Bd w' v l := own_kept h t
theorem HRow.turns {S : Nat → Prop} {Bd : Nat} {w w' : World} {v : Value} {l : List ChanD} (h : HRow Bd w v l) (t : Turns S w w') (hv : ∀ q, v.ownBlock = some q → ¬ S q) : HRow Bd w' v l := owns_turns h t hv
theorem AtH.turns {S : Nat → Prop} {w w' : World} {a : Option Addr} {cs : List ChanD} (h : AtH w a cs) (t : Turns S w w') (hs : ∀ b f, a = some ⟨b, f, none⟩ → ¬ S b) : AtH w' a cs := by
  intro j c hj
  obtain ⟨b, f, e, h1, h2⟩ := h j c hj
  exact ⟨b, f, e, t.cell h1 (cell_lt h1) (hs b f e), t.cell h2 (cell_lt h2) (hs b f e)⟩
theorem HRow.view {Bd : Nat} {w : World} {v : Value} {cs : List ChanD} (h : HRow Bd w v cs) : ∃ a c, v = .slice a cs.length c ∧ AtH w a cs ∧ (∀ b f, a = some ⟨b, f, none⟩ → Bd ≤ b ∧ v.ownBlock = some b) := by
  rcases h.2 with ⟨h1, h2⟩ | ⟨g, cap, cur, h1, hb, _⟩
  · refine ⟨none, 0, by rw [h1, h2], ?_, fun b f e => by cases e⟩
    rw [List.eq_nil_of_length_eq_zero h2]
    exact AtH.nil _ _
  · refine ⟨some ⟨g, 0, none⟩, cap, h1, ?_, fun b f e => by cases e; exact ⟨hb, by rw [h1]; rfl⟩⟩
    subst h1
    intro j c hj
    have hj2 := (List.getElem?_eq_some_iff.1 hj).1
    unfold HRow at h
    refine ⟨g, 0, rfl, ?_, ?_⟩
    · rw [Nat.zero_add, show j * 2 = j * 2 + 0 from rfl, h.cellAt (j * 2 + 0) (by omega), flatH_get cs j 0 c hj (by omega)]
      rfl
    · rw [Nat.zero_add, h.cellAt (j * 2 + 1) (by omega), flatH_get cs j 1 c hj (by omega)]
      rfl
def tkW (t : TaskD) (pv : Value) : List Value := [.string (B t.name), .int .i64 t.period, .int .i64 t.deadline, .int .i64 t.budget, pv]
def flatT : List TaskD → List Value → List Value
  | t :: p, pv :: r => tkW t pv ++ flatT p r
  | _, _ => []
theorem flatT_append : ∀ (p : List TaskD) (r : List Value) (t : TaskD) (pv : Value), r.length = p.length → flatT (p ++ [t]) (r ++ [pv]) = flatT p r ++ tkW t pv
  | [], [], t, pv, _ => by simp [flatT]
  | [], _ :: _, _, _, h => by simp at h
  | _ :: _, [], _, _, h => by simp at h
  | q :: p, x :: r, t, pv, h => by
    simp only [List.cons_append, flatT]
    rw [flatT_append p r t pv (by simpa using h)]
    simp
theorem flatT_get : ∀ (p : List TaskD) (r : List Value) (j i : Nat) (t : TaskD) (pv : Value), p[j]? = some t → r[j]? = some pv → i < 5 → (flatT p r)[j * 5 + i]? = (tkW t pv)[i]?
  | [], _, _, _, _, _, h, _, _ => by simp at h
  | _ :: _, [], _, _, _, _, _, h, _ => by simp at h
  | q :: p, x :: r, 0, i, t, pv, h1, h2, hi => by
    simp at h1 h2
    subst h1 h2
    simp only [flatT, Nat.zero_mul, Nat.zero_add]
    rw [List.getElem?_append_left (by simp [tkW]; omega)]
  | q :: p, x :: r, j + 1, i, t, pv, h1, h2, hi => by
    simp only [flatT]
    rw [List.getElem?_append_right (by simp [tkW]; omega)]
    have := flatT_get p r j i t pv (by simpa using h1) (by simpa using h2) hi
    rw [show (j + 1) * 5 + i - (tkW q x).length = j * 5 + i by simp [tkW]; omega, this]
/-- What a call may turn that has such a row, and two blocks more, one behind the other. -/
def ownB (v : Value) (ob : Nat) (k : Nat) : Prop := v.ownBlock = some k ∨ k = ob ∨ k + 1 = ob
/-- A row of tasks that the call owns, each with a program that stays as it is while the row grows. -/
structure TRow (Bd ob : Nat) (w : World) (v : Value) (ts : List TaskD) (pvs : List Value) : Prop where
  len : pvs.length = ts.length
  row : w.ownsRow Bd 35 5 v ts.length (flatT ts pvs)
  pg : ∀ (j : Nat) (t : TaskD) (pv : Value), ts[j]? = some t → pvs[j]? = some pv → ∃ pa pc, pv = .slice pa t.prog.length pc ∧ t.prog.length ≤ pc ∧ (pa = none → pc = 0) ∧ ∀ w', Turns (ownB v ob) w w' → AtP w' pa t.prog
theorem TRow.nil (Bd ob : Nat) (w : World) : TRow Bd ob w (.slice none 0 0) [] [] := ⟨rfl, World.ownsRow_nil _ _ _ _, fun j t pv h => by simp at h⟩
theorem TRow.kept {Bd ob : Nat} {w w' : World} {v : Value} {ts : List TaskD} {pvs : List Value} (h : TRow Bd ob w v ts pvs) (k : Kept w w') : TRow Bd ob w' v ts pvs :=
  ⟨h.len, own_kept h.row k, fun j t pv h1 h2 => by
    obtain ⟨pa, pc, e1, e2, e3, e4⟩ := h.pg j t pv h1 h2
    exact ⟨pa, pc, e1, e2, e3, fun w2 t2 => e4 w2 ((k.turns.mono (fun _ _ f => f.elim)).trans t2)⟩⟩
theorem TRow.other {Bd ob : Nat} {w w' : World} {v : Value} {ts : List TaskD} {pvs : List Value} (h : TRow Bd ob w v ts pvs) (k : Turns (fun i => i = ob) w w') (hv : v.ownBlock ≠ some ob) : TRow Bd ob w' v ts pvs :=
  ⟨h.len, owns_turns h.row k (fun q hq e => hv (by rw [hq, e])), fun j t pv h1 h2 => by
    obtain ⟨pa, pc, e1, e2, e3, e4⟩ := h.pg j t pv h1 h2
    exact ⟨pa, pc, e1, e2, e3, fun w2 t2 => e4 w2 ((k.mono (fun _ _ f => .inr (.inl f))).trans t2)⟩⟩
theorem TRow.res {Bd ob : Nat} {w w' : World} {v : Value} {ts : List TaskD} {pvs : List Value} (h : TRow Bd ob w v ts pvs) (k : Turns (fun i => i + 1 = ob) w w') (hv : ∀ q, v.ownBlock = some q → q + 1 ≠ ob) : TRow Bd ob w' v ts pvs :=
  ⟨h.len, owns_turns h.row k (fun q hq e => hv q hq e), fun j t pv h1 h2 => by
    obtain ⟨pa, pc, e1, e2, e3, e4⟩ := h.pg j t pv h1 h2
    exact ⟨pa, pc, e1, e2, e3, fun w2 t2 => e4 w2 ((k.mono (fun _ _ f => .inr (.inr f))).trans t2)⟩⟩
theorem TRow.view {Bd ob : Nat} {w : World} {v : Value} {ts : List TaskD} {pvs : List Value} (h : TRow Bd ob w v ts pvs) : ∃ a c, v = .slice a ts.length c ∧ AtT w a ts ∧ (∀ b f, a = some ⟨b, f, none⟩ → Bd ≤ b ∧ f = 0) := by
  have hrow := h.row
  rcases hrow.2 with ⟨h1, h2⟩ | ⟨g, cap, cur, h1, hb, _⟩
  · refine ⟨none, 0, by rw [h1, h2], ?_, fun b f e => by cases e⟩
    rw [List.eq_nil_of_length_eq_zero h2]
    exact AtT.nil _ _
  · refine ⟨some ⟨g, 0, none⟩, cap, h1, ?_, fun b f e => by cases e; exact ⟨hb, rfl⟩⟩
    intro j t hj
    have hj2 := (List.getElem?_eq_some_iff.1 hj).1
    obtain ⟨pv, hpv⟩ : ∃ pv, pvs[j]? = some pv := ⟨_, List.getElem?_eq_getElem (by rw [h.len]; exact hj2)⟩
    obtain ⟨pa, pc, e1, e2, e3, e4⟩ := h.pg j t pv hj hpv
    rw [h1] at hrow
    refine ⟨g, 0, rfl, ?_⟩
    have hc : ∀ i, i < 5 → w.cell? ⟨g, 0 + j * 5 + i, none⟩ = (tkW t pv)[i]? := by
      intro i hi
      rw [Nat.zero_add, hrow.cellAt (j * 5 + i) (by omega), flatT_get ts pvs j i t pv hj hpv hi]
    refine ⟨hc 0 (by omega), hc 1 (by omega), hc 2 (by omega), hc 3 (by omega), pa, pc, ?_, e2, e4 w (Turns.refl _ _)⟩
    rw [hc 4 (by omega), ← e1]
    rfl
theorem orow_turns {S : Nat → Prop} {B : Nat} {w w' : World} {v : Value} {p : List OpD} {svs : List Value} (h : ORow B w v p svs) (t : Turns S w w') (hS : ∀ k, S k → k < B) : ORow B w' v p svs :=
  ⟨h.len, owns_turns h.row t (fun q hq e => by have h1 := (World.ownsRow.lt h.row q hq).1; have h2 := hS q e; omega), fun j o sv h1 h2 =>
    ⟨owns_turns (h.cs j o sv h1 h2).1 t (fun q hq e => by have h3 := (World.ownsRow.lt (h.cs j o sv h1 h2).1 q hq).1; have h4 := hS q e; omega), (h.cs j o sv h1 h2).2⟩⟩
/-- What stays while a row grows stays while the grown one does. -/
theorem stay_next {Q : World → Prop} {v : Value} {ob g n cap : Nat} {w w5 : World} (h : ∀ w', Turns (ownB v ob) w w' → Q w') (t : Turns (fun k => v.ownBlock = some k) w w5) (hg : v.ownBlock = some g ∨ w.heap.size ≤ g) : ∀ w', Turns (ownB (.slice (some ⟨g, 0, none⟩) n cap) ob) w5 w' → Q w' := by
  intro w' k
  refine h w' ?_
  refine (t.mono (fun _ _ e => .inl e)).next k ?_
  intro i hi hk
  rcases hk with hk | hk
  · simp [Value.ownBlock] at hk
    rcases hg with hg | hg
    · left; rw [hg, hk]
    · omega
  · exact .inr hk
theorem infoH : (Tryd.prog.info? 129).map (fun i => (i.zero, i.size, i.bytes)) = some (some (.agg #[.int .i64 0, .int .i64 0]), 2, 16) := by kernel_rfl
theorem infoTk : (Tryd.prog.info? 35).map (fun i => (i.zero, i.size, i.bytes)) = some (some (.agg #[.string ⟨#[]⟩, .int .i64 0, .int .i64 0, .int .i64 0, .slice none 0 0]), 5, 64) := by kernel_rfl
/-- One channel behind a row of channels, at one operation of a region. -/
theorem step_append_chan (w : World) {ops : Array Oper} {o : Oper} {a : Act} {K : Act → World → Prop} {Q : Exit → Act → World → Prop} {E : Prop} (hgd : o.guard = none) (s x : Operand)
    (ho : o.op = .call { callee := .builtin .append, args := #[s, x], argTypes := #[24, 24] })
    (Bd : Nat) (v1 : Value) (es : List ChanD) (e : ChanD) (cells : Array Value) (hcells : cells = (hkV e).toArray) (W : World) (hw1 : w = W.alloc (.cells cells 129)) (hs : a.eval s = v1) (nb : Nat) (hnb : nb = W.heap.size) (hx : a.eval x = .slice (some ⟨nb, 0, none⟩) 1 1)
    (h1 : HRow Bd W v1 es) (hl : es.length ≤ 1000000) (hB : Bd ≤ W.heap.size)
    (h : ∀ g cap w', HRow Bd w' (.slice (some ⟨g, 0, none⟩) (es.length + 1) cap) (es ++ [e]) → Turns (fun k => v1.ownBlock = some k) W w' → (v1.ownBlock = some g ∨ W.heap.size < g) → K (a.put o.dst (.slice (some ⟨g, 0, none⟩) (es.length + 1) cap)) w') :
    if Region.wanted o (yielded ops a.tmps) = true then Oper.wp Tryd.prog o a w K Q else E := by
  have hw : Region.wanted o (yielded ops a.tmps) = true := by simp [Region.wanted, hgd]
  rw [if_pos hw]
  subst hw1
  subst hnb
  obtain ⟨i, hi, hz0, hz1, hz2⟩ := info_parts infoH
  have hcc : ∀ j u, (hkV e)[j]? = some u → (W.alloc (.cells cells 129)).cell? (Addr.add ⟨W.heap.size, 0, none⟩ j) = some u := by
    intro j u hu
    rw [Addr.add_lit, Nat.zero_add, World.cell?_alloc_at _ _ _ _ rfl, hcells]
    simpa using hu
  have h1' : (W.alloc (.cells cells 129)).ownsRow Bd 129 2 v1 es.length (flatH es) := World.ownsRow.alloc h1 _
  have hB' := le_alloc (.cells cells 129) hB
  obtain ⟨v', w', hr, k1, k2, k3, k4⟩ := run_append_own_at (P := Tryd.prog) (W.alloc (.cells cells 129)) Bd 24 o.type 129 i _ 2 16 Tryd.underlying24 hi hz0 hz1 hz2 rfl (by omega) _ es.length (flatH es) h1' ⟨W.heap.size, 0, none⟩ 1 1 (hkV e) (by simp [hkV]) hcc (fun u hu => by simp [hkV] at hu; rcases hu with rfl | rfl <;> rfl) (by unfold maxLen; omega) (by omega) hB'
  obtain ⟨g, cap, rfl⟩ := own_form k1 (fun e => by have := k3.1 e; have := this.2; omega)
  have t : Turns (fun k => v1.ownBlock = some k) W w' := ((Turns.refl _ W).alloc _).trans (Turns.grown k2 (fun k e => e))
  have hg : v1.ownBlock = some g ∨ W.heap.size < g := by
    rcases k4 with k4 | k4
    · exact .inl k4.symm
    · right; simp [Value.ownBlock] at k4; omega
  unfold Oper.wp
  simp [execOp, ho, resolve, invoke, builtin, hs, hx, hr, Result.andThen]
  refine h g cap w' ?_ t hg
  unfold HRow
  rw [List.length_append, show flatH (es ++ [e]) = flatH es ++ hkV e by simp [flatH]]
  exact k1
/-- One task behind a row of tasks, at one operation of a region. -/
theorem step_append_tk (w : World) {ops : Array Oper} {o : Oper} {a : Act} {K : Act → World → Prop} {Q : Exit → Act → World → Prop} {E : Prop} (hgd : o.guard = none) (s x : Operand)
    (ho : o.op = .call { callee := .builtin .append, args := #[s, x], argTypes := #[25, 25] })
    (Bd ob : Nat) (v1 : Value) (ts : List TaskD) (pvs : List Value) (t : TaskD) (pa : Option Addr) (pc : Nat) (cells : Array Value) (hcells : cells = (tkW t (.slice pa t.prog.length pc)).toArray) (W : World) (hw1 : w = W.alloc (.cells cells 35)) (hs : a.eval s = v1) (nb : Nat) (hnb : nb = W.heap.size) (hx : a.eval x = .slice (some ⟨nb, 0, none⟩) 1 1)
    (h1 : TRow Bd ob W v1 ts pvs) (hp1 : t.prog.length ≤ pc) (hp2 : pa = none → pc = 0) (hp3 : ∀ w', Turns (ownB v1 ob) W w' → AtP w' pa t.prog) (hl : ts.length ≤ 1000000) (hB : Bd ≤ W.heap.size)
    (h : ∀ g cap w', TRow Bd ob w' (.slice (some ⟨g, 0, none⟩) (ts.length + 1) cap) (ts ++ [t]) (pvs ++ [.slice pa t.prog.length pc]) → Turns (fun k => v1.ownBlock = some k) W w' → (v1.ownBlock = some g ∨ W.heap.size < g) → K (a.put o.dst (.slice (some ⟨g, 0, none⟩) (ts.length + 1) cap)) w') :
    if Region.wanted o (yielded ops a.tmps) = true then Oper.wp Tryd.prog o a w K Q else E := by
  have hw : Region.wanted o (yielded ops a.tmps) = true := by simp [Region.wanted, hgd]
  rw [if_pos hw]
  subst hw1
  subst hnb
  obtain ⟨i, hi, hz0, hz1, hz2⟩ := info_parts infoTk
  have hcc : ∀ j u, (tkW t (.slice pa t.prog.length pc))[j]? = some u → (W.alloc (.cells cells 35)).cell? (Addr.add ⟨W.heap.size, 0, none⟩ j) = some u := by
    intro j u hu
    rw [Addr.add_lit, Nat.zero_add, World.cell?_alloc_at _ _ _ _ rfl, hcells]
    simpa using hu
  have h1' : (W.alloc (.cells cells 35)).ownsRow Bd 35 5 v1 ts.length (flatT ts pvs) := World.ownsRow.alloc h1.row _
  have hB' := le_alloc (.cells cells 35) hB
  obtain ⟨v', w', hr, k1, k2, k3, k4⟩ := run_append_own_at (P := Tryd.prog) (W.alloc (.cells cells 35)) Bd 25 o.type 35 i _ 5 64 Tryd.underlying25 hi hz0 hz1 hz2 rfl (by omega) _ ts.length (flatT ts pvs) h1' ⟨W.heap.size, 0, none⟩ 1 1 (tkW t (.slice pa t.prog.length pc)) (by simp [tkW]) hcc (fun u hu => by simp [tkW] at hu; rcases hu with rfl | rfl | rfl | rfl | rfl <;> rfl) (by unfold maxLen; omega) (by omega) hB'
  obtain ⟨g, cap, rfl⟩ := own_form k1 (fun e => by have := k3.1 e; have := this.2; omega)
  have tt : Turns (fun k => v1.ownBlock = some k) W w' := ((Turns.refl _ W).alloc _).trans (Turns.grown k2 (fun k e => e))
  have hg : v1.ownBlock = some g ∨ W.heap.size < g := by
    rcases k4 with k4 | k4
    · exact .inl k4.symm
    · right; simp [Value.ownBlock] at k4; omega
  have hg2 : v1.ownBlock = some g ∨ W.heap.size ≤ g := hg.imp (fun e => e) (fun e => by omega)
  unfold Oper.wp
  simp [execOp, ho, resolve, invoke, builtin, hs, hx, hr, Result.andThen]
  refine h g cap w' ⟨by rw [List.length_append, List.length_append, h1.len]; rfl, ?_, ?_⟩ tt hg
  · rw [List.length_append, flatT_append _ _ _ _ h1.len]
    exact k1
  · intro j u pv e1 e2
    by_cases hj : j < ts.length
    · rw [List.getElem?_append_left hj] at e1
      rw [List.getElem?_append_left (by rw [h1.len]; exact hj)] at e2
      obtain ⟨qa, qc, f1, f2, f3, f4⟩ := h1.pg j u pv e1 e2
      exact ⟨qa, qc, f1, f2, f3, stay_next f4 tt hg2⟩
    · have hj2 : j = ts.length := by
        have := (List.getElem?_eq_some_iff.1 e1).1
        simp at this
        omega
      subst hj2
      rw [List.getElem?_append_right (Nat.le_refl _), Nat.sub_self] at e1
      rw [List.getElem?_append_right (by rw [h1.len]; exact Nat.le_refl _), h1.len, Nat.sub_self] at e2
      simp at e1 e2
      subst e1 e2
      exact ⟨pa, pc, rfl, hp1, hp2, stay_next hp3 tt hg2⟩
end Go.Proofs.YtembbhbbmkijcaaDoor
namespace Go.Proofs.YtembbhbbmkijcaaDoor
open Go.ChangeShapes Go.WideShapes Go.ChangeAt Go.RowKit Go.Deep

/-- What a slice of bytes shows. -/
def AtB (w : World) (a : Option Addr) (Z : List Int) : Prop := ∀ (j : Nat) (x : Int), Z[j]? = some x → ∃ b f, a = some ⟨b, f, none⟩ ∧ w.cell? ⟨b, f + j, none⟩ = some (.int .u8 x)
theorem AtB.kept {w w' : World} {a : Option Addr} {Z : List Int} (h : AtB w a Z) (t : Kept w w') : AtB w' a Z := by
  intro j x hj
  obtain ⟨b, f, e, hc⟩ := h j x hj
  exact ⟨b, f, e, t.cell hc⟩
set_option maxRecDepth 100000 in
theorem bytes_open {H : Type} {enc : TypeId × Value → H} {w : World} {base b0 : Nat} {r : Reach} {held : Bool} {v : Value} {x : DataW H × List MemPlace} (hok : Value.okWide Tryd.prog w r b0 22 v) (h : ∃ fuel, DataW.trod enc Tryd.prog w base (fun _ => true) held fuel 22 v.cells.toList = some x) :
    ∃ (a : Option Addr) (Z : List Int) (c : Nat), v = .slice a Z.length c ∧ AtB w a Z ∧ ∀ z ∈ Z, 0 ≤ z ∧ z ≤ 255 := by
  obtain ⟨a, n, c, rfl⟩ := okWide_slice Tryd.underlying22 hok
  obtain ⟨fuel, hf⟩ := h
  rcases open_ints Tryd.underlying22 Tryd.underlying5 (by kernel_rfl) hf with ⟨hcs, _⟩ | ⟨y, l, c', zs, hcs, _, hl, hm, hz, _, hcell, hwz⟩
  · simp [Value.cells] at hcs
    obtain ⟨rfl, rfl, rfl⟩ := hcs
    exact ⟨none, [], 0, rfl, fun j x hj => by simp at hj, fun z hz => by cases hz⟩
  · simp [Value.cells] at hcs
    obtain ⟨rfl, rfl, rfl⟩ := hcs
    have hz' : zs.length = c := by simpa using hz
    have hlen : (zs.take n).length = n := by rw [List.length_take]; omega
    refine ⟨some y, zs.take n, c, by rw [hlen], ?_, ?_⟩
    · intro j x hj
      rw [List.getElem?_take] at hj
      split at hj
      · rename_i hjn
        have hjz : j < zs.length := by omega
        obtain ⟨b, f, rfl, hc⟩ := ints_at hcell (by omega)
        refine ⟨b, f, rfl, ?_⟩
        rw [hc j hjz, List.getD_eq_getElem?_getD, hj]
        rfl
      · cases hj
    · intro z hz2
      exact bounds_u8 (hwz z (List.mem_of_mem_take hz2))
end Go.Proofs.YtembbhbbmkijcaaDoor
namespace Go.Proofs.YtembbhbbmkijcaaDoor
open Go.RowKit Go.Sort

def bitU (Z : List Int) (i k : Nat) : Bool := !(bits BinOp.and IntKind.u8 ((Z.getD i 0) / 2 ^ k) 1 == 0)
theorem bit_fin : ∀ x : Fin 256, bits BinOp.and IntKind.u8 (x.1 : Int) 1 = 0 ∨ bits BinOp.and IntKind.u8 (x.1 : Int) 1 = 1 := by decide +kernel
theorem bit_two {z : Int} (h0 : 0 ≤ z) (h1 : z ≤ 255) (k : Nat) : bits BinOp.and IntKind.u8 (z / 2 ^ k) 1 = 0 ∨ bits BinOp.and IntKind.u8 (z / 2 ^ k) 1 = 1 := by
  have hp : (0 : Int) < 2 ^ k := Int.pow_pos (by omega)
  have g0 : 0 ≤ z / 2 ^ k := Int.ediv_nonneg h0 (by omega)
  have g1 : z / 2 ^ k ≤ z := Int.ediv_le_self _ h0
  obtain ⟨y, hy⟩ : ∃ y : Nat, z / 2 ^ k = (y : Int) := ⟨(z / 2 ^ k).toNat, by omega⟩
  rw [hy] at g0 g1 ⊢
  exact bit_fin ⟨y, by omega⟩
theorem bitU_get {Z : List Int} {i : Nat} {z : Int} (h : Z[i]? = some z) (k : Nat) : bitU Z i k = !(bits BinOp.and IntKind.u8 (z / 2 ^ k) 1 == 0) := by
  unfold bitU
  rw [List.getD_eq_getElem?_getD, h]
  rfl
theorem orow_new (B : Nat) (w : World) (qs : List OpD) (hqs : ∀ o ∈ qs, o.cases = []) (cells : Array Value) (hcells : cells = (flatO qs (nils qs)).toArray) (hB : B ≤ w.heap.size) (hl : qs.length ≤ 1000) (n : Nat) (hn : n = qs.length) : ORow B (w.alloc (.cells cells 31)) (.slice (some ⟨w.heap.size, 0, none⟩) n n) qs (nils qs) := by
  subst hn
  have hnl : (nils qs).length = qs.length := by simp [nils]
  refine ⟨hnl, ?_, ?_⟩
  · have := World.ownsRow_lit (base := B) (e := 31) (size := 5) w cells qs.length hB (by unfold maxLen; omega) (by rw [hcells]; simp [flatO_len _ _ hnl])
    rw [hcells] at this ⊢
    simpa using this
  · intro j o s hj hs
    have hs2 : s = .slice none 0 0 := by
      unfold nils at hs
      rw [List.getElem?_map, hj] at hs
      exact (Option.some.inj hs).symm
    rw [hs2, hqs o (List.mem_of_getElem? hj)]
    exact ⟨CRow.nil _ _ _, fun q hq => by simp [Value.ownBlock] at hq⟩
theorem name_text (W : World) (u : UInt8) : (convert 22 9 (.slice (some ⟨W.heap.size, 0, none⟩) 1 1)).run Tryd.prog (W.alloc (.cells #[.int .u8 (u.toNat : Int)] 5)) = .ok (.string (B [u])) (W.alloc (.cells #[.int .u8 (u.toNat : Int)] 5)) := by
  refine run_convert_bytes_back (P := Tryd.prog) _ 22 9 5 ⟨W.heap.size, 0, none⟩ 1 [u] Tryd.underlying22 Tryd.underlying5 Tryd.underlying9 ?_
  intro j hj
  obtain rfl : j = 0 := by simp at hj; omega
  rw [Addr.add_lit, Nat.zero_add, World.cell?_alloc_at _ _ _ _ rfl]
  rfl
theorem name_at (W : World) (i : Nat) (hi : i < 12) : (convert 22 9 (.slice (some ⟨W.heap.size, 0, none⟩) 1 1)).run Tryd.prog (W.alloc (.cells #[.int .u8 (97 + (i : Int))] 5)) = .ok (.string (B [UInt8.ofNat (97 + i)])) (W.alloc (.cells #[.int .u8 (97 + (i : Int))] 5)) := by
  have h := name_text W (UInt8.ofNat (97 + i))
  rw [show (((UInt8.ofNat (97 + i)).toNat : Nat) : Int) = 97 + (i : Int) by simp; omega] at h
  exact h
theorem wpList_append_tk (w : World) {ops : Array Oper} {rest : List Oper} {o : Oper} {a : Act} {Q : Exit → Act → World → Prop} (hgd : o.guard = none) (s x : Operand)
    (ho : o.op = .call { callee := .builtin .append, args := #[s, x], argTypes := #[25, 25] })
    (Bd ob : Nat) (v1 : Value) (ts : List TaskD) (pvs : List Value) (t : TaskD) (pa : Option Addr) (pc : Nat) (cells : Array Value) (hcells : cells = (tkW t (.slice pa t.prog.length pc)).toArray) (W : World) (hw1 : w = W.alloc (.cells cells 35)) (hs : a.eval s = v1) (nb : Nat) (hnb : nb = W.heap.size) (hx : a.eval x = .slice (some ⟨nb, 0, none⟩) 1 1)
    (h1 : TRow Bd ob W v1 ts pvs) (hp1 : t.prog.length ≤ pc) (hp2 : pa = none → pc = 0) (hp3 : ∀ w', Turns (ownB v1 ob) W w' → AtP w' pa t.prog) (hl : ts.length ≤ 1000000) (hB : Bd ≤ W.heap.size)
    (h : ∀ g cap w', TRow Bd ob w' (.slice (some ⟨g, 0, none⟩) (ts.length + 1) cap) (ts ++ [t]) (pvs ++ [.slice pa t.prog.length pc]) → Turns (fun k => v1.ownBlock = some k) W w' → (v1.ownBlock = some g ∨ W.heap.size < g) → wpList Tryd.prog ops Q rest (a.put o.dst (.slice (some ⟨g, 0, none⟩) (ts.length + 1) cap)) w') :
    wpList Tryd.prog ops Q (o :: rest) a w := by
  refine wpList_step fun K hK => ?_
  exact step_append_tk w hgd s x ho Bd ob v1 ts pvs t pa pc cells hcells W hw1 hs nb hnb hx h1 hp1 hp2 hp3 hl hB (fun g cap w' e1 e2 e3 => hK _ _ (h g cap w' e1 e2 e3))
set_option maxHeartbeats 8000000 in
set_option maxRecDepth 20000 in
theorem users_law (a : Option Addr) (Z : List Int) (c : Nat) (nn : Int) (hn0 : 0 ≤ nn) (hn1 : nn ≤ 255) (bb : Int) (hb0 : 0 ≤ bb) (hb1 : bb ≤ 255) (w : World) (hr : Rdy w) (hZ : AtB w a Z) (hz : ∀ z ∈ Z, 0 ≤ z ∧ z ≤ 255) :
    Calls Tryd.prog 3 #[.slice a Z.length c, .int .u8 nn, .int .u8 bb] w fun e w' => e = .returned (.bool true) ∧ Kept w w' := by
  have HR : Hid (Rdy w) := hr
  have HZ : Hid (AtB w a Z) := hZ
  have HZB : Hid (∀ z ∈ Z, 0 ≤ z ∧ z ≤ 255) := hz
  clear hr hZ hz
  obtain ⟨i3, hi3, hi30, hi31, hi38⟩ := info3
  have br : 1 ≤ 1 + nn % 20 ∧ 1 + nn % 20 ≤ 20 := by omega
  have bd : 1 ≤ 1 + bb % 30 ∧ 1 + bb % 30 ≤ 30 := by omega
  go_enter Tryd.func3, Tryd.ntmps3
  go_wp2_with fail
  refine (cknown_true w HR.out).mono ?_
  rintro e w1 ⟨rfl, K1⟩
  by_cases h1 : (Z.length : Int) < 1
  · go_wp2_with fail
    go_ret
    exact ⟨rfl, K1⟩
  by_cases h12 : (Z.length : Int) > 12
  · go_wp2_with fail
    go_ret
    exact ⟨rfl, K1⟩
  have KB : Kept w1 (w1.alloc (.cells #[.int .i64 8, .slice none 0 0, .slice none 0 0] 27)) := (Kept.refl w1).alloc _
  have HB : Hid (Box w.heap.size (w1.alloc (.cells #[.int .i64 8, .slice none 0 0, .slice none 0 0] 27)) 27 w1.heap.size [.int .i64 8, .slice none 0 0, .slice none 0 0]) := box_new w.heap.size w1 27 [.int .i64 8, .slice none 0 0, .slice none 0 0] K1.size (by simp)
  have hbs : w.heap.size ≤ (w1.alloc (.cells #[.int .i64 8, .slice none 0 0, .slice none 0 0] 27)).heap.size := (K1.trans KB).size
  go_wp2_with (refine wpList_make_full _ rfl _ _ 28 rfl w.heap.size 3 i3 _ 1 Tryd.underlying28 hi3 hi30 hi31 _ _ _ _ 8 rfl rfl rfl rfl (by rw [hi38]; omega) (by unfold maxLen; omega) hbs ?_; intro w2 ow2 gr2)
  generalize 1 + nn % 20 = r at *
  generalize 1 + bb % 30 = bg at *
  have hsz : (w1.alloc (.cells #[.int .i64 8, .slice none 0 0, .slice none 0 0] 27)).heap.size = w1.heap.size + 1 := by simp
  rw [hsz] at ow2
  obtain ⟨xb, hxb⟩ : ∃ x, w1.heap.size = x := ⟨_, rfl⟩
  rw [hxb] at ow2 HB ⊢
  have HI0 : Hid (IRow 3 w.heap.size w2 (.slice (some ⟨xb + 1, 0, none⟩) 8 8) (wantU (bitU Z) Z.length 0 0)) := by show IRow _ _ _ _ _; rw [wantU_zero]; exact irow_made ow2
  have KA : Kept (w1.alloc (.cells #[.int .i64 8, .slice none 0 0, .slice none 0 0] 27)) w2 := (Turns.grown (S := fun _ => False) gr2 (fun k e => by cases e)).kept (Kept.refl _) (fun i hi => hi.elim)
  have HB2 : Hid (Box w.heap.size w2 27 xb [.int .i64 8, .slice none 0 0, .slice none 0 0]) := HB.out.kept KA
  have K2 : Kept w w2 := (K1.trans KB).trans KA
  have HX : Hid (w.heap.size ≤ xb ∧ 1 ≤ r ∧ r ≤ 20 ∧ 1 ≤ bg ∧ bg ≤ 30) := ⟨by rw [← hxb]; exact K1.size, br.1, br.2, bd.1, bd.2⟩
  clear ow2 gr2 HB KA KB hbs hsz hxb br bd K1
  go_wp2_with fail
  go_loopg [11] Z.length (fun gk is wr => ∃ (i : Nat) (W : World) (v : Value) (pvs : List Value), W = wr ∧ is = .int .i64 i ∧ i + gk = Z.length ∧ Hid (TRow w.heap.size (xb + 1) W v (tasksU (bitU Z) r bg i) pvs) ∧ Hid (Box w.heap.size W 27 xb [.int .i64 8, .slice none 0 0, v]) ∧ Hid (IRow 3 w.heap.size W (.slice (some ⟨xb + 1, 0, none⟩) 8 8) (wantU (bitU Z) Z.length i 0)) ∧ Hid (v.ownBlock ≠ some xb ∧ v.ownBlock ≠ some (xb + 1)) ∧ Kept w W)
  case atStart => exact ⟨0, _, _, _, rfl, rfl, by omega, TRow.nil _ _ _, HB2, HI0, (by show _ ∧ _; simp [Value.ownBlock]), K2⟩
  case round =>
    obtain ⟨i, W, v, pvs, hW, rfl, hi, HT, HB, HI, HV, K⟩ := hrel
    subst hW
    by_cases hin : i < Z.length
    · have b1 : (i : Int) < (Z.length : Int) := by omega
      have b2 : (0 : Int) ≤ (i : Int) := by omega
      obtain ⟨gm, rfl⟩ : ∃ g, gk = g + 1 := ⟨gk - 1, by omega⟩
      obtain ⟨z, hz⟩ : ∃ z, Z[i]? = some z := ⟨_, List.getElem?_eq_getElem hin⟩
      obtain ⟨hz0, hz1⟩ := HZB.out z (List.mem_of_getElem? hz)
      obtain ⟨b, f, rfl, cz⟩ := HZ.out i z hz
      have KW : Kept W (W.alloc (.cells #[.int .i64 1, .int .i64 1, .int .i64 0, .int .i64 0, .slice none 0 0] 31)) := (Kept.refl W).alloc _
      have HP0 : Hid (∃ svs, ORow W.heap.size (W.alloc (.cells #[.int .i64 1, .int .i64 1, .int .i64 0, .int .i64 0, .slice none 0 0] 31)) (.slice (some ⟨W.heap.size, 0, none⟩) 1 1) (progU (bitU Z i) r 0) svs) := ⟨_, orow_new W.heap.size W [oRun 1] (by simp [oRun]) #[.int .i64 1, .int .i64 1, .int .i64 0, .int .i64 0, .slice none 0 0] rfl (Nat.le_refl _) (by simp) 1 rfl⟩
      have HXW : Hid (xb + 1 < W.heap.size) := (World.ownsRow.lt HI.out (xb + 1) rfl).2
      have HVW : Hid (∀ q, v.ownBlock = some q → w.heap.size ≤ q ∧ q < W.heap.size) := fun q hq => World.ownsRow.lt HT.out.row q hq
      have HI1 : Hid (IRow 3 w.heap.size (W.alloc (.cells #[.int .i64 1, .int .i64 1, .int .i64 0, .int .i64 0, .slice none 0 0] 31)) (.slice (some ⟨xb + 1, 0, none⟩) 8 8) (wantU (bitU Z) Z.length i 0)) := HI.out.kept KW
      have HT1 : Hid (Turns (fun q => q = xb + 1) W (W.alloc (.cells #[.int .i64 1, .int .i64 1, .int .i64 0, .int .i64 0, .slice none 0 0] 31))) := KW.turns.mono (fun _ _ h => h.elim)
      go_wp2_with fail
      generalize (W.alloc (.cells #[.int .i64 1, .int .i64 1, .int .i64 0, .int .i64 0, .slice none 0 0] 31)) = WP at *
      go_loopg [12, 13] 8 (fun gk ps ks wr => ∃ (k : Nat) (W2 : World) (pv : Value), W2 = wr ∧ pv = ps ∧ ks = .int .i64 k ∧ k + gk = 8 ∧ Hid (∃ svs, ORow W.heap.size W2 pv (progU (bitU Z i) r k) svs) ∧ Hid (IRow 3 w.heap.size W2 (.slice (some ⟨xb + 1, 0, none⟩) 8 8) (wantU (bitU Z) Z.length i k)) ∧ Hid (Turns (fun q => q = xb + 1) W W2))
      case atStart => exact ⟨0, _, _, rfl, rfl, rfl, by omega, HP0, HI1, HT1⟩
      case round =>
        obtain ⟨k, W2, pv, hW, hpv, rfl, hk, HP, HI2, HT2⟩ := hrel
        subst hW
        subst hpv
        have K2 : Kept w W2 := HT2.out.kept K (fun q hq => by have := HX.out.1; omega)
        by_cases hk8 : k < 8
        · have b3 : (k : Int) < 8 := by omega
          have b4 : (0 : Int) ≤ (k : Int) := by omega
          obtain ⟨gi, rfl⟩ : ∃ g, gk = g + 1 := ⟨gk - 1, by omega⟩
          have c0 := K2.cell cz
          obtain ⟨svs, hp⟩ := HP.out
          obtain ⟨pa, pc, rfl, hpc1, hpc2, hpc3⟩ := hp.view
          have hpl : Hid (∀ q, (Value.slice pa (progU (bitU Z i) r k).length pc).ownBlock = some q → W.heap.size ≤ q) := fun q hq => (hp.lt q hq).1
          clear hp hpc3
          rcases bit_two hz0 hz1 k with hb | hb
          · have HF : Hid (bitU Z i k = false) := by show _ = _; rw [bitU_get hz, hb]; rfl
            have HP5 : Hid (∃ svs, ORow W.heap.size W2 (.slice pa (progU (bitU Z i) r k).length pc) (progU (bitU Z i) r (k + 1)) svs) := by
              have h := HP.out
              rw [progU_next, HF.out, if_neg (by simp), List.append_nil]
              exact h
            have HI5 : Hid (IRow 3 w.heap.size W2 (.slice (some ⟨xb + 1, 0, none⟩) 8 8) (wantU (bitU Z) Z.length i (k + 1))) := by show IRow _ _ _ _ _; rw [← wantU_same _ _ _ _ HF.out]; exact HI2.out
            clear HP HI2 svs
            go_wp2_with fail
            go_roundg gi
            case rel => exact ⟨k + 1, _, _, rfl, rfl, by go_num, by omega, HP5, HI5, HT2⟩
            case measure => omega
          · have HF : Hid (bitU Z i k = true) := by show _ = _; rw [bitU_get hz, hb]; rfl
            obtain ⟨cv, hcv⟩ : ∃ x, ceilV (fun j => (Z.length : Int) - (j : Int)) (fun j => bitU Z j k) i = x := ⟨_, rfl⟩
            obtain ⟨m, hm⟩ : ∃ x, max cv ((Z.length : Int) - (i : Int)) = x := ⟨_, rfl⟩
            have HSET : Hid ((wantU (bitU Z) Z.length i k).set k m = wantU (bitU Z) Z.length i (k + 1)) := by show _ = _; rw [← hm, ← hcv]; exact wantU_set _ _ _ _ HF.out
            have HGET : Hid ((wantU (bitU Z) Z.length i k)[k]? = some cv) := by show _ = _; rw [wantU_get hk8, hcv]
            have hll : (progU (bitU Z i) r k).length + (pieceU r k).length ≤ 1000000 := by have := progU_len (bitU Z i) r k; simp [pieceU]; omega
            have hsW : W.heap.size ≤ W2.heap.size := HT2.out.size
            clear hcv
            go_wp2_with (first | (at_builtin; refine wpList_append_lits _ (by rfl) _ _ rfl W.heap.size (.slice pa (progU (bitU Z i) r k).length pc) (progU (bitU Z i) r k) (pieceU r k) (by simp [pieceU, oLock, oRun, oUnl]) (by simp [pieceU]) _ rfl W2 (by rfl) (by rfl) W2.heap.size (by rfl) 3 (by rfl) (by rfl) HP.out hll hsW ?_; intro g5 c5 w5 R5 t5; have HR5 : Hid (∃ svs, ORow W.heap.size w5 (.slice (some ⟨g5, 0, none⟩) ((progU (bitU Z i) r k).length + 3) c5) (progU (bitU Z i) r k ++ pieceU r k) svs) := R5; have HT5 : Hid (Turns (fun q => q = xb + 1) W w5) := HT2.out.next t5 (fun q hq e => by have := hpl.out q e; omega); have HI5 : Hid (IRow 3 w.heap.size w5 (.slice (some ⟨xb + 1, 0, none⟩) 8 8) (wantU (bitU Z) Z.length i k)) := HI2.out.turns t5 (fun q hq e => by have h1 := hpl.out q e; have h2 := HXW.out; simp [Value.ownBlock] at hq; omega); have c1 := irow_cell HI5.out (wantU_len _ _ _ _) k cv HGET.out; have f1 := irow_frozen HI5.out (wantU_len _ _ _ _) k; clear R5 t5) | fail)
            go_roundg gi
            case rel =>
              have t := turn_set w5 (xb + 1) k (.int .i64 m)
              have h5 := irow_set HI5.out (wantU_len _ _ _ _) k m
              rw [HSET.out] at h5
              obtain ⟨sv5, h6⟩ := HR5.out
              refine ⟨k + 1, _, _, rfl, rfl, by go_num, by omega, ⟨sv5, ?_⟩, h5, HT5.out.trans t⟩
              rw [progU_next, HF.out, if_pos rfl]
              exact h6.turns t (fun q e => by have := HXW.out; omega)
            case measure => omega
        · have b3 : ¬ (k : Int) < 8 := by omega
          obtain rfl : k = 8 := by omega
          obtain ⟨svs, hp⟩ := HP.out
          obtain ⟨pa, pc, rfl, hpc1, hpc2, hpc3⟩ := hp.view
          have hi12 : i < 12 := by omega
          have hconv := name_at W2 i hi12
          obtain ⟨nmv, hnmv⟩ : ∃ x, [UInt8.ofNat (97 + i)] = x := ⟨_, rfl⟩
          rw [hnmv] at hconv
          have HTK : Hid (taskU (bitU Z) r bg i = ⟨nmv, 900, 100 + (i : Int), bg, progU (bitU Z i) r 8⟩) := by show _ = _; rw [← hnmv]; rfl
          clear hnmv
          have HTW : Hid (TRow w.heap.size (xb + 1) W2 v (tasksU (bitU Z) r bg i) pvs) := HT.out.other HT2.out HV.out.2
          have HTN : Hid (TRow w.heap.size (xb + 1) (W2.alloc (.cells #[.int .u8 (97 + (i : Int))] 5)) v (tasksU (bitU Z) r bg i) pvs) := HTW.out.kept ((Kept.refl _).alloc _)
          have HIN : Hid (IRow 3 w.heap.size W2 (.slice (some ⟨xb + 1, 0, none⟩) 8 8) (wantU (bitU Z) Z.length (i + 1) 0)) := by show IRow _ _ _ _ _; rw [← wantU_next]; exact HI2.out
          have HBN : Hid (Box w.heap.size W2 27 xb [.int .i64 8, .slice none 0 0, v]) := HB.out.turns HT2.out (by omega)
          have u2 : W2.cell? ⟨xb, 2, none⟩ = some v := HBN.out.cell 2 (by simp)
          have HP3 : Hid (∀ w', Turns (ownB v (xb + 1)) (W2.alloc (.cells #[.int .u8 (97 + (i : Int))] 5)) w' → AtP w' pa (progU (bitU Z i) r 8)) := by
            intro w' t
            have h := hp.turns (((Turns.refl (ownB v (xb + 1)) W2).alloc (.cells #[.int .u8 (97 + (i : Int))] 5)).trans t) (fun q e => by
              have h1 := HXW.out
              rcases e with e | e | e
              · have := (HVW.out q e).2; omega
              · omega
              · omega)
            obtain ⟨a', c', e, _, _, h2⟩ := h.view
            cases e
            exact h2
          have hll : (tasksU (bitU Z) r bg i).length ≤ 1000000 := by rw [tasksU_len]; omega
          have hs2 : w.heap.size ≤ (W2.alloc (.cells #[.int .u8 (97 + (i : Int))] 5)).heap.size := (K2.alloc _).size
          have KN : Kept w (W2.alloc (.cells #[.int .u8 (97 + (i : Int))] 5)) := K2.alloc _
          have hWs : W.heap.size ≤ W2.heap.size := HT2.out.size
          clear hp hpc3 svs
          go_wp2_with (first | (at_builtin; refine wpList_append_tk _ (by rfl) _ _ rfl w.heap.size (xb + 1) v (tasksU (bitU Z) r bg i) pvs ⟨nmv, 900, 100 + (i : Int), bg, progU (bitU Z i) r 8⟩ pa pc _ rfl (W2.alloc (.cells #[.int .u8 (97 + (i : Int))] 5)) (by rfl) (by rfl) (W2.heap.size + 1) (by simp) (by rfl) HTN.out hpc1 hpc2 HP3.out hll hs2 ?_; intro g5 c5 w5 R5 t5 hg5; have HR5 : Hid (TRow w.heap.size (xb + 1) w5 (.slice (some ⟨g5, 0, none⟩) ((tasksU (bitU Z) r bg i).length + 1) c5) (tasksU (bitU Z) r bg i ++ [(⟨nmv, 900, 100 + (i : Int), bg, progU (bitU Z i) r 8⟩ : TaskD)]) (pvs ++ [.slice pa (progU (bitU Z i) r 8).length pc])) := R5; have HT5 : Hid (Turns (fun k => v.ownBlock = some k) (W2.alloc (.cells #[.int .u8 (97 + (i : Int))] 5)) w5) := t5; have HG5 : Hid (v.ownBlock = some g5 ∨ (W2.alloc (.cells #[.int .u8 (97 + (i : Int))] 5)).heap.size < g5) := hg5; have HB5 : Hid (Box w.heap.size w5 27 xb [.int .i64 8, .slice none 0 0, v]) := (HBN.out.kept ((Kept.refl _).alloc _)).turns t5 HV.out.1; have f2 := HB5.out.frozen 2; have u5 : w5.cell? ⟨xb, 2, none⟩ = some v := HB5.out.cell 2 (by simp); clear R5 t5 hg5) | fail)
          go_roundg gm
          case rel =>
            have t6 := turn_set w5 xb 2 (.slice (some ⟨g5, 0, none⟩) ((tasksU (bitU Z) r bg i).length + 1) c5)
            have hz5 : (W2.alloc (.cells #[.int .u8 (97 + (i : Int))] 5)).heap.size = W2.heap.size + 1 := by simp
            have hx := HX.out.1
            have hxw := HXW.out
            have hne : g5 ≠ xb ∧ g5 ≠ xb + 1 := by
              rcases HG5.out with h | h
              · exact ⟨fun e => HV.out.1 (by rw [h, e]), fun e => HV.out.2 (by rw [h, e])⟩
              · rw [hz5] at h; omega
            have h5 := HR5.out
            rw [← HTK.out, ← tasksU_next] at h5
            refine ⟨i + 1, _, _, _, rfl, by go_num, by omega, TRow.res h5 (t6.mono (fun q _ e => by omega)) (fun q e => by simp [Value.ownBlock] at e; omega), HB5.out.set 2 _, ((HIN.out.kept ((Kept.refl _).alloc _)).turns HT5.out (fun q hq e => by simp [Value.ownBlock] at hq; subst hq; exact HV.out.2 e)).turns t6 (fun q hq e => by simp [Value.ownBlock] at hq; omega), by show _ ∧ _; simp [Value.ownBlock]; exact hne, t6.kept (HT5.out.kept KN (fun q e => (HVW.out q e).1)) (fun q e => by omega)⟩
          case measure => omega
    · have b1 : ¬ (i : Int) < (Z.length : Int) := by omega
      obtain rfl : i = Z.length := by omega
      obtain ⟨ta, tc, rfl, hta, _⟩ := HT.out.view
      have HTT : Hid (AtT W ta (tasksU (bitU Z) r bg Z.length)) := hta
      have hnl : 1 ≤ Z.length ∧ Z.length ≤ 12 := by omega
      have hok : TsOk (tasksU (bitU Z) r bg Z.length) := by
        intro t ht
        obtain ⟨j, hj, rfl⟩ := tasksU_mem ht
        refine ⟨by simp [taskU], by have := progU_len (bitU Z j) r 8; simp only [taskU]; omega, fun o ho => by rw [(progU_ck (bitU Z j) HX.out.2.1 HX.out.2.2.1 8 (by omega) o ho).2]; simp⟩
      have hpg : ∀ t ∈ tasksU (bitU Z) r bg Z.length, checkP t.prog = (0, 0) := by
        intro t ht
        obtain ⟨j, hj, rfl⟩ := tasksU_mem ht
        exact progU_check (bitU Z j) HX.out.2.1 HX.out.2.2.1
      have hbl : ∀ (j : Nat) (t : TaskD), (tasksU (bitU Z) r bg Z.length)[j]? = some t → Bal 3 0 0 t.prog ((fun j => progU (bitU Z j) r 8) j) := by
        intro j t hj
        have hj2 : j < Z.length := by have := (List.getElem?_eq_some_iff.1 hj).1; rwa [tasksU_len] at this
        rw [tasksU_get hj2] at hj
        cases hj
        exact progU_bal (bitU Z j) r 8
      have HOF : Hid (∀ wx, Kept W wx → Calls Tryd.prog 7 #[.agg #[.int .i64 8, .slice none 0 0, .slice ta Z.length tc]] wx fun e w' => ∃ g, e = .returned (.slice (some ⟨g, 0, none⟩) 8 8) ∧ AtI w' (some ⟨g, 0, none⟩) (wantU (bitU Z) Z.length Z.length 0) ∧ Kept wx w') := fun wx kx => by
        have h := of_any 8 none ta 0 0 tc _ wx (HTT.out.kept kx) hok (by rw [tasksU_len]; omega) (by rw [tasksU_len]; omega) (by decide)
        rw [tasksU_len, wantU_end] at h
        exact h
      have HSE : Hid (∀ (k : Nat) wx, k < 8 → Kept W wx → Calls Tryd.prog 8 #[.agg #[.int .i64 8, .slice none 0 0, .slice ta Z.length tc], .int .i64 k] wx fun e w' => ∃ g, e = .returned (.slice (some ⟨g, 0, none⟩) Z.length Z.length) ∧ (∀ j, j < Z.length → w'.cell? ⟨g, j, none⟩ = some (.int .i64 (if bitU Z j k = true then min r bg else 0))) ∧ Kept wx w') := fun k wx hk kx => by
        have h := sections_any 8 (k : Int) none ta 0 0 tc _ (fun j => progU (bitU Z j) r 8) wx (HR.out.kept (K.trans kx)) (HTT.out.kept kx) (by rw [tasksU_len]; omega) hpg hbl (by omega) (by omega)
        rw [tasksU_len] at h
        refine h.mono ?_
        rintro e w' ⟨g, rfl, A, T⟩
        refine ⟨g, rfl, fun j hj => ?_, T⟩
        obtain ⟨b, f, e, hc⟩ := A j (secV (k : Int) (fun j => progU (bitU Z j) r 8) (tasksU (bitU Z) r bg Z.length) j) (by simp [secD, tasksU_len, hj])
        cases e
        rw [Nat.zero_add, secU (bitU Z) HX.out.2.1 HX.out.2.2.1 HX.out.2.2.2.1 hj hk] at hc
        exact hc
      have HBW : Hid (Box w.heap.size W 27 xb [.int .i64 8, .slice none 0 0, .slice ta Z.length tc]) := by
        have h := HB.out
        rw [tasksU_len] at h
        exact h
      have s0 : W.cell? ⟨xb, 0, none⟩ = some (.int .i64 8) := HBW.out.cell 0 (by simp)
      have s1 : W.cell? ⟨xb, 1, none⟩ = some (.slice none 0 0) := HBW.out.cell 1 (by simp)
      have s2 : W.cell? ⟨xb, 2, none⟩ = some (.slice ta Z.length tc) := HBW.out.cell 2 (by simp)
      have HIW : Hid (AtI W (some ⟨xb + 1, 0, none⟩) (wantU (bitU Z) Z.length Z.length 0)) := irow_at HI.out (wantU_len _ _ _ _)
      clear hta hok hpg hbl HT HB HI HV HB2 HI0 K2
      go_wp2_with fail
      refine (HOF.out _ (Kept.refl _)).mono ?_
      rintro e w6 ⟨g6, rfl, B6, T6⟩
      have hin := ints_any (some ⟨g6, 0, none⟩) (some ⟨xb + 1, 0, none⟩) 8 8 _ _ w6 B6 (HIW.out.kept T6) (by rw [wantU_len]; decide) (by rw [wantU_len]; decide)
      rw [wantU_len, decide_eq_true (rfl : wantU (bitU Z) Z.length Z.length 0 = _)] at hin
      clear s0 s1 s2 B6 HIW
      go_wp2_with fail
      refine hin.mono ?_
      rintro e w7 ⟨rfl, T7⟩
      have K7 : Kept W w7 := T6.trans T7
      clear hin T6 T7 HOF
      go_wp2_with fail
      go_loopg [14] 8 (fun gk is wr => ∃ (k : Nat) (W3 : World), W3 = wr ∧ is = .int .i64 k ∧ k + gk = 8 ∧ Kept W W3)
      case atStart => exact ⟨0, _, rfl, rfl, by omega, K7⟩
      case round =>
        obtain ⟨k, W3, hW3, rfl, hk, K3⟩ := hrel
        subst hW3
        by_cases hk8 : k < 8
        · have b3 : (k : Int) < 8 := by omega
          have b4 : (0 : Int) ≤ (k : Int) := by omega
          obtain ⟨gm, rfl⟩ : ∃ g, gk = g + 1 := ⟨gk - 1, by omega⟩
          have HB3 := HBW.out.kept K3
          have s0 : W3.cell? ⟨xb, 0, none⟩ = some (.int .i64 8) := HB3.cell 0 (by simp)
          have s1 : W3.cell? ⟨xb, 1, none⟩ = some (.slice none 0 0) := HB3.cell 1 (by simp)
          have s2 : W3.cell? ⟨xb, 2, none⟩ = some (.slice ta Z.length tc) := HB3.cell 2 (by simp)
          clear HB3
          go_wp2_with fail
          refine (HSE.out k _ hk8 K3).mono ?_
          rintro e w8 ⟨g8, rfl, B8, T8⟩
          have HC8 : Hid (∀ j, j < Z.length → w8.cell? ⟨g8, j, none⟩ = some (.int .i64 (if bitU Z j k = true then min r bg else 0))) := B8
          have K8 : Kept W w8 := K3.trans T8
          clear s0 s1 s2 B8 T8
          go_wp2_with fail
          go_loopg [16] Z.length (fun gk is wr => ∃ (j : Nat) (W4 : World), W4 = wr ∧ is = .int .i64 j ∧ j + gk = Z.length ∧ Kept w8 W4)
          case atStart => exact ⟨0, _, rfl, rfl, by omega, Kept.refl _⟩
          case round =>
            obtain ⟨j, W4, hW4, rfl, hj, K4⟩ := hrel
            subst hW4
            by_cases hjn : j < Z.length
            · have b1 : (j : Int) < (Z.length : Int) := by omega
              have b2 : (0 : Int) ≤ (j : Int) := by omega
              obtain ⟨gi, rfl⟩ : ∃ g, gk = g + 1 := ⟨gk - 1, by omega⟩
              obtain ⟨z, hz⟩ : ∃ z, Z[j]? = some z := ⟨_, List.getElem?_eq_getElem hjn⟩
              obtain ⟨hz0, hz1⟩ := HZB.out z (List.mem_of_getElem? hz)
              obtain ⟨b, f, rfl, cz⟩ := HZ.out j z hz
              have c0 := ((K.trans K8).trans K4).cell cz
              have c1 := K4.cell (HC8.out j hjn)
              rcases bit_two hz0 hz1 k with hb | hb
              · have hf : bitU Z j k = false := by rw [bitU_get hz, hb]; rfl
                rw [hf, if_neg (by simp)] at c1
                clear hf
                go_wp2_with fail
                go_roundg gi
                case rel => exact ⟨j + 1, _, rfl, by go_num, by omega, K4⟩
                case measure => omega
              · have hf : bitU Z j k = true := by rw [bitU_get hz, hb]; rfl
                rw [hf, if_pos rfl] at c1
                obtain ⟨m, hm⟩ : ∃ m, min r bg = m := ⟨_, rfl⟩
                rw [hm] at c1
                clear hf
                go_wp2_with fail
                go_roundg gi
                case rel => exact ⟨j + 1, _, rfl, by go_num, by omega, K4⟩
                case measure => omega
            · have b1 : ¬ (j : Int) < (Z.length : Int) := by omega
              go_wp2_with fail
              go_roundg gm
              case rel => exact ⟨k + 1, _, rfl, by go_num, by omega, K8.trans K4⟩
              case measure => omega
        · have b1 : ¬ (k : Int) < 8 := by omega
          go_wp2_with fail
          go_ret
          exact ⟨rfl, K.trans K3⟩
end Go.Proofs.YtembbhbbmkijcaaDoor
