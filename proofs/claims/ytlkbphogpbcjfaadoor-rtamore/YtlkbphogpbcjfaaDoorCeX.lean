/- The reference's Ceils and Sections. The reference's Sections. What is taken: its programs, its budgets, its locks; sections without the lock: plain mathematics. -/
import Derived.Test.YtlkbphogpbcjfaaDoorQRl
import Derived.Test.YtlkbphogpbcjfaaDoorQCe
import Derived.Test.YtlkbphogpbcjfaaDoorRPr
namespace Go.Proofs.YtlkbphogpbcjfaaDoor
open Go.RowKit Go.Sort

/-- The ceilings by the first j tasks; of task j its first k locks besides. -/
def ceilI (ts : List TaskD) (L j : Nat) (m : List Int) : List Int := (List.range L).map (fun q : Nat => if m.contains (q : Int) = true then max (ceilV (prE ts) (hasK ts q) j) (prE ts j) else ceilV (prE ts) (hasK ts q) j)
theorem ceilI_len (ts : List TaskD) (L j : Nat) (m : List Int) : (ceilI ts L j m).length = L := by simp [ceilI]
theorem ceilI_zero (ts : List TaskD) (L : Nat) : ceilI ts L 0 [] = List.replicate L 0 := by
  apply List.ext_getElem
  · simp [ceilI]
  · intro i h1 h2
    simp [ceilI, ceilV]
theorem ceilI_end (ts : List TaskD) (L : Nat) : ceilI ts L ts.length [] = ceilD ts L := by
  unfold ceilI ceilD
  exact List.map_congr_left (fun i _ => by rw [if_neg (by simp)])
theorem ceilI_next {ts : List TaskD} {L j : Nat} {t : TaskD} (h : ts[j]? = some t) : ceilI ts L j (locksD t.prog) = ceilI ts L (j + 1) [] := by
  unfold ceilI
  refine List.map_congr_left (fun (i : Nat) _ => ?_)
  have hh : hasK ts i j = (locksD t.prog).contains (i : Int) := by unfold hasK; rw [h]
  rw [if_neg (c := ([] : List Int).contains (i : Int) = true) (by simp), ceilV, hh]
theorem ceilI_get {ts : List TaskD} {L j q : Nat} {m : List Int} (h : q < L) (hm : (q : Int) ∉ m) : (ceilI ts L j m)[q]? = some (ceilV (prE ts) (hasK ts q) j) := by
  simp only [ceilI, List.getElem?_map, List.getElem?_range h, Option.map_some]
  rw [if_neg (by simpa using hm)]
theorem ceilI_set {ts : List TaskD} {L j q : Nat} {m : List Int} : (ceilI ts L j m).set q (max (ceilV (prE ts) (hasK ts q) j) (prE ts j)) = ceilI ts L j (m ++ [(q : Int)]) := by
  apply List.ext_getElem
  · simp [ceilI]
  · intro i h1 h2
    rw [List.getElem_set]
    simp only [ceilI, List.getElem_map, List.getElem_range]
    by_cases e : q = i
    · subst e
      rw [if_pos rfl, if_pos (by simp)]
    · rw [if_neg e]
      have hq : (m ++ [(q : Int)]).contains (i : Int) = m.contains (i : Int) := by
        rw [Bool.eq_iff_iff]
        simp only [List.contains_iff_mem, List.mem_append, List.mem_singleton]
        constructor
        · rintro (h | h)
          · exact h
          · omega
        · exact fun h => .inl h
      rw [hq]
theorem ceilI_same {ts : List TaskD} {L j q : Nat} {m : List Int} (hq : q < L) (hm : (q : Int) ∉ m) (hle : prE ts j ≤ ceilV (prE ts) (hasK ts q) j) : ceilI ts L j m = ceilI ts L j (m ++ [(q : Int)]) := by
  rw [← ceilI_set (q := q)]
  apply List.ext_getElem?
  intro i
  rw [List.getElem?_set]
  by_cases e : q = i
  · subst e
    rw [if_pos rfl, if_pos (by rw [ceilI_len]; exact hq), ceilI_get hq hm]
    congr 1
    omega
  · rw [if_neg e]

end Go.Proofs.YtlkbphogpbcjfaaDoor
namespace Go.Proofs.YtlkbphogpbcjfaaDoor
open Go.RowKit Go.Sort

theorem secD_take {lock : Int} {F : Nat → List OpD} {ts : List TaskD} {j : Nat} (h : j < ts.length) : (secD lock F ts).take (j + 1) = (secD lock F ts).take j ++ [secV lock F ts j] := by
  rw [List.take_add_one]
  simp [secD, h]
theorem irow_view {e : TypeId} {B : Nat} {w : World} {v : Value} {l : List Int} (h : IRow e B w v l) : ∃ a c, v = .slice a l.length c ∧ AtI w a l := by
  rcases h.2 with ⟨h1, h2⟩ | ⟨g, cap, cur, h1, _⟩
  · refine ⟨none, 0, by rw [h1, h2], ?_⟩
    rw [List.eq_nil_of_length_eq_zero h2]
    intro j x hj
    simp at hj
  · subst h1
    exact ⟨_, cap, rfl, irow_at2 h rfl⟩
end Go.Proofs.YtlkbphogpbcjfaaDoor
namespace Go.Proofs.YtlkbphogpbcjfaaDoor
open Go.RowKit Go.Sort

theorem taskE_all {L nc : Int} {ts : List TaskD} {i : Nat} {t : TaskD} (h : taskE L nc ts i t = 0) : (checkP t.prog).2 = 0 ∧ timesB t = true ∧ hasAllB L nc t.prog = true := by
  unfold taskE at h
  split at h
  · split at h
    · simp at h
    · split at h
      · rename_i ht
        split at h
        · rename_i hp
          split at h
          · simp at h
          · split at h
            · rename_i ha
              exact ⟨hp, ht, ha⟩
            · simp at h
        · rename_i hp
          exact absurd h hp
      · simp at h
  · simp at h
theorem tasksGo_all (L nc : Int) (ts : List TaskD) : ∀ (l : List TaskD) (i : Nat), (tasksGo L nc ts i l).2 = 0 → ∀ t ∈ l, (checkP t.prog).2 = 0 ∧ timesB t = true ∧ hasAllB L nc t.prog = true
  | [], _, _, t, ht => by cases ht
  | x :: r, i, h, t, ht => by
    rw [tasksGo] at h
    split at h
    · rename_i hx
      rcases List.mem_cons.1 ht with rfl | ht
      · exact taskE_all hx
      · exact tasksGo_all L nc ts r (i + 1) h t ht
    · rename_i hx
      exact absurd h hx
theorem checkS_all {L : Int} {cs : List ChanD} {ts : List TaskD} (h : (checkS L cs ts).2 = 0) : ∀ t ∈ ts, (checkP t.prog).2 = 0 ∧ timesB t = true ∧ hasAllB L cs.length t.prog = true := by
  unfold checkS at h
  split at h
  · simp at h
  · split at h
    · simp at h
    · split at h
      · exact tasksGo_all _ _ _ _ _ h
      · rename_i hx
        exact absurd h hx
theorem prog_0 {p : List OpD} (h : (checkP p).2 = 0) : checkP p = (0, 0) := by
  unfold checkP at *
  split at h
  · simp at h
  · rename_i h1
    rw [if_neg h1]
    split at h
    · rename_i h2
      rw [if_pos h2]
      split at h
      · rename_i h3
        rw [if_pos h3]
        split at h
        · simp at h
        · rename_i h4
          rw [if_neg h4]
      · rename_i h3
        exact absurd h h3
    · rename_i h2
      exact absurd h h2
theorem hasAll_at {L nc : Int} : ∀ {p : List OpD}, hasAllB L nc p = true → ∀ o ∈ p, hasB L nc o = true
  | [], _, o, ho => by cases ho
  | x :: r, h, o, ho => by
    rw [hasAllB] at h
    split at h
    · rename_i hx
      rcases List.mem_cons.1 ho with rfl | ho
      · exact hx
      · exact hasAll_at h o ho
    · cases h
theorem lockNs_mem : ∀ (p : List OpD) (x : Int), x ∈ lockNs p ↔ ∃ o ∈ p, o.kind = 2 ∧ o.n = x
  | [], x => by simp [lockNs]
  | o :: r, x => by
    have ih := lockNs_mem r x
    by_cases hk : o.kind = 2
    · simp [lockNs, hk, ih, eq_comm]
    · simp [lockNs, hk, ih]
/-- The locks of what is taken are the set's. -/
theorem locks_in {L nc : Int} {p : List OpD} (hk : checkP p = (0, 0)) (h : hasAllB L nc p = true) : ∀ x ∈ locksD p, 0 ≤ x ∧ x < L := by
  intro x hx
  rw [locksD_mem, lockNs_mem] at hx
  obtain ⟨o, ho, h2, rfl⟩ := hx
  have h1 := hasAll_at h o ho
  have hc := (taken_prog hk).2.1 o ho
  refine ⟨op_pos hc, ?_⟩
  unfold hasB at h1
  rw [if_pos (.inl h2)] at h1
  simpa using h1
theorem secR_none (lock : Int) : ∀ (f : List OpD) (x n : Int), (∀ o ∈ f, ¬ (o.kind = 2 ∧ o.n = lock)) → secR lock x n false f = x
  | [], _, _, _ => rfl
  | o :: r, x, n, h => by
    have h0 := h o (by simp)
    have e1 : hR lock false o = false := by
      unfold hR
      by_cases h2 : o.kind = 2
      · rw [if_pos h2, if_neg (fun e => h0 ⟨h2, e⟩)]
      · rw [if_neg h2]
        split
        · split <;> rfl
        · rfl
    rw [secR, e1, if_neg (by simp)]
    exact secR_none lock r x _ (fun o ho => h o (by simp [ho]))
theorem sec_zero {p f : List OpD} {k : Nat} (hk : checkP p = (0, 0)) (hb : Bal 3 0 0 p f) (h : (locksD p).contains (k : Int) = false) : secGo (k : Int) 0 0 f = 0 := by
  have hc := (taken_prog hk).2.1
  rw [← rsec_all (k : Int) (balf hb) (fun o ho => op_pos (hc o (bal_mem hb o ho).1))]
  refine secR_none _ f 0 0 (fun o ho h2 => ?_)
  have hm : (k : Int) ∈ locksD p := by
    rw [locksD_mem, lockNs_mem]
    exact ⟨o, (bal_mem hb o ho).1, h2.1, h2.2⟩
  rw [Bool.eq_false_iff] at h
  exact h (by simpa using hm)
theorem need_nn {t : TaskD} (hk : checkP t.prog = (0, 0)) (ht : timesB t = true) : 0 ≤ min (costD t.prog) t.budget := by
  obtain ⟨_, hc, _, f, hb, _⟩ := taken_prog hk
  have h1 := (costF_bd f (fun o ho => hc o (bal_mem hb o ho).1)).1
  rw [← cost_len hb hc] at h1
  simp [timesB] at ht
  omega
/-- One of those who have it has the ceiling; or none has it. -/
theorem ceilV_hit (E : Nat → Int) (h : Nat → Bool) : ∀ n, ceilV E h n = 0 ∨ ∃ i, i < n ∧ h i = true ∧ ceilV E h n = E i
  | 0 => .inl rfl
  | n + 1 => by
    rw [ceilV]
    split
    · rename_i hh
      by_cases hm : ceilV E h n ≤ E n
      · exact .inr ⟨n, by omega, hh, by omega⟩
      · rcases ceilV_hit E h n with e | ⟨i, hi, h1, h2⟩
        · exact .inl (by omega)
        · exact .inr ⟨i, by omega, h1, by omega⟩
    · rcases ceilV_hit E h n with e | ⟨i, hi, h1, h2⟩
      · exact .inl e
      · exact .inr ⟨i, by omega, h1, h2⟩
def oneB (cv : Int) (E : Nat → Int) (h : Nat → Bool) : Nat → Bool
  | 0 => cv == 0
  | n + 1 => oneB cv E h n || (h n && cv == E n)
theorem oneB_mono (cv : Int) (E : Nat → Int) (h : Nat → Bool) : ∀ (m n : Nat), oneB cv E h n = true → oneB cv E h (n + m) = true
  | 0, n, hn => hn
  | m + 1, n, hn => by
    rw [Nat.add_succ, oneB, oneB_mono cv E h m n hn]
    rfl
theorem oneB_all (E : Nat → Int) (h : Nat → Bool) (n : Nat) : oneB (ceilV E h n) E h n = true := by
  rcases ceilV_hit E h n with e | ⟨i, hi, h1, h2⟩
  · have := oneB_mono (ceilV E h n) E h n 0 (by simp [oneB, e])
    rwa [Nat.zero_add] at this
  · have h3 : oneB (ceilV E h n) E h (i + 1) = true := by simp [oneB, h1, h2]
    have := oneB_mono _ E h (n - (i + 1)) (i + 1) h3
    rwa [show i + 1 + (n - (i + 1)) = n by omega] at this
def someK (l : List Int) (k : Int) : Bool := l.contains k
theorem some_next {l : List Int} {j : Nat} {x : Int} (k : Int) (h : l[j]? = some x) : someK (l.take (j + 1)) k = (someK (l.take j) k || x == k) := by
  unfold someK
  rw [List.take_add_one, h, Bool.eq_iff_iff]
  simp only [List.contains_iff_mem, List.mem_append, Bool.or_eq_true, beq_iff_eq, Option.toList_some, List.mem_singleton]
  constructor
  · rintro (h | h)
    · exact .inl h
    · exact .inr h.symm
  · rintro (h | h)
    · exact .inl h
    · exact .inr h.symm
end Go.Proofs.YtlkbphogpbcjfaaDoor
