/- The reference's Name, Cost, known. The reference's known: are all locks, channels of an op the set's? The reference's checkTask. The reference's CheckSet. -/
import Derived.Test.YtlkbphogpbcjfaaDoorPgA
import Derived.Test.YtlkbphogpbcjfaaDoorRFm
import Derived.Test.YtlkbphogpbcjfaaDoorRcZ
namespace Go.Proofs.YtlkbphogpbcjfaaDoor
open Go.RowKit

theorem nameB_iff (l : List UInt8) : nameB l = true ↔ 1 ≤ l.length ∧ l.length ≤ 8 ∧ ∀ c ∈ l, 97 ≤ c.toNat ∧ c.toNat ≤ 122 := by
  unfold nameB
  rw [Bool.and_eq_true, decide_eq_true_eq, within_iff]
  constructor
  · rintro ⟨h1, h2, h3⟩
    refine ⟨?_, h1, h3⟩
    cases l with
    | nil => simp at h2
    | cons a r => simp
  · rintro ⟨h1, h2, h3⟩
    refine ⟨h2, ?_, h3⟩
    cases l with
    | nil => simp at h1
    | cons a r => simp
theorem costF_next : ∀ (f : List OpD) (j : Nat) (o : OpD), f[j]? = some o → costF (f.take (j + 1)) = costF (f.take j) + (if o.kind = 1 then o.n else 0)
  | [], j, o, h => by simp at h
  | x :: r, 0, o, h => by
    simp at h
    subst h
    simp [costF]
  | x :: r, j + 1, o, h => by
    have ih := costF_next r j o (by simpa using h)
    rw [List.take_succ_cons, List.take_succ_cons, costF, costF, ih]
    omega
theorem costF_bd : ∀ (f : List OpD), (∀ o ∈ f, checkD o = 0) → 0 ≤ costF f ∧ costF f ≤ 1000 * (f.length : Int)
  | [], _ => by simp [costF]
  | o :: r, h => by
    have ih := costF_bd r (fun q hq => h q (by simp [hq]))
    rw [costF, List.length_cons]
    split
    · rename_i hk
      obtain ⟨k, n, v, wt, l⟩ := o
      simp only at hk
      subst hk
      have h2 := run_n (h ⟨1, n, v, wt, l⟩ (by simp))
      simp only
      omega
    · omega
/-- Are all locks, channels of an op the set's? -/
def knownD (L nc : Int) (o : OpD) : Bool := if o.kind = 2 ∨ o.kind = 3 then decide (o.n < L) else if o.kind = 4 ∨ o.kind = 5 ∨ o.kind = 6 then decide (o.n < nc) else casesB nc o.cases
end Go.Proofs.YtlkbphogpbcjfaaDoor
namespace Go.Proofs.YtlkbphogpbcjfaaDoor
open Go.RowKit

/-- Of what may be, it is what Check asks. -/
theorem known_has {L nc : Int} {o : OpD} (h : checkD o = 0) : knownD L nc o = hasB L nc o := by
  have ht := (taken_of h).takes
  have hk := (taken_of h).kind
  obtain ⟨k, n, v, wt, l⟩ := o
  unfold knownD hasB
  simp only at *
  by_cases h1 : k = 2 ∨ k = 3
  · rw [if_pos h1, if_pos h1]
  · rw [if_neg h1, if_neg h1]
    by_cases h2 : k = 4 ∨ k = 5 ∨ k = 6
    · rw [if_pos h2, if_pos h2]
    · rw [if_neg h2, if_neg h2]
      by_cases h3 : k = 7
      · rw [if_pos h3]
      · rw [if_neg h3]
        have hl : l = [] := by
          simp only [isKindB, Bool.and_eq_true, decide_eq_true_eq] at hk
          have hkk : k = 1 ∨ k = 8 ∨ k = 9 := by omega
          rcases hkk with rfl | rfl | rfl <;> simp [takesB, shapeOf] at ht <;> exact ht.2
        rw [hl]
        rfl
theorem taken_cases {o : OpD} (h : checkD o = 0) : o.cases.length ≤ 4 := by
  have ht := taken_of h
  have h1 := ht.takes
  unfold takesB at h1
  rw [Bool.and_eq_true, Bool.or_eq_true] at h1
  rcases h1.2 with h2 | h2
  · exact ht.many h2
  · have : o.cases.length = 0 := by simpa using h2
    omega
end Go.Proofs.YtlkbphogpbcjfaaDoor
namespace Go.Proofs.YtlkbphogpbcjfaaDoor
open Go.RowKit

theorem find_some (nm : List UInt8) : ∀ (ts : List TaskD) (j q : Nat) (t : TaskD), ts[q]? = some t → t.name = nm → (findGo nm j ts).1 ≤ j + q
  | [], j, q, t, h, _ => by simp at h
  | x :: r, j, 0, t, h, hn => by
    simp at h
    subst h
    rw [findGo, if_pos hn]
    simp
  | x :: r, j, q + 1, t, h, hn => by
    rw [findGo]
    split
    · simp
    · have := find_some nm r (j + 1) q t (by simpa using h) hn
      omega
theorem find_first (nm : List UInt8) : ∀ (ts : List TaskD) (j q : Nat) (t : TaskD), ts[q]? = some t → t.name = nm → (∀ q' t', q' < q → ts[q']? = some t' → t'.name ≠ nm) → findGo nm j ts = (j + q, true)
  | [], j, q, t, h, _, _ => by simp at h
  | x :: r, j, 0, t, h, hn, _ => by
    simp at h
    subst h
    rw [findGo, if_pos hn]
    simp
  | x :: r, j, q + 1, t, h, hn, hb => by
    rw [findGo, if_neg (hb 0 x (by omega) (by simp)), find_first nm r (j + 1) q t (by simpa using h) hn (fun q' t' hq ht => hb (q' + 1) t' (by omega) (by simpa using ht))]
    congr 1
    omega
theorem checkP_0 {p : List OpD} (h : (checkP p).2 = 0) : checkP p = (0, 0) := by
  unfold checkP at h ⊢
  split
  · rename_i h1; rw [if_pos h1] at h; simp at h
  · rename_i h1
    rw [if_neg h1] at h
    split
    · rename_i h2
      rw [if_pos h2] at h
      split
      · rename_i h3
        rw [if_pos h3] at h
        split
        · rename_i h4; rw [if_pos h4] at h; simp at h
        · rfl
      · rename_i h3; rw [if_neg h3] at h; exact absurd h h3
    · rename_i h2; rw [if_neg h2] at h; exact absurd h h2
end Go.Proofs.YtlkbphogpbcjfaaDoor
namespace Go.Proofs.YtlkbphogpbcjfaaDoor
open Go.RowKit

set_option maxHeartbeats 8000000 in
/-- Of a set that may be there are 1 to 12 tasks. -/
theorem checkS_len {L : Int} {cs : List ChanD} {ts : List TaskD} (h : (checkS L cs ts).2 = 0) : 1 ≤ ts.length ∧ ts.length ≤ 12 ∧ cs.length ≤ 8 ∧ 0 ≤ L ∧ L ≤ 8 := by
  unfold checkS at h
  split at h
  · simp at h
  · split at h
    · simp at h
    · omega
end Go.Proofs.YtlkbphogpbcjfaaDoor
