/- Programs as plain data: what is wrong with one, what is done. No program of Go's is named here. -/
import Derived.Test.YtembbhbbmkijcaaDoorOpT
namespace Go.Proofs.YtembbhbbmkijcaaDoor

/-- One op between two: m has a bit for each lock that is held; lp is what each open Loop began with, the innermost one first. -/
def takeM (m : Nat) (lp : List Nat) (o : OpD) : Option (Nat × List Nat) :=
  if o.kind = 2 then (if m < 2 ^ o.n.toNat then some (m + 2 ^ o.n.toNat, lp) else none)
  else if o.kind = 3 then (if 2 ^ o.n.toNat ≤ m ∧ m < 2 * 2 ^ o.n.toNat then some (m - 2 ^ o.n.toNat, lp) else none)
  else if o.kind = 8 then (if lp.length = 3 then none else some (m, m :: lp))
  else if o.kind = 9 then (match lp with
    | [] => none
    | x :: r => if x = m then some (m, r) else none)
  else if m = 0 ∨ waitsD o = false then some (m, lp) else none
/-- The order of ops: at which place it is wrong, and the error. -/
def ordGo (i m : Nat) (lp : List Nat) : List OpD → Nat × Int
  | [] => (0, 0)
  | o :: r => match takeM m lp o with
    | none => (i, 11)
    | some (m', lp') => if r = [] ∧ (m' ≠ 0 ∨ lp' ≠ []) then (i, 11) else ordGo (i + 1) m' lp' r
/-- Op by op. -/
def eachGo (i : Nat) : List OpD → Nat × Int
  | [] => (0, 0)
  | o :: r => if checkD o = 0 then eachGo (i + 1) r else (i, checkD o)
/-- How often each op is done; the innermost Loop's rounds first. -/
def timesGo : List Int → List OpD → List Int
  | _, [] => []
  | st, o :: r => if o.kind = 8 then 0 :: timesGo ((st.headD 1 * o.n) :: st) r else if o.kind = 9 then 0 :: timesGo (if 1 < st.length then st.tail else st) r else st.headD 1 :: timesGo st r
def sumL : List Int → Int
  | [] => 0
  | x :: r => x + sumL r
def stepsD (p : List OpD) : Int := sumL (timesGo [1] p)
def checkP (p : List OpD) : Nat × Int :=
  if 48 < p.length then (0, 18) else if (eachGo 0 p).2 = 0 then (if (ordGo 0 0 [] p).2 = 0 then (if 512 < stepsD p then (0, 4) else (0, 0)) else ordGo 0 0 [] p) else eachGo 0 p

def rep (n : Nat) (g : List OpD) : List OpD := (List.replicate n g).flatten
/-- p is in order, its loops at most d deep; m is held ahead of it, m' behind it; f is all that is done. -/
inductive Bal : Nat → Nat → Nat → List OpD → List OpD → Prop
  | nil (d m : Nat) : Bal d m m [] []
  | one {d m m1 m' : Nat} {o : OpD} {p f : List OpD} (h8 : o.kind ≠ 8) (h9 : o.kind ≠ 9) (ht : takeM m [] o = some (m1, [])) (hp : Bal d m1 m' p f) : Bal d m m' (o :: p) (o :: f)
  | loop {d m m' : Nat} {o e : OpD} {b g p f : List OpD} (h8 : o.kind = 8) (h9 : e.kind = 9) (hb : Bal d m m b g) (hp : Bal (d + 1) m m' p f) : Bal (d + 1) m m' (o :: (b ++ e :: p)) (rep o.n.toNat g ++ f)

/-- All ops one behind the other. -/
def runM (m : Nat) (lp : List Nat) : List OpD → Option (Nat × List Nat)
  | [] => some (m, lp)
  | o :: r => match takeM m lp o with
    | none => none
    | some (m', lp') => runM m' lp' r

theorem take_plain {m : Nat} {lp : List Nat} {o : OpD} (h8 : o.kind ≠ 8) (h9 : o.kind ≠ 9) {x : Nat × List Nat} (h : takeM m lp o = some x) : takeM m [] o = some (x.1, []) ∧ x.2 = lp := by
  unfold takeM at h ⊢
  split at h
  · rename_i hk
    rw [if_pos hk]
    split at h
    · rename_i hc
      cases h
      rw [if_pos hc]
      exact ⟨rfl, rfl⟩
    · cases h
  · rename_i hk
    rw [if_neg hk]
    split at h
    · rename_i hk3
      rw [if_pos hk3]
      split at h
      · rename_i hc
        cases h
        rw [if_pos hc]
        exact ⟨rfl, rfl⟩
      · cases h
    · rename_i hk3
      rw [if_neg hk3, if_neg h8, if_neg h9]
      split at h
      · rename_i hc
        cases h
        rw [if_pos hc]
        exact ⟨rfl, rfl⟩
      · cases h
theorem take_loop {m : Nat} {lp : List Nat} {o : OpD} (h8 : o.kind = 8) {x : Nat × List Nat} (h : takeM m lp o = some x) : lp.length ≠ 3 ∧ x = (m, m :: lp) := by
  unfold takeM at h
  rw [if_neg (by omega), if_neg (by omega), if_pos h8] at h
  split at h
  · cases h
  · rename_i hc
    cases h
    exact ⟨hc, rfl⟩
theorem take_end {m : Nat} {lp : List Nat} {o : OpD} (h9 : o.kind = 9) {x : Nat × List Nat} (h : takeM m lp o = some x) : ∃ r, lp = m :: r ∧ x = (m, r) := by
  unfold takeM at h
  rw [if_neg (by omega), if_neg (by omega), if_neg (by omega), if_pos h9] at h
  split at h
  · cases h
  · split at h
    · rename_i hx
      cases h
      subst hx
      exact ⟨_, rfl, rfl⟩
    · cases h
/-- What runs to an end without an open Loop is in order, up to the End of each Loop that was open ahead of it. -/
theorem run_bal : ∀ (k : Nat) (p : List OpD) (m : Nat) (lp : List Nat) (m' : Nat), p.length ≤ k → lp.length ≤ 3 → runM m lp p = some (m', []) →
    (lp = [] → ∃ f, Bal 3 m m' p f) ∧ (∀ x r, lp = x :: r → ∃ b g e q, p = b ++ e :: q ∧ e.kind = 9 ∧ Bal (3 - lp.length) m x b g ∧ runM x r q = some (m', []))
  | k, [], m, lp, m', _, _, h => by
    simp only [runM, Option.some.injEq, Prod.mk.injEq] at h
    obtain ⟨rfl, rfl⟩ := h
    exact ⟨fun _ => ⟨[], .nil _ _⟩, fun x r e => by cases e⟩
  | 0, _ :: _, _, _, _, hk, _, _ => by simp at hk
  | k + 1, o :: p, m, lp, m', hk, hl, h => by
    have hk' : p.length ≤ k := by simp at hk; omega
    rw [runM] at h
    cases ht : takeM m lp o with
    | none => rw [ht] at h; cases h
    | some y =>
      rw [ht] at h
      obtain ⟨m1, lp1⟩ := y
      simp only at h
      by_cases h8 : o.kind = 8
      · obtain ⟨hl3, hx⟩ := take_loop h8 ht
        cases hx
        have ih := (run_bal k p m (m :: lp) m' hk' (by simp; omega) h).2 m lp rfl
        obtain ⟨b, g, e, q, rfl, he, hb, hq⟩ := ih
        have hq2 := run_bal k q m lp m' (by simp at hk'; omega) hl hq
        refine ⟨fun e0 => ?_, fun x r e0 => ?_⟩
        · obtain ⟨f, hf⟩ := hq2.1 e0
          subst e0
          exact ⟨_, .loop h8 he (by simpa using hb) hf⟩
        · obtain ⟨b2, g2, e2, q2, rfl, he2, hb2, hr2⟩ := hq2.2 x r e0
          refine ⟨o :: (b ++ e :: b2), rep o.n.toNat g ++ g2, e2, q2, by simp, he2, ?_, hr2⟩
          have hd : 3 - lp.length = (3 - (m :: lp).length) + 1 := by simp; omega
          rw [hd] at hb2 ⊢
          exact .loop h8 he hb hb2
      · by_cases h9 : o.kind = 9
        · obtain ⟨r, rfl, hx⟩ := take_end h9 ht
          cases hx
          refine ⟨(fun e0 => by cases e0), fun x r' e0 => ?_⟩
          cases e0
          exact ⟨[], [], o, p, rfl, h9, .nil _ _, h⟩
        · obtain ⟨ht1, hx⟩ := take_plain h8 h9 ht
          simp only at hx ht1
          subst hx
          have ih := run_bal k p m1 lp1 m' hk' hl h
          refine ⟨fun e0 => ?_, fun x r e0 => ?_⟩
          · obtain ⟨f, hf⟩ := ih.1 e0
            exact ⟨_, .one h8 h9 ht1 hf⟩
          · obtain ⟨b, g, e, q, rfl, he, hb, hq⟩ := ih.2 x r e0
            exact ⟨o :: b, o :: g, e, q, rfl, he, .one h8 h9 ht1 hb, hq⟩
theorem ord_run : ∀ (p : List OpD) (i m : Nat) (lp : List Nat), p ≠ [] → (ordGo i m lp p).2 = 0 → runM m lp p = some (0, [])
  | [], _, _, _, hn, _ => absurd rfl hn
  | o :: r, i, m, lp, _, h => by
    rw [ordGo] at h
    rw [runM]
    cases ht : takeM m lp o with
    | none => rw [ht] at h; simp at h
    | some y =>
      rw [ht] at h
      obtain ⟨m1, lp1⟩ := y
      simp only at h ⊢
      by_cases hr : r = []
      · subst hr
        split at h
        · simp at h
        · rename_i hc
          simp at hc
          rw [runM, hc.1, hc.2]
      · rw [if_neg (fun x => hr x.1)] at h
        exact ord_run r (i + 1) m1 lp1 hr h
/-- A program that is in order. -/
theorem ord_bal {p : List OpD} (h : (ordGo 0 0 [] p).2 = 0) : ∃ f, Bal 3 0 0 p f := by
  by_cases hp : p = []
  · subst hp
    exact ⟨[], .nil _ _⟩
  · exact (run_bal p.length p 0 [] 0 (Nat.le_refl _) (by simp) (ord_run p 0 0 [] hp h)).1 rfl
theorem each_all : ∀ (p : List OpD) (i : Nat), (eachGo i p).2 = 0 → ∀ o ∈ p, checkD o = 0
  | [], _, _, o, ho => by cases ho
  | x :: r, i, h, o, ho => by
    rw [eachGo] at h
    split at h
    · rename_i hx
      rcases List.mem_cons.1 ho with rfl | ho
      · exact hx
      · exact each_all r (i + 1) h o ho
    · rename_i hx
      exact absurd h hx
theorem all_each : ∀ (p : List OpD) (i : Nat), (∀ o ∈ p, checkD o = 0) → eachGo i p = (0, 0)
  | [], _, _ => rfl
  | x :: r, i, h => by
    rw [eachGo, if_pos (h x (by simp))]
    exact all_each r (i + 1) (fun o ho => h o (by simp [ho]))
theorem rep_mem {n : Nat} {g : List OpD} {o : OpD} (h : o ∈ rep n g) : o ∈ g := by
  unfold rep at h
  simp only [List.mem_flatten, List.mem_replicate] at h
  obtain ⟨l, ⟨_, rfl⟩, hl⟩ := h
  exact hl
/-- What is done is of the program. -/
theorem bal_mem {d m m' : Nat} {p f : List OpD} (h : Bal d m m' p f) : ∀ o ∈ f, o ∈ p ∧ o.kind ≠ 8 ∧ o.kind ≠ 9 := by
  induction h with
  | nil => intro o ho; cases ho
  | one h8 h9 _ _ ih =>
    intro o ho
    rcases List.mem_cons.1 ho with rfl | ho
    · exact ⟨by simp, h8, h9⟩
    · exact ⟨by simp [(ih o ho).1], (ih o ho).2⟩
  | loop h8 h9 _ _ ihb ihp =>
    intro o ho
    rcases List.mem_append.1 ho with ho | ho
    · have := ihb o (rep_mem ho)
      exact ⟨by simp [this.1], this.2⟩
    · have := ihp o ho
      exact ⟨by simp [this.1], this.2⟩
end Go.Proofs.YtembbhbbmkijcaaDoor
