/- What the reference's CheckProg does, as plain data, and that it tells what Check tells. -/
import Derived.Test.YtolljdomnohmdaaDoorBpp
namespace Go.Proofs.YtolljdomnohmdaaDoor

/-- The locks held, the greatest one first. -/
def mskR : List Int → Nat
  | [] => 0
  | k :: r => 2 ^ k.toNat + mskR r
def DecR : List Int → Prop
  | [] => True
  | k :: r => 0 ≤ k ∧ k ≤ 7 ∧ (∀ x ∈ r, x < k) ∧ DecR r
theorem msk_lt : ∀ (r : List Int) (n : Int), DecR r → 0 ≤ n → (∀ x ∈ r, x < n) → mskR r < 2 ^ n.toNat
  | [], n, _, _, _ => by simp [mskR, Nat.two_pow_pos]
  | k :: r, n, h, hn, hx => by
    obtain ⟨h0, _, h1, h2⟩ := h
    have ih := msk_lt r k h2 h0 h1
    have hk := hx k (by simp)
    have hle : k.toNat + 1 ≤ n.toNat := by omega
    have hp := Nat.pow_le_pow_right (n := 2) (by omega) hle
    rw [Nat.pow_succ] at hp
    simp only [mskR]
    omega
theorem msk_cons {k : Int} {r : List Int} (h : DecR (k :: r)) : 2 ^ k.toNat ≤ mskR (k :: r) ∧ mskR (k :: r) < 2 * 2 ^ k.toNat := by
  have := msk_lt r k h.2.2.2 h.1 h.2.2.1
  simp only [mskR]
  omega
theorem pow_lt_iff {a b : Int} (ha : 0 ≤ a) (hb : 0 ≤ b) : 2 ^ a.toNat < 2 * 2 ^ b.toNat ↔ a ≤ b := by
  rw [show 2 * 2 ^ b.toNat = 2 ^ (b.toNat + 1) by rw [Nat.pow_succ, Nat.mul_comm]]
  rw [Nat.pow_lt_pow_iff_right (by omega)]
  omega
theorem msk_inj : ∀ (a b : List Int), DecR a → DecR b → mskR a = mskR b → a = b
  | [], [], _, _, _ => rfl
  | [], k :: r, _, hb, h => by
    have := msk_cons hb
    have h2 := Nat.two_pow_pos k.toNat
    simp [mskR] at h this <;> omega
  | k :: r, [], ha, _, h => by
    have := msk_cons ha
    have h2 := Nat.two_pow_pos k.toNat
    simp [mskR] at h this <;> omega
  | k :: r, q :: t, ha, hb, h => by
    have h1 := msk_cons ha
    have h2 := msk_cons hb
    have e1 := (pow_lt_iff ha.1 hb.1).1 (by omega)
    have e2 := (pow_lt_iff hb.1 ha.1).1 (by omega)
    obtain rfl : k = q := by omega
    simp only [mskR] at h
    rw [msk_inj r t ha.2.2.2 hb.2.2.2 (by omega)]

structure StR where
  rl : List Int
  st : List (List Int × Int × Int)
  steps : Int
/-- One op. -/
def rStep (s : StR) (o : OpD) : Option StR :=
  if o.kind = 8 then (if 3 ≤ s.st.length then none else some ⟨s.rl, (s.rl, o.n, s.steps) :: s.st, 0⟩)
  else if o.kind = 9 then (match s.st with
    | [] => none
    | (h, N, was) :: r => if h = s.rl then some ⟨s.rl, r, was + N * s.steps⟩ else none)
  else if o.kind = 2 then (match s.rl with
    | [] => some ⟨[o.n], s.st, s.steps + 1⟩
    | k :: r => if o.n ≤ k then none else some ⟨o.n :: k :: r, s.st, s.steps + 1⟩)
  else if o.kind = 3 then (match s.rl with
    | [] => none
    | k :: r => if k = o.n then some ⟨r, s.st, s.steps + 1⟩ else none)
  else if waitsD o = true ∧ s.rl ≠ [] then none else some ⟨s.rl, s.st, s.steps + 1⟩
def StOk (s : StR) : Prop := DecR s.rl ∧ s.st.length ≤ 3 ∧ ∀ f ∈ s.st, DecR f.1
def mOf (s : StR) : Nat × List Nat := (mskR s.rl, s.st.map fun f => mskR f.1)
theorem lock_n {o : OpD} (hk : o.kind = 2 ∨ o.kind = 3) (h : checkD o = 0) : 0 ≤ o.n ∧ o.n ≤ 7 := by
  obtain ⟨k, n, v, wt, l⟩ := o
  have ht := (taken_of h).takes
  simp only at hk
  rcases hk with rfl | rfl
  · simp [takesB, shapeOf] at ht; simp only; omega
  · simp [takesB, shapeOf] at ht; simp only; omega
theorem step_eq {s : StR} {o : OpD} (hs : StOk s) (ho : checkD o = 0) : takeM (mOf s).1 (mOf s).2 o = (rStep s o).map mOf ∧ ∀ s', rStep s o = some s' → StOk s' := by
  obtain ⟨rl, st, steps⟩ := s
  obtain ⟨h1, h2, h3⟩ := hs
  simp only at h1 h2 h3
  unfold takeM rStep mOf
  by_cases k2 : o.kind = 2
  · have hn := lock_n (.inl k2) ho
    have e8 : ¬ o.kind = 8 := by omega
    have e9 : ¬ o.kind = 9 := by omega
    rw [if_pos k2, if_neg e8, if_neg e9, if_pos k2]
    cases rl with
    | nil =>
      refine ⟨by simp [mskR], fun s' hs' => ?_⟩
      simp only [Option.some.injEq] at hs'
      subst hs'
      exact ⟨⟨hn.1, hn.2, (fun x hx => by cases hx), trivial⟩, h2, h3⟩
    | cons k r =>
      have hm := msk_cons h1
      simp only
      by_cases hle : o.n ≤ k
      · have hp : 2 ^ o.n.toNat ≤ 2 ^ k.toNat := Nat.pow_le_pow_right (by omega) (by omega)
        rw [if_neg (by omega), if_pos hle]
        exact ⟨rfl, fun s' hs' => by cases hs'⟩
      · have hall : ∀ x ∈ k :: r, x < o.n := fun x hx => by
          rcases List.mem_cons.1 hx with rfl | hx
          · omega
          · have := h1.2.2.1 x hx; omega
        rw [if_pos (msk_lt (k :: r) o.n h1 hn.1 hall), if_neg hle]
        refine ⟨by simp [mskR]; omega, fun s' hs' => ?_⟩
        simp only [Option.some.injEq] at hs'
        subst hs'
        exact ⟨⟨hn.1, hn.2, hall, h1⟩, h2, h3⟩
  by_cases k3 : o.kind = 3
  · have hn := lock_n (.inr k3) ho
    have e8 : ¬ o.kind = 8 := by omega
    have e9 : ¬ o.kind = 9 := by omega
    rw [if_neg k2, if_pos k3, if_neg e8, if_neg e9, if_neg k2, if_pos k3]
    cases rl with
    | nil =>
      have h9 := Nat.two_pow_pos o.n.toNat
      have hz : ¬ (2 ^ o.n.toNat ≤ mskR [] ∧ mskR [] < 2 * 2 ^ o.n.toNat) := by simp only [mskR]; omega
      simp only
      rw [if_neg hz]
      exact ⟨rfl, fun s' hs' => by cases hs'⟩
    | cons k r =>
      have hm := msk_cons h1
      simp only
      by_cases he : k = o.n
      · subst he
        rw [if_pos hm, if_pos rfl]
        refine ⟨by simp [mskR], fun s' hs' => ?_⟩
        simp only [Option.some.injEq] at hs'
        subst hs'
        exact ⟨h1.2.2.2, h2, h3⟩
      · rw [if_neg he, if_neg]
        · exact ⟨rfl, fun s' hs' => by cases hs'⟩
        · rintro ⟨a1, a2⟩
          have e1 := (pow_lt_iff h1.1 hn.1).1 (by omega)
          have e2 := (pow_lt_iff hn.1 h1.1).1 (by omega)
          omega
  by_cases k8 : o.kind = 8
  · rw [if_neg k2, if_neg k3, if_pos k8, if_pos k8]
    simp only [List.length_map]
    by_cases hl : 3 ≤ st.length
    · rw [if_pos (by omega), if_pos hl]
      exact ⟨rfl, fun s' hs' => by cases hs'⟩
    · rw [if_neg (by omega), if_neg hl]
      refine ⟨rfl, fun s' hs' => ?_⟩
      simp only [Option.some.injEq] at hs'
      subst hs'
      refine ⟨h1, by simp; omega, fun f hf => ?_⟩
      rcases List.mem_cons.1 hf with rfl | hf
      · exact h1
      · exact h3 f hf
  by_cases k9 : o.kind = 9
  · rw [if_neg k2, if_neg k3, if_neg k8, if_pos k9, if_neg k8, if_pos k9]
    cases st with
    | nil => exact ⟨rfl, fun s' hs' => by cases hs'⟩
    | cons f r =>
      obtain ⟨h, N, was⟩ := f
      have hh := h3 (h, N, was) (by simp)
      simp only [List.map_cons]
      by_cases he : h = rl
      · subst he
        rw [if_pos rfl, if_pos rfl]
        refine ⟨rfl, fun s' hs' => ?_⟩
        simp only [Option.some.injEq] at hs'
        subst hs'
        exact ⟨h1, by simp at h2; simp; omega, fun f hf => h3 f (by simp [hf])⟩
      · rw [if_neg (fun e => he (msk_inj _ _ hh h1 e)), if_neg he]
        exact ⟨rfl, fun s' hs' => by cases hs'⟩
  rw [if_neg k2, if_neg k3, if_neg k8, if_neg k9, if_neg k8, if_neg k9, if_neg k2, if_neg k3]
  by_cases hw : waitsD o = true ∧ rl ≠ []
  · rw [if_pos hw, if_neg]
    · exact ⟨rfl, fun s' hs' => by cases hs'⟩
    · rintro (e | e)
      · refine hw.2 (msk_inj rl [] h1 trivial ?_)
        exact e
      · rw [hw.1] at e; cases e
  · rw [if_neg hw, if_pos]
    · refine ⟨rfl, fun s' hs' => ?_⟩
      simp only [Option.some.injEq] at hs'
      subst hs'
      exact ⟨h1, h2, h3⟩
    · cases hq : waitsD o with
      | false => exact .inr rfl
      | true =>
        left
        have : rl = [] := by
          by_cases hr : rl = []
          · exact hr
          · exact absurd ⟨hq, hr⟩ hw
        rw [this]
        rfl
/-- Op by op. -/
def rGo (L : Nat) (i : Nat) (s : StR) : List OpD → Nat × Int
  | [] => if s.st ≠ [] ∨ s.rl ≠ [] then (L - 1, 11) else if 512 < s.steps then (0, 4) else (0, 0)
  | o :: r => match rStep s o with
    | none => (i, 11)
    | some s' => rGo L (i + 1) s' r
/-- All that is done so far: t is how often each op here is done, the innermost one first. -/
def tot : Int → List (List Int × Int × Int) → List Int → Int
  | steps, [], t :: _ => t * steps
  | steps, (_, _, was) :: r, t :: ts => t * steps + tot was r ts
  | _, _, [] => 0
def mulOk : List (List Int × Int × Int) → List Int → Prop
  | [], [t] => t = 1
  | (_, N, _) :: r, t :: u :: ts => t = u * N ∧ mulOk r (u :: ts)
  | _, _ => False
theorem mul_cons : ∀ {st : List (List Int × Int × Int)} {ts : List Int}, mulOk st ts → ∃ t r, ts = t :: r
  | [], [], h => h.elim
  | [], t :: r, _ => ⟨t, r, rfl⟩
  | _ :: _, [], h => h.elim
  | _ :: _, t :: r, _ => ⟨t, r, rfl⟩
theorem tot_add (x y : Int) : ∀ (st : List (List Int × Int × Int)) (t : Int) (ts : List Int), tot (x + y) st (t :: ts) = t * y + tot x st (t :: ts)
  | [], t, ts => by simp only [tot]; rw [Int.mul_add]; omega
  | (h, N, was) :: r, t, ts => by simp only [tot]; rw [Int.mul_add]; omega
/-- What is told at the end. -/
theorem go_eq : ∀ (p : List OpD) (L i : Nat) (s : StR) (ts : List Int), StOk s → (∀ o ∈ p, checkD o = 0) → mulOk s.st ts → i + p.length = L → (p = [] → s.st = [] ∧ s.rl = []) →
    rGo L i s p = if (ordGo i (mOf s).1 (mOf s).2 p).2 = 0 then (if 512 < tot s.steps s.st ts + sumL (timesGo ts p) then (0, 4) else (0, 0)) else ordGo i (mOf s).1 (mOf s).2 p
  | [], L, i, s, ts, hs, _, hm, _, he => by
    obtain ⟨e1, e2⟩ := he rfl
    obtain ⟨rl, st, steps⟩ := s
    simp only at e1 e2
    subst e1
    subst e2
    match ts, hm with
    | [t], hm =>
      simp only [mulOk] at hm
      subst hm
      simp [rGo, ordGo, tot, timesGo, sumL]
  | o :: r, L, i, s, ts, hs, hc, hm, hL, _ => by
    obtain ⟨hst, hok⟩ := step_eq hs (hc o (by simp))
    rw [rGo, ordGo, hst]
    cases hr : rStep s o with
    | none => simp
    | some s' =>
      have hs' := hok s' hr
      simp only [Option.map_some]
      obtain ⟨t, tr, rfl⟩ := mul_cons hm
      -- the rounds behind this op
      have key : ∃ ts', mulOk s'.st ts' ∧ tot s'.steps s'.st ts' + sumL (timesGo ts' r) = tot s.steps s.st (t :: tr) + sumL (timesGo (t :: tr) (o :: r)) := by
        obtain ⟨rl, st, steps⟩ := s
        simp only at hm hr ⊢
        unfold rStep at hr
        rw [timesGo]
        by_cases k8 : o.kind = 8
        · rw [if_pos k8] at hr ⊢
          split at hr
          · cases hr
          · cases hr
            refine ⟨(t * o.n) :: t :: tr, ⟨rfl, hm⟩, ?_⟩
            simp [tot, sumL]
        · rw [if_neg k8] at hr ⊢
          by_cases k9 : o.kind = 9
          · rw [if_pos k9] at hr ⊢
            match st, hm, hr with
            | (h, N, was) :: st', hm, hr =>
              match tr, hm with
              | u :: us, hm =>
                simp only at hr
                split at hr
                · cases hr
                  obtain ⟨e1, hm2⟩ := hm
                  refine ⟨u :: us, hm2, ?_⟩
                  simp only [List.length_cons, List.tail_cons, sumL]
                  rw [if_pos (by omega), tot_add, tot, e1, Int.mul_assoc]
                  omega
                · cases hr
          · rw [if_neg k9] at hr ⊢
            have hplain : s'.st = st ∧ s'.steps = steps + 1 := by
              split at hr
              · split at hr
                · cases hr; exact ⟨rfl, rfl⟩
                · split at hr
                  · cases hr
                  · cases hr; exact ⟨rfl, rfl⟩
              · split at hr
                · split at hr
                  · cases hr
                  · split at hr
                    · cases hr; exact ⟨rfl, rfl⟩
                    · cases hr
                · split at hr
                  · cases hr
                  · cases hr; exact ⟨rfl, rfl⟩
            refine ⟨t :: tr, by rw [hplain.1]; exact hm, ?_⟩
            rw [hplain.1, hplain.2, tot_add]
            simp only [List.headD_cons, sumL]
            omega
      obtain ⟨ts', hm', heq⟩ := key
      rw [← heq]
      by_cases hr0 : r = []
      · subst hr0
        by_cases hopen : s'.st ≠ [] ∨ s'.rl ≠ []
        · have hne : ((mOf s').1 ≠ 0 ∨ (mOf s').2 ≠ []) := by
            rcases hopen with h | h
            · right; simp [mOf]; exact h
            · left; intro e; exact h (msk_inj _ [] hs'.1 trivial e)
          have hin : (([] : List OpD) = [] ∧ ((mOf s').1 ≠ 0 ∨ (mOf s').2 ≠ [])) := ⟨rfl, hne⟩
          rw [rGo, if_pos hopen, if_pos hin]
          simp at hL
          simp
          omega
        · have hn2 : s'.st = [] ∧ s'.rl = [] := by
            constructor
            · by_cases h : s'.st = []
              · exact h
              · exact absurd (.inl h) hopen
            · by_cases h : s'.rl = []
              · exact h
              · exact absurd (.inr h) hopen
          have hin : ¬ (([] : List OpD) = [] ∧ ((mOf s').1 ≠ 0 ∨ (mOf s').2 ≠ [])) := by
            rintro ⟨_, h⟩
            rcases h with h | h
            · exact h (by simp [mOf, hn2.2, mskR])
            · exact h (by simp [mOf, hn2.1])
          rw [if_neg hin]
          exact go_eq [] L (i + 1) s' ts' hs' (fun o ho => by cases ho) hm' (by simpa using hL) (fun _ => hn2)
      · have hin : ¬ (r = [] ∧ ((mOf s').1 ≠ 0 ∨ (mOf s').2 ≠ [])) := fun h => hr0 h.1
        rw [if_neg hin]
        exact go_eq r L (i + 1) s' ts' hs' (fun q hq => hc q (by simp [hq])) hm' (by simp at hL; omega) (fun h => absurd h hr0)
/-- The reference's CheckProg tells what Check tells. -/
theorem rgo_check {p : List OpD} (h48 : p.length ≤ 48) (hc : ∀ o ∈ p, checkD o = 0) : rGo p.length 0 ⟨[], [], 0⟩ p = checkP p := by
  have h := go_eq p p.length 0 ⟨[], [], 0⟩ [1] ⟨trivial, by simp, fun f hf => by cases hf⟩ hc rfl (by simp) (fun _ => ⟨rfl, rfl⟩)
  rw [h]
  unfold checkP stepsD
  have h48' : ¬ 48 < p.length := by omega
  have he : ((0, 0) : Nat × Int).2 = 0 := rfl
  rw [if_neg h48', all_each _ 0 hc, if_pos he]
  simp only [mOf, mskR, List.map_nil, tot, Int.mul_zero, Int.zero_add]
end Go.Proofs.YtolljdomnohmdaaDoor
