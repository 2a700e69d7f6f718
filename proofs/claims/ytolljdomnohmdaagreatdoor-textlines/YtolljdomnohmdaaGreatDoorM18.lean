/- What the reference's CheckProg does, as plain data, and that it tells what Check tells. The reference's rows of numbers and of open loops; alike. -/
import Derived.Test.YtolljdomnohmdaaGreatDoorM2
import Derived.Test.YtolljdomnohmdaaGreatDoorCas
import Derived.Test.YtolljdomnohmdaaGreatDoorCheck
import Derived.Test.YtolljdomnohmdaaGreatDoorM3
import Derived.Test.YtolljdomnohmdaaGreatDoorM4
import Derived.Test.YtolljdomnohmdaaGreatDoorM0
import Derived.Test.YtolljdomnohmdaaGreatDoorM5
import Derived.Test.YtolljdomnohmdaaGreatDoorOpO
import Derived.Test.YtolljdomnohmdaaGreatDoorM1
import Derived.Test.YtolljdomnohmdaaGreatDoorOpT
import Derived.Test.YtolljdomnohmdaaGreatDoorPar
import Derived.Test.YtolljdomnohmdaaGreatDoorM6
import Derived.Test.YtolljdomnohmdaaGreatDoorM8
import Derived.Test.YtolljdomnohmdaaGreatDoorTxt
import Derived.Test.YtolljdomnohmdaaGreatDoorRWrd
import Derived.Test.YtolljdomnohmdaaGreatDoorRead
import Derived.Test.YtolljdomnohmdaaGreatDoorM9
import Derived.Test.YtolljdomnohmdaaGreatDoorTrn
import Derived.Test.YtolljdomnohmdaaGreatDoorM13
import Derived.Test.YtolljdomnohmdaaGreatDoorM16
import Derived.Test.YtolljdomnohmdaaGreatDoorM11
import Derived.Test.YtolljdomnohmdaaGreatDoorM17
import Derived.Test.YtolljdomnohmdaaGreatDoorQStA
namespace Go.Proofs.YtolljdomnohmdaaGreatDoor

/-- The locks held, the greatest one first. -/
def mskR : List Int → Nat
  | [] => 0
  | k :: r => 2 ^ k.toNat + mskR r
def DecR : List Int → Prop
  | [] => True
  | k :: r => 0 ≤ k ∧ k ≤ 7 ∧ (∀ x ∈ r, x < k) ∧ DecR r
theorem msk_lt : ∀ (r : List Int) (n : Int), DecR r → 0 ≤ n → (∀ x ∈ r, x < n) → mskR r < 2 ^ n.toNat
  | [], n, _, _, _ => by simp [mskR, Nat.two_pow_pos]
  | k :: r, n, h, hn, hx => by
    obtain ⟨h0, _, h1, h2⟩ := h
    have ih := msk_lt r k h2 h0 h1
    have hk := hx k (by simp)
    have hle : k.toNat + 1 ≤ n.toNat := by omega
    have hp := Nat.pow_le_pow_right (n := 2) (by omega) hle
    rw [Nat.pow_succ] at hp
    simp only [mskR]
    omega
theorem msk_cons {k : Int} {r : List Int} (h : DecR (k :: r)) : 2 ^ k.toNat ≤ mskR (k :: r) ∧ mskR (k :: r) < 2 * 2 ^ k.toNat := by
  have := msk_lt r k h.2.2.2 h.1 h.2.2.1
  simp only [mskR]
  omega
theorem pow_lt_iff {a b : Int} (ha : 0 ≤ a) (hb : 0 ≤ b) : 2 ^ a.toNat < 2 * 2 ^ b.toNat ↔ a ≤ b := by
  rw [show 2 * 2 ^ b.toNat = 2 ^ (b.toNat + 1) by rw [Nat.pow_succ, Nat.mul_comm]]
  rw [Nat.pow_lt_pow_iff_right (by omega)]
  omega
theorem msk_inj : ∀ (a b : List Int), DecR a → DecR b → mskR a = mskR b → a = b
  | [], [], _, _, _ => rfl
  | [], k :: r, _, hb, h => by
    have := msk_cons hb
    have h2 := Nat.two_pow_pos k.toNat
    simp [mskR] at h this <;> omega
  | k :: r, [], ha, _, h => by
    have := msk_cons ha
    have h2 := Nat.two_pow_pos k.toNat
    simp [mskR] at h this <;> omega
  | k :: r, q :: t, ha, hb, h => by
    have h1 := msk_cons ha
    have h2 := msk_cons hb
    have e1 := (pow_lt_iff ha.1 hb.1).1 (by omega)
    have e2 := (pow_lt_iff hb.1 ha.1).1 (by omega)
    obtain rfl : k = q := by omega
    simp only [mskR] at h
    rw [msk_inj r t ha.2.2.2 hb.2.2.2 (by omega)]

structure StR where
  rl : List Int
  st : List (List Int × Int × Int)
  steps : Int
/-- One op. -/
def rStep (s : StR) (o : OpD) : Option StR :=
  if o.kind = 8 then (if 3 ≤ s.st.length then none else some ⟨s.rl, (s.rl, o.n, s.steps) :: s.st, 0⟩)
  else if o.kind = 9 then (match s.st with
    | [] => none
    | (h, N, was) :: r => if h = s.rl then some ⟨s.rl, r, was + N * s.steps⟩ else none)
  else if o.kind = 2 then (match s.rl with
    | [] => some ⟨[o.n], s.st, s.steps + 1⟩
    | k :: r => if o.n ≤ k then none else some ⟨o.n :: k :: r, s.st, s.steps + 1⟩)
  else if o.kind = 3 then (match s.rl with
    | [] => none
    | k :: r => if k = o.n then some ⟨r, s.st, s.steps + 1⟩ else none)
  else if waitsD o = true ∧ s.rl ≠ [] then none else some ⟨s.rl, s.st, s.steps + 1⟩
def StOk (s : StR) : Prop := DecR s.rl ∧ s.st.length ≤ 3 ∧ ∀ f ∈ s.st, DecR f.1
def mOf (s : StR) : Nat × List Nat := (mskR s.rl, s.st.map fun f => mskR f.1)
theorem lock_n {o : OpD} (hk : o.kind = 2 ∨ o.kind = 3) (h : checkD o = 0) : 0 ≤ o.n ∧ o.n ≤ 7 := by
  obtain ⟨k, n, v, wt, l⟩ := o
  have ht := (taken_of h).takes
  simp only at hk
  rcases hk with rfl | rfl
  · simp [takesB, shapeOf] at ht; simp only; omega
  · simp [takesB, shapeOf] at ht; simp only; omega
theorem step_eq {s : StR} {o : OpD} (hs : StOk s) (ho : checkD o = 0) : takeM (mOf s).1 (mOf s).2 o = (rStep s o).map mOf ∧ ∀ s', rStep s o = some s' → StOk s' := by
  obtain ⟨rl, st, steps⟩ := s
  obtain ⟨h1, h2, h3⟩ := hs
  simp only at h1 h2 h3
  unfold takeM rStep mOf
  by_cases k2 : o.kind = 2
  · have hn := lock_n (.inl k2) ho
    have e8 : ¬ o.kind = 8 := by omega
    have e9 : ¬ o.kind = 9 := by omega
    rw [if_pos k2, if_neg e8, if_neg e9, if_pos k2]
    cases rl with
    | nil =>
      refine ⟨by simp [mskR], fun s' hs' => ?_⟩
      simp only [Option.some.injEq] at hs'
      subst hs'
      exact ⟨⟨hn.1, hn.2, (fun x hx => by cases hx), trivial⟩, h2, h3⟩
    | cons k r =>
      have hm := msk_cons h1
      simp only
      by_cases hle : o.n ≤ k
      · have hp : 2 ^ o.n.toNat ≤ 2 ^ k.toNat := Nat.pow_le_pow_right (by omega) (by omega)
        rw [if_neg (by omega), if_pos hle]
        exact ⟨rfl, fun s' hs' => by cases hs'⟩
      · have hall : ∀ x ∈ k :: r, x < o.n := fun x hx => by
          rcases List.mem_cons.1 hx with rfl | hx
          · omega
          · have := h1.2.2.1 x hx; omega
        rw [if_pos (msk_lt (k :: r) o.n h1 hn.1 hall), if_neg hle]
        refine ⟨by simp [mskR]; omega, fun s' hs' => ?_⟩
        simp only [Option.some.injEq] at hs'
        subst hs'
        exact ⟨⟨hn.1, hn.2, hall, h1⟩, h2, h3⟩
  by_cases k3 : o.kind = 3
  · have hn := lock_n (.inr k3) ho
    have e8 : ¬ o.kind = 8 := by omega
    have e9 : ¬ o.kind = 9 := by omega
    rw [if_neg k2, if_pos k3, if_neg e8, if_neg e9, if_neg k2, if_pos k3]
    cases rl with
    | nil =>
      have h9 := Nat.two_pow_pos o.n.toNat
      have hz : ¬ (2 ^ o.n.toNat ≤ mskR [] ∧ mskR [] < 2 * 2 ^ o.n.toNat) := by simp only [mskR]; omega
      simp only
      rw [if_neg hz]
      exact ⟨rfl, fun s' hs' => by cases hs'⟩
    | cons k r =>
      have hm := msk_cons h1
      simp only
      by_cases he : k = o.n
      · subst he
        rw [if_pos hm, if_pos rfl]
        refine ⟨by simp [mskR], fun s' hs' => ?_⟩
        simp only [Option.some.injEq] at hs'
        subst hs'
        exact ⟨h1.2.2.2, h2, h3⟩
      · rw [if_neg he, if_neg]
        · exact ⟨rfl, fun s' hs' => by cases hs'⟩
        · rintro ⟨a1, a2⟩
          have e1 := (pow_lt_iff h1.1 hn.1).1 (by omega)
          have e2 := (pow_lt_iff hn.1 h1.1).1 (by omega)
          omega
  by_cases k8 : o.kind = 8
  · rw [if_neg k2, if_neg k3, if_pos k8, if_pos k8]
    simp only [List.length_map]
    by_cases hl : 3 ≤ st.length
    · rw [if_pos (by omega), if_pos hl]
      exact ⟨rfl, fun s' hs' => by cases hs'⟩
    · rw [if_neg (by omega), if_neg hl]
      refine ⟨rfl, fun s' hs' => ?_⟩
      simp only [Option.some.injEq] at hs'
      subst hs'
      refine ⟨h1, by simp; omega, fun f hf => ?_⟩
      rcases List.mem_cons.1 hf with rfl | hf
      · exact h1
      · exact h3 f hf
  by_cases k9 : o.kind = 9
  · rw [if_neg k2, if_neg k3, if_neg k8, if_pos k9, if_neg k8, if_pos k9]
    cases st with
    | nil => exact ⟨rfl, fun s' hs' => by cases hs'⟩
    | cons f r =>
      obtain ⟨h, N, was⟩ := f
      have hh := h3 (h, N, was) (by simp)
      simp only [List.map_cons]
      by_cases he : h = rl
      · subst he
        rw [if_pos rfl, if_pos rfl]
        refine ⟨rfl, fun s' hs' => ?_⟩
        simp only [Option.some.injEq] at hs'
        subst hs'
        exact ⟨h1, by simp at h2; simp; omega, fun f hf => h3 f (by simp [hf])⟩
      · rw [if_neg (fun e => he (msk_inj _ _ hh h1 e)), if_neg he]
        exact ⟨rfl, fun s' hs' => by cases hs'⟩
  rw [if_neg k2, if_neg k3, if_neg k8, if_neg k9, if_neg k8, if_neg k9, if_neg k2, if_neg k3]
  by_cases hw : waitsD o = true ∧ rl ≠ []
  · rw [if_pos hw, if_neg]
    · exact ⟨rfl, fun s' hs' => by cases hs'⟩
    · rintro (e | e)
      · refine hw.2 (msk_inj rl [] h1 trivial ?_)
        exact e
      · rw [hw.1] at e; cases e
  · rw [if_neg hw, if_pos]
    · refine ⟨rfl, fun s' hs' => ?_⟩
      simp only [Option.some.injEq] at hs'
      subst hs'
      exact ⟨h1, h2, h3⟩
    · cases hq : waitsD o with
      | false => exact .inr rfl
      | true =>
        left
        have : rl = [] := by
          by_cases hr : rl = []
          · exact hr
          · exact absurd ⟨hq, hr⟩ hw
        rw [this]
        rfl
/-- Op by op. -/
def rGo (L : Nat) (i : Nat) (s : StR) : List OpD → Nat × Int
  | [] => if s.st ≠ [] ∨ s.rl ≠ [] then (L - 1, 11) else if 512 < s.steps then (0, 4) else (0, 0)
  | o :: r => match rStep s o with
    | none => (i, 11)
    | some s' => rGo L (i + 1) s' r
/-- All that is done so far: t is how often each op here is done, the innermost one first. -/
def tot : Int → List (List Int × Int × Int) → List Int → Int
  | steps, [], t :: _ => t * steps
  | steps, (_, _, was) :: r, t :: ts => t * steps + tot was r ts
  | _, _, [] => 0
def mulOk : List (List Int × Int × Int) → List Int → Prop
  | [], [t] => t = 1
  | (_, N, _) :: r, t :: u :: ts => t = u * N ∧ mulOk r (u :: ts)
  | _, _ => False
theorem mul_cons : ∀ {st : List (List Int × Int × Int)} {ts : List Int}, mulOk st ts → ∃ t r, ts = t :: r
  | [], [], h => h.elim
  | [], t :: r, _ => ⟨t, r, rfl⟩
  | _ :: _, [], h => h.elim
  | _ :: _, t :: r, _ => ⟨t, r, rfl⟩
theorem tot_add (x y : Int) : ∀ (st : List (List Int × Int × Int)) (t : Int) (ts : List Int), tot (x + y) st (t :: ts) = t * y + tot x st (t :: ts)
  | [], t, ts => by simp only [tot]; rw [Int.mul_add]; omega
  | (h, N, was) :: r, t, ts => by simp only [tot]; rw [Int.mul_add]; omega
/-- What is told at the end. -/
theorem go_eq : ∀ (p : List OpD) (L i : Nat) (s : StR) (ts : List Int), StOk s → (∀ o ∈ p, checkD o = 0) → mulOk s.st ts → i + p.length = L → (p = [] → s.st = [] ∧ s.rl = []) →
    rGo L i s p = if (ordGo i (mOf s).1 (mOf s).2 p).2 = 0 then (if 512 < tot s.steps s.st ts + sumL (timesGo ts p) then (0, 4) else (0, 0)) else ordGo i (mOf s).1 (mOf s).2 p
  | [], L, i, s, ts, hs, _, hm, _, he => by
    obtain ⟨e1, e2⟩ := he rfl
    obtain ⟨rl, st, steps⟩ := s
    simp only at e1 e2
    subst e1
    subst e2
    match ts, hm with
    | [t], hm =>
      simp only [mulOk] at hm
      subst hm
      simp [rGo, ordGo, tot, timesGo, sumL]
  | o :: r, L, i, s, ts, hs, hc, hm, hL, _ => by
    obtain ⟨hst, hok⟩ := step_eq hs (hc o (by simp))
    rw [rGo, ordGo, hst]
    cases hr : rStep s o with
    | none => simp
    | some s' =>
      have hs' := hok s' hr
      simp only [Option.map_some]
      obtain ⟨t, tr, rfl⟩ := mul_cons hm
      -- the rounds behind this op
      have key : ∃ ts', mulOk s'.st ts' ∧ tot s'.steps s'.st ts' + sumL (timesGo ts' r) = tot s.steps s.st (t :: tr) + sumL (timesGo (t :: tr) (o :: r)) := by
        obtain ⟨rl, st, steps⟩ := s
        simp only at hm hr ⊢
        unfold rStep at hr
        rw [timesGo]
        by_cases k8 : o.kind = 8
        · rw [if_pos k8] at hr ⊢
          split at hr
          · cases hr
          · cases hr
            refine ⟨(t * o.n) :: t :: tr, ⟨rfl, hm⟩, ?_⟩
            simp [tot, sumL]
        · rw [if_neg k8] at hr ⊢
          by_cases k9 : o.kind = 9
          · rw [if_pos k9] at hr ⊢
            match st, hm, hr with
            | (h, N, was) :: st', hm, hr =>
              match tr, hm with
              | u :: us, hm =>
                simp only at hr
                split at hr
                · cases hr
                  obtain ⟨e1, hm2⟩ := hm
                  refine ⟨u :: us, hm2, ?_⟩
                  simp only [List.length_cons, List.tail_cons, sumL]
                  rw [if_pos (by omega), tot_add, tot, e1, Int.mul_assoc]
                  omega
                · cases hr
          · rw [if_neg k9] at hr ⊢
            have hplain : s'.st = st ∧ s'.steps = steps + 1 := by
              split at hr
              · split at hr
                · cases hr; exact ⟨rfl, rfl⟩
                · split at hr
                  · cases hr
                  · cases hr; exact ⟨rfl, rfl⟩
              · split at hr
                · split at hr
                  · cases hr
                  · split at hr
                    · cases hr; exact ⟨rfl, rfl⟩
                    · cases hr
                · split at hr
                  · cases hr
                  · cases hr; exact ⟨rfl, rfl⟩
            refine ⟨t :: tr, by rw [hplain.1]; exact hm, ?_⟩
            rw [hplain.1, hplain.2, tot_add]
            simp only [List.headD_cons, sumL]
            omega
      obtain ⟨ts', hm', heq⟩ := key
      rw [← heq]
      by_cases hr0 : r = []
      · subst hr0
        by_cases hopen : s'.st ≠ [] ∨ s'.rl ≠ []
        · have hne : ((mOf s').1 ≠ 0 ∨ (mOf s').2 ≠ []) := by
            rcases hopen with h | h
            · right; simp [mOf]; exact h
            · left; intro e; exact h (msk_inj _ [] hs'.1 trivial e)
          have hin : (([] : List OpD) = [] ∧ ((mOf s').1 ≠ 0 ∨ (mOf s').2 ≠ [])) := ⟨rfl, hne⟩
          rw [rGo, if_pos hopen, if_pos hin]
          simp at hL
          simp
          omega
        · have hn2 : s'.st = [] ∧ s'.rl = [] := by
            constructor
            · by_cases h : s'.st = []
              · exact h
              · exact absurd (.inl h) hopen
            · by_cases h : s'.rl = []
              · exact h
              · exact absurd (.inr h) hopen
          have hin : ¬ (([] : List OpD) = [] ∧ ((mOf s').1 ≠ 0 ∨ (mOf s').2 ≠ [])) := by
            rintro ⟨_, h⟩
            rcases h with h | h
            · exact h (by simp [mOf, hn2.2, mskR])
            · exact h (by simp [mOf, hn2.1])
          rw [if_neg hin]
          exact go_eq [] L (i + 1) s' ts' hs' (fun o ho => by cases ho) hm' (by simpa using hL) (fun _ => hn2)
      · have hin : ¬ (r = [] ∧ ((mOf s').1 ≠ 0 ∨ (mOf s').2 ≠ [])) := fun h => hr0 h.1
        rw [if_neg hin]
        exact go_eq r L (i + 1) s' ts' hs' (fun q hq => hc q (by simp [hq])) hm' (by simp at hL; omega) (fun h => absurd h hr0)
/-- The reference's CheckProg tells what Check tells. -/
theorem rgo_check {p : List OpD} (h48 : p.length ≤ 48) (hc : ∀ o ∈ p, checkD o = 0) : rGo p.length 0 ⟨[], [], 0⟩ p = checkP p := by
  have h := go_eq p p.length 0 ⟨[], [], 0⟩ [1] ⟨trivial, by simp, fun f hf => by cases hf⟩ hc rfl (by simp) (fun _ => ⟨rfl, rfl⟩)
  rw [h]
  unfold checkP stepsD
  have h48' : ¬ 48 < p.length := by omega
  have he : ((0, 0) : Nat × Int).2 = 0 := rfl
  rw [if_neg h48', all_each _ 0 hc, if_pos he]
  simp only [mOf, mskR, List.map_nil, tot, Int.mul_zero, Int.zero_add]
end Go.Proofs.YtolljdomnohmdaaGreatDoor
namespace Go.Proofs.YtolljdomnohmdaaGreatDoor
open Go.RowKit

theorem irow_at {e : TypeId} {B : Nat} {w : World} {a : Option Addr} {n c : Nat} {l : List Int} (h : IRow e B w (.slice a n c) l) : AtI w a l := by
  intro j x hj
  have hjl := (List.getElem?_eq_some_iff.1 hj).1
  obtain ⟨g, c9, e9, _, _, _⟩ := h.some (by omega)
  have e1 := (Value.slice.inj e9).1
  subst e1
  have e2 := (Value.slice.inj e9).2.1
  subst e2
  exact ⟨g, 0, rfl, by rw [Nat.zero_add]; exact h.cell j x hj⟩
/-- What a slice of numbers shows, apart from a row of the call's own. -/
def LAt (w : World) (v : Value) (a : Option Addr) (l : List Int) : Prop := ∀ (j : Nat) (x : Int), l[j]? = some x → ∃ b f, a = some ⟨b, f, none⟩ ∧ w.cell? ⟨b, f + j, none⟩ = some (.int .i64 x) ∧ v.ownBlock ≠ some b
theorem LAt.at {w : World} {v : Value} {a : Option Addr} {l : List Int} (h : LAt w v a l) : AtI w a l := fun j x hj => by
  obtain ⟨b, f, e, hc, _⟩ := h j x hj
  exact ⟨b, f, e, hc⟩
theorem LAt.kept {w w' : World} {v : Value} {a : Option Addr} {l : List Int} (h : LAt w v a l) (t : Kept w w') : LAt w' v a l := fun j x hj => by
  obtain ⟨b, f, e, hc, hn⟩ := h j x hj
  exact ⟨b, f, e, t.cell hc, hn⟩
theorem LAt.grow {W w' : World} {v : Value} {a : Option Addr} {l : List Int} {g n c : Nat} (h : LAt W v a l) (t : Turns (fun k => v.ownBlock = some k) W w') (hg : v.ownBlock = some g ∨ W.heap.size < g) : LAt w' (.slice (some ⟨g, 0, none⟩) n c) a l := fun j x hj => by
  obtain ⟨b, f, e, hc, hn⟩ := h j x hj
  have hlt := cell_lt hc
  refine ⟨b, f, e, t.cell hc hlt hn, fun e2 => ?_⟩
  simp [Value.ownBlock] at e2
  subst e2
  rcases hg with h1 | h1
  · exact hn h1
  · simp only at hlt; omega
theorem LAt.short {w : World} {g n n' c c' : Nat} {a : Option Addr} {l : List Int} (h : LAt w (.slice (some ⟨g, 0, none⟩) n c) a l) : LAt w (.slice (some ⟨g, 0, none⟩) n' c') a l := h
theorem LAt.nil (w : World) (v : Value) (a : Option Addr) : LAt w v a [] := fun j x hj => by simp at hj
theorem LAt.fresh {e : TypeId} {B : Nat} {w : World} {v : Value} {a : Option Addr} {n c : Nat} {l : List Int} (h : IRow e B w (.slice a n c) l) (hv : ∀ q, v.ownBlock = some q → q < B) : LAt w v a l := fun j x hj => by
  obtain ⟨b, f, e1, hc⟩ := irow_at h j x hj
  have hjl := (List.getElem?_eq_some_iff.1 hj).1
  obtain ⟨g, c9, e9, _, h3, _⟩ := h.some (by omega)
  have e2 := (Value.slice.inj e9).1
  rw [e1] at e2
  cases e2
  exact ⟨_, _, e1, hc, fun e3 => by have := hv _ e3; omega⟩
/-- Numbers copied behind an empty row of the call's own. -/
theorem wpList_copy_int (w : World) {ops : Array Oper} {rest : List Oper} {o : Oper} {a : Act} {Q : Exit → Act → World → Prop} (hw : Region.wanted o (yielded ops a.tmps) = true) (s x : Operand)
    (ho : o.op = .call { callee := .builtin .append, args := #[s, x], argTypes := #[134, 134] }) (W : World) (hw1 : w = W.alloc (.cells #[] 3)) (nb : Nat) (hnb : nb = W.heap.size) (hs : a.eval s = .slice (some ⟨nb, 0, none⟩) 0 0) (ca : Option Addr) (n cc : Nat) (l : List Int) (hln : n = l.length) (hx : a.eval x = .slice ca n cc) (hn : ca = none → cc = 0) (hA : AtI W ca l) (hl : l.length ≤ 1000000)
    (h : ∀ v w', IRow 3 W.heap.size w' v l → Kept W w' → wpList Tryz.prog ops Q rest (a.put o.dst v) w') : wpList Tryz.prog ops Q (o :: rest) a w := by
  subst hw1
  subst hnb
  subst hln
  refine wpList_step fun K hK => ?_
  rw [if_pos hw]
  obtain ⟨i, hi, hz0, hz1, hz2⟩ := info_parts nInt.inf
  have h0 : (W.alloc (.cells #[] 3)).ownsRow W.heap.size 3 1 (.slice (some ⟨W.heap.size, 0, none⟩) 0 0) 0 [] := by
    have := World.ownsRow_lit (base := W.heap.size) (e := 3) (size := 1) W #[] 0 (Nat.le_refl _) (by unfold maxLen; omega) (by simp)
    simpa using this
  have KA : Kept W (W.alloc (.cells #[] 3)) := (Kept.refl W).alloc _
  cases ca with
  | none =>
    have hl0 : l = [] := by
      cases l with
      | nil => rfl
      | cons c r =>
        obtain ⟨b, f, e, _⟩ := hA 0 c rfl
        cases e
    subst hl0
    have hc0 := hn rfl
    subst hc0
    have hrun := run_append_owned_none (P := Tryz.prog) (W.alloc (.cells #[] 3)) W.heap.size 134 o.type 3 i 1 nInt.und hi (.slice (some ⟨W.heap.size, 0, none⟩) 0 0) 0 [] h0
    unfold Oper.wp
    simp [execOp, ho, resolve, invoke, builtin, hs, hx, hrun, Result.andThen]
    exact hK _ _ (h _ _ h0 KA)
  | some ad =>
    have hsrc : ∀ j u, (l.map intV)[j]? = some u → (W.alloc (.cells #[] 3)).cell? (Addr.add ad j) = some u := by
      intro j u hu
      rw [List.getElem?_map] at hu
      cases hj : l[j]? with
      | none => rw [hj] at hu; simp at hu
      | some y =>
        rw [hj] at hu
        simp at hu
        subst hu
        obtain ⟨b, f, e, hc⟩ := hA j y hj
        cases e
        rw [Addr.add_lit]
        exact KA.cell hc
    obtain ⟨v', w', hr, k1, k2, k3, k4⟩ := run_append_own_at (P := Tryz.prog) (W.alloc (.cells #[] 3)) W.heap.size 134 o.type 3 i _ 1 8 nInt.und hi hz0 hz1 hz2 rfl (by omega) (.slice (some ⟨W.heap.size, 0, none⟩) 0 0) 0 [] h0 ad l.length cc (l.map intV) (by simp) hsrc (int_ones l) (by unfold maxLen; omega) (by omega) (le_alloc _ (Nat.le_refl _))
    unfold Oper.wp
    simp [execOp, ho, resolve, invoke, builtin, hs, hx, hr, Result.andThen]
    refine hK _ _ (h v' w' ?_ ?_)
    · unfold IRow
      simpa using k1
    · exact (Turns.grown (S := fun k => k = W.heap.size) k2 (fun k e => by simp [Value.ownBlock] at e; omega)).kept KA (fun i hi => by omega)
/-- An open loop as it lies. -/
structure Fr where
  a : Option Addr
  c : Nat
  h : List Int
  N : Int
  was : Int
def frV (f : Fr) : List Value := [.slice f.a f.h.length f.c, .int .i64 f.N, .int .i64 f.was]
def flatF (fs : List Fr) : List Value := fs.flatMap frV
theorem flatF_len (fs : List Fr) : (flatF fs).length = fs.length * 3 := by
  induction fs with
  | nil => rfl
  | cons x r ih => simp only [flatF, List.flatMap_cons, List.length_append, List.length_cons] at *; simp [frV, ih]; omega
theorem flatF_get : ∀ (fs : List Fr) (j i : Nat) (f : Fr), fs[j]? = some f → i < 3 → (flatF fs)[j * 3 + i]? = (frV f)[i]?
  | [], _, _, _, h, _ => by simp at h
  | x :: r, 0, i, e, h, hi => by
    simp at h
    subst h
    simp only [flatF, List.flatMap_cons]
    rw [List.getElem?_append_left (by simp [frV]; omega)]
    simp
  | x :: r, j + 1, i, e, h, hi => by
    simp only [flatF, List.flatMap_cons]
    rw [List.getElem?_append_right (by simp [frV]; omega)]
    have := flatF_get r j i e (by simpa using h) hi
    rw [show (j + 1) * 3 + i - (frV x).length = j * 3 + i by simp [frV]; omega]
    exact this
def FRow (Bd : Nat) (w : World) (v : Value) (fs : List Fr) : Prop := w.ownsRow Bd 137 3 v fs.length (flatF fs)
theorem FRow.nil (Bd : Nat) (w : World) : FRow Bd w (.slice none 0 0) [] := World.ownsRow_nil _ _ _ _
theorem FRow.kept {Bd : Nat} {w w' : World} {v : Value} {fs : List Fr} (h : FRow Bd w v fs) (t : Kept w w') : FRow Bd w' v fs := own_kept h t
theorem infoF : (Tryz.prog.info? 137).map (fun i => (i.zero, i.size, i.bytes)) = some (some (.agg #[.slice none 0 0, .int .i64 0, .int .i64 0]), 3, 40) := by kernel_rfl
/-- One open loop behind a row of them. -/
theorem wpList_append_fr (w : World) {ops : Array Oper} {rest : List Oper} {o : Oper} {a : Act} {Q : Exit → Act → World → Prop} (hw : Region.wanted o (yielded ops a.tmps) = true) (s x : Operand)
    (ho : o.op = .call { callee := .builtin .append, args := #[s, x], argTypes := #[135, 135] })
    (Bd : Nat) (v1 : Value) (l : List Fr) (c : Fr) (W : World) (cells : Array Value) (hcells : cells = (frV c).toArray) (hw1 : w = W.alloc (.cells cells 137)) (hs : a.eval s = v1) (nb : Nat) (hnb : nb = W.heap.size) (hx : a.eval x = .slice (some ⟨nb, 0, none⟩) 1 1)
    (h1 : FRow Bd W v1 l) (hl : l.length ≤ 1000000) (hB : Bd ≤ W.heap.size)
    (h : ∀ g cap w', FRow Bd w' (.slice (some ⟨g, 0, none⟩) (l.length + 1) cap) (l ++ [c]) → Turns (fun k => v1.ownBlock = some k) W w' → (v1.ownBlock = some g ∨ W.heap.size < g) → wpList Tryz.prog ops Q rest (a.put o.dst (.slice (some ⟨g, 0, none⟩) (l.length + 1) cap)) w') :
    wpList Tryz.prog ops Q (o :: rest) a w := by
  subst hw1
  subst hnb
  refine wpList_step fun K hK => ?_
  rw [if_pos hw]
  obtain ⟨i, hi, hz0, hz1, hz2⟩ := info_parts infoF
  have hcc : ∀ j u, (frV c)[j]? = some u → (W.alloc (.cells cells 137)).cell? (Addr.add ⟨W.heap.size, 0, none⟩ j) = some u := by
    intro j u hu
    rw [Addr.add_lit, Nat.zero_add, World.cell?_alloc_at _ _ _ _ rfl, hcells]
    simpa using hu
  have h1' : (W.alloc (.cells cells 137)).ownsRow Bd 137 3 v1 l.length (flatF l) := World.ownsRow.alloc h1 _
  have hB' := le_alloc (.cells cells 137) hB
  obtain ⟨v', w', hr, k1, k2, k3, k4⟩ := run_append_own_at (P := Tryz.prog) (W.alloc (.cells cells 137)) Bd 135 o.type 137 i _ 3 40 Tryz.underlying135 hi hz0 hz1 hz2 rfl (by omega) _ l.length (flatF l) h1' ⟨W.heap.size, 0, none⟩ 1 1 (frV c) (by simp [frV]) hcc (fun u hu => by simp [frV] at hu; rcases hu with rfl | rfl | rfl <;> rfl) (by unfold maxLen; omega) (by omega) hB'
  obtain ⟨g, cap, rfl⟩ := own_form k1 (fun e => by have := k3.1 e; have := this.2; omega)
  have t : Turns (fun k => v1.ownBlock = some k) W w' := ((Turns.refl _ W).alloc _).trans (Turns.grown k2 (fun k e => e))
  have hg : v1.ownBlock = some g ∨ W.heap.size < g := by
    rcases k4 with k4 | k4
    · exact .inl k4.symm
    · right; simp [Value.ownBlock] at k4; omega
  unfold Oper.wp
  simp [execOp, ho, resolve, invoke, builtin, hs, hx, hr, Result.andThen]
  refine hK _ _ (h g cap w' ?_ t hg)
  unfold FRow
  rw [List.length_append, show flatF (l ++ [c]) = flatF l ++ frV c by simp [flatF]]
  exact k1

set_option maxHeartbeats 2000000 in
theorem alike_any (a b : Option Addr) (c d : Nat) (l m : List Int) (w : World) (hA : AtI w a l) (hB : AtI w b m) (hl : l.length ≤ 100000) (_hml : m.length ≤ 100000) :
    Calls Tryz.prog 80 #[.slice a l.length c, .slice b m.length d] w fun e w' => e = .returned (.bool (decide (l = m))) ∧ Kept w w' := by
  have HA : Hid (AtI w a l) := hA
  have HB : Hid (AtI w b m) := hB
  clear hA hB
  by_cases hlm : l.length = m.length
  · have hne : ((l.length : Int) != (m.length : Int)) = false := by simp [hlm]
    go_enter Tryz.func80, Tryz.ntmps80
    go_wp2_with fail
    go_loopg [5] l.length (fun gk i wr => ∃ j : Nat, i = .int .i64 j ∧ j + gk = l.length ∧ Hid (l.take j = m.take j) ∧ Kept w wr)
    case atStart => exact ⟨0, rfl, by omega, (by show _ = _; simp), Kept.refl w⟩
    case round =>
      obtain ⟨j, rfl, hj, HE, K⟩ := hrel
      by_cases hjp : j < l.length
      · obtain ⟨x, hx⟩ : ∃ x, l[j]? = some x := ⟨_, List.getElem?_eq_getElem hjp⟩
        obtain ⟨y, hy⟩ : ∃ y, m[j]? = some y := ⟨_, List.getElem?_eq_getElem (by omega)⟩
        obtain ⟨b1, f1, rfl, c1⟩ := (HA.out.kept K) j x hx
        obtain ⟨b2, f2, rfl, c2⟩ := (HB.out.kept K) j y hy
        have r1 : (j : Int) < (l.length : Int) := by omega
        have r2 : (j : Int) < (m.length : Int) := by omega
        have r3 : (0 : Int) ≤ (j : Int) := by omega
        obtain ⟨g3', rfl⟩ : ∃ g, gk = g + 1 := ⟨gk - 1, by omega⟩
        by_cases hxy : x = y
        · subst hxy
          have hq : (x != x) = false := by simp
          have HE2 : Hid (l.take (j + 1) = m.take (j + 1)) := by show _ = _; rw [List.take_add_one, List.take_add_one, hx, hy, HE.out]
          clear hx hy HE
          go_wp2_with fail
          go_region_held3 (fun w' => w'.cell? ⟨b1, f1 + j, none⟩ = some (.int .i64 x) ∧ w'.cell? ⟨b2, f2 + j, none⟩ = some (.int .i64 x)) (go_keep) (fail)
          go_wp2_with fail
          go_roundg g3'
          case rel => exact ⟨j + 1, by go_num, by omega, HE2, K.drew⟩
          case measure => omega
        · have hq : (x != y) = true := by simp [hxy]
          have HD : Hid (decide (l = m) = false) := by
            refine decide_eq_false (fun e => hxy ?_)
            rw [e, hy] at hx
            exact (Option.some.inj hx).symm
          clear hx hy HE hxy
          go_wp2_with fail
          go_region_held3 (fun w' => w'.cell? ⟨b1, f1 + j, none⟩ = some (.int .i64 x) ∧ w'.cell? ⟨b2, f2 + j, none⟩ = some (.int .i64 y)) (go_keep) (fail)
          go_wp2_with fail
          go_ret
          rw [HD.out]
          exact ⟨rfl, K.drew⟩
      · have r1 : ¬ (j : Int) < (l.length : Int) := by omega
        have HD : Hid (decide (l = m) = true) := by
          refine decide_eq_true ?_
          have h := HE.out
          rw [List.take_of_length_le (by omega), List.take_of_length_le (by omega)] at h
          exact h
        go_wp2_with fail
        go_ret
        rw [HD.out]
        exact ⟨rfl, K⟩
  · have hne : ((l.length : Int) != (m.length : Int)) = true := by simp; omega
    have HD : Hid (decide (l = m) = false) := decide_eq_false (fun e => hlm (by rw [e]))
    go_enter Tryz.func80, Tryz.ntmps80
    go_wp2_with fail
    go_ret
    rw [HD.out]
    exact ⟨rfl, Kept.refl w⟩
end Go.Proofs.YtolljdomnohmdaaGreatDoor
namespace Go.Proofs.YtolljdomnohmdaaGreatDoor
open Go.RowKit

def Bnd (j : Nat) (s : StR) : Prop := ∃ ts, mulOk s.st ts ∧ 0 ≤ s.steps ∧ (∀ f ∈ s.st, 1 ≤ f.2.1 ∧ f.2.1 ≤ 32 ∧ 0 ≤ f.2.2) ∧ tot s.steps s.st ts ≤ 32768 * (j : Int)
theorem mul_bd : ∀ (st : List (List Int × Int × Int)) (t : Int) (r : List Int), mulOk st (t :: r) → (∀ f ∈ st, 1 ≤ f.2.1 ∧ f.2.1 ≤ 32) → 1 ≤ t ∧ t ≤ 32 ^ st.length
  | [], t, r, h, _ => by
    cases r with
    | nil => simp only [mulOk] at h; subst h; simp
    | cons u us => exact h.elim
  | (hh, N, was) :: st, t, r, h, hf => by
    cases r with
    | nil => exact h.elim
    | cons u us =>
      obtain ⟨e, h2⟩ := h
      have ih := mul_bd st u us h2 (fun f hm => hf f (by simp [hm]))
      have hN := hf (hh, N, was) (by simp)
      simp only at hN
      subst e
      rw [List.length_cons, Int.pow_succ]
      refine ⟨?_, Int.mul_le_mul ih.2 hN.2 (by omega) (by omega)⟩
      have := Int.mul_le_mul ih.1 hN.1 (by omega) (by omega)
      omega
theorem tot_bd2 : ∀ (st : List (List Int × Int × Int)) (steps : Int) (ts : List Int), mulOk st ts → 0 ≤ steps → (∀ f ∈ st, 1 ≤ f.2.1 ∧ f.2.1 ≤ 32 ∧ 0 ≤ f.2.2) → steps ≤ tot steps st ts ∧ ∀ f ∈ st, f.2.2 ≤ tot steps st ts
  | [], steps, ts, h, h0, _ => by
    obtain ⟨t, r, rfl⟩ := mul_cons h
    have hb := mul_bd [] t r h (fun f hf => by cases hf)
    have : 1 * steps ≤ t * steps := Int.mul_le_mul_of_nonneg_right hb.1 h0
    simp only [tot]
    exact ⟨by omega, fun f hf => by cases hf⟩
  | (hh, N, was) :: st, steps, ts, h, h0, hf => by
    obtain ⟨t, r, rfl⟩ := mul_cons h
    have hb := mul_bd _ t r h (fun f hm => ⟨(hf f hm).1, (hf f hm).2.1⟩)
    have h1 : 1 * steps ≤ t * steps := Int.mul_le_mul_of_nonneg_right hb.1 h0
    cases r with
    | nil => exact h.elim
    | cons u us =>
      have hw := hf (hh, N, was) (by simp)
      simp only at hw
      have ih := tot_bd2 st was (u :: us) h.2 hw.2.2 (fun f hm => hf f (by simp [hm]))
      simp only [tot]
      refine ⟨by omega, fun f hm => ?_⟩
      rcases List.mem_cons.1 hm with rfl | hm
      · simp only; omega
      · have := ih.2 f hm; omega
theorem loop_n2 {o : OpD} (hk : o.kind = 8) (h : checkD o = 0) : 1 ≤ o.n ∧ o.n ≤ 32 := by
  obtain ⟨k, n, v, wt, l⟩ := o
  have ht := (taken_of h).takes
  simp only at hk
  subst hk
  simp [takesB, shapeOf] at ht
  simp only
  omega
theorem bnd_step {j : Nat} {s s' : StR} {o : OpD} (h : Bnd j s) (hl : s.st.length ≤ 3) (ho : checkD o = 0) (hr : rStep s o = some s') : Bnd (j + 1) s' := by
  obtain ⟨ts, hm, h0, hf, ht⟩ := h
  obtain ⟨rl, st, steps⟩ := s
  obtain ⟨t, tr, rfl⟩ := mul_cons hm
  simp only at hm h0 hf ht hl hr
  have hb := mul_bd st t tr hm (fun f hq => ⟨(hf f hq).1, (hf f hq).2.1⟩)
  have hp : (32 : Int) ^ st.length ≤ 32768 := by
    rcases Nat.lt_or_ge st.length 3 with h3 | h3
    · have hcase : st.length = 0 ∨ st.length = 1 ∨ st.length = 2 := by omega
      rcases hcase with e | e | e <;> rw [e] <;> decide
    · rw [show st.length = 3 by omega]; decide
  unfold rStep at hr
  by_cases k8 : o.kind = 8
  · have hn := loop_n2 k8 ho
    rw [if_pos k8] at hr
    split at hr
    · cases hr
    · cases hr
      refine ⟨(t * o.n) :: t :: tr, ⟨rfl, hm⟩, by simp, fun f hq => ?_, by simp [tot]; omega⟩
      rcases List.mem_cons.1 hq with rfl | hq
      · exact ⟨hn.1, hn.2, h0⟩
      · exact hf f hq
  · rw [if_neg k8] at hr
    by_cases k9 : o.kind = 9
    · rw [if_pos k9] at hr
      match st, hm, hr, hf, ht with
      | (h, N, was) :: st', hm, hr, hf, ht =>
        match tr, hm, ht with
        | u :: us, hm, ht =>
          simp only at hr
          split at hr
          · cases hr
            have hw := hf (h, N, was) (by simp)
            simp only at hw
            obtain ⟨e1, hm2⟩ := hm
            have hns : 0 ≤ N * steps := Int.mul_nonneg (by omega) h0
            refine ⟨u :: us, hm2, by simp only; omega, fun f hq => hf f (by simp [hq]), ?_⟩
            simp only [tot] at ht
            simp only
            rw [tot_add]
            rw [e1, Int.mul_assoc] at ht
            omega
          · cases hr
    · rw [if_neg k9] at hr
      have hplain : s'.st = st ∧ s'.steps = steps + 1 := by
        split at hr
        · split at hr
          · cases hr; exact ⟨rfl, rfl⟩
          · split at hr
            · cases hr
            · cases hr; exact ⟨rfl, rfl⟩
        · split at hr
          · split at hr
            · cases hr
            · split at hr
              · cases hr; exact ⟨rfl, rfl⟩
              · cases hr
          · split at hr
            · cases hr
            · cases hr; exact ⟨rfl, rfl⟩
      refine ⟨t :: tr, by rw [hplain.1]; exact hm, by rw [hplain.2]; omega, by rw [hplain.1]; exact hf, ?_⟩
      rw [hplain.1, hplain.2, tot_add]
      have : 32768 * ((j + 1 : Nat) : Int) = 32768 * (j : Int) + 32768 := by omega
      omega
/-- The state in memory. -/
structure LSt (Bd : Nat) (W : World) (j : Nat) (s : StR) (a6 : Option Addr) (c6 : Nat) (v7 : Value) (rf : List Fr) : Prop where
  la : LAt W v7 a6 s.rl.reverse
  l0 : a6 = none → c6 = 0
  lc : s.rl.length ≤ c6
  fr : FRow Bd W v7 rf.reverse
  fm : rf.map (fun f => (f.h, f.N, f.was)) = s.st
  fa : ∀ f ∈ rf, LAt W v7 f.a f.h.reverse ∧ (f.a = none → f.c = 0) ∧ f.h.length ≤ f.c
  ok : StOk s
  bd : Bnd j s
theorem LSt.kept {Bd : Nat} {W W' : World} {j : Nat} {s : StR} {a6 : Option Addr} {c6 : Nat} {v7 : Value} {rf : List Fr} (h : LSt Bd W j s a6 c6 v7 rf) (t : Kept W W') : LSt Bd W' j s a6 c6 v7 rf :=
  ⟨h.la.kept t, h.l0, h.lc, h.fr.kept t, h.fm, fun f hf => ⟨(h.fa f hf).1.kept t, (h.fa f hf).2⟩, h.ok, h.bd⟩
theorem LSt.nums {Bd : Nat} {W : World} {j : Nat} {s : StR} {a6 : Option Addr} {c6 : Nat} {v7 : Value} {rf : List Fr} (h : LSt Bd W j s a6 c6 v7 rf) (hj : j ≤ 48) : 0 ≤ s.steps ∧ s.steps ≤ 1572864 ∧ s.rl.length ≤ 8 ∧ rf.length ≤ 3 := by
  obtain ⟨ts, hm, h0, hf, ht⟩ := h.bd
  have hb := tot_bd2 s.st s.steps ts hm h0 hf
  refine ⟨h0, by omega, ?_, ?_⟩
  · have key : ∀ r : List Int, DecR r → ∀ n : Int, (∀ x ∈ r, x < n) → 0 ≤ n → (r.length : Int) ≤ n := by
      intro r
      induction r with
      | nil => intro _ n _ hn; simpa using hn
      | cons k r ih =>
        intro hd n hx hn
        have := ih hd.2.2.2 k hd.2.2.1 hd.1
        have := hx k (by simp)
        simp
        omega
    have := key s.rl h.ok.1 8 (fun x hx => by
      have aux : ∀ r : List Int, DecR r → ∀ x ∈ r, x ≤ 7 := by
        intro r
        induction r with
        | nil => intro _ x hx; cases hx
        | cons k r ih =>
          intro hd x hx
          rcases List.mem_cons.1 hx with rfl | hx
          · exact hd.2.1
          · exact ih hd.2.2.2 x hx
      have := aux s.rl h.ok.1 x hx
      omega) (by omega)
    omega
  · have := congrArg List.length h.fm
    have h2 := h.ok.2.1
    simp at this
    omega
theorem FRow.form {Bd : Nat} {w : World} {v : Value} {fs : List Fr} (h : FRow Bd w v fs) : ∃ a c, v = .slice a fs.length c := by
  rcases h.2 with ⟨h1, h2⟩ | ⟨g, cap, cur, h1, _⟩
  · exact ⟨none, 0, by rw [h1, h2]⟩
  · exact ⟨_, _, h1⟩
end Go.Proofs.YtolljdomnohmdaaGreatDoor
namespace Go.Proofs.YtolljdomnohmdaaGreatDoor
open Go.RowKit

theorem rev_last (k : Int) (r : List Int) : (k :: r).reverse[r.length]? = some k := by
  rw [List.reverse_cons, List.getElem?_append_right (by simp)]
  simp
end Go.Proofs.YtolljdomnohmdaaGreatDoor
namespace Go.Proofs.YtolljdomnohmdaaGreatDoor
open Go.RowKit

theorem find_some (nm : List UInt8) : ∀ (ts : List TaskD) (j q : Nat) (t : TaskD), ts[q]? = some t → t.name = nm → (findGo nm j ts).1 ≤ j + q
  | [], j, q, t, h, _ => by simp at h
  | x :: r, j, 0, t, h, hn => by
    simp at h
    subst h
    rw [findGo, if_pos hn]
    simp
  | x :: r, j, q + 1, t, h, hn => by
    rw [findGo]
    split
    · simp
    · have := find_some nm r (j + 1) q t (by simpa using h) hn
      omega
theorem find_first (nm : List UInt8) : ∀ (ts : List TaskD) (j q : Nat) (t : TaskD), ts[q]? = some t → t.name = nm → (∀ q' t', q' < q → ts[q']? = some t' → t'.name ≠ nm) → findGo nm j ts = (j + q, true)
  | [], j, q, t, h, _, _ => by simp at h
  | x :: r, j, 0, t, h, hn, _ => by
    simp at h
    subst h
    rw [findGo, if_pos hn]
    simp
  | x :: r, j, q + 1, t, h, hn, hb => by
    rw [findGo, if_neg (hb 0 x (by omega) (by simp)), find_first nm r (j + 1) q t (by simpa using h) hn (fun q' t' hq ht => hb (q' + 1) t' (by omega) (by simpa using ht))]
    congr 1
    omega
end Go.Proofs.YtolljdomnohmdaaGreatDoor
namespace Go.Proofs.YtolljdomnohmdaaGreatDoor
open Go.RowKit

/-- Of a set that may be there are 1 to 12 tasks. -/
theorem checkS_len {L : Int} {cs : List ChanD} {ts : List TaskD} (h : (checkS L cs ts).2 = 0) : 1 ≤ ts.length ∧ ts.length ≤ 12 ∧ cs.length ≤ 8 ∧ 0 ≤ L ∧ L ≤ 8 := by
  unfold checkS at h
  split at h
  · simp at h
  · split at h
    · simp at h
    · omega
end Go.Proofs.YtolljdomnohmdaaGreatDoor
