/- Plain mathematics of texts: lines, words, numbers in decimal. No program is named here. Ops as plain data: what is wrong with one, its words, and back. No program is named here. Ops in words and back, there and back: plain mathematics. Programs as plain data: what is wrong with one, what is done. No program of Go's is named here. -/
import Derived.Lib.IndexMore
import Derived.Lib.ItoaMem
import Derived.Lib.ParseIntB
import GoSem.Op.String
import Derived.ProofKit
import Derived.OpenShut
import Derived.ShutString
import Derived.ChangeOld
import Derived.ChangeArms
import Derived.WideShapes
import Derived.Below
import Derived.Deep.Slices
import Derived.Deep.SlicePairs
import Derived.Deep.LoopGhost
import Derived.Test.YtolljdomnohmdabGreatDoorM2
import Derived.Test.YtolljdomnohmdabGreatDoorCas
import Derived.Test.YtolljdomnohmdabGreatDoorCheck
import Derived.Test.YtolljdomnohmdabGreatDoorM3
import Derived.Test.YtolljdomnohmdabGreatDoorM4
import Derived.Test.YtolljdomnohmdabGreatDoorM0
import Derived.Test.YtolljdomnohmdabGreatDoorM1
import Derived.Test.YtolljdomnohmdabGreatDoorOpT
import Derived.Test.YtolljdomnohmdabGreatDoorPar
import Derived.Test.YtolljdomnohmdabGreatDoorM7
import Derived.Test.YtolljdomnohmdabGreatDoorTxt
import Derived.Test.YtolljdomnohmdabGreatDoorRWrd
import Derived.Test.YtolljdomnohmdabGreatDoorM5
import Derived.Test.YtolljdomnohmdabGreatDoorRead
import Derived.Test.YtolljdomnohmdabGreatDoorM8
import Derived.Test.YtolljdomnohmdabGreatDoorTrn
namespace Go.Proofs.YtolljdomnohmdabGreatDoor

end Go.Proofs.YtolljdomnohmdabGreatDoor
namespace Go.Proofs.YtolljdomnohmdabGreatDoor

end Go.Proofs.YtolljdomnohmdabGreatDoor
namespace Go.Proofs.YtolljdomnohmdabGreatDoor

end Go.Proofs.YtolljdomnohmdabGreatDoor
namespace Go.Proofs.YtolljdomnohmdabGreatDoor

/-- One op between two: m has a bit for each lock that is held; lp is what each open Loop began with, the innermost one first. -/
def takeM (m : Nat) (lp : List Nat) (o : OpD) : Option (Nat × List Nat) :=
  if o.kind = 2 then (if m < 2 ^ o.n.toNat then some (m + 2 ^ o.n.toNat, lp) else none)
  else if o.kind = 3 then (if 2 ^ o.n.toNat ≤ m ∧ m < 2 * 2 ^ o.n.toNat then some (m - 2 ^ o.n.toNat, lp) else none)
  else if o.kind = 8 then (if lp.length = 3 then none else some (m, m :: lp))
  else if o.kind = 9 then (match lp with
    | [] => none
    | x :: r => if x = m then some (m, r) else none)
  else if m = 0 ∨ waitsD o = false then some (m, lp) else none
/-- The order of ops: at which place it is wrong, and the error. -/
def ordGo (i m : Nat) (lp : List Nat) : List OpD → Nat × Int
  | [] => (0, 0)
  | o :: r => match takeM m lp o with
    | none => (i, 11)
    | some (m', lp') => if r = [] ∧ (m' ≠ 0 ∨ lp' ≠ []) then (i, 11) else ordGo (i + 1) m' lp' r
/-- Op by op. -/
def eachGo (i : Nat) : List OpD → Nat × Int
  | [] => (0, 0)
  | o :: r => if checkD o = 0 then eachGo (i + 1) r else (i, checkD o)
/-- How often each op is done; the innermost Loop's rounds first. -/
def timesGo : List Int → List OpD → List Int
  | _, [] => []
  | st, o :: r => if o.kind = 8 then 0 :: timesGo ((st.headD 1 * o.n) :: st) r else if o.kind = 9 then 0 :: timesGo (if 1 < st.length then st.tail else st) r else st.headD 1 :: timesGo st r
def sumL : List Int → Int
  | [] => 0
  | x :: r => x + sumL r
def stepsD (p : List OpD) : Int := sumL (timesGo [1] p)
def checkP (p : List OpD) : Nat × Int :=
  if 48 < p.length then (0, 18) else if (eachGo 0 p).2 = 0 then (if (ordGo 0 0 [] p).2 = 0 then (if 512 < stepsD p then (0, 4) else (0, 0)) else ordGo 0 0 [] p) else eachGo 0 p

def rep (n : Nat) (g : List OpD) : List OpD := (List.replicate n g).flatten
/-- p is in order, its loops at most d deep; m is held ahead of it, m' behind it; f is all that is done. -/
inductive Bal : Nat → Nat → Nat → List OpD → List OpD → Prop
  | nil (d m : Nat) : Bal d m m [] []
  | one {d m m1 m' : Nat} {o : OpD} {p f : List OpD} (h8 : o.kind ≠ 8) (h9 : o.kind ≠ 9) (ht : takeM m [] o = some (m1, [])) (hp : Bal d m1 m' p f) : Bal d m m' (o :: p) (o :: f)
  | loop {d m m' : Nat} {o e : OpD} {b g p f : List OpD} (h8 : o.kind = 8) (h9 : e.kind = 9) (hb : Bal d m m b g) (hp : Bal (d + 1) m m' p f) : Bal (d + 1) m m' (o :: (b ++ e :: p)) (rep o.n.toNat g ++ f)

/-- All ops one behind the other. -/
def runM (m : Nat) (lp : List Nat) : List OpD → Option (Nat × List Nat)
  | [] => some (m, lp)
  | o :: r => match takeM m lp o with
    | none => none
    | some (m', lp') => runM m' lp' r

theorem take_plain {m : Nat} {lp : List Nat} {o : OpD} (h8 : o.kind ≠ 8) (h9 : o.kind ≠ 9) {x : Nat × List Nat} (h : takeM m lp o = some x) : takeM m [] o = some (x.1, []) ∧ x.2 = lp := by
  unfold takeM at h ⊢
  split at h
  · rename_i hk
    rw [if_pos hk]
    split at h
    · rename_i hc
      cases h
      rw [if_pos hc]
      exact ⟨rfl, rfl⟩
    · cases h
  · rename_i hk
    rw [if_neg hk]
    split at h
    · rename_i hk3
      rw [if_pos hk3]
      split at h
      · rename_i hc
        cases h
        rw [if_pos hc]
        exact ⟨rfl, rfl⟩
      · cases h
    · rename_i hk3
      rw [if_neg hk3, if_neg h8, if_neg h9]
      split at h
      · rename_i hc
        cases h
        rw [if_pos hc]
        exact ⟨rfl, rfl⟩
      · cases h
theorem take_loop {m : Nat} {lp : List Nat} {o : OpD} (h8 : o.kind = 8) {x : Nat × List Nat} (h : takeM m lp o = some x) : lp.length ≠ 3 ∧ x = (m, m :: lp) := by
  unfold takeM at h
  rw [if_neg (by omega), if_neg (by omega), if_pos h8] at h
  split at h
  · cases h
  · rename_i hc
    cases h
    exact ⟨hc, rfl⟩
theorem take_end {m : Nat} {lp : List Nat} {o : OpD} (h9 : o.kind = 9) {x : Nat × List Nat} (h : takeM m lp o = some x) : ∃ r, lp = m :: r ∧ x = (m, r) := by
  unfold takeM at h
  rw [if_neg (by omega), if_neg (by omega), if_neg (by omega), if_pos h9] at h
  split at h
  · cases h
  · split at h
    · rename_i hx
      cases h
      subst hx
      exact ⟨_, rfl, rfl⟩
    · cases h
/-- What runs to an end without an open Loop is in order, up to the End of each Loop that was open ahead of it. -/
theorem run_bal : ∀ (k : Nat) (p : List OpD) (m : Nat) (lp : List Nat) (m' : Nat), p.length ≤ k → lp.length ≤ 3 → runM m lp p = some (m', []) →
    (lp = [] → ∃ f, Bal 3 m m' p f) ∧ (∀ x r, lp = x :: r → ∃ b g e q, p = b ++ e :: q ∧ e.kind = 9 ∧ Bal (3 - lp.length) m x b g ∧ runM x r q = some (m', []))
  | k, [], m, lp, m', _, _, h => by
    simp only [runM, Option.some.injEq, Prod.mk.injEq] at h
    obtain ⟨rfl, rfl⟩ := h
    exact ⟨fun _ => ⟨[], .nil _ _⟩, fun x r e => by cases e⟩
  | 0, _ :: _, _, _, _, hk, _, _ => by simp at hk
  | k + 1, o :: p, m, lp, m', hk, hl, h => by
    have hk' : p.length ≤ k := by simp at hk; omega
    rw [runM] at h
    cases ht : takeM m lp o with
    | none => rw [ht] at h; cases h
    | some y =>
      rw [ht] at h
      obtain ⟨m1, lp1⟩ := y
      simp only at h
      by_cases h8 : o.kind = 8
      · obtain ⟨hl3, hx⟩ := take_loop h8 ht
        cases hx
        have ih := (run_bal k p m (m :: lp) m' hk' (by simp; omega) h).2 m lp rfl
        obtain ⟨b, g, e, q, rfl, he, hb, hq⟩ := ih
        have hq2 := run_bal k q m lp m' (by simp at hk'; omega) hl hq
        refine ⟨fun e0 => ?_, fun x r e0 => ?_⟩
        · obtain ⟨f, hf⟩ := hq2.1 e0
          subst e0
          exact ⟨_, .loop h8 he (by simpa using hb) hf⟩
        · obtain ⟨b2, g2, e2, q2, rfl, he2, hb2, hr2⟩ := hq2.2 x r e0
          refine ⟨o :: (b ++ e :: b2), rep o.n.toNat g ++ g2, e2, q2, by simp, he2, ?_, hr2⟩
          have hd : 3 - lp.length = (3 - (m :: lp).length) + 1 := by simp; omega
          rw [hd] at hb2 ⊢
          exact .loop h8 he hb hb2
      · by_cases h9 : o.kind = 9
        · obtain ⟨r, rfl, hx⟩ := take_end h9 ht
          cases hx
          refine ⟨(fun e0 => by cases e0), fun x r' e0 => ?_⟩
          cases e0
          exact ⟨[], [], o, p, rfl, h9, .nil _ _, h⟩
        · obtain ⟨ht1, hx⟩ := take_plain h8 h9 ht
          simp only at hx ht1
          subst hx
          have ih := run_bal k p m1 lp1 m' hk' hl h
          refine ⟨fun e0 => ?_, fun x r e0 => ?_⟩
          · obtain ⟨f, hf⟩ := ih.1 e0
            exact ⟨_, .one h8 h9 ht1 hf⟩
          · obtain ⟨b, g, e, q, rfl, he, hb, hq⟩ := ih.2 x r e0
            exact ⟨o :: b, o :: g, e, q, rfl, he, .one h8 h9 ht1 hb, hq⟩
theorem ord_run : ∀ (p : List OpD) (i m : Nat) (lp : List Nat), p ≠ [] → (ordGo i m lp p).2 = 0 → runM m lp p = some (0, [])
  | [], _, _, _, hn, _ => absurd rfl hn
  | o :: r, i, m, lp, _, h => by
    rw [ordGo] at h
    rw [runM]
    cases ht : takeM m lp o with
    | none => rw [ht] at h; simp at h
    | some y =>
      rw [ht] at h
      obtain ⟨m1, lp1⟩ := y
      simp only at h ⊢
      by_cases hr : r = []
      · subst hr
        split at h
        · simp at h
        · rename_i hc
          simp at hc
          rw [runM, hc.1, hc.2]
      · rw [if_neg (fun x => hr x.1)] at h
        exact ord_run r (i + 1) m1 lp1 hr h
/-- A program that is in order. -/
theorem ord_bal {p : List OpD} (h : (ordGo 0 0 [] p).2 = 0) : ∃ f, Bal 3 0 0 p f := by
  by_cases hp : p = []
  · subst hp
    exact ⟨[], .nil _ _⟩
  · exact (run_bal p.length p 0 [] 0 (Nat.le_refl _) (by simp) (ord_run p 0 0 [] hp h)).1 rfl
theorem each_all : ∀ (p : List OpD) (i : Nat), (eachGo i p).2 = 0 → ∀ o ∈ p, checkD o = 0
  | [], _, _, o, ho => by cases ho
  | x :: r, i, h, o, ho => by
    rw [eachGo] at h
    split at h
    · rename_i hx
      rcases List.mem_cons.1 ho with rfl | ho
      · exact hx
      · exact each_all r (i + 1) h o ho
    · rename_i hx
      exact absurd h hx
theorem all_each : ∀ (p : List OpD) (i : Nat), (∀ o ∈ p, checkD o = 0) → eachGo i p = (0, 0)
  | [], _, _ => rfl
  | x :: r, i, h => by
    rw [eachGo, if_pos (h x (by simp))]
    exact all_each r (i + 1) (fun o ho => h o (by simp [ho]))
theorem rep_mem {n : Nat} {g : List OpD} {o : OpD} (h : o ∈ rep n g) : o ∈ g := by
  unfold rep at h
  simp only [List.mem_flatten, List.mem_replicate] at h
  obtain ⟨l, ⟨_, rfl⟩, hl⟩ := h
  exact hl
/-- What is done is of the program. -/
theorem bal_mem {d m m' : Nat} {p f : List OpD} (h : Bal d m m' p f) : ∀ o ∈ f, o ∈ p ∧ o.kind ≠ 8 ∧ o.kind ≠ 9 := by
  induction h with
  | nil => intro o ho; cases ho
  | one h8 h9 _ _ ih =>
    intro o ho
    rcases List.mem_cons.1 ho with rfl | ho
    · exact ⟨by simp, h8, h9⟩
    · exact ⟨by simp [(ih o ho).1], (ih o ho).2⟩
  | loop h8 h9 _ _ ihb ihp =>
    intro o ho
    rcases List.mem_append.1 ho with ho | ho
    · have := ihb o (rep_mem ho)
      exact ⟨by simp [this.1], this.2⟩
    · have := ihp o ho
      exact ⟨by simp [this.1], this.2⟩
end Go.Proofs.YtolljdomnohmdabGreatDoor
namespace Go.Proofs.YtolljdomnohmdabGreatDoor
open Go.RowKit

/-- The five cells at a place hold an op. -/
structure OpAt (w : World) (b f : Nat) (o : OpD) : Prop where
  k : w.cell? ⟨b, f, none⟩ = some (.int .i64 o.kind)
  n : w.cell? ⟨b, f + 1, none⟩ = some (.int .i64 o.n)
  v : w.cell? ⟨b, f + 2, none⟩ = some (.int .i64 o.v)
  wt : w.cell? ⟨b, f + 3, none⟩ = some (.int .i64 o.wait)
  cs : ∃ ca cc, w.cell? ⟨b, f + 4, none⟩ = some (.slice ca o.cases.length cc) ∧ o.cases.length ≤ cc ∧ (ca = Option.none → cc = 0) ∧ AtC w ca o.cases.length o.cases
theorem OpAt.kept {w w' : World} {b f : Nat} {o : OpD} (h : OpAt w b f o) (t : Kept w w') : OpAt w' b f o := by
  obtain ⟨ca, cc, h1, h2, h4, h3⟩ := h.cs
  exact ⟨t.cell h.k, t.cell h.n, t.cell h.v, t.cell h.wt, ca, cc, t.cell h1, h2, h4, h3.kept t⟩
/-- What a slice of ops shows. -/
def AtP (w : World) (a : Option Addr) (p : List OpD) : Prop := ∀ j o, p[j]? = some o → ∃ b f, a = some ⟨b, f, none⟩ ∧ OpAt w b (f + j * 5) o
theorem AtP.kept {w w' : World} {a : Option Addr} {p : List OpD} (h : AtP w a p) (t : Kept w w') : AtP w' a p := by
  intro j o hj
  obtain ⟨b, f, e, ho⟩ := h j o hj
  exact ⟨b, f, e, ho.kept t⟩
theorem AtP.nil (w : World) (a : Option Addr) : AtP w a [] := by intro j o hj; simp at hj
theorem AtP.get {w : World} {a : Option Addr} {p : List OpD} (h : AtP w a p) (j : Nat) (hj : j < p.length) : ∃ b f, ∃ k n v wt : Int, ∃ l ca cc, a = some ⟨b, f, none⟩ ∧ p[j]? = some ⟨k, n, v, wt, l⟩ ∧ w.cell? ⟨b, f + j * 5, none⟩ = some (.int .i64 k) ∧ w.cell? ⟨b, f + j * 5 + 1, none⟩ = some (.int .i64 n) ∧ w.cell? ⟨b, f + j * 5 + 2, none⟩ = some (.int .i64 v) ∧ w.cell? ⟨b, f + j * 5 + 3, none⟩ = some (.int .i64 wt) ∧ w.cell? ⟨b, f + j * 5 + 4, none⟩ = some (.slice ca l.length cc) ∧ l.length ≤ cc ∧ AtC w ca l.length l ∧ b < w.heap.size ∧ p.drop j = ⟨k, n, v, wt, l⟩ :: p.drop (j + 1) := by
  obtain ⟨b, f, e, ho⟩ := h j p[j] (List.getElem?_eq_getElem hj)
  obtain ⟨ca, cc, h1, h2, _, h3⟩ := ho.cs
  exact ⟨b, f, p[j].kind, p[j].n, p[j].v, p[j].wait, p[j].cases, ca, cc, e, List.getElem?_eq_getElem hj, ho.k, ho.n, ho.v, ho.wt, h1, h2, h3, cell_lt ho.k, List.drop_eq_getElem_cons hj⟩
theorem AtP.nil0 {w : World} {b f : Nat} {p : List OpD} (h : AtP w (some ⟨b, f, none⟩) p) {j : Nat} {o : OpD} {ca : Option Addr} {m cc : Nat} (hj : p[j]? = some o) (g : w.cell? ⟨b, f + j * 5 + 4, none⟩ = some (.slice ca m cc)) : ca = Option.none → cc = 0 := by
  obtain ⟨b', f', e, ho⟩ := h j o hj
  cases e
  obtain ⟨ca', cc', h1, _, h4, _⟩ := ho.cs
  rw [h1] at g
  cases g
  exact h4
/-- A part of a row. -/
theorem AtP.drop {w : World} {b f : Nat} {p : List OpD} (h : AtP w (some ⟨b, f, none⟩) p) (k : Nat) : AtP w (some ⟨b, f + k * 5, none⟩) (p.drop k) := by
  intro j o hj
  rw [List.getElem?_drop] at hj
  obtain ⟨b', f', e, ho⟩ := h (k + j) o hj
  cases e
  refine ⟨b, f + k * 5, rfl, ?_⟩
  have : f + (k + j) * 5 = f + k * 5 + j * 5 := by omega
  rw [← this]
  exact ho
theorem AtP.take {w : World} {a : Option Addr} {p : List OpD} (h : AtP w a p) (k : Nat) : AtP w a (p.take k) := by
  intro j o hj
  rw [List.getElem?_take] at hj
  split at hj
  · exact h j o hj
  · cases hj
end Go.Proofs.YtolljdomnohmdabGreatDoor
namespace Go.Proofs.YtolljdomnohmdabGreatDoor
open Go.RowKit

theorem AtC.src {w : World} {ad : Addr} {l : List CaseD} (h : AtC w (some ad) l.length l) : ∀ j u, (flatC l)[j]? = some u → w.cell? (ad.add j) = some u := by
  intro j u hu
  have hj : j < l.length * 3 := by
    have := (List.getElem?_eq_some_iff.1 hu).1
    rwa [flatC_length] at this
  obtain ⟨b, f, e, h0, h1, h2⟩ := h.2 (j / 3) (by omega)
  cases e
  have hq := flatC_get l (j / 3) (j % 3) (by omega) (by omega)
  rw [show j / 3 * 3 + j % 3 = j by omega, hu] at hq
  rw [Addr.add_lit]
  have hr : j % 3 = 0 ∨ j % 3 = 1 ∨ j % 3 = 2 := by omega
  rcases hr with e | e | e
  · rw [e] at hq
    rw [show f + j = f + j / 3 * 3 by omega, h0]
    exact hq.symm
  · rw [e] at hq
    rw [show f + j = f + j / 3 * 3 + 1 by omega, h1]
    exact hq.symm
  · rw [e] at hq
    rw [show f + j = f + j / 3 * 3 + 2 by omega, h2]
    exact hq.symm
/-- Cases copied into new memory. -/
theorem wpList_copy_cases (w : World) {ops : Array Oper} {rest : List Oper} {o : Oper} {a : Act} {Q : Exit → Act → World → Prop} (hw : Region.wanted o (yielded ops a.tmps) = true) (s x : Operand)
    (ho : o.op = .call { callee := .builtin .append, args := #[s, x], argTypes := #[35, 35] }) (ca : Option Addr) (cc : Nat) (l : List CaseD) (hs : a.eval s = .slice none 0 0) (hx : a.eval x = .slice ca l.length cc) (hn : ca = none → cc = 0) (hA : AtC w ca l.length l) (hl : l.length ≤ 1000000)
    (h : ∀ sv w', CRow 57 w.heap.size w' sv l → Kept w w' → wpList Tryz.prog ops Q rest (a.put o.dst sv) w') : wpList Tryz.prog ops Q (o :: rest) a w := by
  refine wpList_step fun K hK => ?_
  rw [if_pos hw]
  obtain ⟨i, hi, hz0, hz1, hz2⟩ := info_parts kP.inf
  cases ca with
  | none =>
    have hl0 : l = [] := by
      cases l with
      | nil => rfl
      | cons c r =>
        obtain ⟨b, f, e, _⟩ := hA.2 0 (by simp)
        cases e
    subst hl0
    have hc0 := hn rfl
    subst hc0
    have hrun := run_append_owned_none (P := Tryz.prog) w w.heap.size 35 o.type 57 i 3 kP.und hi (.slice none 0 0) 0 [] (World.ownsRow_nil _ _ _ _)
    unfold Oper.wp
    simp [execOp, ho, resolve, invoke, builtin, hs, hx, hrun, Result.andThen]
    exact hK _ _ (h _ w (CRow.nil _ _ _) (Kept.refl w))
  | some ad =>
    obtain ⟨v', w', hr, k1, k2, k3, k4⟩ := run_append_own_at (P := Tryz.prog) w w.heap.size 35 o.type 57 i _ 3 24 kP.und hi hz0 hz1 hz2 rfl (by omega) (.slice none 0 0) 0 [] (World.ownsRow_nil _ _ _ _) ad l.length cc (flatC l) (flatC_length l) hA.src (flatC_one l) (by unfold maxLen; omega) (by omega) (Nat.le_refl _)
    unfold Oper.wp
    simp [execOp, ho, resolve, invoke, builtin, hs, hx, hr, Result.andThen]
    refine hK _ _ (h v' w' ?_ ?_)
    · unfold CRow
      simpa using k1
    · exact (Turns.grown (S := fun _ => False) k2 (fun k e => by cases e)).kept (Kept.refl w) (fun i hi => hi.elim)

def opV (o : OpD) (sv : Value) : List Value := [.int .i64 o.kind, .int .i64 o.n, .int .i64 o.v, .int .i64 o.wait, sv]
def flatO : List OpD → List Value → List Value
  | o :: p, sv :: t => opV o sv ++ flatO p t
  | _, _ => []
theorem flatO_append : ∀ (p : List OpD) (t : List Value) (o : OpD) (sv : Value), t.length = p.length → flatO (p ++ [o]) (t ++ [sv]) = flatO p t ++ opV o sv
  | [], [], o, sv, _ => by simp [flatO]
  | [], _ :: _, _, _, h => by simp at h
  | _ :: _, [], _, _, h => by simp at h
  | q :: p, x :: t, o, sv, h => by
    simp only [List.cons_append, flatO]
    rw [flatO_append p t o sv (by simpa using h)]
    simp
theorem flatO_get : ∀ (p : List OpD) (t : List Value) (j i : Nat) (o : OpD) (sv : Value), p[j]? = some o → t[j]? = some sv → i < 5 → (flatO p t)[j * 5 + i]? = (opV o sv)[i]?
  | [], _, _, _, _, _, h, _, _ => by simp at h
  | _ :: _, [], _, _, _, _, _, h, _ => by simp at h
  | q :: p, x :: t, 0, i, o, sv, h1, h2, hi => by
    simp at h1 h2
    subst h1 h2
    simp only [flatO, Nat.zero_mul, Nat.zero_add]
    rw [List.getElem?_append_left (by simp [opV]; omega)]
  | q :: p, x :: t, j + 1, i, o, sv, h1, h2, hi => by
    simp only [flatO]
    rw [List.getElem?_append_right (by simp [opV]; omega)]
    have := flatO_get p t j i o sv (by simpa using h1) (by simpa using h2) hi
    rw [show (j + 1) * 5 + i - (opV q x).length = j * 5 + i by simp [opV]; omega, this]
/-- A row of ops that the call owns, each with cases of its own. -/
structure ORow (B : Nat) (w : World) (v : Value) (p : List OpD) (svs : List Value) : Prop where
  len : svs.length = p.length
  row : w.ownsRow B 37 5 v p.length (flatO p svs)
  cs : ∀ (j : Nat) (o : OpD) (sv : Value), p[j]? = some o → svs[j]? = some sv → CRow 57 B w sv o.cases ∧ ∀ q, sv.ownBlock = some q → v.ownBlock ≠ some q
theorem ORow.nil (B : Nat) (w : World) : ORow B w (.slice none 0 0) [] [] := ⟨rfl, World.ownsRow_nil _ _ _ _, fun j o sv h _ => by simp at h⟩
theorem ORow.kept {B : Nat} {w w' : World} {v : Value} {p : List OpD} {svs : List Value} (h : ORow B w v p svs) (t : Kept w w') : ORow B w' v p svs := ⟨h.len, own_kept h.row t, fun j o sv h1 h2 => ⟨(h.cs j o sv h1 h2).1.kept t, (h.cs j o sv h1 h2).2⟩⟩
theorem ORow.base {B B' : Nat} {w : World} {v : Value} {p : List OpD} {svs : List Value} (h : ORow B w v p svs) (hB : B' ≤ B) : ORow B' w v p svs := by
  have lift : ∀ {e : TypeId} {size : Nat} {v : Value} {n : Nat} {xs : List Value}, w.ownsRow B e size v n xs → w.ownsRow B' e size v n xs := by
    intro e size v n xs h
    refine ⟨h.1, ?_⟩
    rcases h.2 with hn | ⟨g, cap, cur, h1, hb, rest⟩
    · exact .inl hn
    · exact .inr ⟨g, cap, cur, h1, by omega, rest⟩
  exact ⟨h.len, lift h.row, fun j o sv h1 h2 => ⟨lift (h.cs j o sv h1 h2).1, (h.cs j o sv h1 h2).2⟩⟩
theorem ORow.view {B : Nat} {w : World} {v : Value} {p : List OpD} {svs : List Value} (h : ORow B w v p svs) : ∃ a c, v = .slice a p.length c ∧ p.length ≤ c ∧ (a = none → c = 0) ∧ AtP w a p := by
  rcases h.row.2 with ⟨h1, h2⟩ | ⟨g, cap, cur, h1, _, _, h3, _⟩
  · refine ⟨none, 0, by rw [h1, h2], by omega, fun _ => rfl, ?_⟩
    rw [List.eq_nil_of_length_eq_zero h2]
    exact AtP.nil _ _
  · refine ⟨some ⟨g, 0, none⟩, cap, h1, h3, (fun e => by cases e), ?_⟩
    intro j o hj
    refine ⟨g, 0, rfl, ?_⟩
    have hjl : j < svs.length := by rw [h.len]; exact (List.getElem?_eq_some_iff.1 hj).1
    have hsv : svs[j]? = some svs[j] := List.getElem?_eq_getElem hjl
    have hrow := h.row
    rw [h1] at hrow
    have hc : ∀ i, i < 5 → w.cell? ⟨g, 0 + j * 5 + i, none⟩ = (opV o svs[j])[i]? := by
      intro i hi
      have hjp := h.len
      rw [Nat.zero_add, hrow.cellAt (j * 5 + i) (by omega), flatO_get p svs j i o svs[j] hj hsv hi]
    obtain ⟨hcr, _⟩ := h.cs j o svs[j] hj hsv
    obtain ⟨ca, cc, e1, e2, e3⟩ := hcr.at
    have e4 : ca = none → cc = 0 := by
      intro e
      rcases hcr.2 with ⟨h1, _⟩ | ⟨g', cap', cur', h1, _⟩
      · exact (Value.slice.inj (e1.symm.trans h1)).2.2
      · have h5 := (Value.slice.inj (e1.symm.trans h1)).1
        rw [e] at h5
        cases h5
    refine ⟨hc 0 (by omega), hc 1 (by omega), hc 2 (by omega), hc 3 (by omega), ca, cc, ?_, e2, e4, e3⟩
    rw [hc 4 (by omega), ← e1]
    rfl
theorem flatO_one : ∀ (p : List OpD) (t : List Value), (∀ sv ∈ t, sv.oneCell' = true) → ∀ u ∈ flatO p t, u.oneCell' = true
  | [], _, _, u, hu => by simp [flatO] at hu
  | _ :: _, [], _, u, hu => by simp [flatO] at hu
  | o :: p, sv :: t, h, u, hu => by
    simp only [flatO, List.mem_append] at hu
    rcases hu with hu | hu
    · simp [opV] at hu
      rcases hu with rfl | rfl | rfl | rfl | rfl
      · rfl
      · rfl
      · rfl
      · rfl
      · exact h _ (by simp)
    · exact flatO_one p t (fun s hs => h s (by simp [hs])) u hu
theorem infoO : (Tryz.prog.info? 37).map (fun i => (i.zero, i.size, i.bytes)) = some (some (.agg #[.int .i64 0, .int .i64 0, .int .i64 0, .int .i64 0, .slice none 0 0]), 5, 56) := by kernel_rfl
/-- One op behind a row of ops. -/
theorem wpList_append_op (w : World) {ops : Array Oper} {rest : List Oper} {o : Oper} {a : Act} {Q : Exit → Act → World → Prop} (hw : Region.wanted o (yielded ops a.tmps) = true) (s x : Operand)
    (ho : o.op = .call { callee := .builtin .append, args := #[s, x], argTypes := #[31, 31] })
    (B : Nat) (v1 : Value) (p : List OpD) (svs : List Value) (k n v wt : Int) (l : List CaseD) (sv : Value) (W : World) (hw1 : w = W.alloc (.cells #[.int .i64 k, .int .i64 n, .int .i64 v, .int .i64 wt, sv] 37)) (hs : a.eval s = v1) (nb : Nat) (hnb : nb = W.heap.size) (hx : a.eval x = .slice (some ⟨nb, 0, none⟩) 1 1)
    (h1 : ORow B W v1 p svs) (hc : CRow 57 B W sv l) (hq : ∀ q, sv.ownBlock = some q → v1.ownBlock ≠ some q) (hl : p.length ≤ 1000000) (hB : B ≤ W.heap.size)
    (h : ∀ g cap w', ORow B w' (.slice (some ⟨g, 0, none⟩) (p.length + 1) cap) (p ++ [⟨k, n, v, wt, l⟩]) (svs ++ [sv]) → Turns (fun k => v1.ownBlock = some k) W w' → (v1.ownBlock = some g ∨ W.heap.size < g) → wpList Tryz.prog ops Q rest (a.put o.dst (.slice (some ⟨g, 0, none⟩) (p.length + 1) cap)) w') :
    wpList Tryz.prog ops Q (o :: rest) a w := by
  subst hw1
  subst hnb
  refine wpList_step fun K hK => ?_
  rw [if_pos hw]
  obtain ⟨i, hi, hz0, hz1, hz2⟩ := info_parts infoO
  obtain ⟨sa, sc, hsv, _, _⟩ := hc.at
  have hone : sv.oneCell' = true := by rw [hsv]; rfl
  have hcc : ∀ j u, (flatO [⟨k, n, v, wt, l⟩] [sv])[j]? = some u → (W.alloc (.cells #[.int .i64 k, .int .i64 n, .int .i64 v, .int .i64 wt, sv] 37)).cell? (Addr.add ⟨W.heap.size, 0, none⟩ j) = some u := by
    intro j u hu
    rw [Addr.add_lit, Nat.zero_add, World.cell?_alloc_at _ _ _ _ rfl]
    simpa [flatO, opV] using hu
  have h1' : (W.alloc (.cells #[.int .i64 k, .int .i64 n, .int .i64 v, .int .i64 wt, sv] 37)).ownsRow B 37 5 v1 p.length (flatO p svs) := World.ownsRow.alloc h1.row _
  have hB' := le_alloc (.cells #[.int .i64 k, .int .i64 n, .int .i64 v, .int .i64 wt, sv] 37) hB
  obtain ⟨v', w', hr, k1, k2, k3, k4⟩ := run_append_own_at (P := Tryz.prog) (W.alloc (.cells #[.int .i64 k, .int .i64 n, .int .i64 v, .int .i64 wt, sv] 37)) B 31 o.type 37 i _ 5 56 Tryz.underlying31 hi hz0 hz1 hz2 rfl (by omega) _ p.length (flatO p svs) h1' ⟨W.heap.size, 0, none⟩ 1 1 (flatO [⟨k, n, v, wt, l⟩] [sv]) (by simp [flatO, opV]) hcc (flatO_one _ _ (fun s hs => by simp at hs; subst hs; exact hone)) (by unfold maxLen; omega) (by omega) hB'
  obtain ⟨g, cap, rfl⟩ := own_form k1 (fun e => by have := k3.1 e; have := this.2; omega)
  have t : Turns (fun k => v1.ownBlock = some k) W w' := ((Turns.refl _ W).alloc _).trans (Turns.grown k2 (fun k e => e))
  have hg : v1.ownBlock = some g ∨ W.heap.size < g := by
    rcases k4 with k4 | k4
    · exact .inl k4.symm
    · right; simp [Value.ownBlock] at k4; omega
  have far : ∀ (s : Value) (c : List CaseD), CRow 57 B W s c → (∀ q, s.ownBlock = some q → v1.ownBlock ≠ some q) → CRow 57 B w' s c ∧ ∀ q, s.ownBlock = some q → (Value.slice (some ⟨g, 0, none⟩) (p.length + 1) cap).ownBlock ≠ some q := by
    intro s c h2 h3
    refine ⟨h2.turns t (fun q hq e => h3 q hq e), fun q hq e => ?_⟩
    simp [Value.ownBlock] at e
    subst e
    have hlt := (World.ownsRow.lt h2 g hq).2
    rcases hg with h4 | h4
    · exact h3 g hq h4
    · omega
  unfold Oper.wp
  simp [execOp, ho, resolve, invoke, builtin, hs, hx, hr, Result.andThen]
  refine hK _ _ (h g cap w' ⟨by simp [h1.len], ?_, ?_⟩ t hg)
  · rw [flatO_append p svs _ _ h1.len, List.length_append]
    simpa [flatO] using k1
  · intro j o' s' hj hs'
    by_cases hjp : j < p.length
    · rw [List.getElem?_append_left hjp] at hj
      rw [List.getElem?_append_left (by rw [h1.len]; exact hjp)] at hs'
      obtain ⟨c1, c2⟩ := h1.cs j o' s' hj hs'
      exact far s' _ c1 c2
    · have hj2 : j = p.length := by
        have := (List.getElem?_eq_some_iff.1 hj).1
        simp at this
        omega
      subst hj2
      rw [List.getElem?_append_right (by omega)] at hj
      rw [List.getElem?_append_right (by rw [h1.len]; omega), h1.len] at hs'
      simp at hj hs'
      subst hj hs'
      exact far _ _ hc hq
end Go.Proofs.YtolljdomnohmdabGreatDoor
namespace Go.Proofs.YtolljdomnohmdabGreatDoor
open Go.RowKit

theorem ORow.turns {S : Nat → Prop} {B : Nat} {w w' : World} {v : Value} {p : List OpD} {svs : List Value} (h : ORow B w v p svs) (t : Turns S w w') (hS : ∀ q, S q → ¬ (B ≤ q ∧ q < w.heap.size)) : ORow B w' v p svs :=
  ⟨h.len, owns_turns h.row t (fun k hk e => hS k e (World.ownsRow.lt h.row k hk)), fun j o sv h1 h2 => ⟨(h.cs j o sv h1 h2).1.turns t (fun k hk e => hS k e (World.ownsRow.lt (h.cs j o sv h1 h2).1 k hk)), (h.cs j o sv h1 h2).2⟩⟩
theorem ORow.lt {B : Nat} {w : World} {v : Value} {p : List OpD} {svs : List Value} (h : ORow B w v p svs) : ∀ k, v.ownBlock = some k → B ≤ k ∧ k < w.heap.size := fun k hk => World.ownsRow.lt h.row k hk
theorem CRow.base {e : TypeId} {B B' : Nat} {w : World} {v : Value} {l : List CaseD} (h : CRow e B w v l) (hB : B' ≤ B) : CRow e B' w v l := by
  refine ⟨h.1, ?_⟩
  rcases h.2 with hn | ⟨g, cap, cur, h1, hb, rest⟩
  · exact .inl hn
  · exact .inr ⟨g, cap, cur, h1, by omega, rest⟩
theorem take_snoc {r : List OpD} {j : Nat} {o : OpD} (h : r[j]? = some o) (p : List OpD) : p ++ r.take (j + 1) = (p ++ r.take j) ++ [o] := by
  rw [List.take_add_one, h]
  simp
/-- What there is in the midst of appendCopies. -/
structure Cp (B : Nat) (v1 : Value) (w wr : World) (vj : Value) (p : List OpD) : Prop where
  row : ∃ svs, ORow B wr vj p svs
  old : vj.ownBlock = v1.ownBlock ∨ ∀ q, vj.ownBlock = some q → w.heap.size ≤ q
  trn : Turns (fun k => v1.ownBlock = some k) w wr
theorem Cp.next {B : Nat} {v1 : Value} {w wr w2 w5 : World} {vj : Value} {p : List OpD} {o : OpD} {g n c sb : Nat} {v : Value} {svs : List Value} (h : Cp B v1 w wr vj p) (t1 : Kept wr w2) (hsb : wr.heap.size ≤ sb) (t2 : Turns (fun k => vj.ownBlock = some k) (w2.setCell ⟨sb, 4, none⟩ v) w5) (hg : vj.ownBlock = some g ∨ (w2.setCell ⟨sb, 4, none⟩ v).heap.size < g)
    (r : ORow B w5 (.slice (some ⟨g, 0, none⟩) n c) (p ++ [o]) svs) : Cp B v1 w w5 (.slice (some ⟨g, 0, none⟩) n c) (p ++ [o]) := by
  have hsz : (w2.setCell ⟨sb, 4, none⟩ v).heap.size = w2.heap.size := by simp [World.setCell]
  have h1 := h.trn.size
  have h2 := t1.size
  refine ⟨⟨svs, r⟩, ?_, ?_⟩
  · rcases hg with hg | hg
    · rcases h.old with h3 | h3
      · left; rw [← h3, hg]; rfl
      · right; intro q hq; simp [Value.ownBlock] at hq; subst hq; exact h3 g hg
    · right; intro q hq; simp [Value.ownBlock] at hq; omega
  · refine ((h.trn.next t1.turns (fun i _ hi => hi.elim)).next (turn_set w2 sb 4 v) (fun i hi e => by omega)).next t2 (fun i hi e => ?_)
    rcases h.old with h3 | h3
    · rw [← h3]; exact e
    · have := h3 i e; omega

theorem cop_mid {B : Nat} {wr w2 : World} {vj : Value} {p : List OpD} {svs : List Value} {l : List CaseD} {sv : Value} (h : ORow B wr vj p svs) (hB : B ≤ wr.heap.size) (K : Kept wr w2) (R : CRow 57 (wr.heap.size + 1) w2 sv l) :
    ORow B (w2.setCell ⟨wr.heap.size, 4, none⟩ sv) vj p svs ∧ CRow 57 B (w2.setCell ⟨wr.heap.size, 4, none⟩ sv) sv l ∧ (∀ q, sv.ownBlock = some q → vj.ownBlock ≠ some q) ∧ B ≤ (w2.setCell ⟨wr.heap.size, 4, none⟩ sv).heap.size := by
  have t1 : Turns (fun k => k = wr.heap.size) wr (w2.setCell ⟨wr.heap.size, 4, none⟩ sv) := (K.turns.mono (fun _ _ h => h.elim)).trans (turn_set w2 wr.heap.size 4 sv)
  have hsz : (w2.setCell ⟨wr.heap.size, 4, none⟩ sv).heap.size = w2.heap.size := by simp [World.setCell]
  have hk := K.size
  refine ⟨h.turns t1 (fun q hq h => by omega), (R.turns (turn_set w2 wr.heap.size 4 sv) (fun q hq e => by have := (World.ownsRow.lt R q hq).1; omega)).base (by omega), fun q hq e => ?_, by omega⟩
  have h1 := (World.ownsRow.lt R q hq).1
  have h2 := (h.lt q e).2
  omega
end Go.Proofs.YtolljdomnohmdabGreatDoor
namespace Go.Proofs.YtolljdomnohmdabGreatDoor
open Go.RowKit

theorem above_any (m n : Nat) (hm : m < 256) (hn : n ≤ 7) (w : World) : Calls Tryz.prog 124 #[.int .u64 m, .int .i64 n] w fun e w' => e = .returned (.bool (decide (m < 2 ^ n))) ∧ w' = w := by
  have hc : n = 0 ∨ n = 1 ∨ n = 2 ∨ n = 3 ∨ n = 4 ∨ n = 5 ∨ n = 6 ∨ n = 7 := by omega
  rcases hc with rfl | rfl | rfl | rfl | rfl | rfl | rfl | rfl
  · go_enter Tryz.func124, Tryz.ntmps124
    go_wp2_with fail
    go_ret
    refine ⟨congrArg (fun b => Ending.returned (Value.bool b)) (show ((m : Int) == 0) = decide (m < 2 ^ 0) from ?_), rfl⟩
    rw [Bool.eq_iff_iff]
    simp
  · go_enter Tryz.func124, Tryz.ntmps124
    go_wp2_with fail
    go_ret
    refine ⟨congrArg (fun b => Ending.returned (Value.bool b)) (show ((m : Int) / 2 == 0) = decide (m < 2 ^ 1) from ?_), rfl⟩
    rw [Bool.eq_iff_iff]
    simp
    omega
  · go_enter Tryz.func124, Tryz.ntmps124
    go_wp2_with fail
    go_ret
    refine ⟨congrArg (fun b => Ending.returned (Value.bool b)) (show ((m : Int) / 4 == 0) = decide (m < 2 ^ 2) from ?_), rfl⟩
    rw [Bool.eq_iff_iff]
    simp
    omega
  · go_enter Tryz.func124, Tryz.ntmps124
    go_wp2_with fail
    go_ret
    refine ⟨congrArg (fun b => Ending.returned (Value.bool b)) (show ((m : Int) / 8 == 0) = decide (m < 2 ^ 3) from ?_), rfl⟩
    rw [Bool.eq_iff_iff]
    simp
    omega
  · go_enter Tryz.func124, Tryz.ntmps124
    go_wp2_with fail
    go_ret
    refine ⟨congrArg (fun b => Ending.returned (Value.bool b)) (show ((m : Int) / 16 == 0) = decide (m < 2 ^ 4) from ?_), rfl⟩
    rw [Bool.eq_iff_iff]
    simp
    omega
  · go_enter Tryz.func124, Tryz.ntmps124
    go_wp2_with fail
    go_ret
    refine ⟨congrArg (fun b => Ending.returned (Value.bool b)) (show ((m : Int) / 32 == 0) = decide (m < 2 ^ 5) from ?_), rfl⟩
    rw [Bool.eq_iff_iff]
    simp
    omega
  · go_enter Tryz.func124, Tryz.ntmps124
    go_wp2_with fail
    go_ret
    refine ⟨congrArg (fun b => Ending.returned (Value.bool b)) (show ((m : Int) / 64 == 0) = decide (m < 2 ^ 6) from ?_), rfl⟩
    rw [Bool.eq_iff_iff]
    simp
    omega
  · go_enter Tryz.func124, Tryz.ntmps124
    go_wp2_with fail
    go_ret
    refine ⟨congrArg (fun b => Ending.returned (Value.bool b)) (show ((m : Int) / 128 == 0) = decide (m < 2 ^ 7) from ?_), rfl⟩
    rw [Bool.eq_iff_iff]
    simp
    omega
theorem last_any (m n : Nat) (hm : m < 256) (hn : n ≤ 7) (w : World) : Calls Tryz.prog 125 #[.int .u64 m, .int .i64 n] w fun e w' => e = .returned (.bool (decide (2 ^ n ≤ m ∧ m < 2 * 2 ^ n))) ∧ w' = w := by
  have hc : n = 0 ∨ n = 1 ∨ n = 2 ∨ n = 3 ∨ n = 4 ∨ n = 5 ∨ n = 6 ∨ n = 7 := by omega
  rcases hc with rfl | rfl | rfl | rfl | rfl | rfl | rfl | rfl
  · go_enter Tryz.func125, Tryz.ntmps125
    go_wp2_with fail
    go_ret
    refine ⟨congrArg (fun b => Ending.returned (Value.bool b)) (show ((m : Int) == 1) = decide (2 ^ 0 ≤ m ∧ m < 2 * 2 ^ 0) from ?_), rfl⟩
    rw [Bool.eq_iff_iff]
    simp
    omega
  · go_enter Tryz.func125, Tryz.ntmps125
    go_wp2_with fail
    go_ret
    refine ⟨congrArg (fun b => Ending.returned (Value.bool b)) (show ((m : Int) / 2 == 1) = decide (2 ^ 1 ≤ m ∧ m < 2 * 2 ^ 1) from ?_), rfl⟩
    rw [Bool.eq_iff_iff]
    simp
    omega
  · go_enter Tryz.func125, Tryz.ntmps125
    go_wp2_with fail
    go_ret
    refine ⟨congrArg (fun b => Ending.returned (Value.bool b)) (show ((m : Int) / 4 == 1) = decide (2 ^ 2 ≤ m ∧ m < 2 * 2 ^ 2) from ?_), rfl⟩
    rw [Bool.eq_iff_iff]
    simp
    omega
  · go_enter Tryz.func125, Tryz.ntmps125
    go_wp2_with fail
    go_ret
    refine ⟨congrArg (fun b => Ending.returned (Value.bool b)) (show ((m : Int) / 8 == 1) = decide (2 ^ 3 ≤ m ∧ m < 2 * 2 ^ 3) from ?_), rfl⟩
    rw [Bool.eq_iff_iff]
    simp
    omega
  · go_enter Tryz.func125, Tryz.ntmps125
    go_wp2_with fail
    go_ret
    refine ⟨congrArg (fun b => Ending.returned (Value.bool b)) (show ((m : Int) / 16 == 1) = decide (2 ^ 4 ≤ m ∧ m < 2 * 2 ^ 4) from ?_), rfl⟩
    rw [Bool.eq_iff_iff]
    simp
    omega
  · go_enter Tryz.func125, Tryz.ntmps125
    go_wp2_with fail
    go_ret
    refine ⟨congrArg (fun b => Ending.returned (Value.bool b)) (show ((m : Int) / 32 == 1) = decide (2 ^ 5 ≤ m ∧ m < 2 * 2 ^ 5) from ?_), rfl⟩
    rw [Bool.eq_iff_iff]
    simp
    omega
  · go_enter Tryz.func125, Tryz.ntmps125
    go_wp2_with fail
    go_ret
    refine ⟨congrArg (fun b => Ending.returned (Value.bool b)) (show ((m : Int) / 64 == 1) = decide (2 ^ 6 ≤ m ∧ m < 2 * 2 ^ 6) from ?_), rfl⟩
    rw [Bool.eq_iff_iff]
    simp
    omega
  · go_enter Tryz.func125, Tryz.ntmps125
    go_wp2_with fail
    go_ret
    refine ⟨congrArg (fun b => Ending.returned (Value.bool b)) (show ((m : Int) / 128 == 1) = decide (2 ^ 7 ≤ m ∧ m < 2 * 2 ^ 7) from ?_), rfl⟩
    rw [Bool.eq_iff_iff]
    simp
    omega

def lockV (x : Nat) : Value := .int .u64 x
/-- A row of locks that the call owns. -/
def LRow (B : Nat) (w : World) (v : Value) (l : List Nat) : Prop := w.ownsRow B 166 1 v l.length (l.map lockV)
theorem LRow.nil (B : Nat) (w : World) : LRow B w (.slice Option.none 0 0) [] := World.ownsRow_nil _ _ _ _
theorem LRow.turns {S : Nat → Prop} {B : Nat} {w w' : World} {v : Value} {l : List Nat} (h : LRow B w v l) (t : Turns S w w') (hv : ∀ k, v.ownBlock = some k → ¬ S k) : LRow B w' v l := owns_turns h t hv
theorem LRow.kept {B : Nat} {w w' : World} {v : Value} {l : List Nat} (h : LRow B w v l) (t : Kept w w') : LRow B w' v l := own_kept h t
theorem LRow.form {B : Nat} {w : World} {v : Value} {l : List Nat} (h : LRow B w v l) : ∃ a c, v = .slice a l.length c := by
  rcases h.2 with ⟨h1, h2⟩ | ⟨g, cap, cur, h1, _⟩
  · exact ⟨none, 0, by rw [h1, h2]⟩
  · exact ⟨_, _, h1⟩
/-- A state: the locks held, those that each open Loop began with. -/
structure StP (B : Nat) (w : World) (sb : Nat) (lv : Value) (m : Nat) (lp : List Nat) : Prop where
  box : Box B w 169 sb [.int .u64 m, lv]
  row : LRow B w lv lp.reverse
  far : ∀ q, lv.ownBlock = some q → q ≠ sb
theorem StP.kept {B : Nat} {w w' : World} {sb : Nat} {lv : Value} {m : Nat} {lp : List Nat} (h : StP B w sb lv m lp) (t : Kept w w') : StP B w' sb lv m lp := ⟨h.box.kept t, h.row.kept t, h.far⟩

theorem open_any (B sb m : Nat) (lv : Value) (lp : List Nat) (w : World) (hs : StP B w sb lv m lp) : Calls Tryz.prog 111 #[.pointer (some ⟨sb, 0, none⟩)] w fun e w' => e = .returned (.bool (decide (m ≠ 0 ∨ lp ≠ []))) ∧ w' = w := by
  have c0 : w.cell? ⟨sb, 0, none⟩ = some (.int .u64 m) := hs.box.cell 0 (by simp)
  have c1 : w.cell? ⟨sb, 1, none⟩ = some lv := hs.box.cell 1 (by simp)
  obtain ⟨a, c, rfl⟩ := hs.row.form
  rw [List.length_reverse] at c1
  clear hs
  by_cases hm : m = 0
  · subst hm
    have HD : Hid (decide ((0 : Nat) ≠ 0 ∨ lp ≠ []) = decide (0 < lp.length)) := by
      show _ = _
      rw [decide_eq_decide]
      cases lp <;> simp
    go_enter Tryz.func111, Tryz.ntmps111
    go_wp2_with fail
    go_ret
    rw [HD.out]
    exact ⟨rfl, rfl⟩
  · have hne : ((m : Int) != 0) = true := by simp [hm]
    have HD : Hid (decide (m ≠ 0 ∨ lp ≠ []) = true) := by show _ = _; simp [hm]
    go_enter Tryz.func111, Tryz.ntmps111
    go_wp2_with fail
    go_ret
    rw [HD.out]
    exact ⟨rfl, rfl⟩
end Go.Proofs.YtolljdomnohmdabGreatDoor
