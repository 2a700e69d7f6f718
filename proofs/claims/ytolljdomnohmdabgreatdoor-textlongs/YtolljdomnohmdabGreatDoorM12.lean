/- unroll. -/
import Derived.ProofKit
import Derived.OpenShut
import Derived.ShutString
import Derived.ChangeOld
import Derived.ChangeArms
import Derived.WideShapes
import Derived.Below
import Derived.Deep.Slices
import Derived.Deep.SlicePairs
import Derived.Test.YtolljdomnohmdabGreatDoorM2
import Derived.Test.YtolljdomnohmdabGreatDoorCas
import Derived.Test.YtolljdomnohmdabGreatDoorCheck
import Derived.Test.YtolljdomnohmdabGreatDoorM3
import Derived.Test.YtolljdomnohmdabGreatDoorM4
import Derived.Test.YtolljdomnohmdabGreatDoorM0
import Derived.Test.YtolljdomnohmdabGreatDoorM1
import Derived.Test.YtolljdomnohmdabGreatDoorOpT
import Derived.Test.YtolljdomnohmdabGreatDoorPar
import Derived.Test.YtolljdomnohmdabGreatDoorM7
import Derived.Test.YtolljdomnohmdabGreatDoorTxt
import Derived.Test.YtolljdomnohmdabGreatDoorRWrd
import Derived.Test.YtolljdomnohmdabGreatDoorM5
import Derived.Test.YtolljdomnohmdabGreatDoorRead
import Derived.Test.YtolljdomnohmdabGreatDoorM8
import Derived.Test.YtolljdomnohmdabGreatDoorTrn
import Derived.Test.YtolljdomnohmdabGreatDoorM10
import Derived.Test.YtolljdomnohmdabGreatDoorQTmA
namespace Go.Proofs.YtolljdomnohmdabGreatDoor
open Go.RowKit

theorem wrap_at (q : Nat) (h : q ≤ 1000000) : ∀ z : Int, z = (q : Int) → IntKind.i64.wrap z = z := by
  intro z hz
  simp [IntKind.wrap, IntKind.bits, IntKind.signed]
  omega
theorem rep_succ (n : Nat) (g : List OpD) : rep (n + 1) g = rep n g ++ g := by
  unfold rep
  rw [List.replicate_succ', List.flatten_append]
  simp
theorem rep_one (g : List OpD) : rep 1 g = g := by simp [rep]
theorem rep_len (n : Nat) (g : List OpD) : (rep n g).length = n * g.length := by
  unfold rep
  simp
theorem op_few {o : OpD} (h : checkD o = 0) : o.cases.length ≤ 1000000 := by
  have ht := taken_of h
  rcases kind_cases ht.kind with hk | hk | hk | hk | hk | hk | hk | hk | hk
  all_goals
    first
    | (have := ht.many (by rw [hk]; rfl)
       omega)
    | (have hz := ht.takes
       rw [hk] at hz
       simp [takesB, shapeOf] at hz
       simp [hz])
/-- What there is in the midst of the rounds: done has i rounds more; only blocks of S have turned since w3. -/
structure RdU (w w3 wr : World) (S : Nat → Prop) (vj : Value) (p : List OpD) : Prop where
  row : ∃ svs, ORow w.heap.size wr vj p svs
  own : ∀ q, vj.ownBlock = some q → S q
  trn : Turns S w3 wr
theorem RdU.next {w w3 wr w5 : World} {S : Nat → Prop} {vj v : Value} {p p' : List OpD} (h : RdU w w3 wr S vj p) (hS : ∀ q, w3.heap.size ≤ q → S q) (r : ∃ svs, ORow w.heap.size w5 v p' svs) (ho : v.ownBlock = vj.ownBlock ∨ ∀ q, v.ownBlock = some q → wr.heap.size ≤ q) (t : Turns (fun k => vj.ownBlock = some k) wr w5) : RdU w w3 w5 S v p' := by
  refine ⟨r, fun q hq => ?_, h.trn.next t (fun i _ hi => h.own i hi)⟩
  rcases ho with ho | ho
  · rw [ho] at hq; exact h.own q hq
  · have := ho q hq
    have := h.trn.size
    exact hS q (by omega)
theorem RdU.src {w w3 wr : World} {S : Nat → Prop} {vj : Value} {p : List OpD} (h : RdU w w3 wr S vj p) {a : Option Addr} {r : List OpD} (hs : ∀ w', Turns S w3 w' → AtP w' a r) : ∀ w', Turns (fun k => vj.ownBlock = some k) wr w' → AtP w' a r := fun w' t => hs w' (h.trn.next t (fun i _ hi => h.own i hi))

theorem bal_nil {d m m' : Nat} {f : List OpD} (h : Bal d m m' [] f) : f = [] ∧ m = m' := by cases h; exact ⟨rfl, rfl⟩
theorem bal_cons {d m m' : Nat} {o : OpD} {p f : List OpD} (h : Bal d m m' (o :: p) f) : (o.kind ≠ 8 ∧ o.kind ≠ 9 ∧ ∃ m1 f', f = o :: f' ∧ Bal d m1 m' p f') ∨ (o.kind = 8 ∧ ∃ d' b g e q f', d = d' + 1 ∧ p = b ++ e :: q ∧ e.kind = 9 ∧ f = rep o.n.toNat g ++ f' ∧ Bal d' m m b g ∧ Bal d m m' q f') := by
  cases h with
  | one h8 h9 ht hp => exact .inl ⟨h8, h9, _, _, rfl, hp⟩
  | loop h8 h9 hb hp => exact .inr ⟨h8, _, _, _, _, _, _, rfl, rfl, h9, rfl, hb, hp⟩

end Go.Proofs.YtolljdomnohmdabGreatDoor
namespace Go.Proofs.YtolljdomnohmdabGreatDoor
open Go.RowKit

/-- As many steps as there are ops done. -/
theorem times_bal {d m m' : Nat} {p f : List OpD} (h : Bal d m m' p f) : (∀ o ∈ p, 0 ≤ o.n) → ∀ (t : Int) (st : List Int) (r : List OpD), sumL (timesGo (t :: st) (p ++ r)) = t * f.length + sumL (timesGo (t :: st) r) := by
  induction h with
  | nil => intro _ t st r; simp
  | @one d m m1 m' o p f h8 h9 _ _ ih =>
    intro hn t st r
    rw [List.cons_append, timesGo, if_neg h8, if_neg h9, sumL, ih (fun o ho => hn o (by simp [ho])) t st r, List.length_cons]
    simp only [List.headD_cons, Int.natCast_add, Int.mul_add]
    simp
    omega
  | @loop d m m' o e b g p f h8 h9 _ _ ihb ihp =>
    intro hn t st r
    have ho : 0 ≤ o.n := hn o (by simp)
    obtain ⟨R, hR⟩ : ∃ R : Nat, o.n = (R : Int) := ⟨o.n.toNat, by omega⟩
    have e9 : e.kind ≠ 8 := by omega
    rw [List.cons_append, timesGo, if_pos h8, sumL, List.append_assoc, ihb (fun o ho => hn o (by simp [ho])) _ _ _, List.cons_append, timesGo, if_neg e9, if_pos h9, if_pos (by simp), sumL]
    have ih2 := ihp (fun o ho => hn o (by simp [ho])) t st r
    simp only [List.tail_cons, List.headD_cons]
    rw [ih2, List.length_append, rep_len, hR, show ((R : Int)).toNat = R from rfl, Int.natCast_add, Int.natCast_mul, Int.mul_add, Int.mul_assoc]
    omega
theorem op_pos {o : OpD} (h : checkD o = 0) : 0 ≤ o.n := by
  have ht := (taken_of h).takes
  have hl : ∀ k : Nat, 0 ≤ (shapeOf k).least := by intro k; unfold shapeOf; split <;> simp
  have := hl o.kind.toNat
  simp only [takesB, Bool.and_eq_true, Bool.not_eq_true', Bool.or_eq_false_iff, decide_eq_false_iff_not] at ht
  omega
theorem steps_len {p f : List OpD} (h : Bal 3 0 0 p f) (hc : ∀ o ∈ p, checkD o = 0) : stepsD p = (f.length : Int) := by
  have := times_bal h (fun o ho => op_pos (hc o ho)) 1 [] []
  rw [List.append_nil] at this
  unfold stepsD
  rw [this]
  simp [timesGo, sumL]
/-- What Check takes. -/
theorem taken_prog {p : List OpD} (h : checkP p = (0, 0)) : p.length ≤ 48 ∧ (∀ o ∈ p, checkD o = 0) ∧ runM 0 [] p = some (0, []) ∧ ∃ f, Bal 3 0 0 p f ∧ f.length ≤ 512 := by
  unfold checkP at h
  split at h
  · simp at h
  · rename_i h48
    split at h
    · rename_i he
      split at h
      · rename_i ho
        split at h
        · simp at h
        · rename_i hs
          have hc := each_all p 0 he
          obtain ⟨f, hf⟩ := ord_bal ho
          refine ⟨by omega, hc, run_of_ord ho, f, hf, ?_⟩
          have := steps_len hf hc
          omega
      · rename_i ho
        rw [h] at ho
        simp at ho
    · rename_i he
      rw [h] at he
      simp at he

/-- Does any op wait? -/
def anyW : List OpD → Bool
  | [] => false
  | o :: r => waitsD o || anyW r
def idxW (i : Nat) : List OpD → Int
  | [] => -1
  | o :: r => if waitsD o = true then (i : Int) else idxW (i + 1) r
theorem idx_any : ∀ (p : List OpD) (i : Nat), decide (0 ≤ idxW i p) = anyW p
  | [], _ => by simp [idxW, anyW]
  | o :: r, i => by
    rw [idxW, anyW]
    cases h : waitsD o with
    | true => simp
    | false => simp [idx_any r (i + 1)]
/-- The most that runs cost from a Lock of it to its Unlock. -/
def secGo (lock : Int) (most cost : Int) : List OpD → Int
  | [] => most
  | o :: r => if o.kind = 1 then secGo lock most (cost + o.n) r else if o.kind = 2 ∧ o.n = lock then secGo lock most 0 r else if o.kind = 3 ∧ o.n = lock then secGo lock (max most cost) cost r else secGo lock most cost r

end Go.Proofs.YtolljdomnohmdabGreatDoor
namespace Go.Proofs.YtolljdomnohmdabGreatDoor

def costF : List OpD → Int
  | [] => 0
  | o :: r => (if o.kind = 1 then o.n else 0) + costF r
theorem costF_append : ∀ a b : List OpD, costF (a ++ b) = costF a + costF b
  | [], b => by simp [costF]
  | o :: r, b => by
    rw [List.cons_append, costF, costF, costF_append r b]
    omega
theorem costF_rep (g : List OpD) : ∀ n : Nat, costF (rep n g) = (n : Int) * costF g
  | 0 => by simp [rep, costF]
  | n + 1 => by
    rw [rep_succ, costF_append, costF_rep g n, Int.natCast_add, Int.add_mul]
    simp
theorem cost_bal {d m m' : Nat} {p f : List OpD} (h : Bal d m m' p f) : (∀ o ∈ p, 0 ≤ o.n) → ∀ (t : Int) (st : List Int) (r : List OpD), sumL (costs (p ++ r) (timesGo (t :: st) (p ++ r))) = t * costF f + sumL (costs r (timesGo (t :: st) r)) := by
  induction h with
  | nil => intro _ t st r; simp [costF]
  | @one d m m1 m' o p f h8 h9 _ _ ih =>
    intro hn t st r
    rw [List.cons_append, timesGo, if_neg h8, if_neg h9, costs, sumL, ih (fun o ho => hn o (by simp [ho])) t st r, costF, Int.mul_add]
    simp only [List.headD_cons]
    split
    · omega
    · simp
  | @loop d m m' o e b g p f h8 h9 _ _ ihb ihp =>
    intro hn t st r
    have ho : 0 ≤ o.n := hn o (by simp)
    obtain ⟨R, hR⟩ : ∃ R : Nat, o.n = (R : Int) := ⟨o.n.toNat, by omega⟩
    have e9 : e.kind ≠ 8 := by omega
    have o1 : o.kind ≠ 1 := by omega
    have e1 : e.kind ≠ 1 := by omega
    rw [List.cons_append, timesGo, if_pos h8, costs, if_neg o1, sumL, List.append_assoc, ihb (fun o ho => hn o (by simp [ho])) _ _ _, List.cons_append, timesGo, if_neg e9, if_pos h9, if_pos (by simp), costs, if_neg e1, sumL]
    have ih2 := ihp (fun o ho => hn o (by simp [ho])) t st r
    simp only [List.tail_cons, List.headD_cons]
    rw [ih2, costF_append, costF_rep, hR, show ((R : Int)).toNat = R from rfl, Int.mul_add, Int.mul_assoc]
    omega
/-- What it costs is what all its Runs have, as often as they are done. -/
theorem cost_len {p f : List OpD} (h : Bal 3 0 0 p f) (hc : ∀ o ∈ p, checkD o = 0) : costD p = costF f := by
  have := cost_bal h (fun o ho => op_pos (hc o ho)) 1 [] []
  rw [List.append_nil] at this
  unfold costD
  rw [this]
  simp [costs, sumL]
end Go.Proofs.YtolljdomnohmdabGreatDoor
namespace Go.Proofs.YtolljdomnohmdabGreatDoor

theorem bal_app {d m m' m'' : Nat} {p f q g : List OpD} (h : Bal d m m' p f) (h2 : Bal d m' m'' q g) : Bal d m m'' (p ++ q) (f ++ g) := by
  induction h with
  | nil => exact h2
  | one h8 h9 ht _ ih => exact .one h8 h9 ht (ih h2)
  | loop h8 h9 hb _ _ ihp =>
    have := Bal.loop h8 h9 hb (ihp h2)
    simpa using this
theorem take_any {m m1 : Nat} {o : OpD} (h8 : o.kind ≠ 8) (h9 : o.kind ≠ 9) (ht : takeM m [] o = some (m1, [])) (lp : List Nat) : takeM m lp o = some (m1, lp) := by
  unfold takeM at ht ⊢
  rw [if_neg h8, if_neg h9] at ht ⊢
  split at ht
  · rename_i h2
    rw [if_pos h2]
    split at ht
    · rename_i hc
      rw [if_pos hc]
      cases ht
      rfl
    · cases ht
  · rename_i h2
    rw [if_neg h2]
    split at ht
    · rename_i h3
      rw [if_pos h3]
      split at ht
      · rename_i hc
        rw [if_pos hc]
        cases ht
        rfl
      · cases ht
    · rename_i h3
      rw [if_neg h3]
      split at ht
      · rename_i hc
        rw [if_pos hc]
        cases ht
        rfl
      · cases ht
theorem bal_run {d m m' : Nat} {p f : List OpD} (h : Bal d m m' p f) : ∀ (lp : List Nat) (q : List OpD), lp.length + d ≤ 3 → runM m lp (p ++ q) = runM m' lp q := by
  induction h with
  | nil => intro lp q _; rfl
  | one h8 h9 ht _ ih =>
    intro lp q hl
    rw [List.cons_append, runM, take_any h8 h9 ht lp]
    exact ih lp q hl
  | @loop d m m' o e b g p f h8 h9 hb _ ihb ihp =>
    intro lp q hl
    have t1 : takeM m lp o = some (m, m :: lp) := by
      unfold takeM
      rw [if_neg (by omega), if_neg (by omega), if_pos h8, if_neg (by omega)]
    have t2 : takeM m (m :: lp) e = some (m, lp) := by
      unfold takeM
      rw [if_neg (by omega), if_neg (by omega), if_neg (by omega), if_pos h9]
      simp
    rw [List.cons_append, runM, t1]
    simp only
    rw [List.append_assoc, ihb (m :: lp) _ (by simp; omega), List.cons_append, runM, t2]
    exact ihp lp q hl
theorem run_ord : ∀ (p : List OpD) (i m : Nat) (lp : List Nat), runM m lp p = some (0, []) → ordGo i m lp p = (0, 0)
  | [], _, _, _, _ => rfl
  | o :: r, i, m, lp, h => by
    rw [runM] at h
    rw [ordGo]
    cases ht : takeM m lp o with
    | none => rw [ht] at h; cases h
    | some y =>
      obtain ⟨m1, lp1⟩ := y
      rw [ht] at h
      simp only at h ⊢
      rw [if_neg, run_ord r (i + 1) m1 lp1 h]
      rintro ⟨rfl, hc⟩
      simp only [runM, Option.some.injEq, Prod.mk.injEq] at h
      rcases hc with hc | hc
      · exact hc h.1
      · exact hc h.2
theorem bal_ord {p f : List OpD} (h : Bal 3 0 0 p f) : ordGo 0 0 [] p = (0, 0) := by
  refine run_ord p 0 0 [] ?_
  have := bal_run h [] [] (by simp)
  rw [List.append_nil] at this
  rw [this]
  rfl
/-- What is in order, of ops that may be, not too many, not too long, may be. -/
theorem bal_check {p f : List OpD} (h : Bal 3 0 0 p f) (hl : p.length ≤ 48) (hc : ∀ o ∈ p, checkD o = 0) (hf : f.length ≤ 512) : checkP p = (0, 0) := by
  unfold checkP
  rw [if_neg (by omega), all_each _ 0 hc, if_pos rfl, bal_ord h, if_pos rfl, steps_len h hc, if_neg (by omega)]
end Go.Proofs.YtolljdomnohmdabGreatDoor
namespace Go.Proofs.YtolljdomnohmdabGreatDoor

structure ChanD where
  room : Int
  server : Int
deriving DecidableEq
structure TaskD where
  name : List UInt8
  period : Int
  deadline : Int
  budget : Int
  prog : List OpD
def chanB (nt : Int) (c : ChanD) : Bool := decide (0 ≤ c.room) && decide (c.room ≤ 16) && decide (-1 ≤ c.server) && decide (c.server < nt)
def chansE (nt : Int) : List ChanD → Int
  | [] => 0
  | c :: r => if chanB nt c = true then chansE nt r else 1
def findGo (name : List UInt8) (i : Nat) : List TaskD → Nat × Bool
  | [] => (0, false)
  | t :: r => if t.name = name then (i, true) else findGo name (i + 1) r
def timesB (t : TaskD) : Bool := decide (t.period ≤ 1099511627776) && decide (t.deadline ≤ t.period) && decide (t.budget ≤ t.deadline) && decide (1 ≤ t.budget)
def casesB (nc : Int) : List CaseD → Bool
  | [] => true
  | c :: r => if c.chan < nc then casesB nc r else false
def hasB (L nc : Int) (o : OpD) : Bool := if o.kind = 2 ∨ o.kind = 3 then decide (o.n < L) else if o.kind = 4 ∨ o.kind = 5 ∨ o.kind = 6 then decide (o.n < nc) else if o.kind = 7 then casesB nc o.cases else true
def hasAllB (L nc : Int) : List OpD → Bool
  | [] => true
  | o :: r => if hasB L nc o = true then hasAllB L nc r else false
def nameB (l : List UInt8) : Bool := decide (l.length ≤ 8) && within 97 122 l
def taskE (L nc : Int) (ts : List TaskD) (i : Nat) (t : TaskD) : Int :=
  if nameB t.name = true then (if (findGo t.name 0 ts).1 < i then 6 else if timesB t = true then (if (checkP t.prog).2 = 0 then (if costD t.prog = 0 then 5 else if hasAllB L nc t.prog = true then 0 else 3) else (checkP t.prog).2) else 1) else 3
def tasksGo (L nc : Int) (ts : List TaskD) (i : Nat) : List TaskD → Nat × Int
  | [] => (0, 0)
  | t :: r => if taskE L nc ts i t = 0 then tasksGo L nc ts (i + 1) r else (i, taskE L nc ts i t)
def checkS (L : Int) (cs : List ChanD) (ts : List TaskD) : Nat × Int :=
  if L < 0 ∨ 8 < L then (0, 1) else if 8 < cs.length ∨ ts.length = 0 ∨ 12 < ts.length then (0, 18) else if chansE ts.length cs = 0 then tasksGo L cs.length ts 0 ts else (0, chansE ts.length cs)
def anyT : List TaskD → Bool
  | [] => false
  | t :: r => if anyW t.prog = true then true else anyT r
def needD (t : TaskD) : Int := min (costD t.prog) t.budget
def sameP : List OpD → List OpD → Bool
  | [], [] => true
  | a :: p, b :: q => if sameD a b = true then sameP p q else false
  | _, _ => false
def sameT (a b : TaskD) : Bool := decide (a.name = b.name) && decide (a.period = b.period) && decide (a.deadline = b.deadline) && decide (a.budget = b.budget) && sameP a.prog b.prog
def sameTs : List TaskD → List TaskD → Bool
  | [], [] => true
  | a :: p, b :: q => if sameT a b = true then sameTs p q else false
  | _, _ => false
theorem chansE_01 (nt : Int) : ∀ cs, chansE nt cs = 0 ∨ chansE nt cs = 1
  | [] => .inl rfl
  | c :: r => by
    rw [chansE]
    split
    · exact chansE_01 nt r
    · exact .inr rfl
theorem find_lt (name : List UInt8) : ∀ (ts : List TaskD) (i : Nat), (findGo name i ts).1 ≤ i + ts.length
  | [], i => by simp [findGo]
  | t :: r, i => by
    rw [findGo]
    split
    · simp
    · have := find_lt name r (i + 1)
      simp
      omega
end Go.Proofs.YtolljdomnohmdabGreatDoor
namespace Go.Proofs.YtolljdomnohmdabGreatDoor
open Go.RowKit

/-- What a slice of channels shows. -/
def AtH (w : World) (a : Option Addr) (cs : List ChanD) : Prop := ∀ (j : Nat) (c : ChanD), cs[j]? = some c → ∃ b f, a = some ⟨b, f, none⟩ ∧ w.cell? ⟨b, f + j * 2, none⟩ = some (.int .i64 c.room) ∧ w.cell? ⟨b, f + j * 2 + 1, none⟩ = some (.int .i64 c.server)
theorem AtH.kept {w w' : World} {a : Option Addr} {cs : List ChanD} (h : AtH w a cs) (t : Kept w w') : AtH w' a cs := by
  intro j c hj
  obtain ⟨b, f, e, h1, h2⟩ := h j c hj
  exact ⟨b, f, e, t.cell h1, t.cell h2⟩
theorem AtH.nil (w : World) (a : Option Addr) : AtH w a [] := by intro j c hj; simp at hj
theorem AtH.get {w : World} {a : Option Addr} {cs : List ChanD} (h : AtH w a cs) (j : Nat) (hj : j < cs.length) : ∃ b f, ∃ r s : Int, a = some ⟨b, f, none⟩ ∧ cs[j]? = some ⟨r, s⟩ ∧ w.cell? ⟨b, f + j * 2, none⟩ = some (.int .i64 r) ∧ w.cell? ⟨b, f + j * 2 + 1, none⟩ = some (.int .i64 s) ∧ cs.drop j = ⟨r, s⟩ :: cs.drop (j + 1) := by
  obtain ⟨b, f, e, h1, h2⟩ := h j cs[j] (List.getElem?_eq_getElem hj)
  exact ⟨b, f, cs[j].room, cs[j].server, e, List.getElem?_eq_getElem hj, h1, h2, List.drop_eq_getElem_cons hj⟩
/-- The five cells at a place hold a task. -/
structure TkAt (w : World) (b f : Nat) (t : TaskD) : Prop where
  nm : w.cell? ⟨b, f, none⟩ = some (.string (B t.name))
  pd : w.cell? ⟨b, f + 1, none⟩ = some (.int .i64 t.period)
  dl : w.cell? ⟨b, f + 2, none⟩ = some (.int .i64 t.deadline)
  bu : w.cell? ⟨b, f + 3, none⟩ = some (.int .i64 t.budget)
  pg : ∃ pa pc, w.cell? ⟨b, f + 4, none⟩ = some (.slice pa t.prog.length pc) ∧ t.prog.length ≤ pc ∧ AtP w pa t.prog
theorem TkAt.kept {w w' : World} {b f : Nat} {t : TaskD} (h : TkAt w b f t) (k : Kept w w') : TkAt w' b f t := by
  obtain ⟨pa, pc, h1, h2, h3⟩ := h.pg
  exact ⟨k.cell h.nm, k.cell h.pd, k.cell h.dl, k.cell h.bu, pa, pc, k.cell h1, h2, h3.kept k⟩
/-- What a slice of tasks shows. -/
def AtT (w : World) (a : Option Addr) (ts : List TaskD) : Prop := ∀ (j : Nat) (t : TaskD), ts[j]? = some t → ∃ b f, a = some ⟨b, f, none⟩ ∧ TkAt w b (f + j * 5) t
theorem AtT.kept {w w' : World} {a : Option Addr} {ts : List TaskD} (h : AtT w a ts) (k : Kept w w') : AtT w' a ts := by
  intro j t hj
  obtain ⟨b, f, e, ht⟩ := h j t hj
  exact ⟨b, f, e, ht.kept k⟩
theorem AtT.nil (w : World) (a : Option Addr) : AtT w a [] := by intro j c hj; simp at hj
theorem AtT.get {w : World} {a : Option Addr} {ts : List TaskD} (h : AtT w a ts) (j : Nat) (hj : j < ts.length) : ∃ b f, ∃ nm, ∃ pd dl bu : Int, ∃ pr pa pc, a = some ⟨b, f, none⟩ ∧ ts[j]? = some ⟨nm, pd, dl, bu, pr⟩ ∧ w.cell? ⟨b, f + j * 5, none⟩ = some (.string (B nm)) ∧ w.cell? ⟨b, f + j * 5 + 1, none⟩ = some (.int .i64 pd) ∧ w.cell? ⟨b, f + j * 5 + 2, none⟩ = some (.int .i64 dl) ∧ w.cell? ⟨b, f + j * 5 + 3, none⟩ = some (.int .i64 bu) ∧ w.cell? ⟨b, f + j * 5 + 4, none⟩ = some (.slice pa pr.length pc) ∧ pr.length ≤ pc ∧ AtP w pa pr ∧ b < w.heap.size ∧ ts.drop j = ⟨nm, pd, dl, bu, pr⟩ :: ts.drop (j + 1) := by
  obtain ⟨b, f, e, ht⟩ := h j ts[j] (List.getElem?_eq_getElem hj)
  obtain ⟨pa, pc, h1, h2, h3⟩ := ht.pg
  exact ⟨b, f, ts[j].name, ts[j].period, ts[j].deadline, ts[j].budget, ts[j].prog, pa, pc, e, List.getElem?_eq_getElem hj, ht.nm, ht.pd, ht.dl, ht.bu, h1, h2, h3, cell_lt ht.nm, List.drop_eq_getElem_cons hj⟩
/-- Tasks of a size that any machine holds. -/
def TsOk (ts : List TaskD) : Prop := ∀ t ∈ ts, t.name.length ≤ 1000000 ∧ t.prog.length ≤ 100000 ∧ ∀ o ∈ t.prog, o.cases.length ≤ 1000000
theorem name_any (l : List UInt8) (hs : l.length ≤ 1000000) (w : World) :
    Calls Tryz.prog 63 #[.string (B l)] w fun e w' => e = .returned (.bool (nameB l)) ∧ w' = w := by
  have hsz := B_size l
  by_cases h8 : l.length ≤ 8
  · have b1 : ((B l).size : Int) ≤ 8 := by omega
    have HN : Hid (nameB l = within 97 122 l) := by show _ = _; unfold nameB; simp [h8]
    have hw := within_any (B l) 97 122 (by omega) w
    rw [B_list, ← HN.out] at hw
    go_enter Tryz.func63, Tryz.ntmps63
    go_wp2_with fail
    refine hw.mono ?_
    rintro e w1 ⟨rfl, hw1⟩
    subst w1
    go_wp2_with fail
    go_ret
    exact ⟨rfl, rfl⟩
  · have b1 : ¬ ((B l).size : Int) ≤ 8 := by omega
    have HN : Hid (nameB l = false) := by show _ = _; unfold nameB; simp [h8]
    go_enter Tryz.func63, Tryz.ntmps63
    go_wp2_with fail
    go_ret
    rw [HN.out]
    exact ⟨rfl, rfl⟩
end Go.Proofs.YtolljdomnohmdabGreatDoor
