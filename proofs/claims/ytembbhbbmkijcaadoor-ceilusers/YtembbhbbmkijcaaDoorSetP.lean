/- Sets as plain data: what is wrong with one. No program of Go's is named here. -/
import Derived.Test.YtembbhbbmkijcaaDoorBpp
namespace Go.Proofs.YtembbhbbmkijcaaDoor

structure ChanD where
  room : Int
  server : Int
deriving DecidableEq
structure TaskD where
  name : List UInt8
  period : Int
  deadline : Int
  budget : Int
  prog : List OpD
def chanB (nt : Int) (c : ChanD) : Bool := decide (0 ≤ c.room) && decide (c.room ≤ 16) && decide (-1 ≤ c.server) && decide (c.server < nt)
def chansE (nt : Int) : List ChanD → Int
  | [] => 0
  | c :: r => if chanB nt c = true then chansE nt r else 1
def findGo (name : List UInt8) (i : Nat) : List TaskD → Nat × Bool
  | [] => (0, false)
  | t :: r => if t.name = name then (i, true) else findGo name (i + 1) r
def timesB (t : TaskD) : Bool := decide (t.period ≤ 1099511627776) && decide (t.deadline ≤ t.period) && decide (t.budget ≤ t.deadline) && decide (1 ≤ t.budget)
def casesB (nc : Int) : List CaseD → Bool
  | [] => true
  | c :: r => if c.chan < nc then casesB nc r else false
def hasB (L nc : Int) (o : OpD) : Bool := if o.kind = 2 ∨ o.kind = 3 then decide (o.n < L) else if o.kind = 4 ∨ o.kind = 5 ∨ o.kind = 6 then decide (o.n < nc) else if o.kind = 7 then casesB nc o.cases else true
def hasAllB (L nc : Int) : List OpD → Bool
  | [] => true
  | o :: r => if hasB L nc o = true then hasAllB L nc r else false
def nameB (l : List UInt8) : Bool := decide (l.length ≤ 8) && within 97 122 l
def taskE (L nc : Int) (ts : List TaskD) (i : Nat) (t : TaskD) : Int :=
  if nameB t.name = true then (if (findGo t.name 0 ts).1 < i then 6 else if timesB t = true then (if (checkP t.prog).2 = 0 then (if costD t.prog = 0 then 5 else if hasAllB L nc t.prog = true then 0 else 3) else (checkP t.prog).2) else 1) else 3
def tasksGo (L nc : Int) (ts : List TaskD) (i : Nat) : List TaskD → Nat × Int
  | [] => (0, 0)
  | t :: r => if taskE L nc ts i t = 0 then tasksGo L nc ts (i + 1) r else (i, taskE L nc ts i t)
def checkS (L : Int) (cs : List ChanD) (ts : List TaskD) : Nat × Int :=
  if L < 0 ∨ 8 < L then (0, 1) else if 8 < cs.length ∨ ts.length = 0 ∨ 12 < ts.length then (0, 18) else if chansE ts.length cs = 0 then tasksGo L cs.length ts 0 ts else (0, chansE ts.length cs)
def anyT : List TaskD → Bool
  | [] => false
  | t :: r => if anyW t.prog = true then true else anyT r
def needD (t : TaskD) : Int := min (costD t.prog) t.budget
def sameP : List OpD → List OpD → Bool
  | [], [] => true
  | a :: p, b :: q => if sameD a b = true then sameP p q else false
  | _, _ => false
def sameT (a b : TaskD) : Bool := decide (a.name = b.name) && decide (a.period = b.period) && decide (a.deadline = b.deadline) && decide (a.budget = b.budget) && sameP a.prog b.prog
def sameTs : List TaskD → List TaskD → Bool
  | [], [] => true
  | a :: p, b :: q => if sameT a b = true then sameTs p q else false
  | _, _ => false
theorem chansE_01 (nt : Int) : ∀ cs, chansE nt cs = 0 ∨ chansE nt cs = 1
  | [] => .inl rfl
  | c :: r => by
    rw [chansE]
    split
    · exact chansE_01 nt r
    · exact .inr rfl
theorem find_lt (name : List UInt8) : ∀ (ts : List TaskD) (i : Nat), (findGo name i ts).1 ≤ i + ts.length
  | [], i => by simp [findGo]
  | t :: r, i => by
    rw [findGo]
    split
    · simp
    · have := find_lt name r (i + 1)
      simp
      omega
end Go.Proofs.YtembbhbbmkijcaaDoor
