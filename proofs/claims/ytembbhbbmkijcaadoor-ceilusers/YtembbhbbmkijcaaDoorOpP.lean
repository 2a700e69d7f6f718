/- Ops as plain data: what is wrong with one, its words, and back. No program is named here. -/
import Derived.Test.YtembbhbbmkijcaaDoorPure
namespace Go.Proofs.YtembbhbbmkijcaaDoor

structure CaseD where
  send : Bool
  chan : Int
  v : Int
structure OpD where
  kind : Int
  n : Int
  v : Int
  wait : Int
  cases : List CaseD
structure ShapeD where
  word : List UInt8
  hasN : Bool
  hasV : Bool
  waits : Bool
  picks : Bool
  least : Int
  most : Int

def sendW : List UInt8 := [115, 101, 110, 100]
def recvW : List UInt8 := [114, 101, 99, 118]

/-- The table of the Kinds. -/
def shapeOf : Nat → ShapeD
  | 1 => ⟨[114, 117, 110], true, false, false, false, 1, 1000⟩
  | 2 => ⟨[108, 111, 99, 107], true, false, false, false, 0, 7⟩
  | 3 => ⟨[117, 110, 108, 111, 99, 107], true, false, false, false, 0, 7⟩
  | 4 => ⟨[115, 101, 110, 100], true, true, true, false, 0, 7⟩
  | 5 => ⟨[114, 101, 99, 118], true, false, true, false, 0, 7⟩
  | 6 => ⟨[99, 108, 111, 115, 101], true, false, false, false, 0, 7⟩
  | 7 => ⟨[115, 101, 108, 101, 99, 116], false, false, true, true, 0, 0⟩
  | 8 => ⟨[108, 111, 111, 112], true, false, false, false, 1, 32⟩
  | 9 => ⟨[101, 110, 100], false, false, false, false, 0, 0⟩
  | _ => ⟨[], false, false, false, false, 0, 0⟩

def isKindB (k : Int) : Bool := decide (1 ≤ k) && decide (k ≤ 9)
def takesB (s : ShapeD) (n v wt : Int) (len : Nat) : Bool :=
  !(decide (n < s.least) || decide (s.most < n) || (!(v == 0) && !s.hasV)) && !((!s.waits && !(wt == 0)) || decide (wt < -1) || decide (1000 < wt)) && (s.picks || len == 0)
/-- A case by itself: may it not be? -/
def badC (c : CaseD) : Bool := decide (c.chan < 0) || decide (8 ≤ c.chan) || (!(c.v == 0) && !c.send)
def hasC (seen : List CaseD) (ch : Int) : Bool := seen.any (fun d => d.chan == ch)
def casesE (seen : List CaseD) : List CaseD → Int
  | [] => 0
  | c :: r => if badC c then 1 else if hasC seen c.chan then 6 else casesE (seen ++ [c]) r
def checkD (o : OpD) : Int :=
  if isKindB o.kind then
    if takesB (shapeOf o.kind.toNat) o.n o.v o.wait o.cases.length then
      if (shapeOf o.kind.toNat).picks && (o.cases.length == 0 || decide (4 < o.cases.length)) then 18 else casesE [] o.cases
    else 1
  else 3
def sameC (a b : CaseD) : Bool := (a.send == b.send) && (a.chan == b.chan) && (a.v == b.v)
def sameL : List CaseD → List CaseD → Bool
  | [], [] => true
  | a :: r, b :: t => sameC a b && sameL r t
  | _, _ => false
def sameD (a b : OpD) : Bool := (a.kind == b.kind) && (a.n == b.n) && (a.v == b.v) && (a.wait == b.wait) && sameL a.cases b.cases
def waitsD (o : OpD) : Bool := isKindB o.kind && (shapeOf o.kind.toNat).waits && !(o.wait == 0)

/-- Words with blanks between. -/
def joinW : List (List UInt8) → List UInt8
  | [] => []
  | [w] => w
  | w :: x :: r => w ++ 32 :: joinW (x :: r)
def waitT (n : Int) : List UInt8 := if n = -1 then [45] else Lib.itoa n
def caseW (c : CaseD) : List (List UInt8) := if c.send then [sendW, Lib.itoa c.chan, Lib.itoa c.v] else [recvW, Lib.itoa c.chan]
def wordsD (o : OpD) : List (List UInt8) :=
  [(shapeOf o.kind.toNat).word] ++ (if (shapeOf o.kind.toNat).hasN then [Lib.itoa o.n] else []) ++ (if (shapeOf o.kind.toNat).hasV then [Lib.itoa o.v] else []) ++ (if (shapeOf o.kind.toNat).waits then [waitT o.wait] else []) ++ (if (shapeOf o.kind.toNat).picks then o.cases.flatMap caseW else [])
def textD (o : OpD) : List UInt8 := joinW (wordsD o)

/-- A first word's Kind; 0: none. -/
def kindOf (w : List UInt8) : Nat :=
  if w = [114, 117, 110] then 1 else if w = [108, 111, 99, 107] then 2 else if w = [117, 110, 108, 111, 99, 107] then 3 else if w = [115, 101, 110, 100] then 4 else if w = [114, 101, 99, 118] then 5
  else if w = [99, 108, 111, 115, 101] then 6 else if w = [115, 101, 108, 101, 99, 116] then 7 else if w = [108, 111, 111, 112] then 8 else if w = [101, 110, 100] then 9 else 0
def areB : List (List UInt8) → Bool
  | [] => true
  | [_] => false
  | k :: _ :: r => if k = sendW then (match r with
      | [] => false
      | _ :: r' => areB r') else if k = recvW then areB r else false
def aheadN (s : ShapeD) : Nat := 1 + (if s.hasN then 1 else 0) + (if s.hasV then 1 else 0) + (if s.waits then 1 else 0)
def fitsB (s : ShapeD) (ws : List (List UInt8)) : Bool :=
  if ws.length < aheadN s ∨ s.picks = false then ws.length == aheadN s else areB (ws.drop (aheadN s))
def waitOf (l : List UInt8) : Int × Int :=
  if l = [45] then (-1, 0) else if (numOf l).2 = 0 then (if (numOf l).1 < 0 then (0, 2) else numOf l) else numOf l
def consC (c : CaseD) (x : List CaseD × Int) : List CaseD × Int := if x.2 = 0 then (c :: x.1, 0) else ([], x.2)
def casesOf : List (List UInt8) → List CaseD × Int
  | [] => ([], 0)
  | [_] => ([], 2)
  | k :: a :: r => if (numOf a).2 = 0 then
      (if k = sendW then (match r with
        | [] => ([], 2)
        | b :: r' => if (numOf b).2 = 0 then consC ⟨true, (numOf a).1, (numOf b).1⟩ (casesOf r') else ([], (numOf b).2))
      else consC ⟨false, (numOf a).1, 0⟩ (casesOf r)) else ([], (numOf a).2)
def zeroD : OpD := ⟨0, 0, 0, 0, []⟩
def readD (k : Nat) (r : List (List UInt8)) : OpD × Int :=
  if k = 4 then
    (match r with
    | [a, b, c] => if (numOf a).2 = 0 then (if (numOf b).2 = 0 then (if (waitOf c).2 = 0 then (⟨4, (numOf a).1, (numOf b).1, (waitOf c).1, []⟩, 0) else (zeroD, (waitOf c).2)) else (zeroD, (numOf b).2)) else (zeroD, (numOf a).2)
    | _ => (zeroD, 2))
  else if k = 5 then
    (match r with
    | [a, c] => if (numOf a).2 = 0 then (if (waitOf c).2 = 0 then (⟨5, (numOf a).1, 0, (waitOf c).1, []⟩, 0) else (zeroD, (waitOf c).2)) else (zeroD, (numOf a).2)
    | _ => (zeroD, 2))
  else if k = 7 then
    (match r with
    | c :: t => if (waitOf c).2 = 0 then (if (casesOf t).2 = 0 then (⟨7, 0, 0, (waitOf c).1, (casesOf t).1⟩, 0) else (zeroD, (casesOf t).2)) else (zeroD, (waitOf c).2)
    | _ => (zeroD, 2))
  else if k = 9 then (match r with
    | [] => (⟨9, 0, 0, 0, []⟩, 0)
    | _ => (zeroD, 2))
  else (match r with
    | [a] => if (numOf a).2 = 0 then (⟨(k : Int), (numOf a).1, 0, 0, []⟩, 0) else (zeroD, (numOf a).2)
    | _ => (zeroD, 2))
/-- What is refused is nothing. -/
def checked (x : OpD × Int) : OpD × Int := if x.2 = 0 then (if checkD x.1 = 0 then x else (zeroD, checkD x.1)) else (zeroD, x.2)
def parseW (ws : List (List UInt8)) : OpD × Int :=
  match ws with
  | [] => (zeroD, 2)
  | w :: r => if kindOf w = 0 then (zeroD, 2) else if fitsB (shapeOf (kindOf w)) (w :: r) then checked (readD (kindOf w) r) else (zeroD, 2)
def parseD (s : List UInt8) : OpD × Int :=
  match splitOf s with
  | none => (zeroD, 2)
  | some ws => parseW ws

end Go.Proofs.YtembbhbbmkijcaaDoor
