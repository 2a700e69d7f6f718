/- A set in words: plain mathematics. -/
import Derived.Test.YtolljdomnohmdabGreatDoorM9
import Derived.Test.YtolljdomnohmdabGreatDoorM12
namespace Go.Proofs.YtolljdomnohmdabGreatDoor
open Go.RowKit

def locksW : List UInt8 := [108, 111, 99, 107, 115]
def chanW : List UInt8 := [99, 104, 97, 110]
def taskW : List UInt8 := [116, 97, 115, 107]
def chanWs (c : ChanD) : List (List UInt8) := [chanW, Lib.itoa c.room, waitT c.server]
def taskWs (t : TaskD) : List (List UInt8) := [taskW, t.name, Lib.itoa t.period, Lib.itoa t.deadline, Lib.itoa t.budget]
def chanL (c : ChanD) : List UInt8 := wlD (chanWs c)
def opL (o : OpD) : List UInt8 := wlD [textD o]
def taskL (t : TaskD) : List UInt8 := wlD (taskWs t) ++ t.prog.flatMap opL
/-- A set in words. -/
def textS (L : Int) (cs : List ChanD) (ts : List TaskD) : List UInt8 := wlD [locksW, Lib.itoa L] ++ (cs.flatMap chanL ++ ts.flatMap taskL)
/-- Its lines, each as words, or as an op. -/
def taskLs (t : TaskD) : List (List UInt8) := joinW (taskWs t) :: t.prog.map textD
def linesS (L : Int) (cs : List ChanD) (ts : List TaskD) : List (List UInt8) := joinW [locksW, Lib.itoa L] :: (cs.map (fun c => joinW (chanWs c)) ++ ts.flatMap taskLs)
def putL (ls : List (List UInt8)) : List UInt8 := ls.flatMap (fun l => l ++ [10])
theorem putL_app (a b : List (List UInt8)) : putL (a ++ b) = putL a ++ putL b := by simp [putL]
theorem putL_cons (a : List UInt8) (b : List (List UInt8)) : putL (a :: b) = (a ++ [10]) ++ putL b := by simp [putL]
theorem opL_eq (o : OpD) : opL o = textD o ++ [10] := rfl
theorem ops_put : ∀ p : List OpD, p.flatMap opL = putL (p.map textD)
  | [] => rfl
  | o :: r => by rw [List.flatMap_cons, List.map_cons, putL_cons, ops_put r, opL_eq]
theorem taskL_put (t : TaskD) : taskL t = putL (taskLs t) := by
  unfold taskL taskLs
  rw [putL_cons, ops_put]
  rfl
theorem tasks_put : ∀ ts : List TaskD, ts.flatMap taskL = putL (ts.flatMap taskLs)
  | [] => rfl
  | t :: r => by rw [List.flatMap_cons, List.flatMap_cons, putL_app, tasks_put r, taskL_put]
theorem chans_put : ∀ cs : List ChanD, cs.flatMap chanL = putL (cs.map (fun c => joinW (chanWs c)))
  | [] => rfl
  | c :: r => by
    rw [List.flatMap_cons, List.map_cons, putL_cons, chans_put r]
    rfl
theorem textS_put (L : Int) (cs : List ChanD) (ts : List TaskD) : textS L cs ts = putL (linesS L cs ts) := by
  unfold textS linesS
  rw [putL_cons, putL_app, ← chans_put, ← tasks_put]
  rfl
/-- Lines without the end's byte, put down and told again. -/
theorem linesGo_line : ∀ (l cur r : List UInt8), (∀ c ∈ l, c ≠ 10) → linesGo cur (l ++ 10 :: r) = (cur ++ l) :: linesGo [] r
  | [], cur, r, _ => by simp [linesGo]
  | c :: l, cur, r, h => by
    rw [List.cons_append, linesGo, if_neg (h c (by simp)), linesGo_line l (cur ++ [c]) r (fun x hx => h x (by simp [hx]))]
    simp
theorem lines_putL : ∀ ls : List (List UInt8), (∀ l ∈ ls, ∀ c ∈ l, c ≠ 10) → linesOf (putL ls) = ls
  | [], _ => rfl
  | l :: r, h => by
    have ih := lines_putL r (fun x hx => h x (by simp [hx]))
    unfold linesOf at ih ⊢
    rw [putL_cons, List.append_assoc, List.singleton_append, linesGo_line l [] _ (h l (by simp)), ih]
    rfl
theorem putL_ok : ∀ ls : List (List UInt8), linesOk (putL ls) = true
  | [] => rfl
  | l :: r => by
    rw [putL_cons]
    unfold linesOk
    cases r with
    | nil => simp [putL]
    | cons x y =>
      have ih := putL_ok (x :: y)
      unfold linesOk at ih
      have hne : putL (x :: y) ≠ [] := by rw [putL_cons]; simp
      have h2 : (putL (x :: y)).getLast? = some 10 := by
        rw [Bool.or_eq_true] at ih
        rcases ih with ih | ih
        · exact absurd (List.isEmpty_iff.1 ih) hne
        · exact eq_of_beq ih
      rw [List.getLast?_append, h2]
      simp
/-- Words joined have no other bytes than theirs and blanks. -/
theorem joinW_bytes : ∀ (ws : List (List UInt8)), (∀ x ∈ ws, within 33 126 x = true) → ∀ c ∈ joinW ws, c ≠ 10
  | [], _, c, hc => by simp [joinW] at hc
  | [w], h, c, hc => by
    have h1 := ((within_iff 33 126 w).1 (h w (by simp))).2 c hc
    intro e
    subst e
    simp at h1
  | w :: x :: r, h, c, hc => by
    rw [joinW, List.mem_append, List.mem_cons] at hc
    rcases hc with hc | rfl | hc
    · have h1 := ((within_iff 33 126 w).1 (h w (by simp))).2 c hc
      intro e
      subst e
      simp at h1
    · decide
    · exact joinW_bytes (x :: r) (fun y hy => h y (by simp [hy])) c hc

/-- What the lines told so far. -/
structure RdD where
  L : Int
  bg : Bool
  cs : List ChanD
  ts : List TaskD
def zeroR : RdD := ⟨0, false, [], []⟩
def lastP (ts : List TaskD) : List OpD := match ts.getLast? with
  | some t => t.prog
  | none => []
def putOp : List TaskD → OpD → List TaskD
  | [], _ => []
  | [t], o => [{ t with prog := t.prog ++ [o] }]
  | t :: u :: r, o => t :: putOp (u :: r) o
def mayB (s : RdD) (f : List UInt8) : Bool := if s.bg = false then f == locksW else if f = chanW then s.ts.isEmpty else if f = taskW then true else opWordB f && !s.ts.isEmpty
def fullB (s : RdD) (f : List UInt8) : Bool := if f = locksW then false else if f = chanW then s.cs.length == 8 else if f = taskW then s.ts.length == 12 else (lastP s.ts).length == 48
def addLocksD (s : RdD) (ws : List (List UInt8)) : RdD × Int := match ws with
  | [_, a] => if (smallD a).2 = 0 then (⟨(smallD a).1, true, s.cs, s.ts⟩, 0) else (s, (smallD a).2)
  | _ => (s, 2)
def addChanD (s : RdD) (ws : List (List UInt8)) : RdD × Int := match ws with
  | [_, a, b] => if (smallD a).2 = 0 then (if (servD b).2 = 0 then (⟨s.L, s.bg, s.cs ++ [⟨(smallD a).1, (servD b).1⟩], s.ts⟩, 0) else (s, (servD b).2)) else (s, (smallD a).2)
  | _ => (s, 2)
def addTaskD (s : RdD) (ws : List (List UInt8)) : RdD × Int := match ws with
  | [_, n, a, b, c] => if (numOf a).2 = 0 then (if (numOf b).2 = 0 then (if (numOf c).2 = 0 then (⟨s.L, s.bg, s.cs, s.ts ++ [⟨n, (numOf a).1, (numOf b).1, (numOf c).1, []⟩]⟩, 0) else (s, (numOf c).2)) else (s, (numOf b).2)) else (s, (numOf a).2)
  | _ => (s, 2)
def addOpD (s : RdD) (line : List UInt8) : RdD × Int := if (parseD line).2 = 0 then (⟨s.L, s.bg, s.cs, putOp s.ts (parseD line).1⟩, 0) else (s, (parseD line).2)
def addD (s : RdD) (line : List UInt8) : RdD × Int := match splitOf line with
  | none => (s, 2)
  | some ws =>
    if mayB s (ws.headD []) = false then (s, 2) else if fullB s (ws.headD []) = true then (s, 4) else
    if ws.headD [] = locksW then addLocksD s ws else if ws.headD [] = chanW then addChanD s ws else if ws.headD [] = taskW then addTaskD s ws else addOpD s line
def readGo (s : RdD) (i : Nat) : List (List UInt8) → RdD × Nat × Int
  | [] => (s, 0, 0)
  | l :: r => if (addD s l).2 = 0 then readGo (addD s l).1 (i + 1) r else ((addD s l).1, i, (addD s l).2)
/-- A text as a set: what it is, or which line is wrong, and why. -/
def parseS (l : List UInt8) : RdD × Nat × Int :=
  if linesOk l = false then (zeroR, 0, 2) else if linesOf l = [] then (zeroR, 0, 2) else
  if (readGo zeroR 0 (linesOf l)).2.2 = 0 then (if (checkS (readGo zeroR 0 (linesOf l)).1.L (readGo zeroR 0 (linesOf l)).1.cs (readGo zeroR 0 (linesOf l)).1.ts).2 = 0 then ((readGo zeroR 0 (linesOf l)).1, 0, 0) else (zeroR, 0, (checkS (readGo zeroR 0 (linesOf l)).1.L (readGo zeroR 0 (linesOf l)).1.cs (readGo zeroR 0 (linesOf l)).1.ts).2))
  else (zeroR, (readGo zeroR 0 (linesOf l)).2.1, (readGo zeroR 0 (linesOf l)).2.2)

theorem putOp_app : ∀ (ts : List TaskD) (t : TaskD) (o : OpD), putOp (ts ++ [t]) o = ts ++ [{ t with prog := t.prog ++ [o] }]
  | [], _, _ => rfl
  | [x], t, o => rfl
  | x :: y :: r, t, o => by
    have ih := putOp_app (y :: r) t o
    rw [List.cons_append] at ih
    rw [List.cons_append, List.cons_append, putOp, ih]
    rfl
theorem lastP_app (ts : List TaskD) (t : TaskD) : lastP (ts ++ [t]) = t.prog := by simp [lastP]
theorem readGo_app : ∀ (a b : List (List UInt8)) (s s' : RdD) (i : Nat), (readGo s i a) = (s', 0, 0) → readGo s i (a ++ b) = readGo s' (i + a.length) b
  | [], b, s, s', i, h => by
    simp only [readGo, Prod.mk.injEq] at h
    obtain ⟨rfl, _⟩ := h
    simp
  | l :: r, b, s, s', i, h => by
    rw [readGo] at h
    rw [List.cons_append, readGo]
    split at h
    · rename_i h0
      rw [if_pos h0, readGo_app r b _ s' (i + 1) h, List.length_cons]
      congr 1
      omega
    · rename_i h0
      simp only [Prod.mk.injEq] at h
      exact absurd h.2.2 h0
end Go.Proofs.YtolljdomnohmdabGreatDoor
namespace Go.Proofs.YtolljdomnohmdabGreatDoor
open Go.RowKit

theorem shape_len (k : Nat) : (shapeOf k).word.length ≤ 6 := by
  unfold shapeOf
  split <;> decide
theorem caseW_bd {c : CaseD} (h : in64 c.chan ∧ in64 c.v) : ∀ x ∈ caseW c, x.length ≤ 60 := by
  intro x hx
  have h1 := itoa_len h.1
  have h2 := itoa_len h.2
  unfold caseW at hx
  split at hx
  · simp only [List.mem_cons, List.not_mem_nil, or_false] at hx
    rcases hx with rfl | rfl | rfl
    · decide
    · omega
    · omega
  · simp only [List.mem_cons, List.not_mem_nil, or_false] at hx
    rcases hx with rfl | rfl
    · decide
    · omega
theorem words_bd {o : OpD} (h : checkD o = 0) (hi : In64 o) : (∀ x ∈ wordsD o, x.length ≤ 60) ∧ (wordsD o).length ≤ 16 := by
  have ht := taken_of h
  have hs := shape_len o.kind.toNat
  have h1 := itoa_len hi.n
  have h2 := itoa_len hi.v
  have h3 := waitT_len hi.wait
  constructor
  · intro x hx
    unfold wordsD at hx
    simp only [List.mem_append] at hx
    rcases hx with (((hx | hx) | hx) | hx) | hx
    · simp at hx; subst hx; omega
    · split at hx
      · simp at hx; subst hx; omega
      · simp at hx
    · split at hx
      · simp at hx; subst hx; omega
      · simp at hx
    · split at hx
      · simp at hx; subst hx; omega
      · simp at hx
    · split at hx
      · obtain ⟨c, hc, hx⟩ := List.mem_flatMap.1 hx
        exact caseW_bd (hi.cases c hc) x hx
      · simp at hx
  · have hw := words_len o.cases
    unfold wordsD
    simp only [List.length_append]
    by_cases hp : (shapeOf o.kind.toNat).picks = true
    · have := ht.many hp
      rw [if_pos hp]
      have e1 : ([(shapeOf o.kind.toNat).word] : List (List UInt8)).length = 1 := rfl
      have e2 : (if (shapeOf o.kind.toNat).hasN = true then [Lib.itoa o.n] else []).length ≤ 1 := by split <;> simp
      have e3 : (if (shapeOf o.kind.toNat).hasV = true then [Lib.itoa o.v] else []).length ≤ 1 := by split <;> simp
      have e4 : (if (shapeOf o.kind.toNat).waits = true then [waitT o.wait] else []).length ≤ 1 := by split <;> simp
      omega
    · rw [if_neg hp]
      have e1 : ([(shapeOf o.kind.toNat).word] : List (List UInt8)).length = 1 := rfl
      have e2 : (if (shapeOf o.kind.toNat).hasN = true then [Lib.itoa o.n] else []).length ≤ 1 := by split <;> simp
      have e3 : (if (shapeOf o.kind.toNat).hasV = true then [Lib.itoa o.v] else []).length ≤ 1 := by split <;> simp
      have e4 : (if (shapeOf o.kind.toNat).waits = true then [waitT o.wait] else []).length ≤ 1 := by split <;> simp
      simp only [List.length_nil]
      omega
theorem textD_bd {o : OpD} (h : checkD o = 0) (hi : In64 o) : (textD o).length ≤ 976 := by
  obtain ⟨h1, h2⟩ := words_bd h hi
  have := joinW_le 60 (wordsD o) h1
  unfold textD
  omega
theorem flat_len {α : Type} (f : α → List UInt8) (K : Nat) : ∀ l : List α, (∀ x ∈ l, (f x).length ≤ K) → (l.flatMap f).length ≤ l.length * K
  | [], _ => by simp
  | x :: r, h => by
    have ih := flat_len f K r (fun y hy => h y (by simp [hy]))
    have h1 := h x (by simp)
    rw [List.flatMap_cons, List.length_append, List.length_cons, Nat.add_mul]
    omega
/-- What is known of a set that is taken. -/
structure SetOk (L : Int) (cs : List ChanD) (ts : List TaskD) : Prop where
  L0 : 0 ≤ L ∧ L ≤ 8
  nc : cs.length ≤ 8
  nt : 1 ≤ ts.length ∧ ts.length ≤ 12
  ch : ∀ c ∈ cs, 0 ≤ c.room ∧ c.room ≤ 16 ∧ -1 ≤ c.server ∧ c.server < 12
  nm : ∀ t ∈ ts, t.name.length ≤ 8 ∧ within 97 122 t.name = true
  tm : ∀ t ∈ ts, in64 t.period ∧ in64 t.deadline ∧ in64 t.budget
  pg : ∀ t ∈ ts, checkP t.prog = (0, 0)
theorem chans_ok {nt : Int} : ∀ {cs : List ChanD}, chansE nt cs = 0 → ∀ c ∈ cs, chanB nt c = true
  | [], _, c, hc => by cases hc
  | x :: r, h, c, hc => by
    rw [chansE] at h
    split at h
    · rename_i hx
      rcases List.mem_cons.1 hc with rfl | hc
      · exact hx
      · exact chans_ok h c hc
    · simp at h
theorem checkP_0 {p : List OpD} (h : (checkP p).2 = 0) : checkP p = (0, 0) := by
  unfold checkP at h ⊢
  split
  · rename_i h1
    rw [if_pos h1] at h
    simp at h
  · rename_i h1
    rw [if_neg h1] at h
    split
    · rename_i h2
      rw [if_pos h2] at h
      split
      · rename_i h3
        rw [if_pos h3] at h
        split
        · rename_i h4
          rw [if_pos h4] at h
          simp at h
        · rfl
      · rename_i h3
        rw [if_neg h3] at h
        exact absurd h h3
    · rename_i h2
      rw [if_neg h2] at h
      exact absurd h h2
theorem tasks_ok {L nc : Int} {ts : List TaskD} : ∀ {l : List TaskD} {i : Nat}, (tasksGo L nc ts i l).2 = 0 → ∀ t ∈ l, nameB t.name = true ∧ timesB t = true ∧ (checkP t.prog).2 = 0
  | [], _, _, t, ht => by cases ht
  | x :: r, i, h, t, ht => by
    rw [tasksGo] at h
    split at h
    · rename_i hx
      rcases List.mem_cons.1 ht with rfl | ht
      · unfold taskE at hx
        split at hx
        · rename_i hn
          split at hx
          · simp at hx
          · split at hx
            · rename_i hm
              split at hx
              · rename_i hp
                exact ⟨hn, hm, hp⟩
              · rename_i hp
                exact absurd hx hp
            · simp at hx
        · simp at hx
      · exact tasks_ok h t ht
    · rename_i hx
      exact absurd h hx
theorem set_ok {L : Int} {cs : List ChanD} {ts : List TaskD} (h : (checkS L cs ts).2 = 0) : SetOk L cs ts := by
  unfold checkS at h
  split at h
  · simp at h
  · rename_i hL
    split at h
    · simp at h
    · rename_i hn
      split at h
      · rename_i hc
        have hT := tasks_ok h
        have hC := chans_ok hc
        refine ⟨by omega, by omega, by omega, fun c hm => ?_, fun t hm => ?_, fun t hm => ?_, fun t hm => checkP_0 (hT t hm).2.2⟩
        · have h1 := hC c hm
          simp only [chanB, Bool.and_eq_true, decide_eq_true_eq] at h1
          omega
        · have h1 := (hT t hm).1
          simp only [nameB, Bool.and_eq_true, decide_eq_true_eq] at h1
          exact h1
        · have h1 := (hT t hm).2.1
          simp only [timesB, Bool.and_eq_true, decide_eq_true_eq] at h1
          unfold in64
          omega
      · rename_i hc
        exact absurd h hc
theorem in64_of {n : Int} (h0 : -1000 ≤ n) (h1 : n ≤ 1000) : in64 n := ⟨by omega, by omega⟩
theorem wl_len (ws : List (List UInt8)) (h : ∀ x ∈ ws, x.length ≤ 60) (hn : ws.length ≤ 5) : (wlD ws).length ≤ 306 := by
  have := joinW_le 60 ws h
  unfold wlD
  rw [List.length_append]
  have e : [(10 : UInt8)].length = 1 := rfl
  omega
theorem chanWs_bd {c : ChanD} (h : 0 ≤ c.room ∧ c.room ≤ 16 ∧ -1 ≤ c.server ∧ c.server < 12) : ∀ x ∈ chanWs c, x.length ≤ 60 := by
  intro x hx
  have h1 := itoa_len (in64_of (n := c.room) (by omega) (by omega))
  have h2 := waitT_len (in64_of (n := c.server) (by omega) (by omega))
  simp only [chanWs, List.mem_cons, List.not_mem_nil, or_false] at hx
  rcases hx with rfl | rfl | rfl
  · decide
  · omega
  · omega
theorem taskWs_bd {t : TaskD} (hn : t.name.length ≤ 8) (h : in64 t.period ∧ in64 t.deadline ∧ in64 t.budget) : ∀ x ∈ taskWs t, x.length ≤ 60 := by
  intro x hx
  have h1 := itoa_len h.1
  have h2 := itoa_len h.2.1
  have h3 := itoa_len h.2.2
  simp only [taskWs, List.mem_cons, List.not_mem_nil, or_false] at hx
  rcases hx with rfl | rfl | rfl | rfl | rfl
  · decide
  · omega
  · omega
  · omega
  · omega
theorem textS_len {L : Int} {cs : List ChanD} {ts : List TaskD} (h : SetOk L cs ts) (hi : ∀ t ∈ ts, ∀ o ∈ t.prog, In64 o) : (textS L cs ts).length ≤ 1000000 := by
  have hl := wl_len [locksW, Lib.itoa L] (fun x hx => by
    have h1 := itoa_len (in64_of (n := L) (by have := h.L0; omega) (by have := h.L0; omega))
    simp only [List.mem_cons, List.not_mem_nil, or_false] at hx
    rcases hx with rfl | rfl
    · decide
    · omega) (by simp)
  have hc := flat_len chanL 306 cs (fun c hm => wl_len _ (chanWs_bd (h.ch c hm)) (by simp [chanWs]))
  have ht := flat_len taskL 50000 ts (fun t hm => by
    have h1 := wl_len (taskWs t) (taskWs_bd (h.nm t hm).1 (h.tm t hm)) (by simp [taskWs])
    have hp := taken_prog (h.pg t hm)
    have h2 := flat_len opL 977 t.prog (fun o ho => by
      have := textD_bd (hp.2.1 o ho) (hi t hm o ho)
      rw [opL_eq, List.length_append]
      have e : [(10 : UInt8)].length = 1 := rfl
      omega)
    have h3 : t.prog.length * 977 ≤ 48 * 977 := Nat.mul_le_mul_right _ hp.1
    unfold taskL
    rw [List.length_append]
    omega)
  have h4 : cs.length * 306 ≤ 8 * 306 := Nat.mul_le_mul_right _ h.nc
  have h5 : ts.length * 50000 ≤ 12 * 50000 := Nat.mul_le_mul_right _ h.nt.2
  unfold textS
  rw [List.length_append, List.length_append]
  omega
/-- The words of each line. -/
theorem name_within {l : List UInt8} (h : within 97 122 l = true) : within 33 126 l = true := by
  rw [within_iff] at h ⊢
  exact ⟨h.1, fun c hc => by have := h.2 c hc; omega⟩
theorem good_of {ws : List (List UInt8)} (h : ∀ x ∈ ws, within 33 126 x = true) : goodB ws = true := by
  unfold goodB
  rw [List.all_eq_true]
  exact h
theorem locks_w (L : Int) : ∀ x ∈ [locksW, Lib.itoa L], within 33 126 x = true := by
  intro x hx
  simp only [List.mem_cons, List.not_mem_nil, or_false] at hx
  rcases hx with rfl | rfl
  · decide
  · exact itoa_within _
theorem chan_w (c : ChanD) : ∀ x ∈ chanWs c, within 33 126 x = true := by
  intro x hx
  simp only [chanWs, List.mem_cons, List.not_mem_nil, or_false] at hx
  rcases hx with rfl | rfl | rfl
  · decide
  · exact itoa_within _
  · exact waitT_within _
theorem task_w {t : TaskD} (h : within 97 122 t.name = true) : ∀ x ∈ taskWs t, within 33 126 x = true := by
  intro x hx
  simp only [taskWs, List.mem_cons, List.not_mem_nil, or_false] at hx
  rcases hx with rfl | rfl | rfl | rfl | rfl
  · decide
  · exact name_within h
  · exact itoa_within _
  · exact itoa_within _
  · exact itoa_within _
theorem small_it {n : Int} (h0 : -1000 ≤ n) (h1 : n ≤ 1000) : smallD (Lib.itoa n) = (n, 0) := by
  unfold smallD
  rw [num_it (in64_of h0 h1)]
  exact smallR_yes (by omega) (by omega)
theorem serv_it {n : Int} (h0 : -1 ≤ n) (h1 : n ≤ 1000) : servD (waitT n) = (n, 0) := by
  unfold servD
  rw [waitOf_T h0 h1]
  exact smallR_yes (by omega) (by omega)
theorem addD_locks {L : Int} (h : 0 ≤ L ∧ L ≤ 8) : addD zeroR (joinW [locksW, Lib.itoa L]) = (⟨L, true, [], []⟩, 0) := by
  unfold addD
  rw [splitOf_joinW _ (good_of (locks_w L))]
  have e := small_it (n := L) (by omega) (by omega)
  show (if mayB zeroR locksW = false then _ else if fullB zeroR locksW = true then _ else if locksW = locksW then addLocksD zeroR [locksW, Lib.itoa L] else _) = _
  rw [if_neg (by decide), if_neg (by decide), if_pos rfl]
  simp only [addLocksD, e]
  rfl
theorem addD_chan {L : Int} {cs : List ChanD} {c : ChanD} (h : 0 ≤ c.room ∧ c.room ≤ 16 ∧ -1 ≤ c.server ∧ c.server < 12) (hn : cs.length < 8) : addD ⟨L, true, cs, []⟩ (joinW (chanWs c)) = (⟨L, true, cs ++ [c], []⟩, 0) := by
  unfold addD
  rw [splitOf_joinW _ (good_of (chan_w c))]
  have e1 := small_it (n := c.room) (by omega) (by omega)
  have e2 := serv_it (n := c.server) (by omega) (by omega)
  have hm : mayB ⟨L, true, cs, []⟩ chanW = true := rfl
  have hf : fullB ⟨L, true, cs, []⟩ chanW = false := by
    unfold fullB
    rw [if_neg (by decide), if_pos rfl]
    simp
    omega
  show (if mayB ⟨L, true, cs, []⟩ chanW = false then _ else if fullB ⟨L, true, cs, []⟩ chanW = true then _ else if chanW = locksW then _ else if chanW = chanW then addChanD _ (chanWs c) else _) = _
  rw [hm, hf, if_neg (by decide), if_neg (by decide), if_neg (by decide), if_pos rfl]
  simp only [addChanD, chanWs, e1, e2]
  rfl
theorem addD_task {L : Int} {cs : List ChanD} {ts : List TaskD} {t : TaskD} (hw : within 97 122 t.name = true) (h : in64 t.period ∧ in64 t.deadline ∧ in64 t.budget) (hn : ts.length < 12) : addD ⟨L, true, cs, ts⟩ (joinW (taskWs t)) = (⟨L, true, cs, ts ++ [{ t with prog := [] }]⟩, 0) := by
  unfold addD
  rw [splitOf_joinW _ (good_of (task_w hw))]
  have hm : mayB ⟨L, true, cs, ts⟩ taskW = true := rfl
  have hf : fullB ⟨L, true, cs, ts⟩ taskW = false := by
    unfold fullB
    rw [if_neg (by decide), if_neg (by decide), if_pos rfl]
    simp
    omega
  show (if mayB ⟨L, true, cs, ts⟩ taskW = false then _ else if fullB ⟨L, true, cs, ts⟩ taskW = true then _ else if taskW = locksW then _ else if taskW = chanW then _ else if taskW = taskW then addTaskD _ (taskWs t) else _) = _
  rw [hm, hf, if_neg (by decide), if_neg (by decide), if_neg (by decide), if_neg (by decide), if_pos rfl]
  simp only [addTaskD, taskWs, num_it h.1, num_it h.2.1, num_it h.2.2]
  rfl
theorem addD_op {L : Int} {cs : List ChanD} {ts : List TaskD} {t : TaskD} {o : OpD} (h : checkD o = 0) (hi : In64 o) (hn : t.prog.length < 48) : addD ⟨L, true, cs, ts ++ [t]⟩ (textD o) = (⟨L, true, cs, ts ++ [{ t with prog := t.prog ++ [o] }]⟩, 0) := by
  obtain ⟨k, _, hk0, w, r, hwr, hkw, _⟩ := read_words (taken_of h) hi
  have hk1 : kindOf w ≠ 0 := by rw [hkw]; exact hk0
  have n1 : w ≠ locksW := fun e => hk1 (by rw [e]; decide)
  have n2 : w ≠ chanW := fun e => hk1 (by rw [e]; decide)
  have n3 : w ≠ taskW := fun e => hk1 (by rw [e]; decide)
  have ho : opWordB w = true := by
    unfold opWordB
    simp
    exact hk1
  have hm : mayB ⟨L, true, cs, ts ++ [t]⟩ w = true := by
    unfold mayB
    rw [if_neg (by simp), if_neg n2, if_neg n3, ho]
    simp
  have hf : fullB ⟨L, true, cs, ts ++ [t]⟩ w = false := by
    unfold fullB
    rw [if_neg n1, if_neg n2, if_neg n3, lastP_app]
    simp
    omega
  unfold addD
  rw [split_words o (taken_of h).kind, hwr]
  show (if mayB ⟨L, true, cs, ts ++ [t]⟩ w = false then _ else if fullB ⟨L, true, cs, ts ++ [t]⟩ w = true then _ else if w = locksW then _ else if w = chanW then _ else if w = taskW then _ else addOpD _ (textD o)) = _
  rw [hm, hf, if_neg (by decide), if_neg (by decide), if_neg n1, if_neg n2, if_neg n3]
  unfold addOpD
  rw [parse_text h hi, if_pos rfl, putOp_app]
theorem read_chans {L : Int} : ∀ (cs dn : List ChanD) (i : Nat), (∀ c ∈ cs, 0 ≤ c.room ∧ c.room ≤ 16 ∧ -1 ≤ c.server ∧ c.server < 12) → dn.length + cs.length ≤ 8 → readGo ⟨L, true, dn, []⟩ i (cs.map (fun c => joinW (chanWs c))) = (⟨L, true, dn ++ cs, []⟩, 0, 0)
  | [], dn, i, _, _ => by simp [readGo]
  | c :: r, dn, i, h, hn => by
    rw [List.length_cons] at hn
    rw [List.map_cons, readGo, addD_chan (h c (by simp)) (by omega), if_pos rfl]
    show readGo ⟨L, true, dn ++ [c], []⟩ (i + 1) _ = _
    rw [read_chans r (dn ++ [c]) (i + 1) (fun x hx => h x (by simp [hx])) (by simp; omega), List.append_assoc]
    rfl
theorem read_ops {L : Int} {cs : List ChanD} {ts : List TaskD} {t : TaskD} : ∀ (p dn : List OpD) (i : Nat), (∀ o ∈ p, checkD o = 0 ∧ In64 o) → dn.length + p.length ≤ 48 → readGo ⟨L, true, cs, ts ++ [{ t with prog := dn }]⟩ i (p.map textD) = (⟨L, true, cs, ts ++ [{ t with prog := dn ++ p }]⟩, 0, 0)
  | [], dn, i, _, _ => by simp [readGo]
  | o :: r, dn, i, h, hn => by
    rw [List.length_cons] at hn
    have e := addD_op (L := L) (cs := cs) (ts := ts) (t := { t with prog := dn }) (h o (by simp)).1 (h o (by simp)).2 (show dn.length < 48 by omega)
    rw [List.map_cons, readGo, e, if_pos rfl]
    show readGo ⟨L, true, cs, ts ++ [{ t with prog := dn ++ [o] }]⟩ (i + 1) _ = _
    rw [read_ops r (dn ++ [o]) (i + 1) (fun x hx => h x (by simp [hx])) (by simp; omega), List.append_assoc]
    rfl
theorem read_tasks {L : Int} {cs : List ChanD} : ∀ (ts dn : List TaskD) (i : Nat), (∀ t ∈ ts, within 97 122 t.name = true ∧ (in64 t.period ∧ in64 t.deadline ∧ in64 t.budget) ∧ t.prog.length ≤ 48 ∧ ∀ o ∈ t.prog, checkD o = 0 ∧ In64 o) → dn.length + ts.length ≤ 12 → readGo ⟨L, true, cs, dn⟩ i (ts.flatMap taskLs) = (⟨L, true, cs, dn ++ ts⟩, 0, 0)
  | [], dn, i, _, _ => by simp [readGo]
  | t :: r, dn, i, h, hn => by
    rw [List.length_cons] at hn
    obtain ⟨h1, h2, h3, h4⟩ := h t (by simp)
    rw [List.flatMap_cons]
    have e : readGo ⟨L, true, cs, dn⟩ i (taskLs t) = (⟨L, true, cs, dn ++ [t]⟩, 0, 0) := by
      unfold taskLs
      rw [readGo, addD_task h1 h2 (by omega), if_pos rfl]
      have := read_ops (L := L) (cs := cs) (ts := dn) (t := t) t.prog [] (i + 1) h4 (by simp; omega)
      rw [List.nil_append] at this
      exact this
    rw [readGo_app _ _ _ _ _ e, read_tasks r (dn ++ [t]) _ (fun x hx => h x (by simp [hx])) (by simp; omega), List.append_assoc]
    rfl
theorem linesS_bytes {L : Int} {cs : List ChanD} {ts : List TaskD} (h : SetOk L cs ts) : ∀ l ∈ linesS L cs ts, ∀ c ∈ l, c ≠ 10 := by
  intro l hl
  unfold linesS at hl
  rw [List.mem_cons, List.mem_append] at hl
  rcases hl with rfl | hl | hl
  · exact joinW_bytes _ (locks_w L)
  · obtain ⟨c, _, rfl⟩ := List.mem_map.1 hl
    exact joinW_bytes _ (chan_w c)
  · obtain ⟨t, ht, hl⟩ := List.mem_flatMap.1 hl
    unfold taskLs at hl
    rcases List.mem_cons.1 hl with rfl | hl
    · exact joinW_bytes _ (task_w (h.nm t ht).2)
    · obtain ⟨o, ho, rfl⟩ := List.mem_map.1 hl
      exact joinW_bytes _ (good_mem (words_good o (taken_of ((taken_prog (h.pg t ht)).2.1 o ho)).kind))
/-- A set in words, read again, is the set. -/
theorem parse_textS {L : Int} {cs : List ChanD} {ts : List TaskD} (hc : (checkS L cs ts).2 = 0) (hi : ∀ t ∈ ts, ∀ o ∈ t.prog, In64 o) : parseS (textS L cs ts) = (⟨L, true, cs, ts⟩, 0, 0) := by
  have h := set_ok hc
  have hr : readGo zeroR 0 (linesS L cs ts) = (⟨L, true, cs, ts⟩, 0, 0) := by
    unfold linesS
    rw [readGo, addD_locks h.L0, if_pos rfl]
    show readGo ⟨L, true, [], []⟩ (0 + 1) _ = _
    rw [readGo_app _ _ _ _ _ (read_chans cs [] 1 h.ch (by have := h.nc; simp; omega))]
    have := read_tasks (L := L) (cs := cs) ts [] (1 + (cs.map (fun c => joinW (chanWs c))).length) (fun t ht => ⟨(h.nm t ht).2, h.tm t ht, (taken_prog (h.pg t ht)).1, fun o ho => ⟨(taken_prog (h.pg t ht)).2.1 o ho, hi t ht o ho⟩⟩) (by have := h.nt; simp; omega)
    simpa using this
  unfold parseS
  rw [textS_put, putL_ok, if_neg (by simp), lines_putL _ (linesS_bytes h), if_neg (by simp [linesS]), hr, if_pos rfl]
  show (if (checkS L cs ts).2 = 0 then _ else _) = _
  rw [if_pos hc]
end Go.Proofs.YtolljdomnohmdabGreatDoor
