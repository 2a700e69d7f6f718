/- Many tasks, channels, locks: what Check tells, as plain data. -/
import Derived.Test.YtockpcoegdaipabDoorTkR
namespace Go.Proofs.YtockpcoegdaipabDoor

def nm1 (i : Nat) : List UInt8 := [UInt8.ofNat (97 + i)]
def n1s (k : Nat) : List (List UInt8) := (List.range k).map nm1
theorem n1s_succ (k : Nat) : n1s (k + 1) = n1s k ++ [nm1 k] := by unfold n1s; rw [List.range_succ, List.map_append]; rfl
theorem n1s_len (k : Nat) : (n1s k).length = k := by simp [n1s]
theorem n1s_get {k i : Nat} (h : i < k) : (n1s k)[i]? = some (nm1 i) := by unfold n1s; rw [List.getElem?_map, List.getElem?_range h]; rfl
def chI (i : Nat) : ChanD := ⟨(i : Int), -1⟩
def chs (k : Nat) : List ChanD := (List.range k).map chI
theorem chs_succ (k : Nat) : chs (k + 1) = chs k ++ [chI k] := by unfold chs; rw [List.range_succ, List.map_append]; rfl
theorem chs_len (k : Nat) : (chs k).length = k := by simp [chs]
theorem chs_ok {nt : Int} (hn : 1 ≤ nt) : ∀ (l : List Nat), (∀ i ∈ l, i ≤ 16) → chansE nt (l.map chI) = 0
  | [], _ => rfl
  | i :: r, h => by
    have h1 := h i (by simp)
    have hc : chanB nt (chI i) = true := by
      unfold chanB chI
      simp only
      rw [decide_eq_true (by omega), decide_eq_true (by omega), decide_eq_true (by omega), decide_eq_true (by omega)]
      rfl
    rw [List.map_cons, chansE, if_pos hc, chs_ok hn r (fun q hq => h q (by simp [hq]))]
theorem chs_e {nt : Int} {b : Nat} (hn : 1 ≤ nt) (hb : b ≤ 8) : chansE nt (chs b) = 0 := chs_ok hn _ (fun i hi => by have := List.mem_range.1 hi; omega)
theorem find_names (name : List UInt8) : ∀ (ts ts' : List TaskD) (i : Nat), ts.map (·.name) = ts'.map (·.name) → findGo name i ts = findGo name i ts'
  | [], [], _, _ => rfl
  | [], _ :: _, _, h => by simp at h
  | _ :: _, [], _, h => by simp at h
  | t :: r, t' :: r', i, h => by
    simp only [List.map_cons, List.cons.injEq] at h
    rw [findGo, findGo, h.1, find_names name r r' (i + 1) h.2]
theorem pm1 : ∀ k : Fin 13, ∀ i : Fin 12, i.1 < k.1 → findGo (nm1 i.1) 0 (mkT 9 (n1s k.1)) = (i.1, true) := by decide +kernel
theorem pm2 : ∀ i : Fin 12, nameB (nm1 i.1) = true := by decide +kernel
theorem pm3 : checkP [oRun 1] = (0, 0) := by decide +kernel
theorem pm4 : costD [oRun 1] = 1 := by decide +kernel
/-- The tasks, one with another program. -/
def manT (k : Nat) (i : Nat) (p : List OpD) : List TaskD := (mkT 9 (n1s k)).set i ⟨nm1 i, 9, 9, 9, p⟩
theorem mk_len0 (k : Nat) : (mkT 9 (n1s k)).length = k := by simp [mkT, n1s]
theorem manT_names (k i : Nat) (p : List OpD) (h : i < k) : (manT k i p).map (·.name) = (mkT 9 (n1s k)).map (·.name) := by
  unfold manT
  rw [List.map_set]
  have : ((mkT 9 (n1s k)).map (·.name))[i]? = some (nm1 i) := by
    unfold mkT
    rw [List.map_map, List.getElem?_map, n1s_get h]
    rfl
  apply List.ext_getElem?
  intro q
  by_cases hq : i = q
  · subst hq
    rw [List.getElem?_set_self (by rw [List.length_map, mk_len0]; exact h), this]
  · rw [List.getElem?_set_ne hq]
theorem run_task {L nc : Int} {ts : List TaskD} {k j : Nat} (hk : k ≤ 12) (hj : j < k) (hn : ts.map (·.name) = (mkT 9 (n1s k)).map (·.name)) : taskE L nc ts j ⟨nm1 j, 9, 9, 9, [oRun 1]⟩ = 0 := by
  have hf := find_names (nm1 j) ts (mkT 9 (n1s k)) 0 hn
  rw [pm1 ⟨k, by omega⟩ ⟨j, by omega⟩ hj] at hf
  unfold taskE
  simp only [hf, pm2 ⟨j, by omega⟩, pm3, pm4]
  simp [timesB, hasAllB, hasB, oRun]
theorem other_task {L nc : Int} {ts : List TaskD} {k j : Nat} {p : List OpD} (hk : k ≤ 12) (hj : j < k) (hn : ts.map (·.name) = (mkT 9 (n1s k)).map (·.name)) : taskE L nc ts j ⟨nm1 j, 9, 9, 9, p⟩ = if (checkP p).2 = 0 then (if costD p = 0 then 5 else if hasAllB L nc p = true then 0 else 3) else (checkP p).2 := by
  have hf := find_names (nm1 j) ts (mkT 9 (n1s k)) 0 hn
  rw [pm1 ⟨k, by omega⟩ ⟨j, by omega⟩ hj] at hf
  unfold taskE
  simp only [hf, pm2 ⟨j, by omega⟩]
  simp [timesB]
theorem go_good {L nc : Int} {ts : List TaskD} : ∀ (l : List TaskD) (j : Nat), (∀ (q : Nat) (t : TaskD), l[q]? = some t → taskE L nc ts (j + q) t = 0) → tasksGo L nc ts j l = (0, 0)
  | [], _, _ => rfl
  | t :: r, j, h => by
    rw [tasksGo, if_pos (by simpa using h 0 t rfl)]
    exact go_good r (j + 1) (fun q t ht => by have := h (q + 1) t (by simpa using ht); rwa [show j + (q + 1) = j + 1 + q by omega] at this)
theorem go_bad {L nc : Int} {ts : List TaskD} {e : Int} (he : e ≠ 0) : ∀ (l : List TaskD) (j i : Nat) (ti : TaskD), l[i]? = some ti → taskE L nc ts (j + i) ti = e → (∀ (q : Nat) (t : TaskD), q < i → l[q]? = some t → taskE L nc ts (j + q) t = 0) → tasksGo L nc ts j l = (j + i, e)
  | [], _, _, _, h, _, _ => by simp at h
  | t :: r, j, 0, ti, h, h2, _ => by
    simp at h
    subst h
    rw [Nat.add_zero] at h2
    rw [tasksGo, if_neg (by rw [h2]; exact he), h2]
    rfl
  | t :: r, j, i + 1, ti, h, h2, h3 => by
    rw [tasksGo, if_pos (by simpa using h3 0 t (by omega) rfl), go_bad he r (j + 1) i ti (by simpa using h) (by rw [show j + 1 + i = j + (i + 1) by omega]; exact h2) (fun q t hq ht => by have := h3 (q + 1) t (by omega) (by simpa using ht); rwa [show j + (q + 1) = j + 1 + q by omega] at this)]
    rw [show j + 1 + i = j + (i + 1) by omega]
theorem mk_get {k q : Nat} {t : TaskD} (h : (mkT 9 (n1s k))[q]? = some t) : q < k ∧ t = ⟨nm1 q, 9, 9, 9, [oRun 1]⟩ := by
  have hq : q < k := by
    have := (List.getElem?_eq_some_iff.1 h).1
    simpa [mkT, n1s] using this
  refine ⟨hq, ?_⟩
  unfold mkT at h
  rw [List.getElem?_map, n1s_get hq] at h
  exact (Option.some.inj h).symm
/-- The first Check. -/
theorem man_check1 (a b c : Nat) : (checkS (c : Int) (chs b) (mkT 9 (n1s a))).2 = if 8 < c then 1 else if 8 < b ∨ a < 1 ∨ 12 < a then 18 else 0 := by
  have hl : (mkT 9 (n1s a)).length = a := by simp [mkT, n1s]
  unfold checkS
  by_cases hc : 8 < c
  · rw [if_pos (.inr (by omega)), if_pos hc]
  · rw [if_neg (by omega), if_neg hc, chs_len, hl]
    by_cases hb : 8 < b ∨ a < 1 ∨ 12 < a
    · rw [if_pos (by omega), if_pos hb]
    · rw [if_neg (by omega), if_neg hb, if_pos (chs_e (by omega) (by omega))]
      rw [go_good _ 0 (fun q t ht => by
        obtain ⟨hq, rfl⟩ := mk_get ht
        rw [Nat.zero_add]
        exact run_task (by omega) hq rfl)]
/-- A Check with one other program. -/
theorem man_check2 (a b c i : Nat) (p : List OpD) (e : Int) (ha : 1 ≤ a ∧ a ≤ 12) (hb : b ≤ 8) (hc : c ≤ 8) (hi : i < a) (he : e ≠ 0) (hp : (if (checkP p).2 = 0 then (if costD p = 0 then 5 else if hasAllB (c : Int) (b : Int) p = true then 0 else 3) else (checkP p).2) = e) : checkS (c : Int) (chs b) (manT a i p) = (i, e) := by
  have hl : (manT a i p).length = a := by simp [manT, mkT, n1s]
  unfold checkS
  rw [if_neg (by omega), chs_len, hl, if_neg (by omega), if_pos (chs_e (by omega) (by omega))]
  have hn := manT_names a i p hi
  have hgi : (manT a i p)[i]? = some ⟨nm1 i, 9, 9, 9, p⟩ := by
    unfold manT
    rw [List.getElem?_set_self (by simp [mkT, n1s]; exact hi)]
  rw [go_bad he _ 0 i _ hgi (by rw [Nat.zero_add, other_task ha.2 hi hn]; exact hp) (fun q t hq ht => by
    rw [Nat.zero_add]
    unfold manT at ht
    rw [List.getElem?_set_ne (by omega)] at ht
    obtain ⟨hq2, rfl⟩ := mk_get ht
    exact run_task ha.2 hq2 hn), Nat.zero_add]
def lkPr (c : Int) : List OpD := [oRun 1, ⟨2, c, 0, 0, []⟩, ⟨3, c, 0, 0, []⟩]
def slPr (b : Int) : List OpD := [oRun 1, ⟨7, 0, 0, 0, [⟨false, b, 0⟩]⟩]
def eOf (L nc : Int) (p : List OpD) : Int := if (checkP p).2 = 0 then (if costD p = 0 then 5 else if hasAllB L nc p = true then 0 else 3) else (checkP p).2
theorem lk_e : ∀ c : Fin 9, ∀ b : Fin 9, eOf (c.1 : Int) (b.1 : Int) (lkPr (c.1 : Int)) = if c.1 = 8 then 1 else 3 := by decide +kernel
theorem sl_e : ∀ c : Fin 9, ∀ b : Fin 9, eOf (c.1 : Int) (b.1 : Int) (slPr (b.1 : Int)) = if b.1 = 8 then 1 else 3 := by decide +kernel
end Go.Proofs.YtockpcoegdaipabDoor
