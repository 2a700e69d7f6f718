/- Programs without Lock and Unlock: plain mathematics. -/
import Derived.Test.YtcbpbidimocpjaaDoorBlA
namespace Go.Proofs.YtcbpbidimocpjaaDoor
open Go.RowKit Go.Sort

/-- Without Lock and Unlock. -/
def frB (o : OpD) : Bool := decide (o.kind ≠ 2) && decide (o.kind ≠ 3)
def frP (p : List OpD) : List OpD := p.filter frB
theorem frB_iff (o : OpD) : frB o = true ↔ o.kind ≠ 2 ∧ o.kind ≠ 3 := by simp [frB]
theorem frP_rep (g : List OpD) : ∀ n : Nat, frP (rep n g) = rep n (frP g)
  | 0 => by simp [rep, frP]
  | n + 1 => by
    rw [rep_succ, rep_succ, ← frP_rep g n]
    simp [frP]
theorem frP_bal {d m m' : Nat} {p f : List OpD} (h : Bal d m m' p f) : Bal d 0 0 (frP p) (frP f) := by
  induction h with
  | nil d m => exact .nil _ _
  | @one d m m1 m' o p f h8 h9 ht _ ih =>
    by_cases hb : frB o = true
    · obtain ⟨h2, h3⟩ := (frB_iff o).1 hb
      have e1 : frP (o :: p) = o :: frP p := by simp [frP, hb]
      have e2 : frP (o :: f) = o :: frP f := by simp [frP, hb]
      rw [e1, e2]
      refine .one (m1 := 0) h8 h9 ?_ ih
      unfold takeM
      rw [if_neg h2, if_neg h3, if_neg h8, if_neg h9, if_pos (.inl rfl)]
    · have e1 : frP (o :: p) = frP p := by simp [frP, hb]
      have e2 : frP (o :: f) = frP f := by simp [frP, hb]
      rw [e1, e2]
      exact ih
  | @loop d m m' o e b g p f h8 h9 _ _ ihb ihp =>
    have e1 : frP (o :: (b ++ e :: p)) = o :: (frP b ++ e :: frP p) := by
      simp [frP, (frB_iff o).2 (by omega), (frB_iff e).2 (by omega)]
    have e2 : frP (rep o.n.toNat g ++ f) = rep o.n.toNat (frP g) ++ frP f := by
      rw [← frP_rep]
      simp [frP]
    rw [e1, e2]
    exact .loop h8 h9 ihb ihp
theorem each_ok : ∀ (p : List OpD) (i : Nat), (∀ o ∈ p, checkD o = 0) → eachGo i p = (0, 0)
  | [], _, _ => rfl
  | o :: r, i, h => by
    rw [eachGo, if_pos (h o (by simp))]
    exact each_ok r (i + 1) (fun x hx => h x (by simp [hx]))
theorem frP_take {p : List OpD} {k : Nat} {o : OpD} (h : p[k]? = some o) : frP (p.take (k + 1)) = if frB o = true then frP (p.take k) ++ [o] else frP (p.take k) := by
  rw [List.take_add_one, h]
  unfold frP
  rw [List.filter_append]
  cases hb : frB o <;> simp [hb]
theorem frP_len (p : List OpD) : (frP p).length ≤ p.length := List.length_filter_le _ _
theorem frP_check {p f : List OpD} (h : checkP p = (0, 0)) (hb : Bal 3 0 0 p f) : checkP (frP p) = (0, 0) := by
  obtain ⟨h48, hc, _, _⟩ := taken_prog h
  have hst := steps_len hb hc
  have hle := frP_len p
  have hcf : ∀ o ∈ frP p, checkD o = 0 := fun o ho => hc o (List.mem_filter.1 ho).1
  have hs2 := steps_len (frP_bal hb) hcf
  have hlf := frP_len f
  have hsm : stepsD p ≤ 512 := by
    unfold checkP at h
    split at h
    · simp at h
    · split at h
      · split at h
        · split at h
          · simp at h
          · omega
        · rename_i ho
          rw [h] at ho
          simp at ho
      · rename_i he
        rw [h] at he
        simp at he
  unfold checkP
  rw [if_neg (by omega), if_pos (by rw [each_ok _ 0 hcf]), if_pos (by rw [bal_ord (frP_bal hb)]), if_neg (by omega)]
theorem frP_sec (lock : Int) : ∀ (f : List OpD) (c : Int), secGo lock 0 c (frP f) = 0
  | [], _ => by simp [frP, secGo]
  | o :: r, c => by
    by_cases hb : frB o = true
    · obtain ⟨h2, h3⟩ := (frB_iff o).1 hb
      have e1 : frP (o :: r) = o :: frP r := by simp [frP, hb]
      rw [e1, secGo]
      split
      · exact frP_sec lock r _
      · rw [if_neg (by omega), if_neg (by omega)]
        exact frP_sec lock r _
    · have e1 : frP (o :: r) = frP r := by simp [frP, hb]
      rw [e1]
      exact frP_sec lock r c
/-- A task without them. -/
def frT (t : TaskD) : TaskD := { t with prog := frP t.prog }
def frTs (ts : List TaskD) (k : Nat) : List TaskD := (ts.take k).map frT ++ ts.drop k
theorem frTs_zero (ts : List TaskD) : frTs ts 0 = ts := by simp [frTs]
theorem frTs_end (ts : List TaskD) {k : Nat} (h : ts.length ≤ k) : frTs ts k = ts.map frT := by
  unfold frTs
  rw [List.take_of_length_le h, List.drop_eq_nil_of_le h, List.append_nil]
theorem frTs_get {ts : List TaskD} {k : Nat} {t : TaskD} (h : ts[k]? = some t) : (frTs ts k)[k]? = some t := by
  have hk := (List.getElem?_eq_some_iff.1 h).1
  unfold frTs
  rw [List.getElem?_append_right (by simp; omega), List.length_map, List.length_take, Nat.min_eq_left (by omega), Nat.sub_self, List.getElem?_drop]
  exact h
theorem frTs_set {ts : List TaskD} {k : Nat} {t : TaskD} (h : ts[k]? = some t) : (frTs ts k).set k (frT t) = frTs ts (k + 1) := by
  have hk := (List.getElem?_eq_some_iff.1 h).1
  unfold frTs
  rw [List.set_append_right _ _ (by simp; omega), List.length_map, List.length_take, Nat.min_eq_left (by omega), Nat.sub_self, List.drop_eq_getElem_cons hk, List.set_cons_zero, List.take_add_one, h]
  simp
theorem fr_at {ts : List TaskD} {k : Nat} : (ts.map frT)[k]? = (ts[k]?).map frT := by simp
theorem fr_sec (F : Nat → List OpD) (ts : List TaskD) (q : Int) (j : Nat) : secV q (fun i => frP (F i)) (ts.map frT) j ≤ 0 := by
  unfold secV
  cases (ts.map frT)[j]? with
  | none => exact Int.le_refl _
  | some t =>
    simp only [frP_sec]
    omega
/-- Without locks nobody is held up. -/
theorem fr_blk (F : Nat → List OpD) (ts : List TaskD) (i L : Nat) : blkN (ts.map frT).length (prE (ts.map frT)) (ceilF (ts.map frT)) (fun q => secV (q : Int) (fun i => frP (F i)) (ts.map frT)) i L = 0 := by
  have h1 := blkN_nn (ts.map frT).length (prE (ts.map frT)) (ceilF (ts.map frT)) (fun q => secV (q : Int) (fun i => frP (F i)) (ts.map frT)) i L
  have h2 := (blkN_le (ts.map frT).length (prE (ts.map frT)) (ceilF (ts.map frT)) (fun q => secV (q : Int) (fun i => frP (F i)) (ts.map frT)) i 0 L).2 ⟨Int.le_refl _, fun r k _ _ _ _ => fr_sec F ts (r : Int) k⟩
  omega
end Go.Proofs.YtcbpbidimocpjaaDoor
