/- A program in a loop: what it is, as plain data. -/
import Derived.Test.YtohokkdlehahnaaDoorFlt
namespace Go.Proofs.YtohokkdlehahnaaDoor

def twB (x y : Int) : List OpD := [⟨1, x, 0, 0, []⟩, ⟨2, 3, 0, 0, []⟩, ⟨1, y, 0, 0, []⟩, ⟨3, 3, 0, 0, []⟩]
def twP (k x y : Int) : List OpD := [⟨8, k, 0, 0, []⟩, ⟨1, x, 0, 0, []⟩, ⟨2, 3, 0, 0, []⟩, ⟨1, y, 0, 0, []⟩, ⟨3, 3, 0, 0, []⟩, ⟨9, 0, 0, 0, []⟩]
theorem tw_run {x : Int} (h0 : 1 ≤ x) (h1 : x ≤ 1000) : checkD ⟨1, x, 0, 0, []⟩ = 0 := by
  unfold checkD
  rw [if_pos (show isKindB (OpD.mk 1 x 0 0 []).kind = true from rfl), if_pos (by simp [takesB, shapeOf]; omega)]
  rfl
theorem tw_loop {k : Int} (h0 : 1 ≤ k) (h1 : k ≤ 32) : checkD ⟨8, k, 0, 0, []⟩ = 0 := by
  unfold checkD
  rw [if_pos (show isKindB (OpD.mk 8 k 0 0 []).kind = true from rfl), if_pos (by simp [takesB, shapeOf]; omega)]
  rfl
theorem tw_all {k x y : Int} (hk : 1 ≤ k ∧ k ≤ 32) (hx : 1 ≤ x ∧ x ≤ 1000) (hy : 1 ≤ y ∧ y ≤ 1000) : ∀ o ∈ twP k x y, checkD o = 0 := by
  intro o ho
  simp only [twP, List.mem_cons, List.not_mem_nil, or_false] at ho
  rcases ho with rfl | rfl | rfl | rfl | rfl | rfl
  · exact tw_loop hk.1 hk.2
  · exact tw_run hx.1 hx.2
  · decide +kernel
  · exact tw_run hy.1 hy.2
  · decide +kernel
  · decide +kernel
theorem tw_ord (k x y : Int) : ordGo 0 0 [] (twP k x y) = (0, 0) := rfl
theorem tw_times (k x y : Int) : timesGo [1] (twP k x y) = [0, 1 * k, 1 * k, 1 * k, 1 * k, 0] := rfl
theorem tw_steps (k x y : Int) : stepsD (twP k x y) = 4 * k := by
  unfold stepsD
  rw [tw_times]
  simp only [sumL]
  omega
theorem tw_cost (k x y : Int) : costD (twP k x y) = k * (x + y) := by
  unfold costD
  rw [tw_times]
  simp [costs, twP, sumL, Int.mul_add]
theorem tw_check {k x y : Int} (hk : 1 ≤ k ∧ k ≤ 32) (hx : 1 ≤ x ∧ x ≤ 1000) (hy : 1 ≤ y ∧ y ≤ 1000) : checkP (twP k x y) = (0, 0) := by
  unfold checkP
  rw [if_neg (by simp [twP]), all_each _ 0 (tw_all hk hx hy), if_pos rfl, tw_ord, if_pos rfl, tw_steps, if_neg (by omega)]
theorem tw_bal (k x y : Int) : Bal 3 0 0 (twP k x y) (rep k.toNat (twB x y)) := by
  have h := Bal.loop (d := 2) (m := 0) (m' := 0) (o := ⟨8, k, 0, 0, []⟩) (e := ⟨9, 0, 0, 0, []⟩) (b := twB x y) (g := twB x y) (p := []) (f := []) rfl rfl
    (.one (m1 := 0) (by simp) (by simp) rfl (.one (m1 := 8) (by simp) (by simp) rfl (.one (m1 := 8) (by simp) (by simp) rfl (.one (m1 := 0) (by simp) (by simp) rfl (.nil _ _))))) (.nil _ _)
  rw [List.append_nil] at h
  exact h
theorem rep_cons (n : Nat) (g : List OpD) : rep (n + 1) g = g ++ rep n g := by
  unfold rep
  rw [List.replicate_succ, List.flatten_cons]
theorem tw_sec3 {x y : Int} (hy : 0 ≤ y) : ∀ (R : Nat) (m c : Int), 0 ≤ m → m ≤ y → secGo 3 m c (rep R (twB x y)) = if R = 0 then m else y
  | 0, m, c, _, _ => by simp [rep, secGo]
  | R + 1, m, c, h0, h1 => by
    rw [rep_cons, if_neg (by omega)]
    have h : secGo 3 m c (twB x y ++ rep R (twB x y)) = secGo 3 (max m (0 + y)) (0 + y) (rep R (twB x y)) := by simp [twB, secGo]
    rw [h, show max m (0 + y) = y by omega, tw_sec3 hy R y (0 + y) hy (Int.le_refl _)]
    split <;> rfl
theorem tw_sec2 {x y : Int} : ∀ (R : Nat) (c : Int), secGo 2 0 c (rep R (twB x y)) = 0
  | 0, c => by simp [rep, secGo]
  | R + 1, c => by
    rw [rep_cons]
    have h : secGo 2 0 c (twB x y ++ rep R (twB x y)) = secGo 2 0 (c + x + y) (rep R (twB x y)) := by simp [twB, secGo]
    rw [h, tw_sec2 R]
theorem tw_m0 (k x y : Int) : matchD (twP k x y) 0 = 5 := rfl
theorem tw_m5 (k x y : Int) : matchD (twP k x y) 5 = 0 := rfl
theorem tw_get {x y : Int} : ∀ (R i : Nat) (o : OpD), (rep R (twB x y))[i]? = some o → (twB x y)[i % 4]? = some o
  | 0, i, o, h => by simp [rep] at h
  | R + 1, i, o, h => by
    rw [rep_cons] at h
    by_cases hi : i < 4
    · rw [List.getElem?_append_left (by simpa [twB] using hi)] at h
      rw [Nat.mod_eq_of_lt hi]
      exact h
    · rw [List.getElem?_append_right (by simp [twB]; omega)] at h
      have := tw_get R (i - 4) o (by simpa [twB] using h)
      rw [show i % 4 = (i - 4) % 4 by omega]
      exact this
end Go.Proofs.YtohokkdlehahnaaDoor
