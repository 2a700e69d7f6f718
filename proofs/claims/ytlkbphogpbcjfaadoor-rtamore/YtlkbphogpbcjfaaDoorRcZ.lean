/- How great the numbers of the reference's CheckProg are; its state in memory. The reference's CheckProg. The reference's CheckProg, of any ops. -/
import Derived.Test.YtlkbphogpbcjfaaDoorRcA
import Derived.Test.YtlkbphogpbcjfaaDoorRCk
import Derived.Test.YtlkbphogpbcjfaaDoorPgA
namespace Go.Proofs.YtlkbphogpbcjfaaDoor
open Go.RowKit

def Bnd (j : Nat) (s : StR) : Prop := ∃ ts, mulOk s.st ts ∧ 0 ≤ s.steps ∧ (∀ f ∈ s.st, 1 ≤ f.2.1 ∧ f.2.1 ≤ 32 ∧ 0 ≤ f.2.2) ∧ tot s.steps s.st ts ≤ 32768 * (j : Int)
theorem mul_bd : ∀ (st : List (List Int × Int × Int)) (t : Int) (r : List Int), mulOk st (t :: r) → (∀ f ∈ st, 1 ≤ f.2.1 ∧ f.2.1 ≤ 32) → 1 ≤ t ∧ t ≤ 32 ^ st.length
  | [], t, r, h, _ => by
    cases r with
    | nil => simp only [mulOk] at h; subst h; simp
    | cons u us => exact h.elim
  | (hh, N, was) :: st, t, r, h, hf => by
    cases r with
    | nil => exact h.elim
    | cons u us =>
      obtain ⟨e, h2⟩ := h
      have ih := mul_bd st u us h2 (fun f hm => hf f (by simp [hm]))
      have hN := hf (hh, N, was) (by simp)
      simp only at hN
      subst e
      rw [List.length_cons, Int.pow_succ]
      refine ⟨?_, Int.mul_le_mul ih.2 hN.2 (by omega) (by omega)⟩
      have := Int.mul_le_mul ih.1 hN.1 (by omega) (by omega)
      omega
theorem tot_bd2 : ∀ (st : List (List Int × Int × Int)) (steps : Int) (ts : List Int), mulOk st ts → 0 ≤ steps → (∀ f ∈ st, 1 ≤ f.2.1 ∧ f.2.1 ≤ 32 ∧ 0 ≤ f.2.2) → steps ≤ tot steps st ts ∧ ∀ f ∈ st, f.2.2 ≤ tot steps st ts
  | [], steps, ts, h, h0, _ => by
    obtain ⟨t, r, rfl⟩ := mul_cons h
    have hb := mul_bd [] t r h (fun f hf => by cases hf)
    have : 1 * steps ≤ t * steps := Int.mul_le_mul_of_nonneg_right hb.1 h0
    simp only [tot]
    exact ⟨by omega, fun f hf => by cases hf⟩
  | (hh, N, was) :: st, steps, ts, h, h0, hf => by
    obtain ⟨t, r, rfl⟩ := mul_cons h
    have hb := mul_bd _ t r h (fun f hm => ⟨(hf f hm).1, (hf f hm).2.1⟩)
    have h1 : 1 * steps ≤ t * steps := Int.mul_le_mul_of_nonneg_right hb.1 h0
    cases r with
    | nil => exact h.elim
    | cons u us =>
      have hw := hf (hh, N, was) (by simp)
      simp only at hw
      have ih := tot_bd2 st was (u :: us) h.2 hw.2.2 (fun f hm => hf f (by simp [hm]))
      simp only [tot]
      refine ⟨by omega, fun f hm => ?_⟩
      rcases List.mem_cons.1 hm with rfl | hm
      · simp only; omega
      · have := ih.2 f hm; omega
theorem loop_n2 {o : OpD} (hk : o.kind = 8) (h : checkD o = 0) : 1 ≤ o.n ∧ o.n ≤ 32 := by
  obtain ⟨k, n, v, wt, l⟩ := o
  have ht := (taken_of h).takes
  simp only at hk
  subst hk
  simp [takesB, shapeOf] at ht
  simp only
  omega
theorem bnd_step {j : Nat} {s s' : StR} {o : OpD} (h : Bnd j s) (hl : s.st.length ≤ 3) (ho : checkD o = 0) (hr : rStep s o = some s') : Bnd (j + 1) s' := by
  obtain ⟨ts, hm, h0, hf, ht⟩ := h
  obtain ⟨rl, st, steps⟩ := s
  obtain ⟨t, tr, rfl⟩ := mul_cons hm
  simp only at hm h0 hf ht hl hr
  have hb := mul_bd st t tr hm (fun f hq => ⟨(hf f hq).1, (hf f hq).2.1⟩)
  have hp : (32 : Int) ^ st.length ≤ 32768 := by
    rcases Nat.lt_or_ge st.length 3 with h3 | h3
    · have hcase : st.length = 0 ∨ st.length = 1 ∨ st.length = 2 := by omega
      rcases hcase with e | e | e <;> rw [e] <;> decide
    · rw [show st.length = 3 by omega]; decide
  unfold rStep at hr
  by_cases k8 : o.kind = 8
  · have hn := loop_n2 k8 ho
    rw [if_pos k8] at hr
    split at hr
    · cases hr
    · cases hr
      refine ⟨(t * o.n) :: t :: tr, ⟨rfl, hm⟩, by simp, fun f hq => ?_, by simp [tot]; omega⟩
      rcases List.mem_cons.1 hq with rfl | hq
      · exact ⟨hn.1, hn.2, h0⟩
      · exact hf f hq
  · rw [if_neg k8] at hr
    by_cases k9 : o.kind = 9
    · rw [if_pos k9] at hr
      match st, hm, hr, hf, ht with
      | (h, N, was) :: st', hm, hr, hf, ht =>
        match tr, hm, ht with
        | u :: us, hm, ht =>
          simp only at hr
          split at hr
          · cases hr
            have hw := hf (h, N, was) (by simp)
            simp only at hw
            obtain ⟨e1, hm2⟩ := hm
            have hns : 0 ≤ N * steps := Int.mul_nonneg (by omega) h0
            refine ⟨u :: us, hm2, by simp only; omega, fun f hq => hf f (by simp [hq]), ?_⟩
            simp only [tot] at ht
            simp only
            rw [tot_add]
            rw [e1, Int.mul_assoc] at ht
            omega
          · cases hr
    · rw [if_neg k9] at hr
      have hplain : s'.st = st ∧ s'.steps = steps + 1 := by
        split at hr
        · split at hr
          · cases hr; exact ⟨rfl, rfl⟩
          · split at hr
            · cases hr
            · cases hr; exact ⟨rfl, rfl⟩
        · split at hr
          · split at hr
            · cases hr
            · split at hr
              · cases hr; exact ⟨rfl, rfl⟩
              · cases hr
          · split at hr
            · cases hr
            · cases hr; exact ⟨rfl, rfl⟩
      refine ⟨t :: tr, by rw [hplain.1]; exact hm, by rw [hplain.2]; omega, by rw [hplain.1]; exact hf, ?_⟩
      rw [hplain.1, hplain.2, tot_add]
      have : 32768 * ((j + 1 : Nat) : Int) = 32768 * (j : Int) + 32768 := by omega
      omega
end Go.Proofs.YtlkbphogpbcjfaaDoor
namespace Go.Proofs.YtlkbphogpbcjfaaDoor
open Go.RowKit

theorem rev_last (k : Int) (r : List Int) : (k :: r).reverse[r.length]? = some k := by
  rw [List.reverse_cons, List.getElem?_append_right (by simp)]
  simp
end Go.Proofs.YtlkbphogpbcjfaaDoor
namespace Go.Proofs.YtlkbphogpbcjfaaDoor
open Go.RowKit

end Go.Proofs.YtlkbphogpbcjfaaDoor
