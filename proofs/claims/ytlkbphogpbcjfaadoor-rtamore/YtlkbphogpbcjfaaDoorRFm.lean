/- Rows of the reference's ops; how they grow. The reference's Flat. -/
import Derived.Test.YtlkbphogpbcjfaaDoorRMt
import Derived.Test.YtlkbphogpbcjfaaDoorApp2
namespace Go.Proofs.YtlkbphogpbcjfaaDoor
open Go.RowKit

/-- Each op is one of p's, with its own cases. -/
def CSp (w : World) (a : Option Addr) (p : List OpD) (F : List OpD) (svs : List Value) : Prop := ∀ (j : Nat) (o : OpD) (sv : Value), F[j]? = some o → svs[j]? = some sv → ∃ i b f0, p[i]? = some o ∧ a = some ⟨b, f0, none⟩ ∧ w.cell? ⟨b, f0 + i * 5 + 4, none⟩ = some sv
theorem CSp.app {w : World} {a : Option Addr} {p F G : List OpD} {s t : List Value} (h1 : CSp w a p F s) (h2 : CSp w a p G t) (hl : s.length = F.length) : CSp w a p (F ++ G) (s ++ t) := by
  intro j o sv hj hs
  by_cases hjF : j < F.length
  · rw [List.getElem?_append_left hjF] at hj
    rw [List.getElem?_append_left (by omega)] at hs
    exact h1 j o sv hj hs
  · rw [List.getElem?_append_right (by omega)] at hj
    rw [List.getElem?_append_right (by omega), hl] at hs
    exact h2 _ o sv hj hs
theorem CSp.sub {w wo : World} {b f0 : Nat} {p bb qq gg : List OpD} {svs : List Value} {j : Nat} (hA : AtP w (some ⟨b, f0, none⟩) p) (K : Kept w wo) (hp : p.drop (j + 1) = bb ++ qq) (h : CSp wo (some ⟨b, f0 + (j + 1) * 5, none⟩) bb gg svs) : CSp w (some ⟨b, f0, none⟩) p gg svs := by
  intro q o sv hq hs
  obtain ⟨i, b', f', hi, e, hc⟩ := h q o sv hq hs
  cases e
  have hil := (List.getElem?_eq_some_iff.1 hi).1
  have hpi : p[j + 1 + i]? = some o := by
    rw [← List.getElem?_drop, hp, List.getElem?_append_left hil]
    exact hi
  obtain ⟨b2, f2, e2, ho⟩ := hA (j + 1 + i) o hpi
  cases e2
  obtain ⟨ca, cc, h1, _⟩ := ho.cs
  have h1' := K.cell h1
  rw [show f0 + (j + 1 + i) * 5 + 4 = f0 + (j + 1) * 5 + i * 5 + 4 by omega] at h1 h1'
  rw [hc] at h1'
  refine ⟨j + 1 + i, b, f0, hpi, rfl, ?_⟩
  rw [show f0 + (j + 1 + i) * 5 + 4 = f0 + (j + 1) * 5 + i * 5 + 4 by omega, h1, h1']
theorem csp_one {w : World} {a : Option Addr} {p F : List OpD} {svs : List Value} (hA : AtP w a p) (h : CSp w a p F svs) : ∀ sv ∈ svs, (∃ j, j < F.length ∧ svs[j]? = some sv) → sv.oneCell' = true := by
  intro sv _ ⟨j, hj, hs⟩
  obtain ⟨i, b, f0, hi, e, hc⟩ := h j F[j] sv (List.getElem?_eq_getElem hj) hs
  subst e
  obtain ⟨b2, f2, e2, ho⟩ := hA i _ hi
  cases e2
  obtain ⟨ca, cc, h1, _⟩ := ho.cs
  rw [hc] at h1
  cases h1
  rfl
end Go.Proofs.YtlkbphogpbcjfaaDoor
namespace Go.Proofs.YtlkbphogpbcjfaaDoor
open Go.RowKit

theorem csp_ones {w : World} {a : Option Addr} {p F : List OpD} {svs : List Value} (hA : AtP w a p) (h : CSp w a p F svs) (hl : svs.length = F.length) : ∀ sv ∈ svs, sv.oneCell' = true := by
  intro sv hs
  obtain ⟨j, hj, e⟩ := List.getElem_of_mem hs
  exact csp_one hA h sv hs ⟨j, by omega, by rw [List.getElem?_eq_getElem hj, e]⟩
theorem rep_nilg (i : Nat) : rep i [] = [] := by unfold rep; simp
end Go.Proofs.YtlkbphogpbcjfaaDoor
