/- A run in loops within one another: what it is, as plain data. -/
import Derived.Test.YtockpcoegdaipaaDoorCst
import Derived.Test.YtockpcoegdaipaaDoorMat
namespace Go.Proofs.YtockpcoegdaipaaDoor

/-- The outermost loop first. -/
def nst (x : Int) : List Int → List OpD
  | [] => [⟨1, x, 0, 0, []⟩]
  | k :: r => ⟨8, k, 0, 0, []⟩ :: (nst x r ++ [⟨9, 0, 0, 0, []⟩])
def prodL : List Int → Int
  | [] => 1
  | k :: r => prodL r * k
theorem nst_len (x : Int) : ∀ ks : List Int, (nst x ks).length = 1 + 2 * ks.length
  | [] => rfl
  | k :: r => by
    have := nst_len x r
    simp [nst]
    omega
theorem nst_nil (x : Int) : ∀ ks : List Int, ∀ o ∈ nst x ks, o.cases = []
  | [], o, ho => by simp [nst] at ho; subst ho; rfl
  | k :: r, o, ho => by
    simp [nst] at ho
    rcases ho with rfl | ho | rfl
    · rfl
    · exact nst_nil x r o ho
    · rfl
theorem nrun {x : Int} (h0 : 1 ≤ x) (h1 : x ≤ 1000) : checkD ⟨1, x, 0, 0, []⟩ = 0 := by
  unfold checkD
  rw [if_pos (show isKindB (OpD.mk 1 x 0 0 []).kind = true from rfl), if_pos (by simp [takesB, shapeOf]; omega)]
  rfl
theorem nloop {k : Int} (h0 : 1 ≤ k) (h1 : k ≤ 32) : checkD ⟨8, k, 0, 0, []⟩ = 0 := by
  unfold checkD
  rw [if_pos (show isKindB (OpD.mk 8 k 0 0 []).kind = true from rfl), if_pos (by simp [takesB, shapeOf]; omega)]
  rfl
theorem nst_all {x : Int} (hx : 1 ≤ x ∧ x ≤ 1000) : ∀ ks : List Int, (∀ k ∈ ks, 1 ≤ k ∧ k ≤ 32) → ∀ o ∈ nst x ks, checkD o = 0
  | [], _, o, ho => by simp [nst] at ho; subst ho; exact nrun hx.1 hx.2
  | k :: r, hk, o, ho => by
    simp [nst] at ho
    rcases ho with rfl | ho | rfl
    · exact nloop (hk k (by simp)).1 (hk k (by simp)).2
    · exact nst_all hx r (fun q hq => hk q (by simp [hq])) o ho
    · decide +kernel
theorem prod_bd : ∀ ks : List Int, (∀ k ∈ ks, 1 ≤ k ∧ k ≤ 32) → ks.length ≤ 6 → 1 ≤ prodL ks ∧ prodL ks ≤ 32 ^ ks.length
  | [], _, _ => by simp [prodL]
  | k :: r, hk, hl => by
    have h1 := prod_bd r (fun q hq => hk q (by simp [hq])) (by simp at hl; omega)
    have h2 := hk k (by simp)
    rw [prodL, List.length_cons, Int.pow_succ]
    refine ⟨?_, Int.mul_le_mul h1.2 h2.2 (by omega) (by omega)⟩
    have := Int.mul_le_mul h1.1 h2.1 (by omega) (by omega)
    omega
theorem pow_bd : ∀ n : Nat, n ≤ 6 → (32 : Int) ^ n ≤ 1073741824
  | 0, _ => by decide
  | 1, _ => by decide
  | 2, _ => by decide
  | 3, _ => by decide
  | 4, _ => by decide
  | 5, _ => by decide
  | 6, _ => by decide
  | _ + 7, h => by omega
theorem nst_bal (x : Int) : ∀ (ks : List Int) (d : Nat), ks.length ≤ d → (∀ k ∈ ks, 1 ≤ k) → ∃ f, Bal d 0 0 (nst x ks) f ∧ (f.length : Int) = prodL ks ∧ costF f = prodL ks * x
  | [], d, _, _ => ⟨[⟨1, x, 0, 0, []⟩], .one (m1 := 0) (by simp) (by simp) rfl (.nil _ _), by simp [prodL], by simp [costF, prodL]⟩
  | k :: r, 0, h, _ => by simp at h
  | k :: r, d + 1, h, hk => by
    obtain ⟨g, hb, hl, hc⟩ := nst_bal x r d (by simpa using h) (fun q hq => hk q (by simp [hq]))
    have h1 := hk k (by simp)
    obtain ⟨K, hK⟩ : ∃ K : Nat, k = (K : Int) := ⟨k.toNat, by omega⟩
    have hb2 := Bal.loop (d := d) (m := 0) (m' := 0) (o := ⟨8, k, 0, 0, []⟩) (e := ⟨9, 0, 0, 0, []⟩) (b := nst x r) (g := g) (p := []) (f := []) rfl rfl hb (.nil _ _)
    refine ⟨_, hb2, ?_, ?_⟩
    · rw [List.append_nil, rep_len, prodL, ← hl, hK]
      simp [Int.mul_comm]
    · rw [List.append_nil, costF_rep, hc, prodL, hK]
      simp [Int.mul_comm, Int.mul_left_comm]
theorem nst_ord (x : Int) : ∀ ks : List Int, ks.length ≤ 3 → ordGo 0 0 [] (nst x ks) = (0, 0)
  | [], _ => rfl
  | [_], _ => rfl
  | [_, _], _ => rfl
  | [_, _, _], _ => rfl
  | _ :: _ :: _ :: _ :: _, h => by simp at h
theorem nst_deep (x : Int) : ∀ ks : List Int, 3 < ks.length → ks.length ≤ 6 → ordGo 0 0 [] (nst x ks) = (3, 11)
  | [], h, _ => by simp at h
  | [_], h, _ => by simp at h
  | [_, _], h, _ => by simp at h
  | [_, _, _], h, _ => by simp at h
  | [_, _, _, _], _, _ => rfl
  | [_, _, _, _, _], _, _ => rfl
  | [_, _, _, _, _, _], _, _ => rfl
  | _ :: _ :: _ :: _ :: _ :: _ :: _ :: _, _, h => by simp at h
theorem nst_match (x : Int) : ∀ ks : List Int, ks.length ≤ 3 → ks ≠ [] → matchD (nst x ks) 0 = 2 * (ks.length : Int)
  | [], _, h => absurd rfl h
  | [_], _, _ => rfl
  | [_, _], _, _ => rfl
  | [_, _, _], _, _ => rfl
  | _ :: _ :: _ :: _ :: _, h, _ => by simp at h
/-- What Check tells of it. -/
def nstE (ks : List Int) : Int := if 3 < ks.length then 11 else if 512 < prodL ks then 4 else 0
theorem nst_check {x : Int} (hx : 1 ≤ x ∧ x ≤ 1000) (ks : List Int) (hk : ∀ k ∈ ks, 1 ≤ k ∧ k ≤ 32) (hl : ks.length ≤ 6) : (checkP (nst x ks)).2 = nstE ks := by
  unfold checkP nstE
  rw [if_neg (by rw [nst_len]; omega), all_each _ 0 (nst_all hx ks hk), if_pos rfl]
  by_cases h3 : 3 < ks.length
  · rw [if_pos h3, nst_deep x ks h3 hl]
    rfl
  · rw [if_neg h3, nst_ord x ks (by omega), if_pos rfl]
    obtain ⟨f, hb, hf, _⟩ := nst_bal x ks 3 (by omega) (fun k h => (hk k h).1)
    rw [steps_len hb (nst_all hx ks hk), hf]
    split <;> rfl
/-- Where it may be: its cost, its steps. -/
theorem nst_good {x : Int} (hx : 1 ≤ x ∧ x ≤ 1000) (ks : List Int) (hk : ∀ k ∈ ks, 1 ≤ k ∧ k ≤ 32) (hl : ks.length ≤ 3) : runM 0 [] (nst x ks) = some (0, []) ∧ costD (nst x ks) = prodL ks * x ∧ stepsD (nst x ks) = prodL ks := by
  obtain ⟨f, hb, hf, hc⟩ := nst_bal x ks 3 hl (fun k h => (hk k h).1)
  refine ⟨run_of_ord (by rw [nst_ord x ks hl]), ?_, ?_⟩
  · rw [cost_len hb (nst_all hx ks hk), hc]
  · rw [steps_len hb (nst_all hx ks hk), hf]
/-- The rounds of each loop. -/
def rnds (l : List Int) : List Int := l.map fun b => 1 + b % 32
theorem rnds_bd (l : List Int) : ∀ k ∈ (rnds l).reverse, 1 ≤ k ∧ k ≤ 32 := by
  intro k hk
  simp [rnds] at hk
  obtain ⟨b, _, rfl⟩ := hk
  omega
theorem rnds_next (l : List Int) (j : Nat) (b : Int) (h : l[j]? = some b) : (rnds (l.take (j + 1))).reverse = (1 + b % 32) :: (rnds (l.take j)).reverse := by
  rw [List.take_add_one, h]
  simp [rnds]
theorem rnds_len (l : List Int) : (rnds l).reverse.length = l.length := by simp [rnds]
end Go.Proofs.YtockpcoegdaipaaDoor
