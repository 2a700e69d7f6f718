/- unroll. -/
import Derived.Test.YtockpcoegdaipabDoorCop
import Derived.Test.YtockpcoegdaipabDoorMat
import Derived.Test.YtockpcoegdaipabDoorTim2
namespace Go.Proofs.YtockpcoegdaipabDoor
open Go.RowKit

theorem fwd_bal {d m m' : Nat} {b g : List OpD} (h : Bal d m m' b g) : ∀ (D : Int) (i : Nat) (r : List OpD), 1 ≤ D → fwdGo D i (b ++ r) = fwdGo D (i + b.length) r := by
  induction h with
  | nil => intro D i r _; simp
  | @one d m m1 m' o p f h8 h9 _ _ ih =>
    intro D i r hD
    rw [List.cons_append, fwdGo, show dK o = 0 by unfold dK; rw [if_neg h8, if_neg h9], if_neg (by omega), Int.add_zero, ih D (i + 1) r hD]
    congr 1
    simp
    omega
  | @loop d m m' o e b g p f h8 h9 _ _ ihb ihp =>
    intro D i r hD
    rw [List.cons_append, fwdGo, show dK o = 1 by unfold dK; rw [if_pos h8], if_neg (by omega), List.append_assoc, ihb (D + 1) (i + 1) _ (by omega), List.cons_append, fwdGo, show dK e = -1 by unfold dK; rw [if_neg (by omega), if_pos h9], if_neg (by omega), show D + 1 + -1 = D by omega, ihp D _ r hD]
    congr 1
    simp
    omega
theorem match_bal {d m m' : Nat} {p b g q : List OpD} {o e : OpD} {j : Nat} (hb : Bal d m m' b g) (h8 : o.kind = 8) (h9 : e.kind = 9) (hd : p.drop j = o :: (b ++ e :: q)) : matchD p (j : Int) = ((j + 1 + b.length : Nat) : Int) := by
  have hj : j < p.length := by
    rcases Nat.lt_or_ge j p.length with h | h
    · exact h
    · rw [List.drop_eq_nil_of_le h] at hd; cases hd
  have hpj : p[j]? = some o := by
    rw [List.getElem?_eq_getElem hj]
    rw [List.drop_eq_getElem_cons hj] at hd
    rw [(List.cons.inj hd).1]
  unfold matchD
  rw [if_neg (by omega), show (j : Int).toNat = j from rfl, hpj]
  simp only
  rw [if_pos h8, hd, fwdGo, show dK o = 1 by unfold dK; rw [if_pos h8], if_neg (by omega), fwd_bal hb _ _ _ (by omega), fwdGo, show dK e = -1 by unfold dK; rw [if_neg (by omega), if_pos h9], if_pos (by omega)]
theorem wrap_at (q : Nat) (h : q ≤ 1000000) : ∀ z : Int, z = (q : Int) → IntKind.i64.wrap z = z := by
  intro z hz
  simp [IntKind.wrap, IntKind.bits, IntKind.signed]
  omega
theorem rep_succ (n : Nat) (g : List OpD) : rep (n + 1) g = rep n g ++ g := by
  unfold rep
  rw [List.replicate_succ', List.flatten_append]
  simp
theorem rep_one (g : List OpD) : rep 1 g = g := by simp [rep]
theorem rep_len (n : Nat) (g : List OpD) : (rep n g).length = n * g.length := by
  unfold rep
  simp
theorem op_few {o : OpD} (h : checkD o = 0) : o.cases.length ≤ 1000000 := by
  have ht := taken_of h
  rcases kind_cases ht.kind with hk | hk | hk | hk | hk | hk | hk | hk | hk
  all_goals
    first
    | (have := ht.many (by rw [hk]; rfl)
       omega)
    | (have hz := ht.takes
       rw [hk] at hz
       simp [takesB, shapeOf] at hz
       simp [hz])
/-- What there is in the midst of the rounds: done has i rounds more; only blocks of S have turned since w3. -/
structure Rd (w w3 wr : World) (S : Nat → Prop) (vj : Value) (p : List OpD) : Prop where
  row : ∃ svs, ORow w.heap.size wr vj p svs
  own : ∀ q, vj.ownBlock = some q → S q
  trn : Turns S w3 wr
theorem Rd.next {w w3 wr w5 : World} {S : Nat → Prop} {vj v : Value} {p p' : List OpD} (h : Rd w w3 wr S vj p) (hS : ∀ q, w3.heap.size ≤ q → S q) (r : ∃ svs, ORow w.heap.size w5 v p' svs) (ho : v.ownBlock = vj.ownBlock ∨ ∀ q, v.ownBlock = some q → wr.heap.size ≤ q) (t : Turns (fun k => vj.ownBlock = some k) wr w5) : Rd w w3 w5 S v p' := by
  refine ⟨r, fun q hq => ?_, h.trn.next t (fun i _ hi => h.own i hi)⟩
  rcases ho with ho | ho
  · rw [ho] at hq; exact h.own q hq
  · have := ho q hq
    have := h.trn.size
    exact hS q (by omega)
theorem Rd.src {w w3 wr : World} {S : Nat → Prop} {vj : Value} {p : List OpD} (h : Rd w w3 wr S vj p) {a : Option Addr} {r : List OpD} (hs : ∀ w', Turns S w3 w' → AtP w' a r) : ∀ w', Turns (fun k => vj.ownBlock = some k) wr w' → AtP w' a r := fun w' t => hs w' (h.trn.next t (fun i _ hi => h.own i hi))

theorem bal_nil {d m m' : Nat} {f : List OpD} (h : Bal d m m' [] f) : f = [] ∧ m = m' := by cases h; exact ⟨rfl, rfl⟩
theorem bal_cons {d m m' : Nat} {o : OpD} {p f : List OpD} (h : Bal d m m' (o :: p) f) : (o.kind ≠ 8 ∧ o.kind ≠ 9 ∧ ∃ m1 f', f = o :: f' ∧ Bal d m1 m' p f') ∨ (o.kind = 8 ∧ ∃ d' b g e q f', d = d' + 1 ∧ p = b ++ e :: q ∧ e.kind = 9 ∧ f = rep o.n.toNat g ++ f' ∧ Bal d' m m b g ∧ Bal d m m' q f') := by
  cases h with
  | one h8 h9 ht hp => exact .inl ⟨h8, h9, _, _, rfl, hp⟩
  | loop h8 h9 hb hp => exact .inr ⟨h8, _, _, _, _, _, _, rfl, rfl, h9, rfl, hb, hp⟩

end Go.Proofs.YtockpcoegdaipabDoor
