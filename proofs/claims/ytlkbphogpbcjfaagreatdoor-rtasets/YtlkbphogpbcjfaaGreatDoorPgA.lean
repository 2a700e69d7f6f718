/- Match. takes, checkCases, Check. checkCases. Check and Waits. isAboveAll, isLast, isOpen; a program's state in memory. Waits, of the program and of the reference. takes. takes: Loop, End, the others; all of it. checkEach, checkOrder. times: how often each op is done. times, walked. unroll. Steps, Cost, Check. Flat, Section, Waits. What a program costs, by all that is done. Programs in order, one behind the other. Sets as plain data: what is wrong with one. No program of Go's is named here. Waits, of a program. Channels and tasks in memory; word.Name. -/
import Derived.Test.YtlkbphogpbcjfaaGreatDoorCaA
import Derived.Deep.LoopGhost
import Derived.Test.YtlkbphogpbcjfaaGreatDoorPuA
import Derived.Test.YtlkbphogpbcjfaaGreatDoorHld
import Derived.OwnWalk
import Derived.Test.YtlkbphogpbcjfaaGreatDoorCop
namespace Go.Proofs.YtlkbphogpbcjfaaGreatDoor
open Go.RowKit

def dK (o : OpD) : Int := if o.kind = 8 then 1 else if o.kind = 9 then -1 else 0
theorem dK_bd (o : OpD) : -1 ≤ dK o ∧ dK o ≤ 1 := by unfold dK; split <;> (try split) <;> omega
def fwdGo (d : Int) (i : Nat) : List OpD → Int
  | [] => -1
  | o :: r => if d + dK o = 0 then (i : Int) else fwdGo (d + dK o) (i + 1) r
/-- Backwards: the op at place i first. -/
def bwdGo (d : Int) (i : Int) : List OpD → Int
  | [] => -1
  | o :: r => if d + dK o = 0 then i else bwdGo (d + dK o) (i - 1) r
def matchD (p : List OpD) (i : Int) : Int :=
  if i < 0 ∨ (p.length : Int) ≤ i then -1 else
  match p[i.toNat]? with
  | none => -1
  | some o => if o.kind = 8 then fwdGo 0 i.toNat (p.drop i.toNat) else if o.kind = 9 then bwdGo 0 i (p.take (i.toNat + 1)).reverse else -1

theorem dK8 {n v wt : Int} {l : List CaseD} : dK ⟨8, n, v, wt, l⟩ = 1 := rfl
theorem dK9 {n v wt : Int} {l : List CaseD} : dK ⟨9, n, v, wt, l⟩ = -1 := rfl
theorem dKo {k n v wt : Int} {l : List CaseD} (h8 : k ≠ 8) (h9 : k ≠ 9) : dK ⟨k, n, v, wt, l⟩ = 0 := by unfold dK; rw [if_neg h8, if_neg h9]
theorem take_rev {p : List OpD} {j : Nat} {o : OpD} (h : p[j]? = some o) : (p.take (j + 1)).reverse = o :: (p.take j).reverse := by
  rw [List.take_add_one, h]
  simp
end Go.Proofs.YtlkbphogpbcjfaaGreatDoor
namespace Go.Proofs.YtlkbphogpbcjfaaGreatDoor
open Go.RowKit

theorem ret_bool {x y : Bool} (h : x = y) : Ending.returned (.bool x) = Ending.returned (.bool y) := by rw [h]
theorem ret_int {x y : Int} (h : x = y) : Ending.returned (.int .i64 x) = Ending.returned (.int .i64 y) := by rw [h]

end Go.Proofs.YtlkbphogpbcjfaaGreatDoor
namespace Go.Proofs.YtlkbphogpbcjfaaGreatDoor
open Go.RowKit

theorem casesE_bad {seen r : List CaseD} {c : CaseD} (h : badC c = true) : casesE seen (c :: r) = 1 := by rw [casesE, if_pos h]
theorem casesE_twice {seen r : List CaseD} {c : CaseD} (h : badC c = false) (h2 : hasC seen c.chan = true) : casesE seen (c :: r) = 6 := by rw [casesE, if_neg (by rw [h]; decide), if_pos h2]
theorem casesE_next {seen r : List CaseD} {c : CaseD} (h : badC c = false) (h2 : hasC seen c.chan = false) : casesE seen (c :: r) = casesE (seen ++ [c]) r := by rw [casesE, if_neg (by rw [h]; decide), if_neg (by rw [h2]; decide)]
theorem hasC_snoc (l : List CaseD) (d : CaseD) (ch : Int) : hasC (l ++ [d]) ch = (hasC l ch || d.chan == ch) := by simp [hasC]
theorem hasC_mem {l : List CaseD} {j : Nat} {d : CaseD} {ch : Int} {k : Nat} (h : l[j]? = some d) (hj : j < k) (he : d.chan = ch) : hasC (l.take k) ch = true := by
  unfold hasC
  rw [List.any_eq_true]
  refine ⟨d, ?_, by simp [he]⟩
  exact List.mem_of_getElem? (i := j) (by rw [List.getElem?_take, if_pos hj, h])

end Go.Proofs.YtlkbphogpbcjfaaGreatDoor
namespace Go.Proofs.YtlkbphogpbcjfaaGreatDoor
open Go.RowKit

theorem Rdy.k1 {w : World} (h : Rdy w) : w.cell? ⟨0, 7, none⟩ = some (.string (B [114, 117, 110])) ∧ w.cell? ⟨0, 8, none⟩ = some (.bool true) ∧ w.cell? ⟨0, 9, none⟩ = some (.bool false) ∧ w.cell? ⟨0, 10, none⟩ = some (.bool false) ∧ w.cell? ⟨0, 11, none⟩ = some (.bool false) ∧ w.cell? ⟨0, 12, none⟩ = some (.int .i64 1) ∧ w.cell? ⟨0, 13, none⟩ = some (.int .i64 1000) := by
  exact ⟨h.sh 1 (by decide) 0 _ rfl, h.sh 1 (by decide) 1 _ rfl, h.sh 1 (by decide) 2 _ rfl, h.sh 1 (by decide) 3 _ rfl, h.sh 1 (by decide) 4 _ rfl, h.sh 1 (by decide) 5 _ rfl, h.sh 1 (by decide) 6 _ rfl⟩
theorem Rdy.k2 {w : World} (h : Rdy w) : w.cell? ⟨0, 14, none⟩ = some (.string (B [108, 111, 99, 107])) ∧ w.cell? ⟨0, 15, none⟩ = some (.bool true) ∧ w.cell? ⟨0, 16, none⟩ = some (.bool false) ∧ w.cell? ⟨0, 17, none⟩ = some (.bool false) ∧ w.cell? ⟨0, 18, none⟩ = some (.bool false) ∧ w.cell? ⟨0, 19, none⟩ = some (.int .i64 0) ∧ w.cell? ⟨0, 20, none⟩ = some (.int .i64 7) := by
  exact ⟨h.sh 2 (by decide) 0 _ rfl, h.sh 2 (by decide) 1 _ rfl, h.sh 2 (by decide) 2 _ rfl, h.sh 2 (by decide) 3 _ rfl, h.sh 2 (by decide) 4 _ rfl, h.sh 2 (by decide) 5 _ rfl, h.sh 2 (by decide) 6 _ rfl⟩
theorem Rdy.k3 {w : World} (h : Rdy w) : w.cell? ⟨0, 21, none⟩ = some (.string (B [117, 110, 108, 111, 99, 107])) ∧ w.cell? ⟨0, 22, none⟩ = some (.bool true) ∧ w.cell? ⟨0, 23, none⟩ = some (.bool false) ∧ w.cell? ⟨0, 24, none⟩ = some (.bool false) ∧ w.cell? ⟨0, 25, none⟩ = some (.bool false) ∧ w.cell? ⟨0, 26, none⟩ = some (.int .i64 0) ∧ w.cell? ⟨0, 27, none⟩ = some (.int .i64 7) := by
  exact ⟨h.sh 3 (by decide) 0 _ rfl, h.sh 3 (by decide) 1 _ rfl, h.sh 3 (by decide) 2 _ rfl, h.sh 3 (by decide) 3 _ rfl, h.sh 3 (by decide) 4 _ rfl, h.sh 3 (by decide) 5 _ rfl, h.sh 3 (by decide) 6 _ rfl⟩
theorem Rdy.k4 {w : World} (h : Rdy w) : w.cell? ⟨0, 28, none⟩ = some (.string (B [115, 101, 110, 100])) ∧ w.cell? ⟨0, 29, none⟩ = some (.bool true) ∧ w.cell? ⟨0, 30, none⟩ = some (.bool true) ∧ w.cell? ⟨0, 31, none⟩ = some (.bool true) ∧ w.cell? ⟨0, 32, none⟩ = some (.bool false) ∧ w.cell? ⟨0, 33, none⟩ = some (.int .i64 0) ∧ w.cell? ⟨0, 34, none⟩ = some (.int .i64 7) := by
  exact ⟨h.sh 4 (by decide) 0 _ rfl, h.sh 4 (by decide) 1 _ rfl, h.sh 4 (by decide) 2 _ rfl, h.sh 4 (by decide) 3 _ rfl, h.sh 4 (by decide) 4 _ rfl, h.sh 4 (by decide) 5 _ rfl, h.sh 4 (by decide) 6 _ rfl⟩
theorem Rdy.k5 {w : World} (h : Rdy w) : w.cell? ⟨0, 35, none⟩ = some (.string (B [114, 101, 99, 118])) ∧ w.cell? ⟨0, 36, none⟩ = some (.bool true) ∧ w.cell? ⟨0, 37, none⟩ = some (.bool false) ∧ w.cell? ⟨0, 38, none⟩ = some (.bool true) ∧ w.cell? ⟨0, 39, none⟩ = some (.bool false) ∧ w.cell? ⟨0, 40, none⟩ = some (.int .i64 0) ∧ w.cell? ⟨0, 41, none⟩ = some (.int .i64 7) := by
  exact ⟨h.sh 5 (by decide) 0 _ rfl, h.sh 5 (by decide) 1 _ rfl, h.sh 5 (by decide) 2 _ rfl, h.sh 5 (by decide) 3 _ rfl, h.sh 5 (by decide) 4 _ rfl, h.sh 5 (by decide) 5 _ rfl, h.sh 5 (by decide) 6 _ rfl⟩
theorem Rdy.k6 {w : World} (h : Rdy w) : w.cell? ⟨0, 42, none⟩ = some (.string (B [99, 108, 111, 115, 101])) ∧ w.cell? ⟨0, 43, none⟩ = some (.bool true) ∧ w.cell? ⟨0, 44, none⟩ = some (.bool false) ∧ w.cell? ⟨0, 45, none⟩ = some (.bool false) ∧ w.cell? ⟨0, 46, none⟩ = some (.bool false) ∧ w.cell? ⟨0, 47, none⟩ = some (.int .i64 0) ∧ w.cell? ⟨0, 48, none⟩ = some (.int .i64 7) := by
  exact ⟨h.sh 6 (by decide) 0 _ rfl, h.sh 6 (by decide) 1 _ rfl, h.sh 6 (by decide) 2 _ rfl, h.sh 6 (by decide) 3 _ rfl, h.sh 6 (by decide) 4 _ rfl, h.sh 6 (by decide) 5 _ rfl, h.sh 6 (by decide) 6 _ rfl⟩
theorem Rdy.k7 {w : World} (h : Rdy w) : w.cell? ⟨0, 49, none⟩ = some (.string (B [115, 101, 108, 101, 99, 116])) ∧ w.cell? ⟨0, 50, none⟩ = some (.bool false) ∧ w.cell? ⟨0, 51, none⟩ = some (.bool false) ∧ w.cell? ⟨0, 52, none⟩ = some (.bool true) ∧ w.cell? ⟨0, 53, none⟩ = some (.bool true) ∧ w.cell? ⟨0, 54, none⟩ = some (.int .i64 0) ∧ w.cell? ⟨0, 55, none⟩ = some (.int .i64 0) := by
  exact ⟨h.sh 7 (by decide) 0 _ rfl, h.sh 7 (by decide) 1 _ rfl, h.sh 7 (by decide) 2 _ rfl, h.sh 7 (by decide) 3 _ rfl, h.sh 7 (by decide) 4 _ rfl, h.sh 7 (by decide) 5 _ rfl, h.sh 7 (by decide) 6 _ rfl⟩
theorem Rdy.k8 {w : World} (h : Rdy w) : w.cell? ⟨0, 56, none⟩ = some (.string (B [108, 111, 111, 112])) ∧ w.cell? ⟨0, 57, none⟩ = some (.bool true) ∧ w.cell? ⟨0, 58, none⟩ = some (.bool false) ∧ w.cell? ⟨0, 59, none⟩ = some (.bool false) ∧ w.cell? ⟨0, 60, none⟩ = some (.bool false) ∧ w.cell? ⟨0, 61, none⟩ = some (.int .i64 1) ∧ w.cell? ⟨0, 62, none⟩ = some (.int .i64 32) := by
  exact ⟨h.sh 8 (by decide) 0 _ rfl, h.sh 8 (by decide) 1 _ rfl, h.sh 8 (by decide) 2 _ rfl, h.sh 8 (by decide) 3 _ rfl, h.sh 8 (by decide) 4 _ rfl, h.sh 8 (by decide) 5 _ rfl, h.sh 8 (by decide) 6 _ rfl⟩
theorem Rdy.k9 {w : World} (h : Rdy w) : w.cell? ⟨0, 63, none⟩ = some (.string (B [101, 110, 100])) ∧ w.cell? ⟨0, 64, none⟩ = some (.bool false) ∧ w.cell? ⟨0, 65, none⟩ = some (.bool false) ∧ w.cell? ⟨0, 66, none⟩ = some (.bool false) ∧ w.cell? ⟨0, 67, none⟩ = some (.bool false) ∧ w.cell? ⟨0, 68, none⟩ = some (.int .i64 0) ∧ w.cell? ⟨0, 69, none⟩ = some (.int .i64 0) := by
  exact ⟨h.sh 9 (by decide) 0 _ rfl, h.sh 9 (by decide) 1 _ rfl, h.sh 9 (by decide) 2 _ rfl, h.sh 9 (by decide) 3 _ rfl, h.sh 9 (by decide) 4 _ rfl, h.sh 9 (by decide) 5 _ rfl, h.sh 9 (by decide) 6 _ rfl⟩
theorem Rdy.lt {w : World} (h : Rdy w) : 0 < w.heap.size := cell_lt h.k1.1

theorem check_no {k n v wt : Int} {l : List CaseD} (h : isKindB k = false) : checkD ⟨k, n, v, wt, l⟩ = 3 := by
  unfold checkD; rw [if_neg (by rw [h]; decide)]
theorem check_arg {k n v wt : Int} {l : List CaseD} (h : isKindB k = true) (ht : takesB (shapeOf k.toNat) n v wt l.length = false) : checkD ⟨k, n, v, wt, l⟩ = 1 := by
  unfold checkD; rw [if_pos h, if_neg (by rw [ht]; decide)]
theorem check_plain {k n v wt : Int} {l : List CaseD} (h : isKindB k = true) (ht : takesB (shapeOf k.toNat) n v wt l.length = true) (hp : (shapeOf k.toNat).picks = false) : checkD ⟨k, n, v, wt, l⟩ = casesE [] l := by
  unfold checkD; rw [if_pos h, if_pos ht, if_neg (by rw [hp]; simp)]
theorem check_many {k n v wt : Int} {l : List CaseD} (h : isKindB k = true) (ht : takesB (shapeOf k.toNat) n v wt l.length = true) (hp : (shapeOf k.toNat).picks = true) (hl : l.length = 0 ∨ 4 < l.length) : checkD ⟨k, n, v, wt, l⟩ = 18 := by
  unfold checkD; rw [if_pos h, if_pos ht, if_pos (by rw [hp]; simpa using hl)]
theorem check_pick {k n v wt : Int} {l : List CaseD} (h : isKindB k = true) (ht : takesB (shapeOf k.toNat) n v wt l.length = true) (hl : ¬ (l.length = 0 ∨ 4 < l.length)) : checkD ⟨k, n, v, wt, l⟩ = casesE [] l := by
  unfold checkD; rw [if_pos h, if_pos ht, if_neg (by intro hh; simp only [Bool.and_eq_true, Bool.or_eq_true, beq_iff_eq, decide_eq_true_eq] at hh; exact hl hh.2)]

end Go.Proofs.YtlkbphogpbcjfaaGreatDoor
namespace Go.Proofs.YtlkbphogpbcjfaaGreatDoor
open Go.RowKit

def lockV (x : Nat) : Value := .int .u64 x
end Go.Proofs.YtlkbphogpbcjfaaGreatDoor
namespace Go.Proofs.YtlkbphogpbcjfaaGreatDoor
open Go.RowKit

theorem waits_no {k n v wt : Int} {l : List CaseD} (h : isKindB k = false) : waitsD ⟨k, n, v, wt, l⟩ = false := by unfold waitsD; rw [h]; rfl
theorem rwaits_any (k n v wt : Int) (a : Option Addr) (m c : Nat) (l : List CaseD) (w : World) :
    Calls Tryz.prog 45 #[.agg #[.int .i64 k, .int .i64 n, .int .i64 v, .int .i64 wt, .slice a m c]] w fun e w' => e = .returned (.bool (waitsD ⟨k, n, v, wt, l⟩)) ∧ Kept w w' := by
  go_enter Tryz.func45, Tryz.ntmps45
  go_wp2_with fail
  all_goals (go_ret; refine ⟨?_, (Kept.refl w).alloc _⟩; refine ret_bool ?_)
  · rename_i h; subst h; rfl
  · rename_i h; subst h; rfl
  · rename_i h; subst h; rfl
  · rename_i h4 h5 h7
    unfold waitsD
    cases hk : isKindB k with
    | false => rfl
    | true => rcases kind_cases hk with rfl | rfl | rfl | rfl | rfl | rfl | rfl | rfl | rfl <;> first | rfl | (exact absurd rfl h4) | (exact absurd rfl h5) | (exact absurd rfl h7)
end Go.Proofs.YtlkbphogpbcjfaaGreatDoor
namespace Go.Proofs.YtlkbphogpbcjfaaGreatDoor
open Go.RowKit

theorem bits_or : ∀ k : Fin 8, ∀ m : Fin 256, m.1 < 2 ^ k.1 → bits BinOp.or IntKind.u64 (m.1 : Int) ((2 ^ k.1 : Nat) : Int) = ((m.1 + 2 ^ k.1 : Nat) : Int) := by decide +kernel
theorem bits_not : ∀ k : Fin 8, ∀ m : Fin 256, 2 ^ k.1 ≤ m.1 → bits BinOp.andNot IntKind.u64 (m.1 : Int) ((2 ^ k.1 : Nat) : Int) = ((m.1 - 2 ^ k.1 : Nat) : Int) ∨ 2 * 2 ^ k.1 ≤ m.1 := by decide +kernel
theorem turns_B {B : Nat} {w w' : World} (k : Kept w w') : Turns (fun k => B ≤ k) w w' := k.turns.mono (fun _ _ h => h.elim)
theorem hold_turns {B : Nat} {w : World} {sb : Nat} (hB : B ≤ sb) (v : Value) (o : Obj) : Turns (fun k => B ≤ k) w ((w.setCell ⟨sb, 0, none⟩ v).alloc o).drew.drew :=
  ((((Turns.refl _ w).setCell (p := ⟨sb, 0, none⟩) hB v).alloc o).drew).drew
end Go.Proofs.YtlkbphogpbcjfaaGreatDoor
namespace Go.Proofs.YtlkbphogpbcjfaaGreatDoor
open Go.RowKit

theorem own_take {w : World} {base : Nat} {e : TypeId} {size g n cap r : Nat} {xs : List Value} (h : w.ownsRow base e size (.slice (some ⟨g, 0, none⟩) n cap) n xs) (hr : r ≤ n) : w.ownsRow base e size (.slice (some ⟨g, 0, none⟩) r cap) r (xs.take (r * size)) := by
  have hm : r * size ≤ n * size := Nat.mul_le_mul_right _ hr
  refine ⟨by rw [List.length_take, h.1]; omega, ?_⟩
  rcases h.2 with ⟨hn, _⟩ | ⟨g', cap', cur, he, hb, hgg, h1, h2, h3, h4⟩
  · cases hn
  · cases he
    refine .inr ⟨_, _, cur, rfl, hb, hgg, by omega, h2, h3, ?_⟩
    rw [← h4, List.take_take, Nat.min_eq_left hm]
set_option maxHeartbeats 4000000 in
set_option maxHeartbeats 4000000 in
theorem take_other {k : Int} (h : k = 1 ∨ k = 4 ∨ k = 5 ∨ k = 6 ∨ k = 7) (m : Nat) (lp : List Nat) (n v wt : Int) (l : List CaseD) : takeM m lp ⟨k, n, v, wt, l⟩ = if m = 0 ∨ waitsD ⟨k, n, v, wt, l⟩ = false then some (m, lp) else none := by
  unfold takeM
  rw [if_neg (by simp only; omega), if_neg (by simp only; omega), if_neg (by simp only; omega), if_neg (by simp only; omega)]
/-- The locks stay within eight bits, the Loops within three. -/
theorem take_small {m : Nat} {lp : List Nat} {o : OpD} {x : Nat × List Nat} (hm : m < 256) (hl : lp.length ≤ 3) (hk : checkD o = 0) (h : takeM m lp o = some x) : x.1 < 256 ∧ x.2.length ≤ 3 := by
  have ht := taken_of hk
  have htk := ht.takes
  unfold takeM at h
  split at h
  · rename_i hk2
    split at h
    · rename_i hc
      cases h
      have hn : o.n.toNat ≤ 7 := by
        rw [hk2] at htk
        simp [takesB, shapeOf] at htk
        omega
      have h2 : 2 ^ o.n.toNat ≤ 2 ^ 7 := Nat.pow_le_pow_right (by omega) hn
      exact ⟨by simp only; omega, hl⟩
    · cases h
  · split at h
    · split at h
      · cases h
        exact ⟨by simp only; omega, hl⟩
      · cases h
    · split at h
      · split at h
        · cases h
        · rename_i h3
          cases h
          exact ⟨hm, by simp only [List.length_cons]; omega⟩
      · split at h
        · split at h
          · cases h
          · split at h
            · cases h
              exact ⟨hm, by simp only [List.length_cons] at hl ⊢; omega⟩
            · cases h
        · split at h
          · cases h
            exact ⟨hm, hl⟩
          · cases h
end Go.Proofs.YtlkbphogpbcjfaaGreatDoor
namespace Go.Proofs.YtlkbphogpbcjfaaGreatDoor
open Go.RowKit

end Go.Proofs.YtlkbphogpbcjfaaGreatDoor
namespace Go.Proofs.YtlkbphogpbcjfaaGreatDoor
open Go.RowKit

/-- Rounds stay small. -/
def Bds : List Int → Prop
  | [] => True
  | x :: r => 1 ≤ x ∧ x ≤ 32 ^ r.length ∧ Bds r
theorem bds_push {x n : Int} {r : List Int} (h : Bds (x :: r)) (h1 : 1 ≤ n) (h2 : n ≤ 32) : Bds (x * n :: x :: r) := by
  obtain ⟨a, b, c⟩ := h
  refine ⟨?_, ?_, a, b, c⟩
  · have := Int.mul_le_mul (a := 1) (b := 1) a h1 (by omega) (by omega)
    omega
  · rw [List.length_cons, Int.pow_succ]
    exact Int.mul_le_mul b h2 (by omega) (by have := Int.pow_pos (n := (32 : Int)) (m := r.length) (by omega); omega)
theorem bds_top {x : Int} {r : List Int} (h : Bds (x :: r)) (hl : r.length ≤ 3) : 1 ≤ x ∧ x ≤ 32768 := by
  obtain ⟨a, b, _⟩ := h
  have hc : r.length = 0 ∨ r.length = 1 ∨ r.length = 2 ∨ r.length = 3 := by omega
  rcases hc with e | e | e | e <;> rw [e] at b <;> exact ⟨a, by omega⟩
theorem times_len : ∀ (p : List OpD) (st : List Int), (timesGo st p).length = p.length
  | [], _ => rfl
  | o :: r, st => by
    rw [timesGo]
    split
    · simp [times_len r]
    · split
      · simp [times_len r]
      · simp [times_len r]
/-- A row that is filled up to a place. -/
def fillTo (T : List Int) (j : Nat) : List Int := T.take j ++ List.replicate (T.length - j) 0
theorem fill_set {T : List Int} {j : Nat} {x : Int} {r : List Int} (h : T.drop j = x :: r) : (fillTo T j).set j x = fillTo T (j + 1) := by
  have hj : j < T.length := by
    rcases Nat.lt_or_ge j T.length with h' | h'
    · exact h'
    · rw [List.drop_eq_nil_of_le h'] at h; cases h
  have hx : T[j] = x := by
    rw [List.drop_eq_getElem_cons hj] at h
    exact (List.cons.inj h).1
  unfold fillTo
  rw [List.set_append_right _ _ (by simp; omega), List.length_take, Nat.min_eq_left (by omega), Nat.sub_self, show T.length - j = (T.length - (j + 1)) + 1 by omega, List.replicate_succ, List.set_cons_zero, List.take_add_one, List.getElem?_eq_getElem hj, hx]
  simp
theorem fill_same {T : List Int} {j : Nat} {r : List Int} (h : T.drop j = 0 :: r) : fillTo T j = fillTo T (j + 1) := by
  rw [← fill_set h]
  have hj : j < T.length := by
    rcases Nat.lt_or_ge j T.length with h' | h'
    · exact h'
    · rw [List.drop_eq_nil_of_le h'] at h; cases h
  unfold fillTo
  rw [List.set_append_right _ _ (by simp; omega), List.length_take, Nat.min_eq_left (by omega), Nat.sub_self, show T.length - j = (T.length - (j + 1)) + 1 by omega, List.replicate_succ, List.set_cons_zero]
theorem fill_len (T : List Int) (j : Nat) (hj : j ≤ T.length) : (fillTo T j).length = T.length := by
  unfold fillTo
  simp
  omega
theorem drop_next {T : List Int} {j : Nat} {x : Int} {r : List Int} (h : T.drop j = x :: r) : T.drop (j + 1) = r := by
  rw [← List.drop_drop, h]
  rfl
end Go.Proofs.YtlkbphogpbcjfaaGreatDoor
namespace Go.Proofs.YtlkbphogpbcjfaaGreatDoor
open Go.RowKit

/-- What there is in the midst of times. -/
structure Tm (w wr : World) (T : List Int) (j : Nat) (v4 : Value) (st : List Int) : Prop where
  all : IRow 2 w.heap.size wr (.slice (some ⟨w.heap.size, 0, none⟩) T.length T.length) (fillTo T j)
  rnd : IRow 2 w.heap.size wr v4 st.reverse
  far : ∀ q, v4.ownBlock = some q → w.heap.size < q
  kept : Kept w wr
theorem Tm.keep {w wr wx : World} {T : List Int} {j : Nat} {v4 : Value} {st : List Int} (h : Tm w wr T j v4 st) (t : Kept wr wx) : Tm w wx T j v4 st := ⟨h.all.kept t, h.rnd.kept t, h.far, h.kept.trans t⟩
theorem made_zero0 (n : Nat) : (madeCells (Value.int IntKind.i64 0).cells (n * 1)).toList = (List.replicate n (0 : Int)).map intV := by
  rw [Nat.mul_one]
  apply List.ext_getElem?
  intro j
  by_cases hj : j < n
  · simp [madeCells, hj, intV, Value.cells, Nat.mod_one]
  · simp [madeCells, hj]
theorem tm_start (w w1 : World) (n : Nat) (T : List Int) (hT : T.length = n) (h : w1.ownsRow w.heap.size 2 1 (.slice (some ⟨w.heap.size, 0, none⟩) n n) n (madeCells (Value.int IntKind.i64 0).cells (n * 1)).toList) (g : w.grownBy w1 none) (hs : w.heap.size < w1.heap.size) :
    Tm w (w1.alloc (.cells #[.int .i64 1] 2)) T 0 (.slice (some ⟨w1.heap.size, 0, none⟩) 1 1) [1] := by
  have k1 : Kept w w1 := (Turns.grown (S := fun _ => False) g (fun k e => by cases e)).kept (Kept.refl w) (fun i hi => hi.elim)
  refine ⟨?_, ?_, fun q hq => by simp [Value.ownBlock] at hq; omega, k1.alloc _⟩
  · refine IRow.kept ?_ ((Kept.refl w1).alloc _)
    unfold IRow
    rw [fill_len T 0 (by omega), hT]
    have e : fillTo T 0 = List.replicate n 0 := by unfold fillTo; simp [hT]
    rw [e, ← made_zero0]
    exact h
  · exact World.ownsRow_lit (base := w.heap.size) (e := 2) (size := 1) w1 #[.int .i64 1] 1 (by omega) (by unfold maxLen; omega) (by simp)

theorem fill_get {T : List Int} {j : Nat} (hj : j < T.length) : (fillTo T j)[j]? = some 0 := by
  unfold fillTo
  rw [List.getElem?_append_right (by simp; omega), List.length_take, Nat.min_eq_left (by omega), Nat.sub_self, List.getElem?_replicate, if_pos (by omega)]
theorem Tm.put {w wr : World} {T : List Int} {j : Nat} {v4 : Value} {st : List Int} {x : Int} {r : List Int} (h : Tm w wr T j v4 st) (hd : T.drop j = x :: r) : Tm w (wr.setCell ⟨w.heap.size, j, none⟩ (.int .i64 x)) T (j + 1) v4 st := by
  have hj : j < T.length := by
    rcases Nat.lt_or_ge j T.length with h' | h'
    · exact h'
    · rw [List.drop_eq_nil_of_le h'] at hd; cases hd
  have t := turn_set wr w.heap.size j (.int .i64 x)
  refine ⟨?_, h.rnd.turns t (fun q hq e => by have := h.far q hq; omega), h.far, t.kept h.kept (fun i hi => by omega)⟩
  have ha := h.all
  unfold IRow at ha ⊢
  rw [fill_len T _ (by omega)] at ha ⊢
  rw [← fill_set hd, List.map_set]
  exact (World.ownsRow.stored ha j (.int .i64 x)).1
theorem Tm.skip {w wr : World} {T : List Int} {j : Nat} {v4 : Value} {st : List Int} {r : List Int} (h : Tm w wr T j v4 st) (hd : T.drop j = 0 :: r) : Tm w wr T (j + 1) v4 st := by
  have ha := h.all
  rw [fill_same hd] at ha
  exact ⟨ha, h.rnd, h.far, h.kept⟩
theorem Tm.cut {w wr : World} {T : List Int} {j g c : Nat} {x : Int} {r : List Int} (h : Tm w wr T j (.slice (some ⟨g, 0, none⟩) (r.length + 1) c) (x :: r)) : Tm w wr T j (.slice (some ⟨g, 0, none⟩) r.length c) r := by
  refine ⟨h.all, ?_, fun q hq => h.far q hq, h.kept⟩
  have hr := h.rnd
  unfold IRow at hr ⊢
  rw [List.reverse_cons, List.length_append, List.length_reverse] at hr
  have h2 := own_take (r := r.length) hr (by simp)
  rw [List.length_reverse]
  have h3 : (List.map intV (r.reverse ++ [x])).take (r.length * 1) = r.reverse.map intV := by
    rw [Nat.mul_one, List.map_append]
    exact List.take_left' (by simp)
  rw [h3] at h2
  exact h2
theorem Tm.push {w wr w' : World} {T : List Int} {j : Nat} {v4 : Value} {st : List Int} {y : Int} {o1 o2 : Obj} {g n c : Nat} (h : Tm w wr T j v4 st) (gr : ((wr.alloc o1).drew.alloc o2).grownBy w' v4.ownBlock) (at5 : v4.ownBlock = some g ∨ (wr.alloc o1).drew.heap.size < g)
    (r : IRow 2 w.heap.size w' (.slice (some ⟨g, 0, none⟩) n c) (st.reverse ++ [y])) : Tm w w' T j (.slice (some ⟨g, 0, none⟩) n c) (y :: st) := by
  have t : Turns (fun k => v4.ownBlock = some k) wr w' := ((((Turns.refl _ wr).alloc o1).drew).alloc o2).trans (Turns.grown gr (fun k e => e))
  have hs := (World.ownsRow.lt h.all w.heap.size rfl).2
  refine ⟨h.all.turns t (fun q hq e => by simp [Value.ownBlock] at hq; have := h.far q e; omega), ?_, ?_, t.kept h.kept (fun i hi => by have := h.far i hi; omega)⟩
  · rw [List.reverse_cons]
    exact r
  · intro q hq
    simp [Value.ownBlock] at hq
    subst hq
    rcases at5 with h1 | h1
    · exact h.far _ h1
    · have : (wr.alloc o1).drew.heap.size = wr.heap.size + 1 := by show (wr.alloc o1).heap.size = _; simp
      omega
theorem run_cons {m : Nat} {lp : List Nat} {o : OpD} {r : List OpD} {x : Nat × List Nat} (h : runM m lp (o :: r) = some x) : ∃ m1 lp1, takeM m lp o = some (m1, lp1) ∧ runM m1 lp1 r = some x := by
  rw [runM] at h
  cases ht : takeM m lp o with
  | none => rw [ht] at h; cases h
  | some y => rw [ht] at h; exact ⟨y.1, y.2, rfl, h⟩
theorem loop_n {n v wt : Int} {l : List CaseD} (h : checkD ⟨8, n, v, wt, l⟩ = 0) : 1 ≤ n ∧ n ≤ 32 := by
  have := (taken_of h).takes
  simp [takesB, shapeOf] at this
  omega

end Go.Proofs.YtlkbphogpbcjfaaGreatDoor
namespace Go.Proofs.YtlkbphogpbcjfaaGreatDoor
open Go.RowKit

theorem fwd_bal {d m m' : Nat} {b g : List OpD} (h : Bal d m m' b g) : ∀ (D : Int) (i : Nat) (r : List OpD), 1 ≤ D → fwdGo D i (b ++ r) = fwdGo D (i + b.length) r := by
  induction h with
  | nil => intro D i r _; simp
  | @one d m m1 m' o p f h8 h9 _ _ ih =>
    intro D i r hD
    rw [List.cons_append, fwdGo, show dK o = 0 by unfold dK; rw [if_neg h8, if_neg h9], if_neg (by omega), Int.add_zero, ih D (i + 1) r hD]
    congr 1
    simp
    omega
  | @loop d m m' o e b g p f h8 h9 _ _ ihb ihp =>
    intro D i r hD
    rw [List.cons_append, fwdGo, show dK o = 1 by unfold dK; rw [if_pos h8], if_neg (by omega), List.append_assoc, ihb (D + 1) (i + 1) _ (by omega), List.cons_append, fwdGo, show dK e = -1 by unfold dK; rw [if_neg (by omega), if_pos h9], if_neg (by omega), show D + 1 + -1 = D by omega, ihp D _ r hD]
    congr 1
    simp
    omega
theorem match_bal {d m m' : Nat} {p b g q : List OpD} {o e : OpD} {j : Nat} (hb : Bal d m m' b g) (h8 : o.kind = 8) (h9 : e.kind = 9) (hd : p.drop j = o :: (b ++ e :: q)) : matchD p (j : Int) = ((j + 1 + b.length : Nat) : Int) := by
  have hj : j < p.length := by
    rcases Nat.lt_or_ge j p.length with h | h
    · exact h
    · rw [List.drop_eq_nil_of_le h] at hd; cases hd
  have hpj : p[j]? = some o := by
    rw [List.getElem?_eq_getElem hj]
    rw [List.drop_eq_getElem_cons hj] at hd
    rw [(List.cons.inj hd).1]
  unfold matchD
  rw [if_neg (by omega), show (j : Int).toNat = j from rfl, hpj]
  simp only
  rw [if_pos h8, hd, fwdGo, show dK o = 1 by unfold dK; rw [if_pos h8], if_neg (by omega), fwd_bal hb _ _ _ (by omega), fwdGo, show dK e = -1 by unfold dK; rw [if_neg (by omega), if_pos h9], if_pos (by omega)]
theorem wrap_at (q : Nat) (h : q ≤ 1000000) : ∀ z : Int, z = (q : Int) → IntKind.i64.wrap z = z := by
  intro z hz
  simp [IntKind.wrap, IntKind.bits, IntKind.signed]
  omega
theorem rep_succ (n : Nat) (g : List OpD) : rep (n + 1) g = rep n g ++ g := by
  unfold rep
  rw [List.replicate_succ', List.flatten_append]
  simp
theorem rep_one (g : List OpD) : rep 1 g = g := by simp [rep]
theorem rep_len (n : Nat) (g : List OpD) : (rep n g).length = n * g.length := by
  unfold rep
  simp
theorem op_few {o : OpD} (h : checkD o = 0) : o.cases.length ≤ 1000000 := by
  have ht := taken_of h
  rcases kind_cases ht.kind with hk | hk | hk | hk | hk | hk | hk | hk | hk
  all_goals
    first
    | (have := ht.many (by rw [hk]; rfl)
       omega)
    | (have hz := ht.takes
       rw [hk] at hz
       simp [takesB, shapeOf] at hz
       simp [hz])
/-- What there is in the midst of the rounds: done has i rounds more; only blocks of S have turned since w3. -/
structure Rd (w w3 wr : World) (S : Nat → Prop) (vj : Value) (p : List OpD) : Prop where
  row : ∃ svs, ORow w.heap.size wr vj p svs
  own : ∀ q, vj.ownBlock = some q → S q
  trn : Turns S w3 wr
theorem Rd.next {w w3 wr w5 : World} {S : Nat → Prop} {vj v : Value} {p p' : List OpD} (h : Rd w w3 wr S vj p) (hS : ∀ q, w3.heap.size ≤ q → S q) (r : ∃ svs, ORow w.heap.size w5 v p' svs) (ho : v.ownBlock = vj.ownBlock ∨ ∀ q, v.ownBlock = some q → wr.heap.size ≤ q) (t : Turns (fun k => vj.ownBlock = some k) wr w5) : Rd w w3 w5 S v p' := by
  refine ⟨r, fun q hq => ?_, h.trn.next t (fun i _ hi => h.own i hi)⟩
  rcases ho with ho | ho
  · rw [ho] at hq; exact h.own q hq
  · have := ho q hq
    have := h.trn.size
    exact hS q (by omega)
theorem Rd.src {w w3 wr : World} {S : Nat → Prop} {vj : Value} {p : List OpD} (h : Rd w w3 wr S vj p) {a : Option Addr} {r : List OpD} (hs : ∀ w', Turns S w3 w' → AtP w' a r) : ∀ w', Turns (fun k => vj.ownBlock = some k) wr w' → AtP w' a r := fun w' t => hs w' (h.trn.next t (fun i _ hi => h.own i hi))

theorem bal_nil {d m m' : Nat} {f : List OpD} (h : Bal d m m' [] f) : f = [] ∧ m = m' := by cases h; exact ⟨rfl, rfl⟩
theorem bal_cons {d m m' : Nat} {o : OpD} {p f : List OpD} (h : Bal d m m' (o :: p) f) : (o.kind ≠ 8 ∧ o.kind ≠ 9 ∧ ∃ m1 f', f = o :: f' ∧ Bal d m1 m' p f') ∨ (o.kind = 8 ∧ ∃ d' b g e q f', d = d' + 1 ∧ p = b ++ e :: q ∧ e.kind = 9 ∧ f = rep o.n.toNat g ++ f' ∧ Bal d' m m b g ∧ Bal d m m' q f') := by
  cases h with
  | one h8 h9 ht hp => exact .inl ⟨h8, h9, _, _, rfl, hp⟩
  | loop h8 h9 hb hp => exact .inr ⟨h8, _, _, _, _, _, _, rfl, rfl, h9, rfl, hb, hp⟩

end Go.Proofs.YtlkbphogpbcjfaaGreatDoor
namespace Go.Proofs.YtlkbphogpbcjfaaGreatDoor
open Go.RowKit

theorem times_bds : ∀ (p : List OpD) (m : Nat) (lp : List Nat) (st : List Int), runM m lp p = some (0, []) → (∀ o ∈ p, checkD o = 0) → st.length = lp.length + 1 → lp.length ≤ 3 → Bds st → ∀ x ∈ timesGo st p, 0 ≤ x ∧ x ≤ 32768
  | [], _, _, _, _, _, _, _, _, x, hx => by simp [timesGo] at hx
  | o :: p, m, lp, st, hr, hc, hs, hl, hb, x, hx => by
    obtain ⟨m1, lp1, ht, hru⟩ := run_cons hr
    have hc2 : ∀ o ∈ p, checkD o = 0 := fun q hq => hc q (by simp [hq])
    cases st with
    | nil => simp at hs
    | cons y r =>
      have hr3 : r.length = lp.length := by simpa using hs
      rw [timesGo] at hx
      split at hx
      · rename_i h8
        obtain ⟨h3, e⟩ := take_loop h8 ht
        cases e
        rcases List.mem_cons.1 hx with rfl | hx
        · omega
        · have hn : 1 ≤ o.n ∧ o.n ≤ 32 := by
            obtain ⟨k, n, v, wt, l⟩ := o
            simp only at h8
            subst h8
            exact loop_n (hc ⟨8, n, v, wt, l⟩ List.mem_cons_self)
          exact times_bds p m (m :: lp) (y * o.n :: y :: r) hru hc2 (by simp; omega) (by simp; omega) (bds_push hb hn.1 hn.2) x (by simpa using hx)
      · rename_i h8
        split at hx
        · rename_i h9
          obtain ⟨r', hlp, e⟩ := take_end h9 ht
          cases e
          rcases List.mem_cons.1 hx with rfl | hx
          · omega
          · rw [hlp] at hr3 hl
            simp only [List.length_cons] at hr3 hl
            rw [if_pos (by simp; omega)] at hx
            exact times_bds p m lp1 r hru hc2 (by omega) (by omega) hb.2.2 x (by simpa using hx)
        · rename_i h9
          obtain ⟨_, e⟩ := take_plain h8 h9 ht
          simp only at e
          subst e
          have hb1 := bds_top hb (by omega)
          rcases List.mem_cons.1 hx with e | hx
          · rw [show x = y from e]
            omega
          · exact times_bds p m1 lp1 (y :: r) hru hc2 hs hl hb x hx
theorem sum_next : ∀ (T : List Int) (j : Nat) (x : Int), T[j]? = some x → sumL (T.take (j + 1)) = sumL (T.take j) + x
  | [], _, _, h => by simp at h
  | y :: r, 0, x, h => by
    simp at h
    subst h
    simp [sumL]
  | y :: r, j + 1, x, h => by
    have := sum_next r j x (by simpa using h)
    simp only [List.take_succ_cons, sumL]
    rw [this]
    omega
theorem sum_bds (M : Int) (hM : 0 ≤ M) : ∀ (T : List Int), (∀ x ∈ T, 0 ≤ x ∧ x ≤ M) → 0 ≤ sumL T ∧ sumL T ≤ M * T.length
  | [], _ => by simp [sumL]
  | y :: r, h => by
    have h1 := sum_bds M hM r (fun x hx => h x (by simp [hx]))
    have h2 := h y (by simp)
    rw [sumL, List.length_cons]
    have : M * ((r.length + 1 : Nat) : Int) = M * (r.length : Int) + M := by rw [Int.natCast_add, Int.mul_add]; simp
    omega
/-- What each op costs. -/
def costs : List OpD → List Int → List Int
  | o :: p, x :: t => (if o.kind = 1 then x * o.n else 0) :: costs p t
  | _, _ => []
theorem costs_get : ∀ (p : List OpD) (T : List Int) (j : Nat) (o : OpD) (x : Int), p[j]? = some o → T[j]? = some x → (costs p T)[j]? = some (if o.kind = 1 then x * o.n else 0)
  | [], _, _, _, _, h, _ => by simp at h
  | _ :: _, [], _, _, _, _, h => by simp at h
  | q :: p, y :: t, 0, o, x, h1, h2 => by
    simp at h1 h2
    subst h1 h2
    rfl
  | q :: p, y :: t, j + 1, o, x, h1, h2 => by
    simp only [costs, List.getElem?_cons_succ] at h1 h2 ⊢
    exact costs_get p t j o x h1 h2
theorem run_n {n v wt : Int} {l : List CaseD} (h : checkD ⟨1, n, v, wt, l⟩ = 0) : 1 ≤ n ∧ n ≤ 1000 := by
  have := (taken_of h).takes
  simp [takesB, shapeOf] at this
  omega
theorem costs_bds : ∀ (p : List OpD) (T : List Int), (∀ o ∈ p, checkD o = 0) → (∀ x ∈ T, 0 ≤ x ∧ x ≤ 32768) → ∀ y ∈ costs p T, 0 ≤ y ∧ y ≤ 32768000
  | [], _, _, _, y, hy => by simp [costs] at hy
  | _ :: _, [], _, _, y, hy => by simp [costs] at hy
  | o :: p, x :: t, hc, ht, y, hy => by
    rw [costs] at hy
    rcases List.mem_cons.1 hy with rfl | hy
    · split
      · rename_i h1
        obtain ⟨k, n, v, wt, l⟩ := o
        simp only at h1
        subst h1
        have hn := run_n (hc ⟨1, n, v, wt, l⟩ List.mem_cons_self)
        have hx := ht x (by simp)
        refine ⟨Int.mul_nonneg hx.1 (by simp only; omega), ?_⟩
        have : x * n ≤ 32768 * 1000 := Int.mul_le_mul hx.2 hn.2 (by omega) (by omega)
        simp only
        omega
      · omega
    · exact costs_bds p t (fun o ho => hc o (by simp [ho])) (fun x hx => ht x (by simp [hx])) y hy
theorem costs_len : ∀ (p : List OpD) (T : List Int), T.length = p.length → (costs p T).length = p.length
  | [], _, _ => by simp [costs]
  | _ :: _, [], h => by simp at h
  | o :: p, x :: t, h => by rw [costs]; simp [costs_len p t (by simpa using h)]
def costD (p : List OpD) : Int := sumL (costs p (timesGo [1] p))
theorem bds1 : Bds [1] := by simp [Bds]

theorem run_of_ord {p : List OpD} (h : (ordGo 0 0 [] p).2 = 0) : runM 0 [] p = some (0, []) := by
  by_cases hp : p = []
  · subst hp; rfl
  · exact ord_run p 0 0 [] hp h
theorem ord_err : ∀ (p : List OpD) (i m : Nat) (lp : List Nat), ordGo i m lp p = (0, 0) ∨ (ordGo i m lp p).2 = 11
  | [], _, _, _ => .inl rfl
  | o :: r, i, m, lp => by
    rw [ordGo]
    cases takeM m lp o with
    | none => exact .inr rfl
    | some y =>
      simp only
      split
      · exact .inr rfl
      · exact ord_err r (i + 1) y.1 y.2
theorem each_zero : ∀ (p : List OpD) (i : Nat), (eachGo i p).2 = 0 → eachGo i p = (0, 0)
  | [], _, _ => rfl
  | o :: r, i, h => by
    rw [eachGo] at h ⊢
    split at h
    · rename_i hz
      rw [if_pos hz]
      exact each_zero r (i + 1) h
    · rename_i hz
      exact absurd h hz

end Go.Proofs.YtlkbphogpbcjfaaGreatDoor
namespace Go.Proofs.YtlkbphogpbcjfaaGreatDoor
open Go.RowKit

/-- As many steps as there are ops done. -/
theorem times_bal {d m m' : Nat} {p f : List OpD} (h : Bal d m m' p f) : (∀ o ∈ p, 0 ≤ o.n) → ∀ (t : Int) (st : List Int) (r : List OpD), sumL (timesGo (t :: st) (p ++ r)) = t * f.length + sumL (timesGo (t :: st) r) := by
  induction h with
  | nil => intro _ t st r; simp
  | @one d m m1 m' o p f h8 h9 _ _ ih =>
    intro hn t st r
    rw [List.cons_append, timesGo, if_neg h8, if_neg h9, sumL, ih (fun o ho => hn o (by simp [ho])) t st r, List.length_cons]
    simp only [List.headD_cons, Int.natCast_add, Int.mul_add]
    simp
    omega
  | @loop d m m' o e b g p f h8 h9 _ _ ihb ihp =>
    intro hn t st r
    have ho : 0 ≤ o.n := hn o (by simp)
    obtain ⟨R, hR⟩ : ∃ R : Nat, o.n = (R : Int) := ⟨o.n.toNat, by omega⟩
    have e9 : e.kind ≠ 8 := by omega
    rw [List.cons_append, timesGo, if_pos h8, sumL, List.append_assoc, ihb (fun o ho => hn o (by simp [ho])) _ _ _, List.cons_append, timesGo, if_neg e9, if_pos h9, if_pos (by simp), sumL]
    have ih2 := ihp (fun o ho => hn o (by simp [ho])) t st r
    simp only [List.tail_cons, List.headD_cons]
    rw [ih2, List.length_append, rep_len, hR, show ((R : Int)).toNat = R from rfl, Int.natCast_add, Int.natCast_mul, Int.mul_add, Int.mul_assoc]
    omega
theorem op_pos {o : OpD} (h : checkD o = 0) : 0 ≤ o.n := by
  have ht := (taken_of h).takes
  have hl : ∀ k : Nat, 0 ≤ (shapeOf k).least := by intro k; unfold shapeOf; split <;> simp
  have := hl o.kind.toNat
  simp only [takesB, Bool.and_eq_true, Bool.not_eq_true', Bool.or_eq_false_iff, decide_eq_false_iff_not] at ht
  omega
theorem steps_len {p f : List OpD} (h : Bal 3 0 0 p f) (hc : ∀ o ∈ p, checkD o = 0) : stepsD p = (f.length : Int) := by
  have := times_bal h (fun o ho => op_pos (hc o ho)) 1 [] []
  rw [List.append_nil] at this
  unfold stepsD
  rw [this]
  simp [timesGo, sumL]
/-- What Check takes. -/
theorem taken_prog {p : List OpD} (h : checkP p = (0, 0)) : p.length ≤ 48 ∧ (∀ o ∈ p, checkD o = 0) ∧ runM 0 [] p = some (0, []) ∧ ∃ f, Bal 3 0 0 p f ∧ f.length ≤ 512 := by
  unfold checkP at h
  split at h
  · simp at h
  · rename_i h48
    split at h
    · rename_i he
      split at h
      · rename_i ho
        split at h
        · simp at h
        · rename_i hs
          have hc := each_all p 0 he
          obtain ⟨f, hf⟩ := ord_bal ho
          refine ⟨by omega, hc, run_of_ord ho, f, hf, ?_⟩
          have := steps_len hf hc
          omega
      · rename_i ho
        rw [h] at ho
        simp at ho
    · rename_i he
      rw [h] at he
      simp at he

/-- Does any op wait? -/
def anyW : List OpD → Bool
  | [] => false
  | o :: r => waitsD o || anyW r
def idxW (i : Nat) : List OpD → Int
  | [] => -1
  | o :: r => if waitsD o = true then (i : Int) else idxW (i + 1) r
theorem idx_any : ∀ (p : List OpD) (i : Nat), decide (0 ≤ idxW i p) = anyW p
  | [], _ => by simp [idxW, anyW]
  | o :: r, i => by
    rw [idxW, anyW]
    cases h : waitsD o with
    | true => simp
    | false => simp [idx_any r (i + 1)]
/-- The most that runs cost from a Lock of it to its Unlock. -/
def secGo (lock : Int) (most cost : Int) : List OpD → Int
  | [] => most
  | o :: r => if o.kind = 1 then secGo lock most (cost + o.n) r else if o.kind = 2 ∧ o.n = lock then secGo lock most 0 r else if o.kind = 3 ∧ o.n = lock then secGo lock (max most cost) cost r else secGo lock most cost r

end Go.Proofs.YtlkbphogpbcjfaaGreatDoor
namespace Go.Proofs.YtlkbphogpbcjfaaGreatDoor

def costF : List OpD → Int
  | [] => 0
  | o :: r => (if o.kind = 1 then o.n else 0) + costF r
theorem costF_append : ∀ a b : List OpD, costF (a ++ b) = costF a + costF b
  | [], b => by simp [costF]
  | o :: r, b => by
    rw [List.cons_append, costF, costF, costF_append r b]
    omega
theorem costF_rep (g : List OpD) : ∀ n : Nat, costF (rep n g) = (n : Int) * costF g
  | 0 => by simp [rep, costF]
  | n + 1 => by
    rw [rep_succ, costF_append, costF_rep g n, Int.natCast_add, Int.add_mul]
    simp
theorem cost_bal {d m m' : Nat} {p f : List OpD} (h : Bal d m m' p f) : (∀ o ∈ p, 0 ≤ o.n) → ∀ (t : Int) (st : List Int) (r : List OpD), sumL (costs (p ++ r) (timesGo (t :: st) (p ++ r))) = t * costF f + sumL (costs r (timesGo (t :: st) r)) := by
  induction h with
  | nil => intro _ t st r; simp [costF]
  | @one d m m1 m' o p f h8 h9 _ _ ih =>
    intro hn t st r
    rw [List.cons_append, timesGo, if_neg h8, if_neg h9, costs, sumL, ih (fun o ho => hn o (by simp [ho])) t st r, costF, Int.mul_add]
    simp only [List.headD_cons]
    split
    · omega
    · simp
  | @loop d m m' o e b g p f h8 h9 _ _ ihb ihp =>
    intro hn t st r
    have ho : 0 ≤ o.n := hn o (by simp)
    obtain ⟨R, hR⟩ : ∃ R : Nat, o.n = (R : Int) := ⟨o.n.toNat, by omega⟩
    have e9 : e.kind ≠ 8 := by omega
    have o1 : o.kind ≠ 1 := by omega
    have e1 : e.kind ≠ 1 := by omega
    rw [List.cons_append, timesGo, if_pos h8, costs, if_neg o1, sumL, List.append_assoc, ihb (fun o ho => hn o (by simp [ho])) _ _ _, List.cons_append, timesGo, if_neg e9, if_pos h9, if_pos (by simp), costs, if_neg e1, sumL]
    have ih2 := ihp (fun o ho => hn o (by simp [ho])) t st r
    simp only [List.tail_cons, List.headD_cons]
    rw [ih2, costF_append, costF_rep, hR, show ((R : Int)).toNat = R from rfl, Int.mul_add, Int.mul_assoc]
    omega
/-- What it costs is what all its Runs have, as often as they are done. -/
theorem cost_len {p f : List OpD} (h : Bal 3 0 0 p f) (hc : ∀ o ∈ p, checkD o = 0) : costD p = costF f := by
  have := cost_bal h (fun o ho => op_pos (hc o ho)) 1 [] []
  rw [List.append_nil] at this
  unfold costD
  rw [this]
  simp [costs, sumL]
end Go.Proofs.YtlkbphogpbcjfaaGreatDoor
namespace Go.Proofs.YtlkbphogpbcjfaaGreatDoor

theorem bal_app {d m m' m'' : Nat} {p f q g : List OpD} (h : Bal d m m' p f) (h2 : Bal d m' m'' q g) : Bal d m m'' (p ++ q) (f ++ g) := by
  induction h with
  | nil => exact h2
  | one h8 h9 ht _ ih => exact .one h8 h9 ht (ih h2)
  | loop h8 h9 hb _ _ ihp =>
    have := Bal.loop h8 h9 hb (ihp h2)
    simpa using this
theorem take_any {m m1 : Nat} {o : OpD} (h8 : o.kind ≠ 8) (h9 : o.kind ≠ 9) (ht : takeM m [] o = some (m1, [])) (lp : List Nat) : takeM m lp o = some (m1, lp) := by
  unfold takeM at ht ⊢
  rw [if_neg h8, if_neg h9] at ht ⊢
  split at ht
  · rename_i h2
    rw [if_pos h2]
    split at ht
    · rename_i hc
      rw [if_pos hc]
      cases ht
      rfl
    · cases ht
  · rename_i h2
    rw [if_neg h2]
    split at ht
    · rename_i h3
      rw [if_pos h3]
      split at ht
      · rename_i hc
        rw [if_pos hc]
        cases ht
        rfl
      · cases ht
    · rename_i h3
      rw [if_neg h3]
      split at ht
      · rename_i hc
        rw [if_pos hc]
        cases ht
        rfl
      · cases ht
theorem bal_run {d m m' : Nat} {p f : List OpD} (h : Bal d m m' p f) : ∀ (lp : List Nat) (q : List OpD), lp.length + d ≤ 3 → runM m lp (p ++ q) = runM m' lp q := by
  induction h with
  | nil => intro lp q _; rfl
  | one h8 h9 ht _ ih =>
    intro lp q hl
    rw [List.cons_append, runM, take_any h8 h9 ht lp]
    exact ih lp q hl
  | @loop d m m' o e b g p f h8 h9 hb _ ihb ihp =>
    intro lp q hl
    have t1 : takeM m lp o = some (m, m :: lp) := by
      unfold takeM
      rw [if_neg (by omega), if_neg (by omega), if_pos h8, if_neg (by omega)]
    have t2 : takeM m (m :: lp) e = some (m, lp) := by
      unfold takeM
      rw [if_neg (by omega), if_neg (by omega), if_neg (by omega), if_pos h9]
      simp
    rw [List.cons_append, runM, t1]
    simp only
    rw [List.append_assoc, ihb (m :: lp) _ (by simp; omega), List.cons_append, runM, t2]
    exact ihp lp q hl
theorem run_ord : ∀ (p : List OpD) (i m : Nat) (lp : List Nat), runM m lp p = some (0, []) → ordGo i m lp p = (0, 0)
  | [], _, _, _, _ => rfl
  | o :: r, i, m, lp, h => by
    rw [runM] at h
    rw [ordGo]
    cases ht : takeM m lp o with
    | none => rw [ht] at h; cases h
    | some y =>
      obtain ⟨m1, lp1⟩ := y
      rw [ht] at h
      simp only at h ⊢
      rw [if_neg, run_ord r (i + 1) m1 lp1 h]
      rintro ⟨rfl, hc⟩
      simp only [runM, Option.some.injEq, Prod.mk.injEq] at h
      rcases hc with hc | hc
      · exact hc h.1
      · exact hc h.2
theorem bal_ord {p f : List OpD} (h : Bal 3 0 0 p f) : ordGo 0 0 [] p = (0, 0) := by
  refine run_ord p 0 0 [] ?_
  have := bal_run h [] [] (by simp)
  rw [List.append_nil] at this
  rw [this]
  rfl
/-- What is in order, of ops that may be, not too many, not too long, may be. -/
theorem bal_check {p f : List OpD} (h : Bal 3 0 0 p f) (hl : p.length ≤ 48) (hc : ∀ o ∈ p, checkD o = 0) (hf : f.length ≤ 512) : checkP p = (0, 0) := by
  unfold checkP
  rw [if_neg (by omega), all_each _ 0 hc, if_pos rfl, bal_ord h, if_pos rfl, steps_len h hc, if_neg (by omega)]
end Go.Proofs.YtlkbphogpbcjfaaGreatDoor
namespace Go.Proofs.YtlkbphogpbcjfaaGreatDoor

structure ChanD where
  room : Int
  server : Int
deriving DecidableEq
structure TaskD where
  name : List UInt8
  period : Int
  deadline : Int
  budget : Int
  prog : List OpD
def chanB (nt : Int) (c : ChanD) : Bool := decide (0 ≤ c.room) && decide (c.room ≤ 16) && decide (-1 ≤ c.server) && decide (c.server < nt)
def chansE (nt : Int) : List ChanD → Int
  | [] => 0
  | c :: r => if chanB nt c = true then chansE nt r else 1
def findGo (name : List UInt8) (i : Nat) : List TaskD → Nat × Bool
  | [] => (0, false)
  | t :: r => if t.name = name then (i, true) else findGo name (i + 1) r
def timesB (t : TaskD) : Bool := decide (t.period ≤ 1099511627776) && decide (t.deadline ≤ t.period) && decide (t.budget ≤ t.deadline) && decide (1 ≤ t.budget)
def casesB (nc : Int) : List CaseD → Bool
  | [] => true
  | c :: r => if c.chan < nc then casesB nc r else false
def hasB (L nc : Int) (o : OpD) : Bool := if o.kind = 2 ∨ o.kind = 3 then decide (o.n < L) else if o.kind = 4 ∨ o.kind = 5 ∨ o.kind = 6 then decide (o.n < nc) else if o.kind = 7 then casesB nc o.cases else true
def hasAllB (L nc : Int) : List OpD → Bool
  | [] => true
  | o :: r => if hasB L nc o = true then hasAllB L nc r else false
def nameB (l : List UInt8) : Bool := decide (l.length ≤ 8) && within 97 122 l
def taskE (L nc : Int) (ts : List TaskD) (i : Nat) (t : TaskD) : Int :=
  if nameB t.name = true then (if (findGo t.name 0 ts).1 < i then 6 else if timesB t = true then (if (checkP t.prog).2 = 0 then (if costD t.prog = 0 then 5 else if hasAllB L nc t.prog = true then 0 else 3) else (checkP t.prog).2) else 1) else 3
def tasksGo (L nc : Int) (ts : List TaskD) (i : Nat) : List TaskD → Nat × Int
  | [] => (0, 0)
  | t :: r => if taskE L nc ts i t = 0 then tasksGo L nc ts (i + 1) r else (i, taskE L nc ts i t)
def checkS (L : Int) (cs : List ChanD) (ts : List TaskD) : Nat × Int :=
  if L < 0 ∨ 8 < L then (0, 1) else if 8 < cs.length ∨ ts.length = 0 ∨ 12 < ts.length then (0, 18) else if chansE ts.length cs = 0 then tasksGo L cs.length ts 0 ts else (0, chansE ts.length cs)
def anyT : List TaskD → Bool
  | [] => false
  | t :: r => if anyW t.prog = true then true else anyT r
def needD (t : TaskD) : Int := min (costD t.prog) t.budget
def sameP : List OpD → List OpD → Bool
  | [], [] => true
  | a :: p, b :: q => if sameD a b = true then sameP p q else false
  | _, _ => false
def sameT (a b : TaskD) : Bool := decide (a.name = b.name) && decide (a.period = b.period) && decide (a.deadline = b.deadline) && decide (a.budget = b.budget) && sameP a.prog b.prog
def sameTs : List TaskD → List TaskD → Bool
  | [], [] => true
  | a :: p, b :: q => if sameT a b = true then sameTs p q else false
  | _, _ => false
theorem chansE_01 (nt : Int) : ∀ cs, chansE nt cs = 0 ∨ chansE nt cs = 1
  | [] => .inl rfl
  | c :: r => by
    rw [chansE]
    split
    · exact chansE_01 nt r
    · exact .inr rfl
theorem find_lt (name : List UInt8) : ∀ (ts : List TaskD) (i : Nat), (findGo name i ts).1 ≤ i + ts.length
  | [], i => by simp [findGo]
  | t :: r, i => by
    rw [findGo]
    split
    · simp
    · have := find_lt name r (i + 1)
      simp
      omega
end Go.Proofs.YtlkbphogpbcjfaaGreatDoor
namespace Go.Proofs.YtlkbphogpbcjfaaGreatDoor
open Go.RowKit

end Go.Proofs.YtlkbphogpbcjfaaGreatDoor
namespace Go.Proofs.YtlkbphogpbcjfaaGreatDoor
open Go.RowKit

/-- What a slice of channels shows. -/
def AtH (w : World) (a : Option Addr) (cs : List ChanD) : Prop := ∀ (j : Nat) (c : ChanD), cs[j]? = some c → ∃ b f, a = some ⟨b, f, none⟩ ∧ w.cell? ⟨b, f + j * 2, none⟩ = some (.int .i64 c.room) ∧ w.cell? ⟨b, f + j * 2 + 1, none⟩ = some (.int .i64 c.server)
theorem AtH.kept {w w' : World} {a : Option Addr} {cs : List ChanD} (h : AtH w a cs) (t : Kept w w') : AtH w' a cs := by
  intro j c hj
  obtain ⟨b, f, e, h1, h2⟩ := h j c hj
  exact ⟨b, f, e, t.cell h1, t.cell h2⟩
theorem AtH.nil (w : World) (a : Option Addr) : AtH w a [] := by intro j c hj; simp at hj
theorem AtH.get {w : World} {a : Option Addr} {cs : List ChanD} (h : AtH w a cs) (j : Nat) (hj : j < cs.length) : ∃ b f, ∃ r s : Int, a = some ⟨b, f, none⟩ ∧ cs[j]? = some ⟨r, s⟩ ∧ w.cell? ⟨b, f + j * 2, none⟩ = some (.int .i64 r) ∧ w.cell? ⟨b, f + j * 2 + 1, none⟩ = some (.int .i64 s) ∧ cs.drop j = ⟨r, s⟩ :: cs.drop (j + 1) := by
  obtain ⟨b, f, e, h1, h2⟩ := h j cs[j] (List.getElem?_eq_getElem hj)
  exact ⟨b, f, cs[j].room, cs[j].server, e, List.getElem?_eq_getElem hj, h1, h2, List.drop_eq_getElem_cons hj⟩
/-- The five cells at a place hold a task. -/
structure TkAt (w : World) (b f : Nat) (t : TaskD) : Prop where
  nm : w.cell? ⟨b, f, none⟩ = some (.string (B t.name))
  pd : w.cell? ⟨b, f + 1, none⟩ = some (.int .i64 t.period)
  dl : w.cell? ⟨b, f + 2, none⟩ = some (.int .i64 t.deadline)
  bu : w.cell? ⟨b, f + 3, none⟩ = some (.int .i64 t.budget)
  pg : ∃ pa pc, w.cell? ⟨b, f + 4, none⟩ = some (.slice pa t.prog.length pc) ∧ t.prog.length ≤ pc ∧ AtP w pa t.prog
theorem TkAt.kept {w w' : World} {b f : Nat} {t : TaskD} (h : TkAt w b f t) (k : Kept w w') : TkAt w' b f t := by
  obtain ⟨pa, pc, h1, h2, h3⟩ := h.pg
  exact ⟨k.cell h.nm, k.cell h.pd, k.cell h.dl, k.cell h.bu, pa, pc, k.cell h1, h2, h3.kept k⟩
/-- What a slice of tasks shows. -/
def AtT (w : World) (a : Option Addr) (ts : List TaskD) : Prop := ∀ (j : Nat) (t : TaskD), ts[j]? = some t → ∃ b f, a = some ⟨b, f, none⟩ ∧ TkAt w b (f + j * 5) t
theorem AtT.kept {w w' : World} {a : Option Addr} {ts : List TaskD} (h : AtT w a ts) (k : Kept w w') : AtT w' a ts := by
  intro j t hj
  obtain ⟨b, f, e, ht⟩ := h j t hj
  exact ⟨b, f, e, ht.kept k⟩
theorem AtT.nil (w : World) (a : Option Addr) : AtT w a [] := by intro j c hj; simp at hj
theorem AtT.get {w : World} {a : Option Addr} {ts : List TaskD} (h : AtT w a ts) (j : Nat) (hj : j < ts.length) : ∃ b f, ∃ nm, ∃ pd dl bu : Int, ∃ pr pa pc, a = some ⟨b, f, none⟩ ∧ ts[j]? = some ⟨nm, pd, dl, bu, pr⟩ ∧ w.cell? ⟨b, f + j * 5, none⟩ = some (.string (B nm)) ∧ w.cell? ⟨b, f + j * 5 + 1, none⟩ = some (.int .i64 pd) ∧ w.cell? ⟨b, f + j * 5 + 2, none⟩ = some (.int .i64 dl) ∧ w.cell? ⟨b, f + j * 5 + 3, none⟩ = some (.int .i64 bu) ∧ w.cell? ⟨b, f + j * 5 + 4, none⟩ = some (.slice pa pr.length pc) ∧ pr.length ≤ pc ∧ AtP w pa pr ∧ b < w.heap.size ∧ ts.drop j = ⟨nm, pd, dl, bu, pr⟩ :: ts.drop (j + 1) := by
  obtain ⟨b, f, e, ht⟩ := h j ts[j] (List.getElem?_eq_getElem hj)
  obtain ⟨pa, pc, h1, h2, h3⟩ := ht.pg
  exact ⟨b, f, ts[j].name, ts[j].period, ts[j].deadline, ts[j].budget, ts[j].prog, pa, pc, e, List.getElem?_eq_getElem hj, ht.nm, ht.pd, ht.dl, ht.bu, h1, h2, h3, cell_lt ht.nm, List.drop_eq_getElem_cons hj⟩
/-- Tasks of a size that any machine holds. -/
def TsOk (ts : List TaskD) : Prop := ∀ t ∈ ts, t.name.length ≤ 1000000 ∧ t.prog.length ≤ 100000 ∧ ∀ o ∈ t.prog, o.cases.length ≤ 1000000
theorem B_eq (a b : List UInt8) : ((B a).toList == (B b).toList) = (a == b) := by rw [toList_of, toList_of, B_list, B_list]
theorem B_is (x l : List UInt8) : ((B x).toList == l) = (x == l) := by rw [toList_of, B_list]

theorem within_false {lo hi : Nat} {l : List UInt8} {k : Nat} {c : UInt8} (h : l[k]? = some c) (hc : c.toNat < lo ∨ hi < c.toNat) : within lo hi l = false := by
  rw [Bool.eq_false_iff]
  intro e
  have := ((within_iff _ _ _).1 e).2 c (List.mem_of_getElem? h)
  omega
theorem within_all {lo hi : Nat} {l : List UInt8} (h : ∀ j c, j < l.length → l[j]? = some c → lo ≤ c.toNat ∧ c.toNat ≤ hi) : within lo hi l = !l.isEmpty := by
  unfold within
  have : l.all (fun c => decide (lo ≤ c.toNat) && decide (c.toNat ≤ hi)) = true := by
    rw [List.all_eq_true]
    intro c hc
    obtain ⟨j, hj, e⟩ := List.getElem_of_mem hc
    have := h j c hj (by rw [List.getElem?_eq_getElem hj, e])
    simp [this]
  rw [this, Bool.and_true]
end Go.Proofs.YtlkbphogpbcjfaaGreatDoor
