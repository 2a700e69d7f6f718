/- The reference's Word, by its contract. -/
import Derived.Laws.IdiomStrings
import Derived.Test.YtolljdomnohmdabGreatDoorM2
namespace Go.Proofs.YtolljdomnohmdabGreatDoor
open Go.RowKit

theorem kept_digit (w : World) (x : Value) : Kept w (w.alloc (.cells #[x] 5)) := (Kept.refl w).alloc _
/-- The last digit. -/
def dig (m : Nat) : UInt8 := UInt8.ofNat (48 + m % 10)
theorem dig_nat (m : Nat) : (dig m).toNat = 48 + m % 10 := ofNat_digit (Nat.mod_lt _ (by decide))
/-- Those ahead of it. -/
def pre (m : Nat) : List UInt8 := if m < 10 then [] else Lib.decDigits (m / 10)
theorem dec_pre (m : Nat) : Lib.decDigits m = pre m ++ [dig m] := by
  unfold pre
  by_cases h : m < 10
  · rw [if_pos h, Lib.decDigits_one h, dig, Nat.mod_eq_of_lt h]; rfl
  · rw [if_neg h, dec_rec h]; rfl
theorem conv_digit (W : World) (m : Nat) :
    (convert 23 9 (.slice (some ⟨W.heap.size, 0, none⟩) 1 1)).run Tryz.prog (W.alloc (.cells #[.int .u8 (48 + (m : Int) % 10)] 5)) = .ok (.string (B [dig m])) (W.alloc (.cells #[.int .u8 (48 + (m : Int) % 10)] 5)) := by
  refine run_convert_bytes_back (P := Tryz.prog) _ 23 9 5 ⟨W.heap.size, 0, none⟩ 1 [dig m] Tryz.underlying23 Tryz.underlying5 Tryz.underlying9 ?_
  intro j hj
  have hj0 : j = 0 := by simp at hj; omega
  subst hj0
  rw [Addr.add_lit, Nat.zero_add, World.cell?_alloc_at _ _ _ _ rfl]
  simp [dig_nat]

theorem dec_len : ∀ (k u : Nat), u < 10 ^ (k + 1) → (Lib.decDigits u).length ≤ k + 1
  | 0, u, h => by rw [Lib.decDigits_one (by simpa using h)]; simp
  | k + 1, u, h => by
    by_cases h9 : u < 10
    · rw [Lib.decDigits_one h9]; simp
    · rw [dec_rec h9, List.length_append]
      have := dec_len k (u / 10) (by rw [Nat.pow_succ] at h; omega)
      simp; omega
theorem dec_len19 (u : Nat) (h : u < 10000000000000000000) : (Lib.decDigits u).length ≤ 19 := dec_len 18 u h

theorem wrap_neg (q : Nat) (h : q ≤ 1000000000000000000) : wrap64 (-(q : Int)) = -(q : Int) := by
  rw [wrap64]
  omega

end Go.Proofs.YtolljdomnohmdabGreatDoor
