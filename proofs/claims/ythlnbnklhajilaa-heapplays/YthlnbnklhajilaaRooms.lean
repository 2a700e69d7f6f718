/- HeapRooms answers true at every number. -/
import Derived.Test.YthlnbnklhajilaaKnown
namespace Go.Proofs.Ythlnbnklhajilaa
open Go.RowKit Hp

theorem place_mem {row : List Ent} {x : Ent} (h : x ∈ row) (h0 : 0 ≤ x.id) : place row x.id.toNat ≠ 0 := by
  rcases place_cases row x.id.toNat with ⟨_, hn⟩ | ⟨i, _, _, hp⟩
  · obtain ⟨i, hi, rfl⟩ := mem_at h
    exact absurd (by omega) (hn i hi)
  · omega
theorem place_zero {row : List Ent} {id : Nat} (h : ∀ x, x ∈ row → x.id ≠ (id : Int)) : place row id = 0 := by
  apply place_none
  intro i hi
  exact h _ (at_mem hi)

/-- The row behind Put. -/
def putR (row : List Ent) (e : Ent) : List Ent := rise row.length (row ++ [e]) row.length

theorem putR_perm (row : List Ent) (e : Ent) : (putR row e).Perm (row ++ [e]) := rise_perm _ _ _ (by simp)
theorem putR_len (row : List Ent) (e : Ent) : (putR row e).length = row.length + 1 := by unfold putR; rw [rise_len]; simp
theorem putR_mem (row : List Ent) (e x : Ent) : x ∈ putR row e ↔ x ∈ row ∨ x = e := by rw [(putR_perm row e).mem_iff]; simp
theorem putR_ord {row : List Ent} (o : Ord row) (e : Ent) : Ord (putR row e) := rise_ord _ _ _ (Nat.le_refl _) (by simp) (up_snoc o e)

set_option maxHeartbeats 2000000 in
set_option maxRecDepth 100000 in
theorem rooms_any (n : Int) (w : World) (h0 : 0 ≤ n) (h1 : n ≤ 65535) :
    Calls Try.prog 6 #[.int .u16 n] w fun e w' => e = .returned (.bool true) ∧ Below w.heap.size w w' := by
  obtain ⟨k, hk⟩ : ∃ k : Nat, n % 300 = (k : Int) := ⟨(n % 300).toNat, by omega⟩
  have hk1 : (k : Int) < 300 := by omega
  by_cases hbad : (k : Int) < 1 ∨ 256 < (k : Int)
  · rcases hbad with hb | hb
    all_goals
      go_enter Try.func6, Try.ntmps6
      go_wp2_with fail
      refine (known_true w).mono ?_
      rintro e w1 ⟨rfl, T1⟩
      go_wp2_with fail
      refine (new_bad (k : Int) w1 (by omega)).mono ?_
      rintro e w2 ⟨rfl, hw⟩
      subst w2
      go_wp2_with fail
      go_ret
      exact ⟨rfl, T1.below (fun _ h => h.elim) (Nat.le_refl _)⟩
  · have g1 : (1 : Int) ≤ (k : Int) := by omega
    have g2 : (k : Int) ≤ 256 := by omega
    have g3 : decide ((k : Int) < 1) = false := decide_eq_false (by omega)
    have g4 : decide (256 < (k : Int)) = false := decide_eq_false (by omega)
    clear hbad
    go_enter Try.func6, Try.ntmps6
    go_wp2_with fail
    refine (known_true w).mono ?_
    rintro e w1 ⟨rfl, T1⟩
    go_wp2_with fail
    refine (new_good w.heap.size k w1 (by omega) (by omega) T1.size).mono ?_
    rintro e w2 ⟨hb, rfl, ab, h2, t2, _, _⟩
    have T2 := T1.trans t2
    go_wp2_with fail
    go_loopw [6] (fun i wr => ∃ (c : Nat) (rk : List Ent) (rv : Value), i = .int .i64 c ∧ c ≤ k ∧ HP w.heap.size wr hb rv ab k k rk ∧ Hid (rk.length = c) ∧ Hid (∀ x, x ∈ rk → x.id < (c : Int)) ∧ Turns (fun _ => False) w wr)
      (fun i _ => k - (intOf i).toNat)
    case atStart => exact ⟨0, [], _, rfl, by omega, h2, rfl, (fun x hx => by cases hx), T2⟩
    case round =>
      obtain ⟨c, rk, rv, rfl, hc, hh, HL, HM, T⟩ := hrel
      clear h2 T1 t2 T2
      by_cases hck : c < k
      · have hp0 : place rk (c : Int).toNat = 0 := by
          rw [Int.toNat_natCast]
          exact place_zero (fun x hx e => by have := HM.out x hx; omega)
        have hkn : knB k (c : Int) = true := by simp [knB]; omega
        have hs0 : hasB k rk (c : Int) = false := by unfold hasB; rw [hp0]; simp
        have HP0 : Hid (place rk (c : Int).toNat = 0) := hp0
        have HKN : Hid (knB k (c : Int) = true) := hkn
        clear hp0 hkn
        have b1 : (c : Int) < (k : Int) := by omega
        go_wp2_with fail
        refine (has_any (c : Int) hh).mono ?_
        rintro e w3 ⟨rfl, hw⟩
        subst w3
        rw [hs0]
        go_wp2_with fail
        refine (put_ok (c : Int) _ _ hh HKN.out HP0.out T.size).mono ?_
        rintro e w3 ⟨rfl, rv3, h3, t3, _⟩
        have T3 := hh.frame (Nat.le_refl _) T t3
        rw [show rise rk.length (rk ++ [_]) rk.length = putR rk _ from rfl] at h3
        generalize hE : (⟨(c : Int), _, _⟩ : Ent) = E at h3
        have hEid : E.id = (c : Int) := by rw [← hE]
        have HEID : Hid (E.id = (c : Int)) := hEid
        clear hE hEid
        have hp1 : place (putR rk E) (c : Int).toNat ≠ 0 := by
          rw [← HEID.out]
          exact place_mem ((putR_mem rk E E).2 (.inr rfl)) (by rw [HEID.out]; omega)
        have HP1 : Hid (place (putR rk E) (c : Int).toNat ≠ 0) := hp1
        have hs1 : hasB k (putR rk E) (c : Int) = true := by unfold hasB; rw [HKN.out]; simpa using hp1
        clear hp1
        go_wp2_with fail
        refine (has_any (c : Int) h3).mono ?_
        rintro e w4 ⟨rfl, hw⟩
        subst w4
        rw [hs1]
        go_wp2_with fail
        refine (put_twice (c : Int) _ _ h3 HKN.out HP1.out).mono ?_
        rintro e w4 ⟨rfl, hw⟩
        subst w4
        go_wp2_with fail
        go_roundw
        case rel =>
          refine ⟨c + 1, putR rk E, rv3, by go_num, by omega, h3, ?_, ?_, T3⟩
          · show _ = _
            rw [putR_len, HL.out]
          · intro x hx
            rcases (putR_mem rk E x).1 hx with hx | rfl
            · have := HM.out x hx; omega
            · rw [HEID.out]; omega
        case measure => simp [intOf]; omega
      · have hck' : c = k := by omega
        subst hck'
        have hkn : knB c (c : Int) = false := by simp [knB]
        have HKN : Hid (knB c (c : Int) = false) := hkn
        clear hkn
        go_wp2_with fail
        refine (len_hp hh).mono ?_
        rintro e w3 ⟨rfl, hw⟩
        subst w3
        rw [HL.out]
        go_wp2_with fail
        refine (put_arg (c : Int) _ _ hh HKN.out).mono ?_
        rintro e w3 ⟨rfl, hw⟩
        subst w3
        go_wp2_with fail
        refine (order_any hh T.size).mono ?_
        rintro e w3 ⟨og, rfl, _, _, t3⟩
        rw [HL.out]
        have T3 := T.trans t3
        go_wp2_with fail
        go_ret
        exact ⟨by simp, T3.below (fun _ h => h.elim) (Nat.le_refl _)⟩
end Go.Proofs.Ythlnbnklhajilaa
