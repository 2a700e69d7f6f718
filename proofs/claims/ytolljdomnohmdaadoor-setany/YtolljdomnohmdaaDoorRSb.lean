/- The reference's known: are all locks, channels of an op the set's? -/
import Derived.Test.YtolljdomnohmdaaDoorRSa
namespace Go.Proofs.YtolljdomnohmdaaDoor
open Go.RowKit

/-- Of what may be, it is what Check asks. -/
theorem known_has {L nc : Int} {o : OpD} (h : checkD o = 0) : knownD L nc o = hasB L nc o := by
  have ht := (taken_of h).takes
  have hk := (taken_of h).kind
  obtain ⟨k, n, v, wt, l⟩ := o
  unfold knownD hasB
  simp only at *
  by_cases h1 : k = 2 ∨ k = 3
  · rw [if_pos h1, if_pos h1]
  · rw [if_neg h1, if_neg h1]
    by_cases h2 : k = 4 ∨ k = 5 ∨ k = 6
    · rw [if_pos h2, if_pos h2]
    · rw [if_neg h2, if_neg h2]
      by_cases h3 : k = 7
      · rw [if_pos h3]
      · rw [if_neg h3]
        have hl : l = [] := by
          simp only [isKindB, Bool.and_eq_true, decide_eq_true_eq] at hk
          have hkk : k = 1 ∨ k = 8 ∨ k = 9 := by omega
          rcases hkk with rfl | rfl | rfl <;> simp [takesB, shapeOf] at ht <;> exact ht.2
        rw [hl]
        rfl
theorem taken_cases {o : OpD} (h : checkD o = 0) : o.cases.length ≤ 4 := by
  have ht := taken_of h
  have h1 := ht.takes
  unfold takesB at h1
  rw [Bool.and_eq_true, Bool.or_eq_true] at h1
  rcases h1.2 with h2 | h2
  · exact ht.many h2
  · have : o.cases.length = 0 := by simpa using h2
    omega
set_option maxHeartbeats 4000000 in
theorem rknown_any (k n v wt : Int) (la : Option Addr) (l : List CaseD) (lc : Nat) (L : Int) (ca ta : Option Addr) (nc cc nt tc : Nat) (w : World) (hA : AtC w la l.length l) (hl : l.length ≤ 1000000) :
    Calls Tryd.prog 73 #[.agg #[.int .i64 k, .int .i64 n, .int .i64 v, .int .i64 wt, .slice la l.length lc], .agg #[.int .i64 L, .slice ca nc cc, .slice ta nt tc]] w fun e w' => e = .returned (.bool (knownD L nc ⟨k, n, v, wt, l⟩)) ∧ Kept w w' := by
  have HA : Hid (AtC w la l.length l) := hA
  clear hA
  have K2 := ((Kept.refl w).alloc (.cells #[.int .i64 k, .int .i64 n, .int .i64 v, .int .i64 wt, .slice la l.length lc] 81)).alloc (.cells #[.int .i64 L, .slice ca nc cc, .slice ta nt tc] 53)
  by_cases k2 : k = 2
  · subst k
    have HZ : Hid (knownD L nc ⟨2, n, v, wt, l⟩ = decide (n < L)) := rfl
    obtain ⟨z, hz⟩ : ∃ z, decide (n < L) = z := ⟨_, rfl⟩
    rw [hz] at HZ
    go_enter Tryd.func73, Tryd.ntmps73
    go_wp2_with fail
    go_ret
    rw [HZ.out]
    exact ⟨rfl, K2⟩
  by_cases k3 : k = 3
  · subst k
    have HZ : Hid (knownD L nc ⟨3, n, v, wt, l⟩ = decide (n < L)) := rfl
    obtain ⟨z, hz⟩ : ∃ z, decide (n < L) = z := ⟨_, rfl⟩
    rw [hz] at HZ
    go_enter Tryd.func73, Tryd.ntmps73
    go_wp2_with fail
    go_ret
    rw [HZ.out]
    exact ⟨rfl, K2⟩
  by_cases k4 : k = 4
  · subst k
    have HZ : Hid (knownD L nc ⟨4, n, v, wt, l⟩ = decide (n < (nc : Int))) := rfl
    obtain ⟨z, hz⟩ : ∃ z, decide (n < (nc : Int)) = z := ⟨_, rfl⟩
    rw [hz] at HZ
    go_enter Tryd.func73, Tryd.ntmps73
    go_wp2_with fail
    go_ret
    rw [HZ.out]
    exact ⟨rfl, K2⟩
  by_cases k5 : k = 5
  · subst k
    have HZ : Hid (knownD L nc ⟨5, n, v, wt, l⟩ = decide (n < (nc : Int))) := rfl
    obtain ⟨z, hz⟩ : ∃ z, decide (n < (nc : Int)) = z := ⟨_, rfl⟩
    rw [hz] at HZ
    go_enter Tryd.func73, Tryd.ntmps73
    go_wp2_with fail
    go_ret
    rw [HZ.out]
    exact ⟨rfl, K2⟩
  by_cases k6 : k = 6
  · subst k
    have HZ : Hid (knownD L nc ⟨6, n, v, wt, l⟩ = decide (n < (nc : Int))) := rfl
    obtain ⟨z, hz⟩ : ∃ z, decide (n < (nc : Int)) = z := ⟨_, rfl⟩
    rw [hz] at HZ
    go_enter Tryd.func73, Tryd.ntmps73
    go_wp2_with fail
    go_ret
    rw [HZ.out]
    exact ⟨rfl, K2⟩
  have e2 : (k == 2) = false := by simpa using k2
  have e3 : (k == 3) = false := by simpa using k3
  have e4 : (k == 4) = false := by simpa using k4
  have e5 : (k == 5) = false := by simpa using k5
  have e6 : (k == 6) = false := by simpa using k6
  have HK : Hid (knownD L nc ⟨k, n, v, wt, l⟩ = casesB nc l) := by show _ = _; unfold knownD; simp [k2, k3, k4, k5, k6]
  have HB0 : Hid (Box w.heap.size ((w.alloc (.cells #[.int .i64 k, .int .i64 n, .int .i64 v, .int .i64 wt, .slice la l.length lc] 81)).alloc (.cells #[.int .i64 L, .slice ca nc cc, .slice ta nt tc] 53)) 81 w.heap.size [.int .i64 k, .int .i64 n, .int .i64 v, .int .i64 wt, .slice la l.length lc]) := (box_new w.heap.size w 81 [.int .i64 k, .int .i64 n, .int .i64 v, .int .i64 wt, .slice la l.length lc] (Nat.le_refl _) (by simp)).kept ((Kept.refl _).alloc _)
  have HB1 : Hid (Box w.heap.size ((w.alloc (.cells #[.int .i64 k, .int .i64 n, .int .i64 v, .int .i64 wt, .slice la l.length lc] 81)).alloc (.cells #[.int .i64 L, .slice ca nc cc, .slice ta nt tc] 53)) 53 (w.heap.size + 1) [.int .i64 L, .slice ca nc cc, .slice ta nt tc]) := by
    have h := box_new w.heap.size (w.alloc (.cells #[.int .i64 k, .int .i64 n, .int .i64 v, .int .i64 wt, .slice la l.length lc] 81)) 53 [.int .i64 L, .slice ca nc cc, .slice ta nt tc] (by simp) (by simp)
    rw [show (w.alloc (.cells #[.int .i64 k, .int .i64 n, .int .i64 v, .int .i64 wt, .slice la l.length lc] 81)).heap.size = w.heap.size + 1 by simp] at h
    exact h
  clear k2 k3 k4 k5 k6
  go_enter Tryd.func73, Tryd.ntmps73
  go_wp2_with fail
  go_loopg [5] l.length (fun gk i wr => ∃ (j : Nat) (W : World), W = wr ∧ i = .int .i64 j ∧ j + gk = l.length ∧ Hid (casesB nc l = casesB nc (l.drop j)) ∧ Kept w W ∧ Hid (Box w.heap.size W 81 w.heap.size [.int .i64 k, .int .i64 n, .int .i64 v, .int .i64 wt, .slice la l.length lc]) ∧ Hid (Box w.heap.size W 53 (w.heap.size + 1) [.int .i64 L, .slice ca nc cc, .slice ta nt tc]))
  case atStart => exact ⟨0, _, rfl, rfl, by omega, (by show _ = _; rw [List.drop_zero]), K2, HB0, HB1⟩
  case round =>
    obtain ⟨j, W, hW, rfl, hj, HE, K, HC0, HC1⟩ := hrel
    subst hW
    have s4 : W.cell? ⟨w.heap.size, 4, none⟩ = some (.slice la l.length lc) := HC0.out.cell 4 (by simp)
    have s1 : W.cell? ⟨w.heap.size + 1, 1, none⟩ = some (.slice ca nc cc) := HC1.out.cell 1 (by simp)
    by_cases hjl : j < l.length
    · obtain ⟨b, f, sd, ch, x, rfl, g0, g1, g2, hbl, hlj, _, hdr⟩ := (HA.out.kept K).get j hjl
      have b1 : (j : Int) < (l.length : Int) := by omega
      have b2 : (0 : Int) ≤ (j : Int) := by omega
      have HE2 : Hid (casesB nc l = if ch < (nc : Int) then casesB nc (l.drop (j + 1)) else false) := by show _ = _; rw [HE.out, hdr, casesB]
      obtain ⟨gi, rfl⟩ : ∃ g, gk = g + 1 := ⟨gk - 1, by omega⟩
      clear hlj hdr HE g0 g2
      by_cases h1 : ch ≥ (nc : Int)
      · have HZ : Hid (knownD L nc ⟨k, n, v, wt, l⟩ = false) := by show _ = _; rw [HK.out, HE2.out, if_neg (by omega)]
        clear HE2
        go_wp2_with fail
        go_region_held3 (fun w' => w'.cell? ⟨w.heap.size, 4, none⟩ = some (.slice (some ⟨b, f, none⟩) l.length lc) ∧ w'.cell? ⟨w.heap.size + 1, 1, none⟩ = some (.slice ca nc cc) ∧ w'.cell? ⟨b, f + j * 3 + 1, none⟩ = some (.int .i64 ch)) (go_keep) (fail)
        go_wp2_with fail
        go_ret
        rw [HZ.out]
        exact ⟨rfl, K.drew⟩
      · have HZ : Hid (casesB nc l = casesB nc (l.drop (j + 1))) := by show _ = _; rw [HE2.out, if_pos (by omega)]
        clear HE2
        go_wp2_with fail
        go_region_held3 (fun w' => w'.cell? ⟨w.heap.size, 4, none⟩ = some (.slice (some ⟨b, f, none⟩) l.length lc) ∧ w'.cell? ⟨w.heap.size + 1, 1, none⟩ = some (.slice ca nc cc) ∧ w'.cell? ⟨b, f + j * 3 + 1, none⟩ = some (.int .i64 ch)) (go_keep) (fail)
        go_wp2_with fail
        go_roundg gi
        case rel => exact ⟨j + 1, _, rfl, by go_num, by omega, HZ, K.drew, HC0.out.kept ((Kept.refl W).drew), HC1.out.kept ((Kept.refl W).drew)⟩
        case measure => omega
    · have b1 : ¬ (j : Int) < (l.length : Int) := by omega
      have HZ : Hid (knownD L nc ⟨k, n, v, wt, l⟩ = true) := by show _ = _; rw [HK.out, HE.out, List.drop_eq_nil_of_le (by omega)]; rfl
      go_wp2_with fail
      go_ret
      rw [HZ.out]
      exact ⟨rfl, K⟩
end Go.Proofs.YtolljdomnohmdaaDoor
