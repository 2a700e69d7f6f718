/- The reference's Section. -/
import Derived.Test.YtolljdomnohmdaaDoorRFA
import Derived.Test.YtolljdomnohmdaaDoorFlt
import Derived.Test.YtolljdomnohmdaaDoorRcB
namespace Go.Proofs.YtolljdomnohmdaaDoor
open Go.RowKit

theorem balf {d m m' : Nat} {p f : List OpD} (h : Bal d m m' p f) : Bal 0 m m' f f := by
  induction h with
  | nil => exact .nil _ _
  | one h8 h9 ht _ ih => exact .one h8 h9 ht ih
  | @loop d m m' o e b g p f h8 h9 hb _ ihb ihp =>
    have hr : ∀ n : Nat, Bal 0 m m (rep n g) (rep n g) := by
      intro n
      induction n with
      | zero => exact .nil _ _
      | succ n ih => rw [rep_succ]; exact bal_app ih ihb
    exact bal_app (hr _) ihp
def hR (lock : Int) (h : Bool) (o : OpD) : Bool := if o.kind = 2 then (if o.n = lock then true else h) else if o.kind = 3 then (if o.n = lock then false else h) else h
def nR (lock n : Int) (h : Bool) (o : OpD) : Int := if o.kind = 2 then (if o.n = lock then 0 else n) else if o.kind = 1 then (if h = true then n + o.n else n) else n
/-- What the reference's Section counts: the best, what runs now, whether the lock is held. -/
def secR (lock b n : Int) (h : Bool) : List OpD → Int
  | [] => b
  | o :: r => secR lock (if hR lock h o = true ∧ nR lock n h o > b then nR lock n h o else b) (nR lock n h o) (hR lock h o) r
theorem sg_run {lock x c : Int} {o : OpD} {r : List OpD} (h1 : o.kind = 1) : secGo lock x c (o :: r) = secGo lock x (c + o.n) r := by rw [secGo, if_pos h1]
theorem sg_lock {lock x c : Int} {o : OpD} {r : List OpD} (h1 : ¬ o.kind = 1) (h2 : o.kind = 2 ∧ o.n = lock) : secGo lock x c (o :: r) = secGo lock x 0 r := by rw [secGo, if_neg h1, if_pos h2]
theorem sg_unl {lock x c : Int} {o : OpD} {r : List OpD} (h1 : ¬ o.kind = 1) (h2 : ¬ (o.kind = 2 ∧ o.n = lock)) (h3 : o.kind = 3 ∧ o.n = lock) : secGo lock x c (o :: r) = secGo lock (max x c) c r := by rw [secGo, if_neg h1, if_neg h2, if_pos h3]
theorem sg_oth {lock x c : Int} {o : OpD} {r : List OpD} (h1 : ¬ o.kind = 1) (h2 : ¬ (o.kind = 2 ∧ o.n = lock)) (h3 : ¬ (o.kind = 3 ∧ o.n = lock)) : secGo lock x c (o :: r) = secGo lock x c r := by rw [secGo, if_neg h1, if_neg h2, if_neg h3]
theorem rsec_eq (lock : Nat) : ∀ (f : List OpD) (m : Nat) (x n c : Int), Bal 0 m 0 f f → (∀ o ∈ f, 0 ≤ o.n) → (m.testBit lock = false → secR lock x n false f = secGo lock x c f) ∧ (m.testBit lock = true → secR lock (max x c) c true f = secGo lock x c f)
  | [], m, x, n, c, h, _ => by
    cases h
    exact ⟨fun _ => rfl, fun h => by simp at h⟩
  | o :: r, m, x, n, c, h, hn => by
    cases h with
    | @one _ _ m1 _ _ _ _ h8 h9 ht hp =>
      have hn0 := hn o (by simp)
      have hnr : ∀ o ∈ r, 0 ≤ o.n := fun o ho => hn o (by simp [ho])
      obtain ⟨N, hN⟩ : ∃ N : Nat, o.n = (N : Int) := ⟨o.n.toNat, by omega⟩
      unfold takeM at ht
      rw [hN, show ((N : Int)).toNat = N from rfl] at ht
      rw [secR, secR]
      by_cases h1 : o.kind = 1
      · have q2 : ¬ o.kind = 2 := by omega
        have q3 : ¬ o.kind = 3 := by omega
        rw [if_neg q2, if_neg q3, if_neg h8, if_neg h9] at ht
        rw [sg_run h1]
        have e1 : hR lock false o = false := by simp [hR, q2, q3]
        have e2 : hR lock true o = true := by simp [hR, q2, q3]
        have e3 : nR lock n false o = n := by simp [nR, h1]
        have e4 : nR lock c true o = c + o.n := by simp [nR, h1]
        rw [e1, e2, e3, e4]
        split at ht
        · simp at ht
          subst ht
          refine ⟨fun hm => ?_, fun hm => ?_⟩
          · rw [if_neg (by simp)]
            exact (rsec_eq lock r m x n (c + o.n) hp hnr).1 hm
          · have e5 : (if true = true ∧ c + o.n > max x c then c + o.n else max x c) = max x (c + o.n) := by
              by_cases hc : c + o.n > max x c
              · rw [if_pos ⟨rfl, hc⟩]; omega
              · rw [if_neg (fun h => hc h.2)]; omega
            rw [e5]
            exact (rsec_eq lock r m x n (c + o.n) hp hnr).2 hm
        · cases ht
      · by_cases h2 : o.kind = 2
        · rw [if_pos h2] at ht
          split at ht
          · rename_i hlt
            simp at ht
            subst ht
            by_cases hl : o.n = (lock : Int)
            · obtain rfl : N = lock := by omega
              have e1 : ∀ h, hR N h o = true := fun h => by simp [hR, h2, hl]
              have e3 : ∀ z h, nR N z h o = 0 := fun z h => by simp [nR, h2, hl]
              rw [sg_lock h1 ⟨h2, hl⟩, e1, e1, e3, e3]
              refine ⟨fun hm => ?_, fun hm => ?_⟩
              · have e5 : (if true = true ∧ (0 : Int) > x then 0 else x) = max x 0 := by
                  by_cases hc : (0 : Int) > x
                  · rw [if_pos ⟨rfl, hc⟩]; omega
                  · rw [if_neg (fun h => hc h.2)]; omega
                rw [e5]
                refine (rsec_eq N r (m + 2 ^ N) x 0 0 hp hnr).2 ?_
                rw [Nat.add_comm, Nat.testBit_two_pow_add_eq, hm]
                rfl
              · rw [Nat.testBit_lt_two_pow hlt] at hm
                cases hm
            · have hne : N ≠ lock := by omega
              have e1 : ∀ h, hR lock h o = h := fun h => by simp [hR, h2, hl]
              have e3 : ∀ z h, nR lock z h o = z := fun z h => by simp [nR, h2, hl]
              rw [sg_oth h1 (fun e => hl e.2) (fun e => hl e.2), e1, e1, e3, e3]
              refine ⟨fun hm => ?_, fun hm => ?_⟩
              · rw [if_neg (by simp)]
                refine (rsec_eq lock r _ x n c hp hnr).1 ?_
                rcases Nat.lt_or_gt_of_ne hne with hlt2 | hgt
                · refine Nat.testBit_lt_two_pow ?_
                  have : 2 ^ (N + 1) ≤ 2 ^ lock := Nat.pow_le_pow_right (by omega) hlt2
                  rw [Nat.pow_succ] at this
                  omega
                · rw [Nat.add_comm, Nat.testBit_two_pow_add_gt hgt]
                  exact hm
              · rw [if_neg (fun h => by have := h.2; omega)]
                refine (rsec_eq lock r _ x n c hp hnr).2 ?_
                rcases Nat.lt_or_gt_of_ne hne with hlt2 | hgt
                · exfalso
                  have : 2 ^ N ≤ 2 ^ lock := Nat.pow_le_pow_right (by omega) (by omega)
                  rw [Nat.testBit_lt_two_pow (by omega)] at hm
                  cases hm
                · rw [Nat.add_comm, Nat.testBit_two_pow_add_gt hgt]
                  exact hm
          · cases ht
        · rw [if_neg h2] at ht
          by_cases h3 : o.kind = 3
          · rw [if_pos h3] at ht
            split at ht
            · rename_i hlt
              simp at ht
              obtain ⟨y, rfl⟩ : ∃ y, m = 2 ^ N + y := ⟨m - 2 ^ N, by omega⟩
              have hy : y < 2 ^ N := by omega
              have e0 : m1 = y := by omega
              subst e0
              by_cases hl : o.n = (lock : Int)
              · obtain rfl : N = lock := by omega
                have e1 : ∀ h, hR N h o = false := fun h => by simp [hR, h3, hl]
                have e3 : ∀ z h, nR N z h o = z := fun z h => by simp [nR, h3]
                rw [sg_unl h1 (fun e => h2 e.1) ⟨h3, hl⟩, e1, e1, e3, e3]
                refine ⟨fun hm => ?_, fun hm => ?_⟩
                · rw [Nat.testBit_two_pow_add_eq, Nat.testBit_lt_two_pow hy] at hm
                  cases hm
                · rw [if_neg (by simp)]
                  exact (rsec_eq N r m1 (max x c) c c hp hnr).1 (Nat.testBit_lt_two_pow hy)
              · have hne : N ≠ lock := by omega
                have e1 : ∀ h, hR lock h o = h := fun h => by simp [hR, h3, hl]
                have e3 : ∀ z h, nR lock z h o = z := fun z h => by simp [nR, h3]
                rw [sg_oth h1 (fun e => hl e.2) (fun e => hl e.2), e1, e1, e3, e3]
                refine ⟨fun hm => ?_, fun hm => ?_⟩
                · rw [if_neg (by simp)]
                  refine (rsec_eq lock r _ x n c hp hnr).1 ?_
                  rcases Nat.lt_or_gt_of_ne hne with hlt2 | hgt
                  · refine Nat.testBit_lt_two_pow ?_
                    have : 2 ^ N ≤ 2 ^ lock := Nat.pow_le_pow_right (by omega) (by omega)
                    omega
                  · rw [Nat.testBit_two_pow_add_gt hgt] at hm
                    exact hm
                · rw [if_neg (fun h => by have := h.2; omega)]
                  refine (rsec_eq lock r _ x n c hp hnr).2 ?_
                  rcases Nat.lt_or_gt_of_ne hne with hlt2 | hgt
                  · exfalso
                    have : 2 ^ (N + 1) ≤ 2 ^ lock := Nat.pow_le_pow_right (by omega) hlt2
                    rw [Nat.pow_succ] at this
                    rw [Nat.testBit_lt_two_pow (by omega)] at hm
                    cases hm
                  · rw [Nat.testBit_two_pow_add_gt hgt] at hm
                    exact hm
            · cases ht
          · rw [if_neg h3, if_neg h8, if_neg h9] at ht
            have e1 : ∀ h, hR lock h o = h := fun h => by simp [hR, h2, h3]
            have e3 : ∀ z h, nR lock z h o = z := fun z h => by simp [nR, h1, h2]
            rw [sg_oth h1 (fun e => h2 e.1) (fun e => h3 e.1), e1, e1, e3, e3]
            split at ht
            · simp at ht
              subst ht
              refine ⟨fun hm => ?_, fun hm => ?_⟩
              · rw [if_neg (by simp)]
                exact (rsec_eq lock r m x n c hp hnr).1 hm
              · rw [if_neg (fun h => by have := h.2; omega)]
                exact (rsec_eq lock r m x n c hp hnr).2 hm
            · cases ht
theorem rsec_less (lock : Int) (hl : lock < 0) : ∀ (f : List OpD) (x n c : Int), (∀ o ∈ f, 0 ≤ o.n) → secR lock x n false f = secGo lock x c f
  | [], _, _, _, _ => rfl
  | o :: r, x, n, c, hn => by
    have hn0 := hn o (by simp)
    have hnr : ∀ o ∈ r, 0 ≤ o.n := fun o ho => hn o (by simp [ho])
    have hne : ¬ o.n = lock := by omega
    have e1 : hR lock false o = false := by unfold hR; simp [hne]
    rw [secR, e1, if_neg (by simp)]
    by_cases h1 : o.kind = 1
    · rw [sg_run h1]
      exact rsec_less lock hl r x _ _ hnr
    · rw [sg_oth h1 (fun e => hne e.2) (fun e => hne e.2)]
      exact rsec_less lock hl r x _ _ hnr
theorem rsec_all (lock : Int) {f : List OpD} (h : Bal 0 0 0 f f) (hn : ∀ o ∈ f, 0 ≤ o.n) : secR lock 0 0 false f = secGo lock 0 0 f := by
  by_cases hl : lock < 0
  · exact rsec_less lock hl f 0 0 0 hn
  · obtain ⟨N, rfl⟩ : ∃ N : Nat, lock = (N : Int) := ⟨lock.toNat, by omega⟩
    exact (rsec_eq N f 0 0 0 0 h hn).1 (by simp)

set_option maxHeartbeats 8000000 in
theorem rsection_any (a : Option Addr) (c : Nat) (p f : List OpD) (lock : Int) (w : World) (hA : AtP w a p) (hcap : p.length ≤ c) (hk : checkP p = (0, 0)) (hb : Bal 3 0 0 p f) :
    Calls Tryd.prog 20 #[.slice a p.length c, .int .i64 lock] w fun e w' => e = .returned (.int .i64 (secGo lock 0 0 f)) ∧ Kept w w' := by
  obtain ⟨h48, hc, _, _⟩ := taken_prog hk
  have HFC : Hid (∀ o ∈ f, checkD o = 0) := fun o ho => hc o (bal_mem hb o ho).1
  have hfl : (f.length : Int) ≤ 512 := by
    have h1 := steps_len hb hc
    obtain ⟨_, _, _, f', hf', hl'⟩ := taken_prog hk
    have h2 := steps_len hf' hc
    omega
  have HAL : Hid (secR lock 0 0 false f = secGo lock 0 0 f) := rsec_all lock (balf hb) (fun o ho => op_pos (HFC.out o ho))
  have hfa := rflat_any 3 0 0 p f a c w hb hA hcap hc (by omega) (by omega)
  have HA0 : Hid (AtP w a p) := hA
  clear hA hc hk hb
  go_enter Tryd.func20, Tryd.ntmps20
  go_wp2_with fail
  refine hfa.mono ?_
  rintro e w1 ⟨v, rfl, R, K1⟩
  obtain ⟨fa, fc, hv, _, hat0⟩ := R.view HA0.out K1
  subst hv
  have HA1 : Hid (AtP w1 fa f) := hat0
  clear R hat0 hfa
  go_wp2_with fail
  go_loopg [6, 7, 8, 9] f.length (fun gk bs ns hs i wr => ∃ (j : Nat) (bv nv : Int) (hv : Bool), i = .int .i64 j ∧ bs = .int .i64 bv ∧ ns = .int .i64 nv ∧ hs = .bool hv ∧ j + gk = f.length ∧ 0 ≤ bv ∧ bv ≤ 1000 * (j : Int) ∧ 0 ≤ nv ∧ nv ≤ 1000 * (j : Int) ∧ (hv = true → nv ≤ bv) ∧ Hid (secR lock 0 0 false f = secR lock bv nv hv (f.drop j)) ∧ Kept w1 wr)
  case atStart => exact ⟨0, 0, 0, false, rfl, rfl, rfl, rfl, by omega, by omega, by omega, by omega, by omega, (fun h => by cases h), (by show _ = _; rw [List.drop_zero]), Kept.refl _⟩
  case round =>
    obtain ⟨j, bv, nv, hv, rfl, rfl, rfl, rfl, hj, hb0, hb1, hn0, hn1, hb2, HE, KB⟩ := hrel
    by_cases hjp : j < f.length
    · obtain ⟨b, f0, k, n, v, wt, l, ca, cc, rfl, hpj, g0, g1, g2, g3, g4, hcc, hat, hbl, hdr⟩ := (HA1.out.kept KB).get j hjp
      have b1 : (j : Int) < (f.length : Int) := by omega
      have b2 : (0 : Int) ≤ (j : Int) := by omega
      have HCK : Hid (checkD ⟨k, n, v, wt, l⟩ = 0) := HFC.out _ (List.mem_of_getElem? hpj)
      have HE2 : Hid (secR lock 0 0 false f = secR lock bv nv hv (⟨k, n, v, wt, l⟩ :: f.drop (j + 1))) := by show _ = _; rw [HE.out, hdr]
      obtain ⟨g3', rfl⟩ : ∃ g, gk = g + 1 := ⟨gk - 1, by omega⟩
      clear hpj hat hdr HE
      by_cases h2 : k = 2
      · subst h2
        by_cases hl : n = lock
        · have hlb : (n == lock) = true := beq_iff_eq.2 hl
          have hng : ¬ (0 : Int) > bv := by omega
          cases hv with
          | true =>
            have HE3 : Hid (secR lock 0 0 false f = secR lock (bv) (0) true (f.drop (j + 1))) := by show _ = _; rw [HE2.out, secR]; simp [hR, nR, hl, show ¬ bv < 0 by omega]
            clear HE2
            go_wp2_with fail
            go_roundg g3'
            case rel => exact ⟨j + 1, bv, 0, true, by go_num, rfl, rfl, rfl, by omega, by omega, by omega, by omega, by omega, (by simp <;> omega), HE3, KB⟩
            case measure => omega
          | false =>
            have HE3 : Hid (secR lock 0 0 false f = secR lock (bv) (0) true (f.drop (j + 1))) := by show _ = _; rw [HE2.out, secR]; simp [hR, nR, hl, show ¬ bv < 0 by omega]
            clear HE2
            go_wp2_with fail
            go_roundg g3'
            case rel => exact ⟨j + 1, bv, 0, true, by go_num, rfl, rfl, rfl, by omega, by omega, by omega, by omega, by omega, (by simp <;> omega), HE3, KB⟩
            case measure => omega
        · have hlb : (n == lock) = false := beq_eq_false_iff_ne.2 hl
          cases hv with
          | true =>
            have hle := hb2 rfl
            have hng : ¬ nv > bv := by omega
            have HE3 : Hid (secR lock 0 0 false f = secR lock (bv) (nv) true (f.drop (j + 1))) := by show _ = _; rw [HE2.out, secR]; simp [hR, nR, hl, hng]
            clear HE2
            go_wp2_with fail
            go_roundg g3'
            case rel => exact ⟨j + 1, bv, nv, true, by go_num, rfl, rfl, rfl, by omega, by omega, by omega, by omega, by omega, (by simp <;> omega), HE3, KB⟩
            case measure => omega
          | false =>
            have HE3 : Hid (secR lock 0 0 false f = secR lock (bv) (nv) false (f.drop (j + 1))) := by show _ = _; rw [HE2.out, secR]; simp [hR, nR, hl]
            clear HE2
            go_wp2_with fail
            go_roundg g3'
            case rel => exact ⟨j + 1, bv, nv, false, by go_num, rfl, rfl, rfl, by omega, by omega, by omega, by omega, by omega, (by simp <;> omega), HE3, KB⟩
            case measure => omega
      · have k2 : (k == 2) = false := beq_eq_false_iff_ne.2 h2
        by_cases h3 : k = 3
        · subst h3
          by_cases hl : n = lock
          · have hlb : (n == lock) = true := beq_iff_eq.2 hl
            cases hv with
            | true =>
              have HE3 : Hid (secR lock 0 0 false f = secR lock (bv) (nv) false (f.drop (j + 1))) := by show _ = _; rw [HE2.out, secR]; simp [hR, nR, hl]
              clear HE2
              go_wp2_with fail
              go_roundg g3'
              case rel => exact ⟨j + 1, bv, nv, false, by go_num, rfl, rfl, rfl, by omega, by omega, by omega, by omega, by omega, (by simp <;> omega), HE3, KB⟩
              case measure => omega
            | false =>
              have HE3 : Hid (secR lock 0 0 false f = secR lock (bv) (nv) false (f.drop (j + 1))) := by show _ = _; rw [HE2.out, secR]; simp [hR, nR, hl]
              clear HE2
              go_wp2_with fail
              go_roundg g3'
              case rel => exact ⟨j + 1, bv, nv, false, by go_num, rfl, rfl, rfl, by omega, by omega, by omega, by omega, by omega, (by simp <;> omega), HE3, KB⟩
              case measure => omega
          · have hlb : (n == lock) = false := beq_eq_false_iff_ne.2 hl
            cases hv with
            | true =>
              have hle := hb2 rfl
              have hng : ¬ nv > bv := by omega
              have HE3 : Hid (secR lock 0 0 false f = secR lock (bv) (nv) true (f.drop (j + 1))) := by show _ = _; rw [HE2.out, secR]; simp [hR, nR, hl, hng]
              clear HE2
              go_wp2_with fail
              go_roundg g3'
              case rel => exact ⟨j + 1, bv, nv, true, by go_num, rfl, rfl, rfl, by omega, by omega, by omega, by omega, by omega, (by simp <;> omega), HE3, KB⟩
              case measure => omega
            | false =>
              have HE3 : Hid (secR lock 0 0 false f = secR lock (bv) (nv) false (f.drop (j + 1))) := by show _ = _; rw [HE2.out, secR]; simp [hR, nR, hl]
              clear HE2
              go_wp2_with fail
              go_roundg g3'
              case rel => exact ⟨j + 1, bv, nv, false, by go_num, rfl, rfl, rfl, by omega, by omega, by omega, by omega, by omega, (by simp <;> omega), HE3, KB⟩
              case measure => omega
        · have k3 : (k == 3) = false := beq_eq_false_iff_ne.2 h3
          by_cases h1 : k = 1
          · subst h1
            obtain ⟨hr1, hr2⟩ := run_n HCK.out
            cases hv with
            | true =>
              have hs1 : nv + n ≤ 600000 := by omega
              have hs0 : 0 ≤ nv + n := by omega
              by_cases hgt : nv + n > bv
              · skip
                have HE3 : Hid (secR lock 0 0 false f = secR lock (nv + n) (nv + n) true (f.drop (j + 1))) := by show _ = _; rw [HE2.out, secR]; simp [hR, nR, show bv < nv + n by omega]
                clear HE2
                go_wp2_with fail
                go_roundg g3'
                case rel => exact ⟨j + 1, nv + n, nv + n, true, by go_num, by go_num, by go_num, rfl, by omega, by omega, by omega, by omega, by omega, (by simp <;> omega), HE3, KB⟩
                case measure => omega
              · skip
                have HE3 : Hid (secR lock 0 0 false f = secR lock (bv) (nv + n) true (f.drop (j + 1))) := by show _ = _; rw [HE2.out, secR]; simp [hR, nR, show ¬ bv < nv + n by omega]
                clear HE2
                go_wp2_with fail
                go_roundg g3'
                case rel => exact ⟨j + 1, bv, nv + n, true, by go_num, rfl, by go_num, rfl, by omega, by omega, by omega, by omega, by omega, (by simp <;> omega), HE3, KB⟩
                case measure => omega
            | false =>
              have HE3 : Hid (secR lock 0 0 false f = secR lock (bv) (nv) false (f.drop (j + 1))) := by show _ = _; rw [HE2.out, secR]; simp [hR, nR]
              clear HE2
              go_wp2_with fail
              go_roundg g3'
              case rel => exact ⟨j + 1, bv, nv, false, by go_num, rfl, rfl, rfl, by omega, by omega, by omega, by omega, by omega, (by simp <;> omega), HE3, KB⟩
              case measure => omega
          · have k1 : (k == 1) = false := beq_eq_false_iff_ne.2 h1
            cases hv with
            | true =>
              have hle := hb2 rfl
              have hng : ¬ nv > bv := by omega
              have HE3 : Hid (secR lock 0 0 false f = secR lock (bv) (nv) true (f.drop (j + 1))) := by show _ = _; rw [HE2.out, secR]; simp [hR, nR, h1, h2, h3, hng]
              clear HE2
              go_wp2_with fail
              go_roundg g3'
              case rel => exact ⟨j + 1, bv, nv, true, by go_num, rfl, rfl, rfl, by omega, by omega, by omega, by omega, by omega, (by simp <;> omega), HE3, KB⟩
              case measure => omega
            | false =>
              have HE3 : Hid (secR lock 0 0 false f = secR lock (bv) (nv) false (f.drop (j + 1))) := by show _ = _; rw [HE2.out, secR]; simp [hR, nR, h1, h2, h3]
              clear HE2
              go_wp2_with fail
              go_roundg g3'
              case rel => exact ⟨j + 1, bv, nv, false, by go_num, rfl, rfl, rfl, by omega, by omega, by omega, by omega, by omega, (by simp <;> omega), HE3, KB⟩
              case measure => omega
    · have b1 : ¬ (j : Int) < (f.length : Int) := by omega
      have HE3 : Hid (secGo lock 0 0 f = bv) := by show _ = _; rw [← HAL.out, HE.out, List.drop_eq_nil_of_le (by omega)]; rfl
      go_wp2_with fail
      go_ret
      rw [HE3.out]
      exact ⟨rfl, K1.trans KB⟩
end Go.Proofs.YtolljdomnohmdaaDoor
