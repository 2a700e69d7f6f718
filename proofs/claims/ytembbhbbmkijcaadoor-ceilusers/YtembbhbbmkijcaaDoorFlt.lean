/- Flat, Section, Waits. -/
import Derived.Test.YtembbhbbmkijcaaDoorUnr
import Derived.Test.YtembbhbbmkijcaaDoorStp
namespace Go.Proofs.YtembbhbbmkijcaaDoor
open Go.RowKit

/-- As many steps as there are ops done. -/
theorem times_bal {d m m' : Nat} {p f : List OpD} (h : Bal d m m' p f) : (∀ o ∈ p, 0 ≤ o.n) → ∀ (t : Int) (st : List Int) (r : List OpD), sumL (timesGo (t :: st) (p ++ r)) = t * f.length + sumL (timesGo (t :: st) r) := by
  induction h with
  | nil => intro _ t st r; simp
  | @one d m m1 m' o p f h8 h9 _ _ ih =>
    intro hn t st r
    rw [List.cons_append, timesGo, if_neg h8, if_neg h9, sumL, ih (fun o ho => hn o (by simp [ho])) t st r, List.length_cons]
    simp only [List.headD_cons, Int.natCast_add, Int.mul_add]
    simp
    omega
  | @loop d m m' o e b g p f h8 h9 _ _ ihb ihp =>
    intro hn t st r
    have ho : 0 ≤ o.n := hn o (by simp)
    obtain ⟨R, hR⟩ : ∃ R : Nat, o.n = (R : Int) := ⟨o.n.toNat, by omega⟩
    have e9 : e.kind ≠ 8 := by omega
    rw [List.cons_append, timesGo, if_pos h8, sumL, List.append_assoc, ihb (fun o ho => hn o (by simp [ho])) _ _ _, List.cons_append, timesGo, if_neg e9, if_pos h9, if_pos (by simp), sumL]
    have ih2 := ihp (fun o ho => hn o (by simp [ho])) t st r
    simp only [List.tail_cons, List.headD_cons]
    rw [ih2, List.length_append, rep_len, hR, show ((R : Int)).toNat = R from rfl, Int.natCast_add, Int.natCast_mul, Int.mul_add, Int.mul_assoc]
    omega
theorem op_pos {o : OpD} (h : checkD o = 0) : 0 ≤ o.n := by
  have ht := (taken_of h).takes
  have hl : ∀ k : Nat, 0 ≤ (shapeOf k).least := by intro k; unfold shapeOf; split <;> simp
  have := hl o.kind.toNat
  simp only [takesB, Bool.and_eq_true, Bool.not_eq_true', Bool.or_eq_false_iff, decide_eq_false_iff_not] at ht
  omega
theorem steps_len {p f : List OpD} (h : Bal 3 0 0 p f) (hc : ∀ o ∈ p, checkD o = 0) : stepsD p = (f.length : Int) := by
  have := times_bal h (fun o ho => op_pos (hc o ho)) 1 [] []
  rw [List.append_nil] at this
  unfold stepsD
  rw [this]
  simp [timesGo, sumL]
/-- What Check takes. -/
theorem taken_prog {p : List OpD} (h : checkP p = (0, 0)) : p.length ≤ 48 ∧ (∀ o ∈ p, checkD o = 0) ∧ runM 0 [] p = some (0, []) ∧ ∃ f, Bal 3 0 0 p f ∧ f.length ≤ 512 := by
  unfold checkP at h
  split at h
  · simp at h
  · rename_i h48
    split at h
    · rename_i he
      split at h
      · rename_i ho
        split at h
        · simp at h
        · rename_i hs
          have hc := each_all p 0 he
          obtain ⟨f, hf⟩ := ord_bal ho
          refine ⟨by omega, hc, run_of_ord ho, f, hf, ?_⟩
          have := steps_len hf hc
          omega
      · rename_i ho
        rw [h] at ho
        simp at ho
    · rename_i he
      rw [h] at he
      simp at he

theorem flat_any (a : Option Addr) (c : Nat) (p f : List OpD) (w : World) (hr : Rdy w) (hA : AtP w a p) (hcap : p.length ≤ c) (hk : checkP p = (0, 0)) (hb : Bal 3 0 0 p f) :
    Calls Tryd.prog 22 #[.slice a p.length c] w fun e w' => ∃ v, e = .returned v ∧ (∃ svs, ORow w.heap.size w' v f svs) ∧ Kept w w' := by
  obtain ⟨h48, hc, _, _⟩ := taken_prog hk
  have hfl : f.length ≤ 512 := by
    have := steps_len hb hc
    have h2 := hk
    unfold checkP at h2
    split at h2
    · simp at h2
    · split at h2
      · split at h2
        · split at h2
          · simp at h2
          · omega
        · rename_i ho
          rw [h2] at ho
          simp at ho
      · rename_i he
        rw [h2] at he
        simp at he
  have hpc := pcheck_any a c p w hr hA (by omega) (fun o ho => op_few (hc o ho))
  rw [hk] at hpc
  have hun := fun w' (k : Kept w w') => unroll_any 3 0 0 p f a c w' hb (hA.kept k) hcap hc (by omega) (by omega)
  clear hr hA hc hk hb
  go_enter Tryd.func22, Tryd.ntmps22
  go_wp2_with fail
  refine hpc.mono ?_
  rintro e w1 ⟨rfl, K1⟩
  go_wp2_with fail
  refine (hun w1 K1).mono ?_
  rintro e w2 ⟨v, rfl, ⟨svs, R⟩, t2⟩
  go_wp2_with fail
  go_ret
  exact ⟨v, rfl, ⟨svs, R.base K1.size⟩, K1.trans t2⟩

/-- Does any op wait? -/
def anyW : List OpD → Bool
  | [] => false
  | o :: r => waitsD o || anyW r
def idxW (i : Nat) : List OpD → Int
  | [] => -1
  | o :: r => if waitsD o = true then (i : Int) else idxW (i + 1) r
theorem idx_any : ∀ (p : List OpD) (i : Nat), decide (0 ≤ idxW i p) = anyW p
  | [], _ => by simp [idxW, anyW]
  | o :: r, i => by
    rw [idxW, anyW]
    cases h : waitsD o with
    | true => simp
    | false => simp [idx_any r (i + 1)]
/-- The most that runs cost from a Lock of it to its Unlock. -/
def secGo (lock : Int) (most cost : Int) : List OpD → Int
  | [] => most
  | o :: r => if o.kind = 1 then secGo lock most (cost + o.n) r else if o.kind = 2 ∧ o.n = lock then secGo lock most 0 r else if o.kind = 3 ∧ o.n = lock then secGo lock (max most cost) cost r else secGo lock most cost r

set_option maxHeartbeats 4000000 in
theorem section_any (a : Option Addr) (c : Nat) (p f : List OpD) (lock : Int) (w : World) (hr : Rdy w) (hA : AtP w a p) (hcap : p.length ≤ c) (hk : checkP p = (0, 0)) (hb : Bal 3 0 0 p f) :
    Calls Tryd.prog 14 #[.slice a p.length c, .int .i64 lock] w fun e w' => e = .returned (.int .i64 (secGo lock 0 0 f)) ∧ Kept w w' := by
  obtain ⟨h48, hc, _, _⟩ := taken_prog hk
  have hfa := flat_any a c p f w hr hA hcap hk hb
  have HFC : Hid (∀ o ∈ f, checkD o = 0) := fun o ho => hc o (bal_mem hb o ho).1
  have hfl : (f.length : Int) ≤ 512 := by
    have h1 := steps_len hb hc
    obtain ⟨_, _, _, f', hf', hl'⟩ := taken_prog hk
    have h2 := steps_len hf' hc
    omega
  clear hr hA hc hk hb
  go_enter Tryd.func14, Tryd.ntmps14
  go_wp2_with fail
  refine hfa.mono ?_
  rintro e w1 ⟨v, rfl, ⟨svs, R⟩, K1⟩
  obtain ⟨fa, fc, hv, _, _, hat0⟩ := R.view
  subst hv
  have HA1 : Hid (AtP w1 fa f) := hat0
  clear R hat0 hfa
  go_wp2_with fail
  go_loopg [5, 6, 13] f.length (fun gk ms cs i wr => ∃ (j : Nat) (mv cv : Int), i = .int .i64 j ∧ ms = .int .i64 mv ∧ cs = .int .i64 cv ∧ j + gk = f.length ∧ 0 ≤ mv ∧ mv ≤ 1000 * (j : Int) ∧ 0 ≤ cv ∧ cv ≤ 1000 * (j : Int) ∧ Hid (secGo lock 0 0 f = secGo lock mv cv (f.drop j)) ∧ Kept w1 wr)
  case atStart => exact ⟨0, 0, 0, rfl, rfl, rfl, by omega, by omega, by omega, by omega, by omega, (by show _ = _; rw [List.drop_zero]), Kept.refl _⟩
  case round =>
    obtain ⟨j, mv, cv, rfl, rfl, rfl, hj, hm0, hm1, hc0, hc1, HE, K⟩ := hrel
    by_cases hjp : j < f.length
    · obtain ⟨b, f0, k, n, v, wt, l, ca, cc, rfl, hpj, g0, g1, g2, g3, g4, hcc, hat, hbl, hdr⟩ := (HA1.out.kept K).get j hjp
      have b1 : (j : Int) < (f.length : Int) := by omega
      have b2 : (0 : Int) ≤ (j : Int) := by omega
      have HCK : Hid (checkD ⟨k, n, v, wt, l⟩ = 0) := HFC.out _ (List.mem_of_getElem? hpj)
      have HE2 : Hid (secGo lock 0 0 f = secGo lock mv cv (⟨k, n, v, wt, l⟩ :: f.drop (j + 1))) := by show _ = _; rw [HE.out, hdr]
      obtain ⟨g3', rfl⟩ : ∃ g, gk = g + 1 := ⟨gk - 1, by omega⟩
      have KB := K.alloc (.cells #[.int .i64 k, .int .i64 n, .int .i64 v, .int .i64 wt, .slice ca l.length cc] 31)
      clear hpj hat hdr HE
      by_cases h1 : k = 1
      · subst h1
        obtain ⟨hn1, hn2⟩ := run_n HCK.out
        have HE3 : Hid (secGo lock 0 0 f = secGo lock mv (cv + n) (f.drop (j + 1))) := by show _ = _; rw [HE2.out, secGo, if_pos rfl]
        have hs1 : cv + n ≤ 600000 := by omega
        have hs0 : 0 ≤ cv + n := by omega
        clear HE2
        go_wp2_with fail
        go_roundg g3'
        case rel => exact ⟨j + 1, mv, cv + n, by go_num, rfl, by go_num, by omega, by omega, by omega, by omega, by omega, HE3, KB⟩
        case measure => omega
      · have k1 : (k == 1) = false := beq_eq_false_iff_ne.2 h1
        by_cases h2 : k = 2
        · subst h2
          by_cases hl : n = lock
          · have HE3 : Hid (secGo lock 0 0 f = secGo lock mv 0 (f.drop (j + 1))) := by show _ = _; rw [HE2.out, secGo, if_neg h1, if_pos ⟨rfl, hl⟩]
            have hlb : (n == lock) = true := beq_iff_eq.2 hl
            clear HE2 hl
            go_wp2_with fail
            go_roundg g3'
            case rel => exact ⟨j + 1, mv, 0, by go_num, rfl, rfl, by omega, by omega, by omega, by omega, by omega, HE3, KB⟩
            case measure => omega
          · have HE3 : Hid (secGo lock 0 0 f = secGo lock mv cv (f.drop (j + 1))) := by show _ = _; rw [HE2.out, secGo, if_neg h1, if_neg (fun h => hl h.2), if_neg (fun h => hl h.2)]
            have hlb : (n == lock) = false := beq_eq_false_iff_ne.2 hl
            clear HE2 hl
            go_wp2_with fail
            go_roundg g3'
            case rel => exact ⟨j + 1, mv, cv, by go_num, rfl, rfl, by omega, by omega, by omega, by omega, by omega, HE3, KB⟩
            case measure => omega
        · have k2 : (k == 2) = false := beq_eq_false_iff_ne.2 h2
          by_cases h3 : k = 3
          · subst h3
            by_cases hl : n = lock
            · have hlb : (n == lock) = true := beq_iff_eq.2 hl
              obtain ⟨mx, hmx⟩ : ∃ z, max mv cv = z := ⟨_, rfl⟩
              have HE3 : Hid (secGo lock 0 0 f = secGo lock mx cv (f.drop (j + 1))) := by show _ = _; rw [HE2.out, secGo, if_neg h1, if_neg (fun h => h2 h.1), if_pos ⟨rfl, hl⟩, hmx]
              have hx0 : 0 ≤ mx ∧ mx ≤ 1000 * (j : Int) := by rw [← hmx]; omega
              clear HE2 hl
              go_wp2_with fail
              go_roundg g3'
              case rel => exact ⟨j + 1, mx, cv, by go_num, rfl, rfl, by omega, hx0.1, by omega, by omega, by omega, HE3, KB⟩
              case measure => omega
            · have hlb : (n == lock) = false := beq_eq_false_iff_ne.2 hl
              have HE3 : Hid (secGo lock 0 0 f = secGo lock mv cv (f.drop (j + 1))) := by show _ = _; rw [HE2.out, secGo, if_neg h1, if_neg (fun h => hl h.2), if_neg (fun h => hl h.2)]
              clear HE2 hl
              go_wp2_with fail
              go_roundg g3'
              case rel => exact ⟨j + 1, mv, cv, by go_num, rfl, rfl, by omega, by omega, by omega, by omega, by omega, HE3, KB⟩
              case measure => omega
          · have k3 : (k == 3) = false := beq_eq_false_iff_ne.2 h3
            have HE3 : Hid (secGo lock 0 0 f = secGo lock mv cv (f.drop (j + 1))) := by show _ = _; rw [HE2.out, secGo, if_neg h1, if_neg (fun h => h2 h.1), if_neg (fun h => h3 h.1)]
            clear HE2
            go_wp2_with fail
            go_roundg g3'
            case rel => exact ⟨j + 1, mv, cv, by go_num, rfl, rfl, by omega, by omega, by omega, by omega, by omega, HE3, KB⟩
            case measure => omega
    · have b1 : ¬ (j : Int) < (f.length : Int) := by omega
      have HE3 : Hid (secGo lock 0 0 f = mv) := by show _ = _; rw [HE.out, List.drop_eq_nil_of_le (by omega)]; rfl
      go_wp2_with fail
      go_ret
      rw [HE3.out]
      exact ⟨rfl, K1.trans K⟩
end Go.Proofs.YtembbhbbmkijcaaDoor
