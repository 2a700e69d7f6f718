/- The reference's Name, Cost, known. -/
import Derived.Test.YtolljdomnohmdaaGreatDoorM2
import Derived.Test.YtolljdomnohmdaaGreatDoorCas
import Derived.Test.YtolljdomnohmdaaGreatDoorCheck
import Derived.Test.YtolljdomnohmdaaGreatDoorM3
import Derived.Test.YtolljdomnohmdaaGreatDoorM4
import Derived.Test.YtolljdomnohmdaaGreatDoorM0
import Derived.Test.YtolljdomnohmdaaGreatDoorM5
import Derived.Test.YtolljdomnohmdaaGreatDoorOpO
import Derived.Test.YtolljdomnohmdaaGreatDoorM1
import Derived.Test.YtolljdomnohmdaaGreatDoorOpT
import Derived.Test.YtolljdomnohmdaaGreatDoorPar
import Derived.Test.YtolljdomnohmdaaGreatDoorM6
import Derived.Test.YtolljdomnohmdaaGreatDoorM8
import Derived.Test.YtolljdomnohmdaaGreatDoorTxt
import Derived.Test.YtolljdomnohmdaaGreatDoorRWrd
import Derived.Test.YtolljdomnohmdaaGreatDoorRead
import Derived.Test.YtolljdomnohmdaaGreatDoorM9
import Derived.Test.YtolljdomnohmdaaGreatDoorTrn
import Derived.Test.YtolljdomnohmdaaGreatDoorM13
import Derived.Test.YtolljdomnohmdaaGreatDoorM16
namespace Go.Proofs.YtolljdomnohmdaaGreatDoor
open Go.RowKit

theorem nameB_iff (l : List UInt8) : nameB l = true ↔ 1 ≤ l.length ∧ l.length ≤ 8 ∧ ∀ c ∈ l, 97 ≤ c.toNat ∧ c.toNat ≤ 122 := by
  unfold nameB
  rw [Bool.and_eq_true, decide_eq_true_eq, within_iff]
  constructor
  · rintro ⟨h1, h2, h3⟩
    refine ⟨?_, h1, h3⟩
    cases l with
    | nil => simp at h2
    | cons a r => simp
  · rintro ⟨h1, h2, h3⟩
    refine ⟨h2, ?_, h3⟩
    cases l with
    | nil => simp at h1
    | cons a r => simp
set_option maxHeartbeats 2000000 in
theorem rname_any (l : List UInt8) (w : World) :
    Calls Tryz.prog 58 #[.string (B l)] w fun e w' => e = .returned (.bool (nameB l)) ∧ w' = w := by
  have hsz := B_size l
  by_cases h0 : l.length < 1
  · have b1 : ((B l).size : Int) < 1 := by omega
    have HN : Hid (nameB l = false) := by
      show _ = _
      rw [Bool.eq_false_iff]
      intro h
      have := (nameB_iff l).1 h
      omega
    clear hsz
    go_enter Tryz.func58, Tryz.ntmps58
    go_wp2_with fail
    go_ret
    rw [HN.out]
    exact ⟨rfl, rfl⟩
  by_cases h8 : l.length > 8
  · have b0 : ¬ ((B l).size : Int) < 1 := by omega
    have b1 : ((B l).size : Int) > 8 := by omega
    have HN : Hid (nameB l = false) := by
      show _ = _
      rw [Bool.eq_false_iff]
      intro h
      have := (nameB_iff l).1 h
      omega
    clear hsz
    go_enter Tryz.func58, Tryz.ntmps58
    go_wp2_with fail
    go_ret
    rw [HN.out]
    exact ⟨rfl, rfl⟩
  have b0 : ¬ ((B l).size : Int) < 1 := by omega
  have b1 : ¬ ((B l).size : Int) > 8 := by omega
  have HS : Hid ((B l).size = l.length) := hsz
  have H8 : Hid (1 ≤ l.length ∧ l.length ≤ 8) := ⟨by omega, by omega⟩
  clear hsz h0 h8
  go_enter Tryz.func58, Tryz.ntmps58
  go_wp2_with fail
  go_loopg [3] (B l).size (fun gk i wr => ∃ j : Nat, i = .int .i64 j ∧ j + gk = (B l).size ∧ Hid (∀ q c, q < j → l[q]? = some c → 97 ≤ c.toNat ∧ c.toNat ≤ 122) ∧ wr = w)
  case atStart => exact ⟨0, rfl, by omega, fun q c h => by omega, rfl⟩
  case round =>
    obtain ⟨j, rfl, hj, HA, hw⟩ := hrel
    subst wr
    by_cases hjl : j < (B l).size
    · have b2 : (j : Int) < ((B l).size : Int) := by omega
      have b3 : (0 : Int) ≤ (j : Int) := by omega
      have hsz8 : (B l).size ≤ 8 := by have := H8.out; have := HS.out; omega
      obtain ⟨c, e1, e2, _, _⟩ := byte_get (B l) j hjl
      have HG : Hid (l[j]? = some c) := by rw [B_list] at e2; exact e2
      clear e2
      obtain ⟨gi, rfl⟩ : ∃ g, gk = g + 1 := ⟨gk - 1, by omega⟩
      have BAD : Hid (¬ (97 ≤ c.toNat ∧ c.toNat ≤ 122) → nameB l = false) := by
        intro h
        rw [Bool.eq_false_iff]
        intro h2
        exact h (((nameB_iff l).1 h2).2.2 c (List.mem_of_getElem? HG.out))
      by_cases h1 : c.toNat < 97
      · have HZ : Hid (nameB l = false) := BAD.out (by omega)
        have t1 : (c.toNat : Int) < 97 := by omega
        clear BAD HA HG
        go_wp2_with fail
        go_ret
        rw [HZ.out]
        exact ⟨rfl, rfl⟩
      by_cases h2 : c.toNat > 122
      · have HZ : Hid (nameB l = false) := BAD.out (by omega)
        have t1 : ¬ (c.toNat : Int) < 97 := by omega
        have t2 : (c.toNat : Int) > 122 := by omega
        clear BAD HA HG
        go_wp2_with fail
        go_ret
        rw [HZ.out]
        exact ⟨rfl, rfl⟩
      have t1 : ¬ (c.toNat : Int) < 97 := by omega
      have t2 : ¬ (c.toNat : Int) > 122 := by omega
      have HN : Hid (∀ q d, q < j + 1 → l[q]? = some d → 97 ≤ d.toNat ∧ d.toNat ≤ 122) := by
        intro q d hq hd
        by_cases e : q = j
        · subst e
          rw [HG.out] at hd
          cases hd
          omega
        · exact HA.out q d (by omega) hd
      clear BAD HA HG
      go_wp2_with fail
      go_roundg gi
      case rel => exact ⟨j + 1, by go_num, by omega, HN, rfl⟩
      case measure => omega
    · have b2 : ¬ (j : Int) < ((B l).size : Int) := by omega
      have HN : Hid (nameB l = true) := by
        refine (nameB_iff l).2 ⟨H8.out.1, H8.out.2, fun c hc => ?_⟩
        obtain ⟨q, hq, e⟩ := List.getElem_of_mem hc
        exact HA.out q c (by have := HS.out; omega) (by rw [List.getElem?_eq_getElem hq, e])
      clear HA
      go_wp2_with fail
      go_ret
      rw [HN.out]
      exact ⟨rfl, rfl⟩
theorem costF_next : ∀ (f : List OpD) (j : Nat) (o : OpD), f[j]? = some o → costF (f.take (j + 1)) = costF (f.take j) + (if o.kind = 1 then o.n else 0)
  | [], j, o, h => by simp at h
  | x :: r, 0, o, h => by
    simp at h
    subst h
    simp [costF]
  | x :: r, j + 1, o, h => by
    have ih := costF_next r j o (by simpa using h)
    rw [List.take_succ_cons, List.take_succ_cons, costF, costF, ih]
    omega
theorem costF_bd : ∀ (f : List OpD), (∀ o ∈ f, checkD o = 0) → 0 ≤ costF f ∧ costF f ≤ 1000 * (f.length : Int)
  | [], _ => by simp [costF]
  | o :: r, h => by
    have ih := costF_bd r (fun q hq => h q (by simp [hq]))
    rw [costF, List.length_cons]
    split
    · rename_i hk
      obtain ⟨k, n, v, wt, l⟩ := o
      simp only at hk
      subst hk
      have h2 := run_n (h ⟨1, n, v, wt, l⟩ (by simp))
      simp only
      omega
    · omega
set_option maxHeartbeats 4000000 in
theorem rcost_any (a : Option Addr) (c : Nat) (p : List OpD) (w : World) (hA : AtP w a p) (hcap : p.length ≤ c) (hk : checkP p = (0, 0)) :
    Calls Tryz.prog 60 #[.slice a p.length c] w fun e w' => e = .returned (.int .i64 (costD p)) ∧ Kept w w' := by
  obtain ⟨hp, hc, _, f, hb, hf⟩ := taken_prog hk
  have hr := rflat_any 3 0 0 p f a c w hb hA hcap hc (by omega) (by omega)
  have HL : Hid (costD p = costF f) := cost_len hb hc
  have HCK : Hid (∀ o ∈ f, checkD o = 0) := fun o ho => hc o (bal_mem hb o ho).1
  have HA : Hid (AtP w a p) := hA
  clear hA hk hc hb hcap hp
  go_enter Tryz.func60, Tryz.ntmps60
  go_wp2_with fail
  refine hr.mono ?_
  rintro e w1 ⟨v, rfl, R, K1⟩
  obtain ⟨fa, fc, rfl, _, AF⟩ := R.view HA.out K1
  have HF : Hid (AtP w1 fa f) := AF
  clear R AF hr HA
  go_wp2_with fail
  go_loopg [4, 5] f.length (fun gk s i wr => ∃ (j : Nat) (z : Int), s = .int .i64 z ∧ i = .int .i64 j ∧ j + gk = f.length ∧ 0 ≤ z ∧ z ≤ 1000 * (j : Int) ∧ Hid (z = costF (f.take j)) ∧ Kept w1 wr)
  case atStart => exact ⟨0, 0, rfl, rfl, by omega, by omega, by omega, (by show _ = _; simp [costF]), Kept.refl w1⟩
  case round =>
    obtain ⟨j, z, rfl, rfl, hj, z0, z1, HZ, K⟩ := hrel
    by_cases hjl : j < f.length
    · have b1 : (j : Int) < (f.length : Int) := by omega
      have b2 : (0 : Int) ≤ (j : Int) := by omega
      obtain ⟨b, fo, k, n, v, wt, l, ca, cc, rfl, hpj, g0, g1, g2, g3, g4, hcc, hat, hbl, hdr⟩ := (HF.out.kept K).get j hjl
      have hnx := costF_next f j _ hpj
      simp only at hnx
      have hch := HCK.out _ (List.mem_of_getElem? hpj)
      obtain ⟨gi, rfl⟩ : ∃ g, gk = g + 1 := ⟨gk - 1, by omega⟩
      clear hpj hat hdr g2 g3 g4 hcc
      by_cases hk1 : k = 1
      · subst hk1
        have hn := run_n hch
        have HZ2 : Hid (z + n = costF (f.take (j + 1))) := by show _ = _; rw [hnx, if_pos rfl, HZ.out]
        clear hnx hch HZ
        go_wp2_with fail
        go_roundg gi
        case rel => exact ⟨j + 1, z + n, rfl, by go_num, by omega, by omega, by omega, HZ2, K⟩
        case measure => omega
      · have hne : (k == 1) = false := by simpa using hk1
        have HZ2 : Hid (z = costF (f.take (j + 1))) := by show _ = _; rw [hnx, if_neg hk1, Int.add_zero, HZ.out]
        clear hnx hch HZ
        go_wp2_with fail
        go_roundg gi
        case rel => exact ⟨j + 1, z, rfl, by go_num, by omega, by omega, by omega, HZ2, K⟩
        case measure => omega
    · have b1 : ¬ (j : Int) < (f.length : Int) := by omega
      have HZ2 : Hid (costD p = z) := by show _ = _; rw [HL.out, HZ.out, List.take_of_length_le (by omega)]
      go_wp2_with fail
      go_ret
      rw [HZ2.out]
      exact ⟨rfl, K1.trans K⟩
/-- Are all locks, channels of an op the set's? -/
def knownD (L nc : Int) (o : OpD) : Bool := if o.kind = 2 ∨ o.kind = 3 then decide (o.n < L) else if o.kind = 4 ∨ o.kind = 5 ∨ o.kind = 6 then decide (o.n < nc) else casesB nc o.cases
end Go.Proofs.YtolljdomnohmdaaGreatDoor
namespace Go.Proofs.YtolljdomnohmdaaGreatDoor
open Go.RowKit

/-- Of what may be, it is what Check asks. -/
theorem known_has {L nc : Int} {o : OpD} (h : checkD o = 0) : knownD L nc o = hasB L nc o := by
  have ht := (taken_of h).takes
  have hk := (taken_of h).kind
  obtain ⟨k, n, v, wt, l⟩ := o
  unfold knownD hasB
  simp only at *
  by_cases h1 : k = 2 ∨ k = 3
  · rw [if_pos h1, if_pos h1]
  · rw [if_neg h1, if_neg h1]
    by_cases h2 : k = 4 ∨ k = 5 ∨ k = 6
    · rw [if_pos h2, if_pos h2]
    · rw [if_neg h2, if_neg h2]
      by_cases h3 : k = 7
      · rw [if_pos h3]
      · rw [if_neg h3]
        have hl : l = [] := by
          simp only [isKindB, Bool.and_eq_true, decide_eq_true_eq] at hk
          have hkk : k = 1 ∨ k = 8 ∨ k = 9 := by omega
          rcases hkk with rfl | rfl | rfl <;> simp [takesB, shapeOf] at ht <;> exact ht.2
        rw [hl]
        rfl
theorem taken_cases {o : OpD} (h : checkD o = 0) : o.cases.length ≤ 4 := by
  have ht := taken_of h
  have h1 := ht.takes
  unfold takesB at h1
  rw [Bool.and_eq_true, Bool.or_eq_true] at h1
  rcases h1.2 with h2 | h2
  · exact ht.many h2
  · have : o.cases.length = 0 := by simpa using h2
    omega
set_option maxHeartbeats 4000000 in
theorem rknown_any (k n v wt : Int) (la : Option Addr) (l : List CaseD) (lc : Nat) (L : Int) (ca ta : Option Addr) (nc cc nt tc : Nat) (w : World) (hA : AtC w la l.length l) (hl : l.length ≤ 1000000) :
    Calls Tryz.prog 61 #[.agg #[.int .i64 k, .int .i64 n, .int .i64 v, .int .i64 wt, .slice la l.length lc], .agg #[.int .i64 L, .slice ca nc cc, .slice ta nt tc]] w fun e w' => e = .returned (.bool (knownD L nc ⟨k, n, v, wt, l⟩)) ∧ Kept w w' := by
  have HA : Hid (AtC w la l.length l) := hA
  clear hA
  have K2 := ((Kept.refl w).alloc (.cells #[.int .i64 k, .int .i64 n, .int .i64 v, .int .i64 wt, .slice la l.length lc] 77)).alloc (.cells #[.int .i64 L, .slice ca nc cc, .slice ta nt tc] 25)
  by_cases k2 : k = 2
  · subst k
    have HZ : Hid (knownD L nc ⟨2, n, v, wt, l⟩ = decide (n < L)) := rfl
    obtain ⟨z, hz⟩ : ∃ z, decide (n < L) = z := ⟨_, rfl⟩
    rw [hz] at HZ
    go_enter Tryz.func61, Tryz.ntmps61
    go_wp2_with fail
    go_ret
    rw [HZ.out]
    exact ⟨rfl, K2⟩
  by_cases k3 : k = 3
  · subst k
    have HZ : Hid (knownD L nc ⟨3, n, v, wt, l⟩ = decide (n < L)) := rfl
    obtain ⟨z, hz⟩ : ∃ z, decide (n < L) = z := ⟨_, rfl⟩
    rw [hz] at HZ
    go_enter Tryz.func61, Tryz.ntmps61
    go_wp2_with fail
    go_ret
    rw [HZ.out]
    exact ⟨rfl, K2⟩
  by_cases k4 : k = 4
  · subst k
    have HZ : Hid (knownD L nc ⟨4, n, v, wt, l⟩ = decide (n < (nc : Int))) := rfl
    obtain ⟨z, hz⟩ : ∃ z, decide (n < (nc : Int)) = z := ⟨_, rfl⟩
    rw [hz] at HZ
    go_enter Tryz.func61, Tryz.ntmps61
    go_wp2_with fail
    go_ret
    rw [HZ.out]
    exact ⟨rfl, K2⟩
  by_cases k5 : k = 5
  · subst k
    have HZ : Hid (knownD L nc ⟨5, n, v, wt, l⟩ = decide (n < (nc : Int))) := rfl
    obtain ⟨z, hz⟩ : ∃ z, decide (n < (nc : Int)) = z := ⟨_, rfl⟩
    rw [hz] at HZ
    go_enter Tryz.func61, Tryz.ntmps61
    go_wp2_with fail
    go_ret
    rw [HZ.out]
    exact ⟨rfl, K2⟩
  by_cases k6 : k = 6
  · subst k
    have HZ : Hid (knownD L nc ⟨6, n, v, wt, l⟩ = decide (n < (nc : Int))) := rfl
    obtain ⟨z, hz⟩ : ∃ z, decide (n < (nc : Int)) = z := ⟨_, rfl⟩
    rw [hz] at HZ
    go_enter Tryz.func61, Tryz.ntmps61
    go_wp2_with fail
    go_ret
    rw [HZ.out]
    exact ⟨rfl, K2⟩
  have e2 : (k == 2) = false := by simpa using k2
  have e3 : (k == 3) = false := by simpa using k3
  have e4 : (k == 4) = false := by simpa using k4
  have e5 : (k == 5) = false := by simpa using k5
  have e6 : (k == 6) = false := by simpa using k6
  have HK : Hid (knownD L nc ⟨k, n, v, wt, l⟩ = casesB nc l) := by show _ = _; unfold knownD; simp [k2, k3, k4, k5, k6]
  have HB0 : Hid (Box w.heap.size ((w.alloc (.cells #[.int .i64 k, .int .i64 n, .int .i64 v, .int .i64 wt, .slice la l.length lc] 77)).alloc (.cells #[.int .i64 L, .slice ca nc cc, .slice ta nt tc] 25)) 77 w.heap.size [.int .i64 k, .int .i64 n, .int .i64 v, .int .i64 wt, .slice la l.length lc]) := (box_new w.heap.size w 77 [.int .i64 k, .int .i64 n, .int .i64 v, .int .i64 wt, .slice la l.length lc] (Nat.le_refl _) (by simp)).kept ((Kept.refl _).alloc _)
  have HB1 : Hid (Box w.heap.size ((w.alloc (.cells #[.int .i64 k, .int .i64 n, .int .i64 v, .int .i64 wt, .slice la l.length lc] 77)).alloc (.cells #[.int .i64 L, .slice ca nc cc, .slice ta nt tc] 25)) 25 (w.heap.size + 1) [.int .i64 L, .slice ca nc cc, .slice ta nt tc]) := by
    have h := box_new w.heap.size (w.alloc (.cells #[.int .i64 k, .int .i64 n, .int .i64 v, .int .i64 wt, .slice la l.length lc] 77)) 25 [.int .i64 L, .slice ca nc cc, .slice ta nt tc] (by simp) (by simp)
    rw [show (w.alloc (.cells #[.int .i64 k, .int .i64 n, .int .i64 v, .int .i64 wt, .slice la l.length lc] 77)).heap.size = w.heap.size + 1 by simp] at h
    exact h
  clear k2 k3 k4 k5 k6
  go_enter Tryz.func61, Tryz.ntmps61
  go_wp2_with fail
  go_loopg [5] l.length (fun gk i wr => ∃ (j : Nat) (W : World), W = wr ∧ i = .int .i64 j ∧ j + gk = l.length ∧ Hid (casesB nc l = casesB nc (l.drop j)) ∧ Kept w W ∧ Hid (Box w.heap.size W 77 w.heap.size [.int .i64 k, .int .i64 n, .int .i64 v, .int .i64 wt, .slice la l.length lc]) ∧ Hid (Box w.heap.size W 25 (w.heap.size + 1) [.int .i64 L, .slice ca nc cc, .slice ta nt tc]))
  case atStart => exact ⟨0, _, rfl, rfl, by omega, (by show _ = _; rw [List.drop_zero]), K2, HB0, HB1⟩
  case round =>
    obtain ⟨j, W, hW, rfl, hj, HE, K, HC0, HC1⟩ := hrel
    subst hW
    have s4 : W.cell? ⟨w.heap.size, 4, none⟩ = some (.slice la l.length lc) := HC0.out.cell 4 (by simp)
    have s1 : W.cell? ⟨w.heap.size + 1, 1, none⟩ = some (.slice ca nc cc) := HC1.out.cell 1 (by simp)
    by_cases hjl : j < l.length
    · obtain ⟨b, f, sd, ch, x, rfl, g0, g1, g2, hbl, hlj, _, hdr⟩ := (HA.out.kept K).get j hjl
      have b1 : (j : Int) < (l.length : Int) := by omega
      have b2 : (0 : Int) ≤ (j : Int) := by omega
      have HE2 : Hid (casesB nc l = if ch < (nc : Int) then casesB nc (l.drop (j + 1)) else false) := by show _ = _; rw [HE.out, hdr, casesB]
      obtain ⟨gi, rfl⟩ : ∃ g, gk = g + 1 := ⟨gk - 1, by omega⟩
      clear hlj hdr HE g0 g2
      by_cases h1 : ch ≥ (nc : Int)
      · have HZ : Hid (knownD L nc ⟨k, n, v, wt, l⟩ = false) := by show _ = _; rw [HK.out, HE2.out, if_neg (by omega)]
        clear HE2
        go_wp2_with fail
        go_region_held3 (fun w' => w'.cell? ⟨w.heap.size, 4, none⟩ = some (.slice (some ⟨b, f, none⟩) l.length lc) ∧ w'.cell? ⟨w.heap.size + 1, 1, none⟩ = some (.slice ca nc cc) ∧ w'.cell? ⟨b, f + j * 3 + 1, none⟩ = some (.int .i64 ch)) (go_keep) (fail)
        go_wp2_with fail
        go_ret
        rw [HZ.out]
        exact ⟨rfl, K.drew⟩
      · have HZ : Hid (casesB nc l = casesB nc (l.drop (j + 1))) := by show _ = _; rw [HE2.out, if_pos (by omega)]
        clear HE2
        go_wp2_with fail
        go_region_held3 (fun w' => w'.cell? ⟨w.heap.size, 4, none⟩ = some (.slice (some ⟨b, f, none⟩) l.length lc) ∧ w'.cell? ⟨w.heap.size + 1, 1, none⟩ = some (.slice ca nc cc) ∧ w'.cell? ⟨b, f + j * 3 + 1, none⟩ = some (.int .i64 ch)) (go_keep) (fail)
        go_wp2_with fail
        go_roundg gi
        case rel => exact ⟨j + 1, _, rfl, by go_num, by omega, HZ, K.drew, HC0.out.kept ((Kept.refl W).drew), HC1.out.kept ((Kept.refl W).drew)⟩
        case measure => omega
    · have b1 : ¬ (j : Int) < (l.length : Int) := by omega
      have HZ : Hid (knownD L nc ⟨k, n, v, wt, l⟩ = true) := by show _ = _; rw [HK.out, HE.out, List.drop_eq_nil_of_le (by omega)]; rfl
      go_wp2_with fail
      go_ret
      rw [HZ.out]
      exact ⟨rfl, K⟩
end Go.Proofs.YtolljdomnohmdaaGreatDoor
