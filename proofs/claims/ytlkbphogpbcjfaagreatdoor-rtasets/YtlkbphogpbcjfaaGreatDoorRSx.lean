/- The reference's Name, Cost, known. The reference's known: are all locks, channels of an op the set's? The reference's checkTask. The reference's CheckSet. -/
import Derived.Test.YtlkbphogpbcjfaaGreatDoorPgA
import Derived.Test.YtlkbphogpbcjfaaGreatDoorRFm
import Derived.Test.YtlkbphogpbcjfaaGreatDoorRcZ
namespace Go.Proofs.YtlkbphogpbcjfaaGreatDoor
open Go.RowKit

theorem nameB_iff (l : List UInt8) : nameB l = true ↔ 1 ≤ l.length ∧ l.length ≤ 8 ∧ ∀ c ∈ l, 97 ≤ c.toNat ∧ c.toNat ≤ 122 := by
  unfold nameB
  rw [Bool.and_eq_true, decide_eq_true_eq, within_iff]
  constructor
  · rintro ⟨h1, h2, h3⟩
    refine ⟨?_, h1, h3⟩
    cases l with
    | nil => simp at h2
    | cons a r => simp
  · rintro ⟨h1, h2, h3⟩
    refine ⟨h2, ?_, h3⟩
    cases l with
    | nil => simp at h1
    | cons a r => simp
set_option maxHeartbeats 2000000 in
theorem rname_any (l : List UInt8) (w : World) :
    Calls Tryz.prog 26 #[.string (B l)] w fun e w' => e = .returned (.bool (nameB l)) ∧ w' = w := by
  have hsz := B_size l
  by_cases h0 : l.length < 1
  · have b1 : ((B l).size : Int) < 1 := by omega
    have HN : Hid (nameB l = false) := by
      show _ = _
      rw [Bool.eq_false_iff]
      intro h
      have := (nameB_iff l).1 h
      omega
    clear hsz
    go_enter Tryz.func26, Tryz.ntmps26
    go_wp2_with fail
    go_ret
    rw [HN.out]
    exact ⟨rfl, rfl⟩
  by_cases h8 : l.length > 8
  · have b0 : ¬ ((B l).size : Int) < 1 := by omega
    have b1 : ((B l).size : Int) > 8 := by omega
    have HN : Hid (nameB l = false) := by
      show _ = _
      rw [Bool.eq_false_iff]
      intro h
      have := (nameB_iff l).1 h
      omega
    clear hsz
    go_enter Tryz.func26, Tryz.ntmps26
    go_wp2_with fail
    go_ret
    rw [HN.out]
    exact ⟨rfl, rfl⟩
  have b0 : ¬ ((B l).size : Int) < 1 := by omega
  have b1 : ¬ ((B l).size : Int) > 8 := by omega
  have HS : Hid ((B l).size = l.length) := hsz
  have H8 : Hid (1 ≤ l.length ∧ l.length ≤ 8) := ⟨by omega, by omega⟩
  clear hsz h0 h8
  go_enter Tryz.func26, Tryz.ntmps26
  go_wp2_with fail
  go_loopg [3] (B l).size (fun gk i wr => ∃ j : Nat, i = .int .i64 j ∧ j + gk = (B l).size ∧ Hid (∀ q c, q < j → l[q]? = some c → 97 ≤ c.toNat ∧ c.toNat ≤ 122) ∧ wr = w)
  case atStart => exact ⟨0, rfl, by omega, fun q c h => by omega, rfl⟩
  case round =>
    obtain ⟨j, rfl, hj, HA, hw⟩ := hrel
    subst wr
    by_cases hjl : j < (B l).size
    · have b2 : (j : Int) < ((B l).size : Int) := by omega
      have b3 : (0 : Int) ≤ (j : Int) := by omega
      have hsz8 : (B l).size ≤ 8 := by have := H8.out; have := HS.out; omega
      obtain ⟨c, e1, e2, _, _⟩ := byte_get (B l) j hjl
      have HG : Hid (l[j]? = some c) := by rw [B_list] at e2; exact e2
      clear e2
      obtain ⟨gi, rfl⟩ : ∃ g, gk = g + 1 := ⟨gk - 1, by omega⟩
      have BAD : Hid (¬ (97 ≤ c.toNat ∧ c.toNat ≤ 122) → nameB l = false) := by
        intro h
        rw [Bool.eq_false_iff]
        intro h2
        exact h (((nameB_iff l).1 h2).2.2 c (List.mem_of_getElem? HG.out))
      by_cases h1 : c.toNat < 97
      · have HZ : Hid (nameB l = false) := BAD.out (by omega)
        have t1 : (c.toNat : Int) < 97 := by omega
        clear BAD HA HG
        go_wp2_with fail
        go_ret
        rw [HZ.out]
        exact ⟨rfl, rfl⟩
      by_cases h2 : c.toNat > 122
      · have HZ : Hid (nameB l = false) := BAD.out (by omega)
        have t1 : ¬ (c.toNat : Int) < 97 := by omega
        have t2 : (c.toNat : Int) > 122 := by omega
        clear BAD HA HG
        go_wp2_with fail
        go_ret
        rw [HZ.out]
        exact ⟨rfl, rfl⟩
      have t1 : ¬ (c.toNat : Int) < 97 := by omega
      have t2 : ¬ (c.toNat : Int) > 122 := by omega
      have HN : Hid (∀ q d, q < j + 1 → l[q]? = some d → 97 ≤ d.toNat ∧ d.toNat ≤ 122) := by
        intro q d hq hd
        by_cases e : q = j
        · subst e
          rw [HG.out] at hd
          cases hd
          omega
        · exact HA.out q d (by omega) hd
      clear BAD HA HG
      go_wp2_with fail
      go_roundg gi
      case rel => exact ⟨j + 1, by go_num, by omega, HN, rfl⟩
      case measure => omega
    · have b2 : ¬ (j : Int) < ((B l).size : Int) := by omega
      have HN : Hid (nameB l = true) := by
        refine (nameB_iff l).2 ⟨H8.out.1, H8.out.2, fun c hc => ?_⟩
        obtain ⟨q, hq, e⟩ := List.getElem_of_mem hc
        exact HA.out q c (by have := HS.out; omega) (by rw [List.getElem?_eq_getElem hq, e])
      clear HA
      go_wp2_with fail
      go_ret
      rw [HN.out]
      exact ⟨rfl, rfl⟩
theorem costF_next : ∀ (f : List OpD) (j : Nat) (o : OpD), f[j]? = some o → costF (f.take (j + 1)) = costF (f.take j) + (if o.kind = 1 then o.n else 0)
  | [], j, o, h => by simp at h
  | x :: r, 0, o, h => by
    simp at h
    subst h
    simp [costF]
  | x :: r, j + 1, o, h => by
    have ih := costF_next r j o (by simpa using h)
    rw [List.take_succ_cons, List.take_succ_cons, costF, costF, ih]
    omega
theorem costF_bd : ∀ (f : List OpD), (∀ o ∈ f, checkD o = 0) → 0 ≤ costF f ∧ costF f ≤ 1000 * (f.length : Int)
  | [], _ => by simp [costF]
  | o :: r, h => by
    have ih := costF_bd r (fun q hq => h q (by simp [hq]))
    rw [costF, List.length_cons]
    split
    · rename_i hk
      obtain ⟨k, n, v, wt, l⟩ := o
      simp only at hk
      subst hk
      have h2 := run_n (h ⟨1, n, v, wt, l⟩ (by simp))
      simp only
      omega
    · omega
set_option maxHeartbeats 4000000 in
theorem rcost_any (a : Option Addr) (c : Nat) (p : List OpD) (w : World) (hA : AtP w a p) (hcap : p.length ≤ c) (hk : checkP p = (0, 0)) :
    Calls Tryz.prog 23 #[.slice a p.length c] w fun e w' => e = .returned (.int .i64 (costD p)) ∧ Kept w w' := by
  obtain ⟨hp, hc, _, f, hb, hf⟩ := taken_prog hk
  have hr := rflat_any 3 0 0 p f a c w hb hA hcap hc (by omega) (by omega)
  have HL : Hid (costD p = costF f) := cost_len hb hc
  have HCK : Hid (∀ o ∈ f, checkD o = 0) := fun o ho => hc o (bal_mem hb o ho).1
  have HA : Hid (AtP w a p) := hA
  clear hA hk hc hb hcap hp
  go_enter Tryz.func23, Tryz.ntmps23
  go_wp2_with fail
  refine hr.mono ?_
  rintro e w1 ⟨v, rfl, R, K1⟩
  obtain ⟨fa, fc, rfl, _, AF⟩ := R.view HA.out K1
  have HF : Hid (AtP w1 fa f) := AF
  clear R AF hr HA
  go_wp2_with fail
  go_loopg [4, 5] f.length (fun gk s i wr => ∃ (j : Nat) (z : Int), s = .int .i64 z ∧ i = .int .i64 j ∧ j + gk = f.length ∧ 0 ≤ z ∧ z ≤ 1000 * (j : Int) ∧ Hid (z = costF (f.take j)) ∧ Kept w1 wr)
  case atStart => exact ⟨0, 0, rfl, rfl, by omega, by omega, by omega, (by show _ = _; simp [costF]), Kept.refl w1⟩
  case round =>
    obtain ⟨j, z, rfl, rfl, hj, z0, z1, HZ, K⟩ := hrel
    by_cases hjl : j < f.length
    · have b1 : (j : Int) < (f.length : Int) := by omega
      have b2 : (0 : Int) ≤ (j : Int) := by omega
      obtain ⟨b, fo, k, n, v, wt, l, ca, cc, rfl, hpj, g0, g1, g2, g3, g4, hcc, hat, hbl, hdr⟩ := (HF.out.kept K).get j hjl
      have hnx := costF_next f j _ hpj
      simp only at hnx
      have hch := HCK.out _ (List.mem_of_getElem? hpj)
      obtain ⟨gi, rfl⟩ : ∃ g, gk = g + 1 := ⟨gk - 1, by omega⟩
      clear hpj hat hdr g2 g3 g4 hcc
      by_cases hk1 : k = 1
      · subst hk1
        have hn := run_n hch
        have HZ2 : Hid (z + n = costF (f.take (j + 1))) := by show _ = _; rw [hnx, if_pos rfl, HZ.out]
        clear hnx hch HZ
        go_wp2_with fail
        go_roundg gi
        case rel => exact ⟨j + 1, z + n, rfl, by go_num, by omega, by omega, by omega, HZ2, K⟩
        case measure => omega
      · have hne : (k == 1) = false := by simpa using hk1
        have HZ2 : Hid (z = costF (f.take (j + 1))) := by show _ = _; rw [hnx, if_neg hk1, Int.add_zero, HZ.out]
        clear hnx hch HZ
        go_wp2_with fail
        go_roundg gi
        case rel => exact ⟨j + 1, z, rfl, by go_num, by omega, by omega, by omega, HZ2, K⟩
        case measure => omega
    · have b1 : ¬ (j : Int) < (f.length : Int) := by omega
      have HZ2 : Hid (costD p = z) := by show _ = _; rw [HL.out, HZ.out, List.take_of_length_le (by omega)]
      go_wp2_with fail
      go_ret
      rw [HZ2.out]
      exact ⟨rfl, K1.trans K⟩
/-- Are all locks, channels of an op the set's? -/
def knownD (L nc : Int) (o : OpD) : Bool := if o.kind = 2 ∨ o.kind = 3 then decide (o.n < L) else if o.kind = 4 ∨ o.kind = 5 ∨ o.kind = 6 then decide (o.n < nc) else casesB nc o.cases
end Go.Proofs.YtlkbphogpbcjfaaGreatDoor
namespace Go.Proofs.YtlkbphogpbcjfaaGreatDoor
open Go.RowKit

/-- Of what may be, it is what Check asks. -/
theorem known_has {L nc : Int} {o : OpD} (h : checkD o = 0) : knownD L nc o = hasB L nc o := by
  have ht := (taken_of h).takes
  have hk := (taken_of h).kind
  obtain ⟨k, n, v, wt, l⟩ := o
  unfold knownD hasB
  simp only at *
  by_cases h1 : k = 2 ∨ k = 3
  · rw [if_pos h1, if_pos h1]
  · rw [if_neg h1, if_neg h1]
    by_cases h2 : k = 4 ∨ k = 5 ∨ k = 6
    · rw [if_pos h2, if_pos h2]
    · rw [if_neg h2, if_neg h2]
      by_cases h3 : k = 7
      · rw [if_pos h3]
      · rw [if_neg h3]
        have hl : l = [] := by
          simp only [isKindB, Bool.and_eq_true, decide_eq_true_eq] at hk
          have hkk : k = 1 ∨ k = 8 ∨ k = 9 := by omega
          rcases hkk with rfl | rfl | rfl <;> simp [takesB, shapeOf] at ht <;> exact ht.2
        rw [hl]
        rfl
theorem taken_cases {o : OpD} (h : checkD o = 0) : o.cases.length ≤ 4 := by
  have ht := taken_of h
  have h1 := ht.takes
  unfold takesB at h1
  rw [Bool.and_eq_true, Bool.or_eq_true] at h1
  rcases h1.2 with h2 | h2
  · exact ht.many h2
  · have : o.cases.length = 0 := by simpa using h2
    omega
set_option maxHeartbeats 4000000 in
theorem rknown_any (k n v wt : Int) (la : Option Addr) (l : List CaseD) (lc : Nat) (L : Int) (ca ta : Option Addr) (nc cc nt tc : Nat) (w : World) (hA : AtC w la l.length l) (hl : l.length ≤ 1000000) :
    Calls Tryz.prog 28 #[.agg #[.int .i64 k, .int .i64 n, .int .i64 v, .int .i64 wt, .slice la l.length lc], .agg #[.int .i64 L, .slice ca nc cc, .slice ta nt tc]] w fun e w' => e = .returned (.bool (knownD L nc ⟨k, n, v, wt, l⟩)) ∧ Kept w w' := by
  have HA : Hid (AtC w la l.length l) := hA
  clear hA
  have K2 := ((Kept.refl w).alloc (.cells #[.int .i64 k, .int .i64 n, .int .i64 v, .int .i64 wt, .slice la l.length lc] 83)).alloc (.cells #[.int .i64 L, .slice ca nc cc, .slice ta nt tc] 25)
  by_cases k2 : k = 2
  · subst k
    have HZ : Hid (knownD L nc ⟨2, n, v, wt, l⟩ = decide (n < L)) := rfl
    obtain ⟨z, hz⟩ : ∃ z, decide (n < L) = z := ⟨_, rfl⟩
    rw [hz] at HZ
    go_enter Tryz.func28, Tryz.ntmps28
    go_wp2_with fail
    go_ret
    rw [HZ.out]
    exact ⟨rfl, K2⟩
  by_cases k3 : k = 3
  · subst k
    have HZ : Hid (knownD L nc ⟨3, n, v, wt, l⟩ = decide (n < L)) := rfl
    obtain ⟨z, hz⟩ : ∃ z, decide (n < L) = z := ⟨_, rfl⟩
    rw [hz] at HZ
    go_enter Tryz.func28, Tryz.ntmps28
    go_wp2_with fail
    go_ret
    rw [HZ.out]
    exact ⟨rfl, K2⟩
  by_cases k4 : k = 4
  · subst k
    have HZ : Hid (knownD L nc ⟨4, n, v, wt, l⟩ = decide (n < (nc : Int))) := rfl
    obtain ⟨z, hz⟩ : ∃ z, decide (n < (nc : Int)) = z := ⟨_, rfl⟩
    rw [hz] at HZ
    go_enter Tryz.func28, Tryz.ntmps28
    go_wp2_with fail
    go_ret
    rw [HZ.out]
    exact ⟨rfl, K2⟩
  by_cases k5 : k = 5
  · subst k
    have HZ : Hid (knownD L nc ⟨5, n, v, wt, l⟩ = decide (n < (nc : Int))) := rfl
    obtain ⟨z, hz⟩ : ∃ z, decide (n < (nc : Int)) = z := ⟨_, rfl⟩
    rw [hz] at HZ
    go_enter Tryz.func28, Tryz.ntmps28
    go_wp2_with fail
    go_ret
    rw [HZ.out]
    exact ⟨rfl, K2⟩
  by_cases k6 : k = 6
  · subst k
    have HZ : Hid (knownD L nc ⟨6, n, v, wt, l⟩ = decide (n < (nc : Int))) := rfl
    obtain ⟨z, hz⟩ : ∃ z, decide (n < (nc : Int)) = z := ⟨_, rfl⟩
    rw [hz] at HZ
    go_enter Tryz.func28, Tryz.ntmps28
    go_wp2_with fail
    go_ret
    rw [HZ.out]
    exact ⟨rfl, K2⟩
  have e2 : (k == 2) = false := by simpa using k2
  have e3 : (k == 3) = false := by simpa using k3
  have e4 : (k == 4) = false := by simpa using k4
  have e5 : (k == 5) = false := by simpa using k5
  have e6 : (k == 6) = false := by simpa using k6
  have HK : Hid (knownD L nc ⟨k, n, v, wt, l⟩ = casesB nc l) := by show _ = _; unfold knownD; simp [k2, k3, k4, k5, k6]
  have HB0 : Hid (Box w.heap.size ((w.alloc (.cells #[.int .i64 k, .int .i64 n, .int .i64 v, .int .i64 wt, .slice la l.length lc] 83)).alloc (.cells #[.int .i64 L, .slice ca nc cc, .slice ta nt tc] 25)) 83 w.heap.size [.int .i64 k, .int .i64 n, .int .i64 v, .int .i64 wt, .slice la l.length lc]) := (box_new w.heap.size w 83 [.int .i64 k, .int .i64 n, .int .i64 v, .int .i64 wt, .slice la l.length lc] (Nat.le_refl _) (by simp)).kept ((Kept.refl _).alloc _)
  have HB1 : Hid (Box w.heap.size ((w.alloc (.cells #[.int .i64 k, .int .i64 n, .int .i64 v, .int .i64 wt, .slice la l.length lc] 83)).alloc (.cells #[.int .i64 L, .slice ca nc cc, .slice ta nt tc] 25)) 25 (w.heap.size + 1) [.int .i64 L, .slice ca nc cc, .slice ta nt tc]) := by
    have h := box_new w.heap.size (w.alloc (.cells #[.int .i64 k, .int .i64 n, .int .i64 v, .int .i64 wt, .slice la l.length lc] 83)) 25 [.int .i64 L, .slice ca nc cc, .slice ta nt tc] (by simp) (by simp)
    rw [show (w.alloc (.cells #[.int .i64 k, .int .i64 n, .int .i64 v, .int .i64 wt, .slice la l.length lc] 83)).heap.size = w.heap.size + 1 by simp] at h
    exact h
  clear k2 k3 k4 k5 k6
  go_enter Tryz.func28, Tryz.ntmps28
  go_wp2_with fail
  go_loopg [5] l.length (fun gk i wr => ∃ (j : Nat) (W : World), W = wr ∧ i = .int .i64 j ∧ j + gk = l.length ∧ Hid (casesB nc l = casesB nc (l.drop j)) ∧ Kept w W ∧ Hid (Box w.heap.size W 83 w.heap.size [.int .i64 k, .int .i64 n, .int .i64 v, .int .i64 wt, .slice la l.length lc]) ∧ Hid (Box w.heap.size W 25 (w.heap.size + 1) [.int .i64 L, .slice ca nc cc, .slice ta nt tc]))
  case atStart => exact ⟨0, _, rfl, rfl, by omega, (by show _ = _; rw [List.drop_zero]), K2, HB0, HB1⟩
  case round =>
    obtain ⟨j, W, hW, rfl, hj, HE, K, HC0, HC1⟩ := hrel
    subst hW
    have s4 : W.cell? ⟨w.heap.size, 4, none⟩ = some (.slice la l.length lc) := HC0.out.cell 4 (by simp)
    have s1 : W.cell? ⟨w.heap.size + 1, 1, none⟩ = some (.slice ca nc cc) := HC1.out.cell 1 (by simp)
    by_cases hjl : j < l.length
    · obtain ⟨b, f, sd, ch, x, rfl, g0, g1, g2, hbl, hlj, _, hdr⟩ := (HA.out.kept K).get j hjl
      have b1 : (j : Int) < (l.length : Int) := by omega
      have b2 : (0 : Int) ≤ (j : Int) := by omega
      have HE2 : Hid (casesB nc l = if ch < (nc : Int) then casesB nc (l.drop (j + 1)) else false) := by show _ = _; rw [HE.out, hdr, casesB]
      obtain ⟨gi, rfl⟩ : ∃ g, gk = g + 1 := ⟨gk - 1, by omega⟩
      clear hlj hdr HE g0 g2
      by_cases h1 : ch ≥ (nc : Int)
      · have HZ : Hid (knownD L nc ⟨k, n, v, wt, l⟩ = false) := by show _ = _; rw [HK.out, HE2.out, if_neg (by omega)]
        clear HE2
        go_wp2_with fail
        go_region_held3 (fun w' => w'.cell? ⟨w.heap.size, 4, none⟩ = some (.slice (some ⟨b, f, none⟩) l.length lc) ∧ w'.cell? ⟨w.heap.size + 1, 1, none⟩ = some (.slice ca nc cc) ∧ w'.cell? ⟨b, f + j * 3 + 1, none⟩ = some (.int .i64 ch)) (go_keep) (fail)
        go_wp2_with fail
        go_ret
        rw [HZ.out]
        exact ⟨rfl, K.drew⟩
      · have HZ : Hid (casesB nc l = casesB nc (l.drop (j + 1))) := by show _ = _; rw [HE2.out, if_pos (by omega)]
        clear HE2
        go_wp2_with fail
        go_region_held3 (fun w' => w'.cell? ⟨w.heap.size, 4, none⟩ = some (.slice (some ⟨b, f, none⟩) l.length lc) ∧ w'.cell? ⟨w.heap.size + 1, 1, none⟩ = some (.slice ca nc cc) ∧ w'.cell? ⟨b, f + j * 3 + 1, none⟩ = some (.int .i64 ch)) (go_keep) (fail)
        go_wp2_with fail
        go_roundg gi
        case rel => exact ⟨j + 1, _, rfl, by go_num, by omega, HZ, K.drew, HC0.out.kept ((Kept.refl W).drew), HC1.out.kept ((Kept.refl W).drew)⟩
        case measure => omega
    · have b1 : ¬ (j : Int) < (l.length : Int) := by omega
      have HZ : Hid (knownD L nc ⟨k, n, v, wt, l⟩ = true) := by show _ = _; rw [HK.out, HE.out, List.drop_eq_nil_of_le (by omega)]; rfl
      go_wp2_with fail
      go_ret
      rw [HZ.out]
      exact ⟨rfl, K⟩
end Go.Proofs.YtlkbphogpbcjfaaGreatDoor
namespace Go.Proofs.YtlkbphogpbcjfaaGreatDoor
open Go.RowKit

theorem find_some (nm : List UInt8) : ∀ (ts : List TaskD) (j q : Nat) (t : TaskD), ts[q]? = some t → t.name = nm → (findGo nm j ts).1 ≤ j + q
  | [], j, q, t, h, _ => by simp at h
  | x :: r, j, 0, t, h, hn => by
    simp at h
    subst h
    rw [findGo, if_pos hn]
    simp
  | x :: r, j, q + 1, t, h, hn => by
    rw [findGo]
    split
    · simp
    · have := find_some nm r (j + 1) q t (by simpa using h) hn
      omega
theorem find_first (nm : List UInt8) : ∀ (ts : List TaskD) (j q : Nat) (t : TaskD), ts[q]? = some t → t.name = nm → (∀ q' t', q' < q → ts[q']? = some t' → t'.name ≠ nm) → findGo nm j ts = (j + q, true)
  | [], j, q, t, h, _, _ => by simp at h
  | x :: r, j, 0, t, h, hn, _ => by
    simp at h
    subst h
    rw [findGo, if_pos hn]
    simp
  | x :: r, j, q + 1, t, h, hn, hb => by
    rw [findGo, if_neg (hb 0 x (by omega) (by simp)), find_first nm r (j + 1) q t (by simpa using h) hn (fun q' t' hq ht => hb (q' + 1) t' (by omega) (by simpa using ht))]
    congr 1
    omega
theorem checkP_0 {p : List OpD} (h : (checkP p).2 = 0) : checkP p = (0, 0) := by
  unfold checkP at h ⊢
  split
  · rename_i h1; rw [if_pos h1] at h; simp at h
  · rename_i h1
    rw [if_neg h1] at h
    split
    · rename_i h2
      rw [if_pos h2] at h
      split
      · rename_i h3
        rw [if_pos h3] at h
        split
        · rename_i h4; rw [if_pos h4] at h; simp at h
        · rfl
      · rename_i h3; rw [if_neg h3] at h; exact absurd h h3
    · rename_i h2; rw [if_neg h2] at h; exact absurd h h2
set_option maxHeartbeats 8000000 in
set_option maxRecDepth 10000 in
theorem rtask_any (L : Int) (ca ta : Option Addr) (cc tc nc : Nat) (ts : List TaskD) (i : Nat) (t : TaskD) (w : World) (hA : AtT w ta ts) (hl : ts.length ≤ 100000) (hi : ts[i]? = some t) :
    Calls Tryz.prog 14 #[.agg #[.int .i64 L, .slice ca nc cc, .slice ta ts.length tc], .int .i64 i] w fun e w' => e = .returned (.int .i64 (taskE L nc ts i t)) ∧ Kept w w' := by
  have hil : i < ts.length := (List.getElem?_eq_some_iff.1 hi).1
  obtain ⟨b, f, nm, pd, dl, bu, pr, pa, pc, rfl, hpj, g0, g1, g2, g3, g4, hpc, hat, hbl, _⟩ := hA.get i hil
  obtain rfl := Option.some.inj (hi.symm.trans hpj)
  have HA : Hid (AtT w (some ⟨b, f, none⟩) ts) := hA
  have HI : Hid (ts[i]? = some ⟨nm, pd, dl, bu, pr⟩) := hi
  have HP : Hid (AtP w pa pr) := hat
  have HPC : Hid (pr.length ≤ pc) := hpc
  have b1 : (i : Int) < (ts.length : Int) := by omega
  have b2 : (0 : Int) ≤ (i : Int) := by omega
  clear hA hat hi hpj hbl hpc
  have KA : Kept w (w.alloc (.cells #[.int .i64 L, .slice ca nc cc, .slice (some ⟨b, f, none⟩) ts.length tc] 25)) := (Kept.refl w).alloc _
  have ga0 := KA.cell g0
  have ga1 := KA.cell g1
  have ga2 := KA.cell g2
  have ga3 := KA.cell g3
  have ga4 := KA.cell g4
  clear g0 g1 g2 g3 g4
  have K2 : Kept w ((w.alloc (.cells #[.int .i64 L, .slice ca nc cc, .slice (some ⟨b, f, none⟩) ts.length tc] 25)).alloc (.cells #[.string (B nm), .int .i64 pd, .int .i64 dl, .int .i64 bu, .slice pa pr.length pc] 43)) := ((Kept.refl w).alloc _).alloc _
  have HB : Hid (Box w.heap.size ((w.alloc (.cells #[.int .i64 L, .slice ca nc cc, .slice (some ⟨b, f, none⟩) ts.length tc] 25)).alloc (.cells #[.string (B nm), .int .i64 pd, .int .i64 dl, .int .i64 bu, .slice pa pr.length pc] 43)) 25 w.heap.size [.int .i64 L, .slice ca nc cc, .slice (some ⟨b, f, none⟩) ts.length tc]) := (box_new w.heap.size w 25 [.int .i64 L, .slice ca nc cc, .slice (some ⟨b, f, none⟩) ts.length tc] (Nat.le_refl _) (by simp)).kept ((Kept.refl _).alloc _)
  have HT : Hid (Box w.heap.size ((w.alloc (.cells #[.int .i64 L, .slice ca nc cc, .slice (some ⟨b, f, none⟩) ts.length tc] 25)).alloc (.cells #[.string (B nm), .int .i64 pd, .int .i64 dl, .int .i64 bu, .slice pa pr.length pc] 43)) 43 (w.heap.size + 1) [.string (B nm), .int .i64 pd, .int .i64 dl, .int .i64 bu, .slice pa pr.length pc]) := by
    have h := box_new w.heap.size (w.alloc (.cells #[.int .i64 L, .slice ca nc cc, .slice (some ⟨b, f, none⟩) ts.length tc] 25)) 43 [.string (B nm), .int .i64 pd, .int .i64 dl, .int .i64 bu, .slice pa pr.length pc] (by simp) (by simp)
    rw [show (w.alloc (.cells #[.int .i64 L, .slice ca nc cc, .slice (some ⟨b, f, none⟩) ts.length tc] 25)).heap.size = w.heap.size + 1 by simp] at h
    exact h
  have hna := rname_any nm ((w.alloc (.cells #[.int .i64 L, .slice ca nc cc, .slice (some ⟨b, f, none⟩) ts.length tc] 25)).alloc (.cells #[.string (B nm), .int .i64 pd, .int .i64 dl, .int .i64 bu, .slice pa pr.length pc] 43))
  obtain ⟨nb, hnb⟩ : ∃ nb, nameB nm = nb := ⟨_, rfl⟩
  rw [hnb] at hna
  have HNB : Hid (nameB nm = nb) := hnb
  clear hnb
  go_enter Tryz.func14, Tryz.ntmps14
  go_wp2_with fail
  refine hna.mono ?_
  rintro e w3 ⟨rfl, hw3⟩
  subst w3
  clear KA ga0 ga1 ga2 ga3 ga4 hna
  generalize ((w.alloc (.cells #[.int .i64 L, .slice ca nc cc, .slice (some ⟨b, f, none⟩) ts.length tc] 25)).alloc (.cells #[.string (B nm), .int .i64 pd, .int .i64 dl, .int .i64 bu, .slice pa pr.length pc] 43)) = W2 at *
  cases nb with
  | false =>
    have HZ : Hid (taskE L nc ts i ⟨nm, pd, dl, bu, pr⟩ = 3) := by show _ = _; unfold taskE; rw [if_neg (by rw [HNB.out]; simp)]
    go_wp2_with fail
    go_ret
    rw [HZ.out]
    exact ⟨rfl, K2⟩
  | true =>
    have HZ : Hid (taskE L nc ts i ⟨nm, pd, dl, bu, pr⟩ = (if (findGo nm 0 ts).1 < i then 6 else if timesB ⟨nm, pd, dl, bu, pr⟩ = true then (if (checkP pr).2 = 0 then (if costD pr = 0 then 5 else if hasAllB L nc pr = true then 0 else 3) else (checkP pr).2) else 1)) := by show _ = _; unfold taskE; rw [if_pos HNB.out]
    clear HNB
    go_wp2_with fail
    go_loopg [6] i (fun gk x wr => ∃ (q : Nat) (W : World), W = wr ∧ x = .int .i64 q ∧ q + gk = i ∧ Hid (∀ q' t', q' < q → ts[q']? = some t' → t'.name ≠ nm) ∧ Kept w W ∧ Hid (Box w.heap.size W 25 w.heap.size [.int .i64 L, .slice ca nc cc, .slice (some ⟨b, f, none⟩) ts.length tc]) ∧ Hid (Box w.heap.size W 43 (w.heap.size + 1) [.string (B nm), .int .i64 pd, .int .i64 dl, .int .i64 bu, .slice pa pr.length pc]))
    case atStart => exact ⟨0, _, rfl, rfl, by omega, (fun q' t' h => by omega), K2, HB, HT⟩
    case round =>
      obtain ⟨q, W, hW, rfl, hq, HF, K, HBr, HTr⟩ := hrel
      subst hW
      have s2 : W.cell? ⟨w.heap.size, 2, none⟩ = some (.slice (some ⟨b, f, none⟩) ts.length tc) := HBr.out.cell 2 (by simp)
      have t0 : W.cell? ⟨w.heap.size + 1, 0, none⟩ = some (.string (B nm)) := HTr.out.cell 0 (by simp)
      by_cases hqi : q < i
      · obtain ⟨b', f', n1, pd1, dl1, bu1, pr1, pa1, pc1, e1, hpj, g0, _, _, _, _, _, _, _, _⟩ := (HA.out.kept K).get q (by omega)
        cases e1
        have b3 : (q : Int) < (i : Int) := by omega
        have b4 : (q : Int) < (ts.length : Int) := by omega
        have b5 : (0 : Int) ≤ (q : Int) := by omega
        have HPJ : Hid (ts[q]? = some ⟨n1, pd1, dl1, bu1, pr1⟩) := hpj
        obtain ⟨gi, rfl⟩ : ∃ g, gk = g + 1 := ⟨gk - 1, by omega⟩
        clear hpj
        by_cases hn : n1 = nm
        · have e1 : ((B n1).toList == (B nm).toList) = true := by rw [B_eq]; simpa using hn
          have HZ2 : Hid (taskE L nc ts i ⟨nm, pd, dl, bu, pr⟩ = 6) := by
            show _ = _
            rw [HZ.out, if_pos]
            have := find_some nm ts 0 q _ HPJ.out hn
            omega
          clear HZ HF HPJ hn
          go_wp2_with fail
          go_region_held3 (fun w' => w'.cell? ⟨w.heap.size, 2, none⟩ = some (.slice (some ⟨b, f, none⟩) ts.length tc) ∧ w'.cell? ⟨w.heap.size + 1, 0, none⟩ = some (.string (B nm)) ∧ w'.cell? ⟨b, f + q * 5, none⟩ = some (.string (B n1))) (go_keep) (fail)
          go_wp2_with fail
          go_ret
          rw [HZ2.out]
          exact ⟨rfl, K.drew⟩
        · have e1 : ((B n1).toList == (B nm).toList) = false := by rw [B_eq]; simpa using hn
          have HF2 : Hid (∀ q' t', q' < q + 1 → ts[q']? = some t' → t'.name ≠ nm) := by
            intro q' t' h1 h2
            by_cases e : q' = q
            · subst e
              rw [HPJ.out] at h2
              cases h2
              exact hn
            · exact HF.out q' t' (by omega) h2
          clear HF HPJ hn
          go_wp2_with fail
          go_region_held3 (fun w' => w'.cell? ⟨w.heap.size, 2, none⟩ = some (.slice (some ⟨b, f, none⟩) ts.length tc) ∧ w'.cell? ⟨w.heap.size + 1, 0, none⟩ = some (.string (B nm)) ∧ w'.cell? ⟨b, f + q * 5, none⟩ = some (.string (B n1))) (go_keep) (fail)
          go_wp2_with fail
          go_roundg gi
          case rel => exact ⟨q + 1, _, rfl, by go_num, by omega, HF2, K.drew, HBr.out.kept ((Kept.refl W).drew), HTr.out.kept ((Kept.refl W).drew)⟩
          case measure => omega
      · have b3 : ¬ (q : Int) < (i : Int) := by omega
        obtain rfl : q = i := by omega
        have HZ2 : Hid (taskE L nc ts q ⟨nm, pd, dl, bu, pr⟩ = (if timesB ⟨nm, pd, dl, bu, pr⟩ = true then (if (checkP pr).2 = 0 then (if costD pr = 0 then 5 else if hasAllB L nc pr = true then 0 else 3) else (checkP pr).2) else 1)) := by
          show _ = _
          rw [HZ.out, if_neg]
          rw [find_first nm ts 0 q _ HI.out rfl HF.out]
          simp
        have t1 : W.cell? ⟨w.heap.size + 1, 1, none⟩ = some (.int .i64 pd) := HTr.out.cell 1 (by simp)
        have t2 : W.cell? ⟨w.heap.size + 1, 2, none⟩ = some (.int .i64 dl) := HTr.out.cell 2 (by simp)
        have t3 : W.cell? ⟨w.heap.size + 1, 3, none⟩ = some (.int .i64 bu) := HTr.out.cell 3 (by simp)
        have t4 : W.cell? ⟨w.heap.size + 1, 4, none⟩ = some (.slice pa pr.length pc) := HTr.out.cell 4 (by simp)
        have BAD : Hid (¬ (pd ≤ 1099511627776 ∧ dl ≤ pd ∧ bu ≤ dl ∧ 1 ≤ bu) → taskE L nc ts q ⟨nm, pd, dl, bu, pr⟩ = 1) := by
          intro h
          rw [HZ2.out, if_neg]
          simp only [timesB, Bool.and_eq_true, decide_eq_true_eq]
          omega
        clear HZ HF HI
        by_cases c0 : pd < 1
        · have HZ3 : Hid (taskE L nc ts q ⟨nm, pd, dl, bu, pr⟩ = 1) := BAD.out (by omega)
          clear BAD HZ2
          go_wp2_with fail
          go_ret
          rw [HZ3.out]
          exact ⟨rfl, K⟩
        by_cases c1 : pd > 1099511627776
        · have HZ3 : Hid (taskE L nc ts q ⟨nm, pd, dl, bu, pr⟩ = 1) := BAD.out (by omega)
          clear BAD HZ2
          go_wp2_with fail
          go_ret
          rw [HZ3.out]
          exact ⟨rfl, K⟩
        by_cases c2 : dl < 1
        · have HZ3 : Hid (taskE L nc ts q ⟨nm, pd, dl, bu, pr⟩ = 1) := BAD.out (by omega)
          clear BAD HZ2
          go_wp2_with fail
          go_ret
          rw [HZ3.out]
          exact ⟨rfl, K⟩
        by_cases c3 : dl > pd
        · have HZ3 : Hid (taskE L nc ts q ⟨nm, pd, dl, bu, pr⟩ = 1) := BAD.out (by omega)
          clear BAD HZ2
          go_wp2_with fail
          go_ret
          rw [HZ3.out]
          exact ⟨rfl, K⟩
        by_cases c4 : bu < 1
        · have HZ3 : Hid (taskE L nc ts q ⟨nm, pd, dl, bu, pr⟩ = 1) := BAD.out (by omega)
          clear BAD HZ2
          go_wp2_with fail
          go_ret
          rw [HZ3.out]
          exact ⟨rfl, K⟩
        by_cases c5 : bu > dl
        · have HZ3 : Hid (taskE L nc ts q ⟨nm, pd, dl, bu, pr⟩ = 1) := BAD.out (by omega)
          clear BAD HZ2
          go_wp2_with fail
          go_ret
          rw [HZ3.out]
          exact ⟨rfl, K⟩
        have HZ3 : Hid (taskE L nc ts q ⟨nm, pd, dl, bu, pr⟩ = (if (checkP pr).2 = 0 then (if costD pr = 0 then 5 else if hasAllB L nc pr = true then 0 else 3) else (checkP pr).2)) := by
          show _ = _
          rw [HZ2.out, if_pos]
          simp only [timesB, Bool.and_eq_true, decide_eq_true_eq]
          omega
        clear BAD HZ2
        have hck := rcheckP_any pa pc pr W (HP.out.kept K)
        obtain ⟨q1, hq1⟩ : ∃ q, (checkP pr).1 = q := ⟨_, rfl⟩
        obtain ⟨q2, hq2⟩ : ∃ q, (checkP pr).2 = q := ⟨_, rfl⟩
        rw [hq1, hq2] at hck
        have HQ2 : Hid ((checkP pr).2 = q2) := hq2
        clear hq1 hq2
        go_wp2_with fail
        refine hck.mono ?_
        rintro e w6 ⟨rfl, T6⟩
        have K6 := K.trans T6
        have HB6 : Hid (Box w.heap.size w6 25 w.heap.size [.int .i64 L, .slice ca nc cc, .slice (some ⟨b, f, none⟩) ts.length tc]) := HBr.out.kept T6
        have HT6 : Hid (Box w.heap.size w6 43 (w.heap.size + 1) [.string (B nm), .int .i64 pd, .int .i64 dl, .int .i64 bu, .slice pa pr.length pc]) := HTr.out.kept T6
        clear s2 t0 t1 t2 t3 t4 HBr HTr hck T6 K c0 c1 c2 c3 c4 c5
        have t4 : w6.cell? ⟨w.heap.size + 1, 4, none⟩ = some (.slice pa pr.length pc) := HT6.out.cell 4 (by simp)
        by_cases hz : q2 = 0
        · subst hz
          have hCK : checkP pr = (0, 0) := checkP_0 HQ2.out
          have HZ4 : Hid (taskE L nc ts q ⟨nm, pd, dl, bu, pr⟩ = (if costD pr = 0 then 5 else if hasAllB L nc pr = true then 0 else 3)) := by show _ = _; rw [HZ3.out, if_pos HQ2.out]
          have hco := rcost_any pa pc pr w6 (HP.out.kept K6) HPC.out hCK
          have HCD : Hid (∀ o ∈ pr, checkD o = 0) := (taken_prog hCK).2.1
          have h48 : pr.length ≤ 48 := (taken_prog hCK).1
          obtain ⟨z, hzz⟩ : ∃ z, costD pr = z := ⟨_, rfl⟩
          rw [hzz] at hco HZ4
          clear HZ3 HQ2 hzz hCK
          go_wp2_with fail
          refine hco.mono ?_
          rintro e w7 ⟨rfl, T7⟩
          have K7 := K6.trans T7
          have HB7 : Hid (Box w.heap.size w7 25 w.heap.size [.int .i64 L, .slice ca nc cc, .slice (some ⟨b, f, none⟩) ts.length tc]) := HB6.out.kept T7
          have HT7 : Hid (Box w.heap.size w7 43 (w.heap.size + 1) [.string (B nm), .int .i64 pd, .int .i64 dl, .int .i64 bu, .slice pa pr.length pc]) := HT6.out.kept T7
          clear t4 HB6 HT6 hco T7 K6
          by_cases hz0 : z = 0
          · have HZ5 : Hid (taskE L nc ts q ⟨nm, pd, dl, bu, pr⟩ = 5) := by show _ = _; rw [HZ4.out, if_pos hz0]
            subst hz0
            clear HZ4
            go_wp2_with fail
            go_ret
            rw [HZ5.out]
            exact ⟨rfl, K7⟩
          · have hne : (z == 0) = false := by simpa using hz0
            have HZ5 : Hid (taskE L nc ts q ⟨nm, pd, dl, bu, pr⟩ = (if hasAllB L nc pr = true then 0 else 3)) := by show _ = _; rw [HZ4.out, if_neg hz0]
            clear HZ4 hz0
            go_wp2_with fail
            go_loopg [9] pr.length (fun gk x wr => ∃ (j : Nat) (W : World), W = wr ∧ x = .int .i64 j ∧ j + gk = pr.length ∧ Hid (hasAllB L nc pr = hasAllB L nc (pr.drop j)) ∧ Kept w W ∧ Hid (Box w.heap.size W 25 w.heap.size [.int .i64 L, .slice ca nc cc, .slice (some ⟨b, f, none⟩) ts.length tc]) ∧ Hid (Box w.heap.size W 43 (w.heap.size + 1) [.string (B nm), .int .i64 pd, .int .i64 dl, .int .i64 bu, .slice pa pr.length pc]))
            case atStart => exact ⟨0, _, rfl, rfl, by omega, (by show _ = _; rw [List.drop_zero]), K7, HB7, HT7⟩
            case round =>
              obtain ⟨j, W, hW, rfl, hj, HE, K, HBr, HTr⟩ := hrel
              subst hW
              have t4 : W.cell? ⟨w.heap.size + 1, 4, none⟩ = some (.slice pa pr.length pc) := HTr.out.cell 4 (by simp)
              by_cases hjp : j < pr.length
              · obtain ⟨b', f', k, n, v, wt, l, la, lc, rfl, hpj, g0, g1, g2, g3, g4, hlc, hat, hbl, hdr⟩ := (HP.out.kept K).get j hjp
                have b3 : (j : Int) < (pr.length : Int) := by omega
                have b4 : (0 : Int) ≤ (j : Int) := by omega
                have s0 : W.cell? ⟨w.heap.size, 0, none⟩ = some (.int .i64 L) := HBr.out.cell 0 (by simp)
                have s1 : W.cell? ⟨w.heap.size, 1, none⟩ = some (.slice ca nc cc) := HBr.out.cell 1 (by simp)
                have s2 : W.cell? ⟨w.heap.size, 2, none⟩ = some (.slice (some ⟨b, f, none⟩) ts.length tc) := HBr.out.cell 2 (by simp)
                have hmem := List.mem_of_getElem? hpj
                have hkn := rknown_any k n v wt la l lc L ca (some ⟨b, f, none⟩) nc cc ts.length tc W.drew (hat.kept ((Kept.refl W).drew)) (by have := taken_cases (HCD.out _ hmem); simp only at this; omega)
                rw [known_has (HCD.out _ hmem)] at hkn
                have HE2 : Hid (hasAllB L nc pr = if hasB L nc ⟨k, n, v, wt, l⟩ = true then hasAllB L nc (pr.drop (j + 1)) else false) := by show _ = _; rw [HE.out, hdr, hasAllB]
                obtain ⟨hb, hhb⟩ : ∃ hb, hasB L nc ⟨k, n, v, wt, l⟩ = hb := ⟨_, rfl⟩
                rw [hhb] at hkn HE2
                obtain ⟨gi, rfl⟩ : ∃ g, gk = g + 1 := ⟨gk - 1, by omega⟩
                clear hpj hat hdr HE hmem hhb hlc hbl
                cases hb with
                | true =>
                  have HZ6 : Hid (hasAllB L nc pr = hasAllB L nc (pr.drop (j + 1))) := by show _ = _; rw [HE2.out, if_pos rfl]
                  clear HE2
                  go_wp2_with fail
                  go_region_held3 (fun w' => w'.cell? ⟨w.heap.size + 1, 4, none⟩ = some (.slice (some ⟨b', f', none⟩) pr.length pc) ∧ w'.cell? ⟨b', f' + j * 5, none⟩ = some (.int .i64 k) ∧ w'.cell? ⟨b', f' + j * 5 + 1, none⟩ = some (.int .i64 n) ∧ w'.cell? ⟨b', f' + j * 5 + 2, none⟩ = some (.int .i64 v) ∧ w'.cell? ⟨b', f' + j * 5 + 3, none⟩ = some (.int .i64 wt) ∧ w'.cell? ⟨b', f' + j * 5 + 4, none⟩ = some (.slice la l.length lc) ∧ w'.cell? ⟨w.heap.size, 0, none⟩ = some (.int .i64 L) ∧ w'.cell? ⟨w.heap.size, 1, none⟩ = some (.slice ca nc cc) ∧ w'.cell? ⟨w.heap.size, 2, none⟩ = some (.slice (some ⟨b, f, none⟩) ts.length tc)) (go_keep) (first | (go_at_call 28; refine hkn.mono ?_; rintro e w8 ⟨rfl, t8⟩; have K8 := ((Kept.refl W).drew).trans t8; have y0 := K8.cell t4; have y1 := K8.cell g0; have y2 := K8.cell g1; have y3 := K8.cell g2; have y4 := K8.cell g3; have y5 := K8.cell g4; have y6 := K8.cell s0; have y7 := K8.cell s1; have y8 := K8.cell s2) | fail)
                  go_wp2_with fail
                  go_roundg gi
                  case rel => exact ⟨j + 1, _, rfl, by go_num, by omega, HZ6, K.trans K8, HBr.out.kept K8, HTr.out.kept K8⟩
                  case measure => omega
                | false =>
                  have HZ6 : Hid (taskE L nc ts q ⟨nm, pd, dl, bu, pr⟩ = 3) := by show _ = _; rw [HZ5.out, HE2.out]; simp
                  clear HE2
                  go_wp2_with fail
                  go_region_held3 (fun w' => w'.cell? ⟨w.heap.size + 1, 4, none⟩ = some (.slice (some ⟨b', f', none⟩) pr.length pc) ∧ w'.cell? ⟨b', f' + j * 5, none⟩ = some (.int .i64 k) ∧ w'.cell? ⟨b', f' + j * 5 + 1, none⟩ = some (.int .i64 n) ∧ w'.cell? ⟨b', f' + j * 5 + 2, none⟩ = some (.int .i64 v) ∧ w'.cell? ⟨b', f' + j * 5 + 3, none⟩ = some (.int .i64 wt) ∧ w'.cell? ⟨b', f' + j * 5 + 4, none⟩ = some (.slice la l.length lc) ∧ w'.cell? ⟨w.heap.size, 0, none⟩ = some (.int .i64 L) ∧ w'.cell? ⟨w.heap.size, 1, none⟩ = some (.slice ca nc cc) ∧ w'.cell? ⟨w.heap.size, 2, none⟩ = some (.slice (some ⟨b, f, none⟩) ts.length tc)) (go_keep) (first | (go_at_call 28; refine hkn.mono ?_; rintro e w8 ⟨rfl, t8⟩; have K8 := ((Kept.refl W).drew).trans t8; have y0 := K8.cell t4; have y1 := K8.cell g0; have y2 := K8.cell g1; have y3 := K8.cell g2; have y4 := K8.cell g3; have y5 := K8.cell g4; have y6 := K8.cell s0; have y7 := K8.cell s1; have y8 := K8.cell s2) | fail)
                  go_wp2_with fail
                  go_ret
                  rw [HZ6.out]
                  exact ⟨rfl, K.trans K8⟩
              · have b3 : ¬ (j : Int) < (pr.length : Int) := by omega
                have HZ6 : Hid (taskE L nc ts q ⟨nm, pd, dl, bu, pr⟩ = 0) := by show _ = _; rw [HZ5.out, HE.out, List.drop_eq_nil_of_le (by omega)]; rfl
                go_wp2_with fail
                go_ret
                rw [HZ6.out]
                exact ⟨rfl, K⟩
        · have hne : (q2 != 0) = true := by simpa using hz
          have HZ4 : Hid (taskE L nc ts q ⟨nm, pd, dl, bu, pr⟩ = q2) := by show _ = _; rw [HZ3.out, HQ2.out, if_neg hz]
          clear HZ3 HQ2
          go_wp2_with fail
          go_ret
          rw [HZ4.out]
          exact ⟨rfl, K6⟩
end Go.Proofs.YtlkbphogpbcjfaaGreatDoor
namespace Go.Proofs.YtlkbphogpbcjfaaGreatDoor
open Go.RowKit

set_option maxHeartbeats 8000000 in
set_option maxRecDepth 10000 in
theorem rcset_any (L : Int) (ca ta : Option Addr) (cc tc : Nat) (cs : List ChanD) (ts : List TaskD) (w : World) (hH : AtH w ca cs) (hA : AtT w ta ts) :
    Calls Tryz.prog 5 #[.agg #[.int .i64 L, .slice ca cs.length cc, .slice ta ts.length tc]] w fun e w' => e = .returned (.tuple #[.int .i64 (checkS L cs ts).1, .int .i64 (checkS L cs ts).2]) ∧ Kept w w' := by
  have HH : Hid (AtH w ca cs) := hH
  have HA : Hid (AtT w ta ts) := hA
  clear hH hA
  have K0 := (Kept.refl w).alloc (.cells #[.int .i64 L, .slice ca cs.length cc, .slice ta ts.length tc] 25)
  have HB : Hid (Box w.heap.size (w.alloc (.cells #[.int .i64 L, .slice ca cs.length cc, .slice ta ts.length tc] 25)) 25 w.heap.size [.int .i64 L, .slice ca cs.length cc, .slice ta ts.length tc]) := box_new w.heap.size w 25 [.int .i64 L, .slice ca cs.length cc, .slice ta ts.length tc] (Nat.le_refl _) (by simp)
  by_cases c0 : L < 0
  · have HZ : Hid (checkS L cs ts = (0, 1)) := by show _ = _; unfold checkS; rw [if_pos (by omega)]
    go_enter Tryz.func5, Tryz.ntmps5
    go_wp2_with fail
    go_ret2
    rw [HZ.out]
    exact ⟨rfl, K0⟩
  by_cases c1 : L > 8
  · have HZ : Hid (checkS L cs ts = (0, 1)) := by show _ = _; unfold checkS; rw [if_pos (by omega)]
    go_enter Tryz.func5, Tryz.ntmps5
    go_wp2_with fail
    go_ret2
    rw [HZ.out]
    exact ⟨rfl, K0⟩
  by_cases c2 : (cs.length : Int) > 8
  · have HZ : Hid (checkS L cs ts = (0, 18)) := by show _ = _; unfold checkS; rw [if_neg (by omega), if_pos (by omega)]
    go_enter Tryz.func5, Tryz.ntmps5
    go_wp2_with fail
    go_ret2
    rw [HZ.out]
    exact ⟨rfl, K0⟩
  by_cases c3 : (ts.length : Int) < 1
  · have HZ : Hid (checkS L cs ts = (0, 18)) := by show _ = _; unfold checkS; rw [if_neg (by omega), if_pos (by omega)]
    go_enter Tryz.func5, Tryz.ntmps5
    go_wp2_with fail
    go_ret2
    rw [HZ.out]
    exact ⟨rfl, K0⟩
  by_cases c4 : (ts.length : Int) > 12
  · have HZ : Hid (checkS L cs ts = (0, 18)) := by show _ = _; unfold checkS; rw [if_neg (by omega), if_pos (by omega)]
    go_enter Tryz.func5, Tryz.ntmps5
    go_wp2_with fail
    go_ret2
    rw [HZ.out]
    exact ⟨rfl, K0⟩
  have HZ : Hid (checkS L cs ts = if chansE ts.length cs = 0 then tasksGo L cs.length ts 0 ts else (0, chansE ts.length cs)) := by show _ = _; unfold checkS; rw [if_neg (by omega), if_neg (by omega)]
  go_enter Tryz.func5, Tryz.ntmps5
  go_wp2_with fail
  have hl : ts.length ≤ 100000 := by omega
  have hcl : cs.length ≤ 100000 := by omega
  clear c0 c1 c2 c3 c4
  go_loopg [4] cs.length (fun gk i wr => ∃ (j : Nat) (W : World), W = wr ∧ i = .int .i64 j ∧ j + gk = cs.length ∧ Hid (chansE ts.length cs = chansE ts.length (cs.drop j)) ∧ Kept w W ∧ Hid (Box w.heap.size W 25 w.heap.size [.int .i64 L, .slice ca cs.length cc, .slice ta ts.length tc]))
  case atStart => exact ⟨0, _, rfl, rfl, by omega, (by show _ = _; rw [List.drop_zero]), K0, HB⟩
  case round =>
    obtain ⟨j, W, hW, rfl, hj, HE, K, HBr⟩ := hrel
    subst hW
    have s1 : W.cell? ⟨w.heap.size, 1, none⟩ = some (.slice ca cs.length cc) := HBr.out.cell 1 (by simp)
    by_cases hjp : j < cs.length
    · obtain ⟨b, f, r, s, rfl, hpj, g0, g1, hdr⟩ := (HH.out.kept K).get j hjp
      have b1 : (j : Int) < (cs.length : Int) := by omega
      have b2 : (0 : Int) ≤ (j : Int) := by omega
      have KB := K.alloc (.cells #[.int .i64 r, .int .i64 s] 53)
      have KA := (Kept.refl W).alloc (.cells #[.int .i64 r, .int .i64 s] 53)
      have HBn : Hid (Box w.heap.size (W.alloc (.cells #[.int .i64 r, .int .i64 s] 53)) 25 w.heap.size [.int .i64 L, .slice (some ⟨b, f, none⟩) cs.length cc, .slice ta ts.length tc]) := HBr.out.kept KA
      have s2 : (W.alloc (.cells #[.int .i64 r, .int .i64 s] 53)).cell? ⟨w.heap.size, 2, none⟩ = some (.slice ta ts.length tc) := HBn.out.cell 2 (by simp)
      have HE2 : Hid (chansE ts.length cs = if chanB ts.length ⟨r, s⟩ = true then chansE ts.length (cs.drop (j + 1)) else 1) := by show _ = _; rw [HE.out, hdr, chansE]
      obtain ⟨gi, rfl⟩ : ∃ g, gk = g + 1 := ⟨gk - 1, by omega⟩
      clear hpj hdr HE
      have BAD : Hid ((¬ (0 ≤ r ∧ r ≤ 16 ∧ -1 ≤ s ∧ s < (ts.length : Int))) → checkS L cs ts = (0, 1)) := by
        intro h
        have h2 : chansE ts.length cs = 1 := by
          rw [HE2.out, if_neg]
          simp only [chanB, Bool.and_eq_true, decide_eq_true_eq]
          rintro ⟨⟨⟨h1, h2⟩, h3⟩, h4⟩
          exact h ⟨h1, h2, h3, h4⟩
        rw [HZ.out, h2]
        rfl
      by_cases h1 : r < 0
      · have HZ2 : Hid (checkS L cs ts = (0, 1)) := BAD.out (by omega)
        clear BAD HE2
        go_wp2_with fail
        go_ret2
        rw [HZ2.out]
        exact ⟨rfl, KB⟩
      by_cases h2 : r > 16
      · have HZ2 : Hid (checkS L cs ts = (0, 1)) := BAD.out (by omega)
        clear BAD HE2
        go_wp2_with fail
        go_ret2
        rw [HZ2.out]
        exact ⟨rfl, KB⟩
      by_cases h3 : s < -1
      · have HZ2 : Hid (checkS L cs ts = (0, 1)) := BAD.out (by omega)
        clear BAD HE2
        go_wp2_with fail
        go_ret2
        rw [HZ2.out]
        exact ⟨rfl, KB⟩
      by_cases h4 : s ≥ (ts.length : Int)
      · have HZ2 : Hid (checkS L cs ts = (0, 1)) := BAD.out (by omega)
        clear BAD HE2
        go_wp2_with fail
        go_ret2
        rw [HZ2.out]
        exact ⟨rfl, KB⟩
      have HZ2 : Hid (chansE ts.length cs = chansE ts.length (cs.drop (j + 1))) := by
        show _ = _
        rw [HE2.out, if_pos]
        simp only [chanB, Bool.and_eq_true, decide_eq_true_eq]
        omega
      clear BAD HE2
      go_wp2_with fail
      go_roundg gi
      case rel => exact ⟨j + 1, _, rfl, by go_num, by omega, HZ2, KB, HBn⟩
      case measure => omega
    · have b1 : ¬ (j : Int) < (cs.length : Int) := by omega
      have HZ2 : Hid (checkS L cs ts = tasksGo L cs.length ts 0 ts) := by
        show _ = _
        rw [HZ.out, if_pos]
        rw [HE.out, List.drop_eq_nil_of_le (by omega)]
        rfl
      clear HZ HE
      go_wp2_with fail
      go_loopg [6] ts.length (fun gk i wr => ∃ (j : Nat) (W : World), W = wr ∧ i = .int .i64 j ∧ j + gk = ts.length ∧ Hid (tasksGo L cs.length ts 0 ts = tasksGo L cs.length ts j (ts.drop j)) ∧ Kept w W ∧ Hid (Box w.heap.size W 25 w.heap.size [.int .i64 L, .slice ca cs.length cc, .slice ta ts.length tc]))
      case atStart => exact ⟨0, _, rfl, rfl, by omega, (by show _ = _; rw [List.drop_zero]), K, HBr⟩
      case round =>
        obtain ⟨q, W2, hW, rfl, hq, HE, KQ, HBq⟩ := hrel
        subst hW
        have u0 : W2.cell? ⟨w.heap.size, 0, none⟩ = some (.int .i64 L) := HBq.out.cell 0 (by simp)
        have u1 : W2.cell? ⟨w.heap.size, 1, none⟩ = some (.slice ca cs.length cc) := HBq.out.cell 1 (by simp)
        have u2 : W2.cell? ⟨w.heap.size, 2, none⟩ = some (.slice ta ts.length tc) := HBq.out.cell 2 (by simp)
        by_cases hqt : q < ts.length
        · have b3 : (q : Int) < (ts.length : Int) := by omega
          have b4 : (0 : Int) ≤ (q : Int) := by omega
          obtain ⟨t, ht⟩ : ∃ t, ts[q]? = some t := ⟨_, List.getElem?_eq_getElem hqt⟩
          have hdr : ts.drop q = t :: ts.drop (q + 1) := by
            rw [List.drop_eq_getElem_cons hqt]
            rw [List.getElem?_eq_getElem hqt] at ht
            rw [Option.some.inj ht]
          have hta := rtask_any L ca ta cc tc cs.length ts q t W2 (HA.out.kept KQ) hl ht
          obtain ⟨z, hz⟩ : ∃ z, taskE L cs.length ts q t = z := ⟨_, rfl⟩
          have HE2 : Hid (tasksGo L cs.length ts 0 ts = if z = 0 then tasksGo L cs.length ts (q + 1) (ts.drop (q + 1)) else (q, z)) := by show _ = _; rw [HE.out, hdr, tasksGo, hz]
          rw [hz] at hta
          obtain ⟨gi, rfl⟩ : ∃ g, gk = g + 1 := ⟨gk - 1, by omega⟩
          clear ht hdr HE hz
          by_cases hz0 : z = 0
          · subst hz0
            have HE3 : Hid (tasksGo L cs.length ts 0 ts = tasksGo L cs.length ts (q + 1) (ts.drop (q + 1))) := by show _ = _; rw [HE2.out, if_pos rfl]
            clear HE2
            go_wp2_with fail
            refine hta.mono ?_
            rintro e w2 ⟨rfl, t2⟩
            go_wp2_with fail
            go_roundg gi
            case rel => exact ⟨q + 1, _, rfl, by go_num, by omega, HE3, KQ.trans t2, HBq.out.kept t2⟩
            case measure => omega
          · have hne : (z != 0) = true := by simpa using hz0
            have HE3 : Hid (checkS L cs ts = (q, z)) := by show _ = _; rw [HZ2.out, HE2.out, if_neg hz0]
            clear HE2 hz0
            go_wp2_with fail
            refine hta.mono ?_
            rintro e w2 ⟨rfl, t2⟩
            go_wp2_with fail
            go_ret2
            rw [HE3.out]
            exact ⟨rfl, KQ.trans t2⟩
        · have b3 : ¬ (q : Int) < (ts.length : Int) := by omega
          have HE3 : Hid (checkS L cs ts = (0, 0)) := by show _ = _; rw [HZ2.out, HE.out, List.drop_eq_nil_of_le (by omega)]; rfl
          go_wp2_with fail
          go_ret2
          rw [HE3.out]
          exact ⟨rfl, KQ⟩
/-- Of a set that may be there are 1 to 12 tasks. -/
theorem checkS_len {L : Int} {cs : List ChanD} {ts : List TaskD} (h : (checkS L cs ts).2 = 0) : 1 ≤ ts.length ∧ ts.length ≤ 12 ∧ cs.length ≤ 8 ∧ 0 ≤ L ∧ L ≤ 8 := by
  unfold checkS at h
  split at h
  · simp at h
  · split at h
    · simp at h
    · omega
end Go.Proofs.YtlkbphogpbcjfaaGreatDoor
