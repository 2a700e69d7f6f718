/- The reference's Name, Cost, known. -/
import Derived.Test.YtolljdomnohmdaaDoorSetM
import Derived.Test.YtolljdomnohmdaaDoorRFA
namespace Go.Proofs.YtolljdomnohmdaaDoor
open Go.RowKit

theorem nameB_iff (l : List UInt8) : nameB l = true ↔ 1 ≤ l.length ∧ l.length ≤ 8 ∧ ∀ c ∈ l, 97 ≤ c.toNat ∧ c.toNat ≤ 122 := by
  unfold nameB
  rw [Bool.and_eq_true, decide_eq_true_eq, within_iff]
  constructor
  · rintro ⟨h1, h2, h3⟩
    refine ⟨?_, h1, h3⟩
    cases l with
    | nil => simp at h2
    | cons a r => simp
  · rintro ⟨h1, h2, h3⟩
    refine ⟨h2, ?_, h3⟩
    cases l with
    | nil => simp at h1
    | cons a r => simp
set_option maxHeartbeats 2000000 in
theorem rname_any (l : List UInt8) (w : World) :
    Calls Tryd.prog 72 #[.string (B l)] w fun e w' => e = .returned (.bool (nameB l)) ∧ w' = w := by
  have hsz := B_size l
  by_cases h0 : l.length < 1
  · have b1 : ((B l).size : Int) < 1 := by omega
    have HN : Hid (nameB l = false) := by
      show _ = _
      rw [Bool.eq_false_iff]
      intro h
      have := (nameB_iff l).1 h
      omega
    clear hsz
    go_enter Tryd.func72, Tryd.ntmps72
    go_wp2_with fail
    go_ret
    rw [HN.out]
    exact ⟨rfl, rfl⟩
  by_cases h8 : l.length > 8
  · have b0 : ¬ ((B l).size : Int) < 1 := by omega
    have b1 : ((B l).size : Int) > 8 := by omega
    have HN : Hid (nameB l = false) := by
      show _ = _
      rw [Bool.eq_false_iff]
      intro h
      have := (nameB_iff l).1 h
      omega
    clear hsz
    go_enter Tryd.func72, Tryd.ntmps72
    go_wp2_with fail
    go_ret
    rw [HN.out]
    exact ⟨rfl, rfl⟩
  have b0 : ¬ ((B l).size : Int) < 1 := by omega
  have b1 : ¬ ((B l).size : Int) > 8 := by omega
  have HS : Hid ((B l).size = l.length) := hsz
  have H8 : Hid (1 ≤ l.length ∧ l.length ≤ 8) := ⟨by omega, by omega⟩
  clear hsz h0 h8
  go_enter Tryd.func72, Tryd.ntmps72
  go_wp2_with fail
  go_loopg [3] (B l).size (fun gk i wr => ∃ j : Nat, i = .int .i64 j ∧ j + gk = (B l).size ∧ Hid (∀ q c, q < j → l[q]? = some c → 97 ≤ c.toNat ∧ c.toNat ≤ 122) ∧ wr = w)
  case atStart => exact ⟨0, rfl, by omega, fun q c h => by omega, rfl⟩
  case round =>
    obtain ⟨j, rfl, hj, HA, hw⟩ := hrel
    subst wr
    by_cases hjl : j < (B l).size
    · have b2 : (j : Int) < ((B l).size : Int) := by omega
      have b3 : (0 : Int) ≤ (j : Int) := by omega
      have hsz8 : (B l).size ≤ 8 := by have := H8.out; have := HS.out; omega
      obtain ⟨c, e1, e2, _, _⟩ := byte_get (B l) j hjl
      have HG : Hid (l[j]? = some c) := by rw [B_list] at e2; exact e2
      clear e2
      obtain ⟨gi, rfl⟩ : ∃ g, gk = g + 1 := ⟨gk - 1, by omega⟩
      have BAD : Hid (¬ (97 ≤ c.toNat ∧ c.toNat ≤ 122) → nameB l = false) := by
        intro h
        rw [Bool.eq_false_iff]
        intro h2
        exact h (((nameB_iff l).1 h2).2.2 c (List.mem_of_getElem? HG.out))
      by_cases h1 : c.toNat < 97
      · have HZ : Hid (nameB l = false) := BAD.out (by omega)
        have t1 : (c.toNat : Int) < 97 := by omega
        clear BAD HA HG
        go_wp2_with fail
        go_ret
        rw [HZ.out]
        exact ⟨rfl, rfl⟩
      by_cases h2 : c.toNat > 122
      · have HZ : Hid (nameB l = false) := BAD.out (by omega)
        have t1 : ¬ (c.toNat : Int) < 97 := by omega
        have t2 : (c.toNat : Int) > 122 := by omega
        clear BAD HA HG
        go_wp2_with fail
        go_ret
        rw [HZ.out]
        exact ⟨rfl, rfl⟩
      have t1 : ¬ (c.toNat : Int) < 97 := by omega
      have t2 : ¬ (c.toNat : Int) > 122 := by omega
      have HN : Hid (∀ q d, q < j + 1 → l[q]? = some d → 97 ≤ d.toNat ∧ d.toNat ≤ 122) := by
        intro q d hq hd
        by_cases e : q = j
        · subst e
          rw [HG.out] at hd
          cases hd
          omega
        · exact HA.out q d (by omega) hd
      clear BAD HA HG
      go_wp2_with fail
      go_roundg gi
      case rel => exact ⟨j + 1, by go_num, by omega, HN, rfl⟩
      case measure => omega
    · have b2 : ¬ (j : Int) < ((B l).size : Int) := by omega
      have HN : Hid (nameB l = true) := by
        refine (nameB_iff l).2 ⟨H8.out.1, H8.out.2, fun c hc => ?_⟩
        obtain ⟨q, hq, e⟩ := List.getElem_of_mem hc
        exact HA.out q c (by have := HS.out; omega) (by rw [List.getElem?_eq_getElem hq, e])
      clear HA
      go_wp2_with fail
      go_ret
      rw [HN.out]
      exact ⟨rfl, rfl⟩
theorem costF_next : ∀ (f : List OpD) (j : Nat) (o : OpD), f[j]? = some o → costF (f.take (j + 1)) = costF (f.take j) + (if o.kind = 1 then o.n else 0)
  | [], j, o, h => by simp at h
  | x :: r, 0, o, h => by
    simp at h
    subst h
    simp [costF]
  | x :: r, j + 1, o, h => by
    have ih := costF_next r j o (by simpa using h)
    rw [List.take_succ_cons, List.take_succ_cons, costF, costF, ih]
    omega
theorem costF_bd : ∀ (f : List OpD), (∀ o ∈ f, checkD o = 0) → 0 ≤ costF f ∧ costF f ≤ 1000 * (f.length : Int)
  | [], _ => by simp [costF]
  | o :: r, h => by
    have ih := costF_bd r (fun q hq => h q (by simp [hq]))
    rw [costF, List.length_cons]
    split
    · rename_i hk
      obtain ⟨k, n, v, wt, l⟩ := o
      simp only at hk
      subst hk
      have h2 := run_n (h ⟨1, n, v, wt, l⟩ (by simp))
      simp only
      omega
    · omega
set_option maxHeartbeats 4000000 in
theorem rcost_any (a : Option Addr) (c : Nat) (p : List OpD) (w : World) (hA : AtP w a p) (hcap : p.length ≤ c) (hk : checkP p = (0, 0)) :
    Calls Tryd.prog 15 #[.slice a p.length c] w fun e w' => e = .returned (.int .i64 (costD p)) ∧ Kept w w' := by
  obtain ⟨hp, hc, _, f, hb, hf⟩ := taken_prog hk
  have hr := rflat_any 3 0 0 p f a c w hb hA hcap hc (by omega) (by omega)
  have HL : Hid (costD p = costF f) := cost_len hb hc
  have HCK : Hid (∀ o ∈ f, checkD o = 0) := fun o ho => hc o (bal_mem hb o ho).1
  have HA : Hid (AtP w a p) := hA
  clear hA hk hc hb hcap hp
  go_enter Tryd.func15, Tryd.ntmps15
  go_wp2_with fail
  refine hr.mono ?_
  rintro e w1 ⟨v, rfl, R, K1⟩
  obtain ⟨fa, fc, rfl, _, AF⟩ := R.view HA.out K1
  have HF : Hid (AtP w1 fa f) := AF
  clear R AF hr HA
  go_wp2_with fail
  go_loopg [4, 5] f.length (fun gk s i wr => ∃ (j : Nat) (z : Int), s = .int .i64 z ∧ i = .int .i64 j ∧ j + gk = f.length ∧ 0 ≤ z ∧ z ≤ 1000 * (j : Int) ∧ Hid (z = costF (f.take j)) ∧ Kept w1 wr)
  case atStart => exact ⟨0, 0, rfl, rfl, by omega, by omega, by omega, (by show _ = _; simp [costF]), Kept.refl w1⟩
  case round =>
    obtain ⟨j, z, rfl, rfl, hj, z0, z1, HZ, K⟩ := hrel
    by_cases hjl : j < f.length
    · have b1 : (j : Int) < (f.length : Int) := by omega
      have b2 : (0 : Int) ≤ (j : Int) := by omega
      obtain ⟨b, fo, k, n, v, wt, l, ca, cc, rfl, hpj, g0, g1, g2, g3, g4, hcc, hat, hbl, hdr⟩ := (HF.out.kept K).get j hjl
      have hnx := costF_next f j _ hpj
      simp only at hnx
      have hch := HCK.out _ (List.mem_of_getElem? hpj)
      obtain ⟨gi, rfl⟩ : ∃ g, gk = g + 1 := ⟨gk - 1, by omega⟩
      clear hpj hat hdr g2 g3 g4 hcc
      by_cases hk1 : k = 1
      · subst hk1
        have hn := run_n hch
        have HZ2 : Hid (z + n = costF (f.take (j + 1))) := by show _ = _; rw [hnx, if_pos rfl, HZ.out]
        clear hnx hch HZ
        go_wp2_with fail
        go_roundg gi
        case rel => exact ⟨j + 1, z + n, rfl, by go_num, by omega, by omega, by omega, HZ2, K⟩
        case measure => omega
      · have hne : (k == 1) = false := by simpa using hk1
        have HZ2 : Hid (z = costF (f.take (j + 1))) := by show _ = _; rw [hnx, if_neg hk1, Int.add_zero, HZ.out]
        clear hnx hch HZ
        go_wp2_with fail
        go_roundg gi
        case rel => exact ⟨j + 1, z, rfl, by go_num, by omega, by omega, by omega, HZ2, K⟩
        case measure => omega
    · have b1 : ¬ (j : Int) < (f.length : Int) := by omega
      have HZ2 : Hid (costD p = z) := by show _ = _; rw [HL.out, HZ.out, List.take_of_length_le (by omega)]
      go_wp2_with fail
      go_ret
      rw [HZ2.out]
      exact ⟨rfl, K1.trans K⟩
/-- Are all locks, channels of an op the set's? -/
def knownD (L nc : Int) (o : OpD) : Bool := if o.kind = 2 ∨ o.kind = 3 then decide (o.n < L) else if o.kind = 4 ∨ o.kind = 5 ∨ o.kind = 6 then decide (o.n < nc) else casesB nc o.cases
end Go.Proofs.YtolljdomnohmdaaDoor
