/- The reader's calls, whatever its error is. -/
import Derived.Test.YtiiddfahpddffaaDoorRdr2
namespace Go.Proofs.YtiiddfahpddffaaDoor
open Go.RowKit

/-- One step of a reader: from its first error on it stands still. -/
structure St (e v e' : Int) (a : Int × Int) : Prop where
  go : e = 0 → e' = a.2 ∧ (a.2 = 0 → v = a.1)
  no : e ≠ 0 → e' = e

theorem number_comb {Bd : Nat} {w : World} {rb : Nat} {ws r : List (List UInt8)} {e : Int} (x : List UInt8) (h : Rd Bd w rb ws e) (hw : e = 0 → ws = x :: r) (hl : r.length ≤ 1000000) (hx : x.length ≤ 100000) (hr : Rdy w) (hB : 7 ≤ Bd) :
    Calls Tryd.prog 50 #[.pointer (some ⟨rb, 0, none⟩)] w fun en w' => ∃ v e' ws', en = .returned (.int .i64 v) ∧ St e v e' (numOf x) ∧ (e' = 0 → ws' = r) ∧ Rd Bd w' rb ws' e' ∧ Turns (fun k => k = rb) w w' := by
  by_cases he : e = 0
  · subst he
    rw [hw rfl] at h
    refine (number_yes h hl hx hr hB).mono ?_
    rintro en w1 ⟨rfl, R, t⟩
    exact ⟨_, _, r, rfl, ⟨fun _ => ⟨rfl, fun _ => rfl⟩, fun h => absurd rfl h⟩, fun _ => rfl, R, t⟩
  · refine (number_no h he).mono ?_
    rintro en w1 ⟨rfl, rfl⟩
    exact ⟨0, e, ws, rfl, ⟨fun h => absurd h he, fun _ => rfl⟩, fun h => absurd h he, h, Turns.refl _ _⟩
theorem wait_comb {Bd : Nat} {w : World} {rb : Nat} {ws r : List (List UInt8)} {e : Int} (x : List UInt8) (h : Rd Bd w rb ws e) (hw : e = 0 → ws = x :: r) (hl : r.length ≤ 1000000) (hx : x.length ≤ 100000) (hr : Rdy w) (hB : 7 ≤ Bd) :
    Calls Tryd.prog 51 #[.pointer (some ⟨rb, 0, none⟩)] w fun en w' => ∃ v e' ws', en = .returned (.int .i64 v) ∧ St e v e' (waitOf x) ∧ (e' = 0 → ws' = r) ∧ Rd Bd w' rb ws' e' ∧ Turns (fun k => k = rb) w w' := by
  by_cases he : e = 0
  · subst he
    rw [hw rfl] at h
    refine (wait_yes h hl hx hr hB).mono ?_
    rintro en w1 ⟨v, e', rfl, A, R, t⟩
    exact ⟨v, e', r, rfl, ⟨fun _ => A, fun h => absurd rfl h⟩, fun _ => rfl, R, t⟩
  · refine (wait_no h he).mono ?_
    rintro en w1 ⟨rfl, rfl⟩
    exact ⟨0, e, ws, rfl, ⟨fun h => absurd h he, fun _ => rfl⟩, fun h => absurd h he, h, Turns.refl _ _⟩

theorem cases_no {Bd : Nat} {w : World} {rb : Nat} {ws : List (List UInt8)} {e : Int} (h : Rd Bd w rb ws e) (he : e ≠ 0) :
    Calls Tryd.prog 52 #[.pointer (some ⟨rb, 0, none⟩)] w fun en w' => en = .returned (.slice none 0 0) ∧ w' = w := by
  obtain ⟨a, c, hb, hc, hat, hf⟩ := h
  have c1 : w.cell? ⟨rb, 1, none⟩ = some (.int .i64 e) := hb.cell 1 (by simp)
  have h1 : (e == 0) = false := by simp [he]
  clear hb hat hf hc
  go_enter Tryd.func52, Tryd.ntmps52
  go_wp2_with fail
  go_loopg [3] 0 (fun _ v wr => v = .slice none 0 0 ∧ wr = w)
  case atStart => exact ⟨rfl, rfl⟩
  case round =>
    obtain ⟨rfl, hw⟩ := hrel
    subst wr
    go_wp2_with fail
    go_ret
    exact ⟨rfl, rfl⟩
/-- The cases that are read, or the error. -/
structure Sc (e e' : Int) (t : List (List UInt8)) (cs : List CaseD) : Prop where
  go : e = 0 → e' = (casesOf t).2 ∧ (e' = 0 → cs = (casesOf t).1.map (clC chan8))
  no : e ≠ 0 → e' = e
theorem cases_comb {Bd : Nat} {w : World} {rb : Nat} {ws : List (List UInt8)} {e : Int} (t : List (List UInt8)) (h : Rd Bd w rb ws e) (hw : e = 0 → ws = t) (hA : areB t = true) (hl : t.length ≤ 100000) (hx : ∀ x ∈ t, x.length ≤ 100000) (hr : Rdy w) (hB : 7 ≤ Bd) :
    Calls Tryd.prog 52 #[.pointer (some ⟨rb, 0, none⟩)] w fun en w' => ∃ v cs e' ws', en = .returned v ∧ CRow 46 w.heap.size w' v cs ∧ Sc e e' t cs ∧ Rd Bd w' rb ws' e' ∧ Turns (fun k => k = rb) w w' := by
  by_cases he : e = 0
  · subst he
    rw [hw rfl] at h
    refine (cases_yes h hA hl hx hr hB).mono ?_
    rintro en w1 ⟨v, cs, e', r', rfl, R, h1, h2, h3, h4⟩
    exact ⟨v, cs, e', r', rfl, R, ⟨fun _ => ⟨h1, h2⟩, fun h => absurd rfl h⟩, h3, h4⟩
  · refine (cases_no h he).mono ?_
    rintro en w1 ⟨rfl, rfl⟩
    exact ⟨_, [], e, ws, rfl, CRow.nil _ _ _, ⟨fun h => absurd h he, fun _ => rfl⟩, h, Turns.refl _ _⟩

/-- What read answers: the op's fields, or an error. -/
structure RdA (k : Nat) (ws : List (List UInt8)) (n v wt : Int) (cs : List CaseD) (e : Int) : Prop where
  err : e = (readD k ws).2
  ok : e = 0 → (⟨k, n, v, wt, cs⟩ : OpD) = clO chan8 (readD k ws).1
theorem rda_one {k : Nat} (hk : k ≠ 4 ∧ k ≠ 5 ∧ k ≠ 7 ∧ k ≠ 9) {x : List UInt8} {n e : Int} (h : St 0 n e (numOf x)) : RdA k [x] n 0 0 [] e := by
  obtain ⟨h1, h2⟩ := h.go rfl
  have hr : readD k [x] = if (numOf x).2 = 0 then (⟨(k : Int), (numOf x).1, 0, 0, []⟩, 0) else (zeroD, (numOf x).2) := by
    unfold readD
    rw [if_neg hk.1, if_neg hk.2.1, if_neg hk.2.2.1, if_neg hk.2.2.2]
  by_cases h0 : (numOf x).2 = 0
  · rw [if_pos h0] at hr
    exact ⟨by rw [hr, h1, h0], fun _ => by rw [hr, h2 h0]; rfl⟩
  · rw [if_neg h0] at hr
    exact ⟨by rw [hr, h1], fun he => absurd (h1.symm.trans he) h0⟩
theorem rda_send {x y z : List UInt8} {n v wt e1 e2 e3 : Int} (h1 : St 0 n e1 (numOf x)) (h2 : St e1 v e2 (numOf y)) (h3 : St e2 wt e3 (waitOf z)) : RdA 4 [x, y, z] n v wt [] e3 := by
  obtain ⟨a1, b1⟩ := h1.go rfl
  have hr : readD 4 [x, y, z] = if (numOf x).2 = 0 then (if (numOf y).2 = 0 then (if (waitOf z).2 = 0 then (⟨4, (numOf x).1, (numOf y).1, (waitOf z).1, []⟩, 0) else (zeroD, (waitOf z).2)) else (zeroD, (numOf y).2)) else (zeroD, (numOf x).2) := rfl
  by_cases c1 : (numOf x).2 = 0
  · obtain ⟨a2, b2⟩ := h2.go (a1.trans c1)
    rw [if_pos c1] at hr
    by_cases c2 : (numOf y).2 = 0
    · obtain ⟨a3, b3⟩ := h3.go (a2.trans c2)
      rw [if_pos c2] at hr
      by_cases c3 : (waitOf z).2 = 0
      · rw [if_pos c3] at hr
        exact ⟨by rw [hr, a3, c3], fun _ => by rw [hr, b1 c1, b2 c2, b3 c3]; rfl⟩
      · rw [if_neg c3] at hr
        exact ⟨by rw [hr, a3], fun he => absurd (a3.symm.trans he) c3⟩
    · rw [if_neg c2] at hr
      have a3 := h3.no (by rw [a2]; exact c2)
      exact ⟨by rw [hr, a3, a2], fun he => absurd (a2.symm.trans (a3.symm.trans he)) c2⟩
  · rw [if_neg c1] at hr
    have a2 := h2.no (by rw [a1]; exact c1)
    have a3 := h3.no (by rw [a2, a1]; exact c1)
    exact ⟨by rw [hr, a3, a2, a1], fun he => absurd (a1.symm.trans (a2.symm.trans (a3.symm.trans he))) c1⟩
theorem rda_recv {x z : List UInt8} {n wt e1 e3 : Int} (h1 : St 0 n e1 (numOf x)) (h3 : St e1 wt e3 (waitOf z)) : RdA 5 [x, z] n 0 wt [] e3 := by
  obtain ⟨a1, b1⟩ := h1.go rfl
  have hr : readD 5 [x, z] = if (numOf x).2 = 0 then (if (waitOf z).2 = 0 then (⟨5, (numOf x).1, 0, (waitOf z).1, []⟩, 0) else (zeroD, (waitOf z).2)) else (zeroD, (numOf x).2) := rfl
  by_cases c1 : (numOf x).2 = 0
  · obtain ⟨a3, b3⟩ := h3.go (a1.trans c1)
    rw [if_pos c1] at hr
    by_cases c3 : (waitOf z).2 = 0
    · rw [if_pos c3] at hr
      exact ⟨by rw [hr, a3, c3], fun _ => by rw [hr, b1 c1, b3 c3]; rfl⟩
    · rw [if_neg c3] at hr
      exact ⟨by rw [hr, a3], fun he => absurd (a3.symm.trans he) c3⟩
  · rw [if_neg c1] at hr
    have a3 := h3.no (by rw [a1]; exact c1)
    exact ⟨by rw [hr, a3, a1], fun he => absurd (a1.symm.trans (a3.symm.trans he)) c1⟩
theorem rda_pick {z : List UInt8} {t : List (List UInt8)} {wt e1 e2 : Int} {cs : List CaseD} (h1 : St 0 wt e1 (waitOf z)) (h2 : Sc e1 e2 t cs) : RdA 7 (z :: t) 0 0 wt cs e2 := by
  obtain ⟨a1, b1⟩ := h1.go rfl
  have hr : readD 7 (z :: t) = if (waitOf z).2 = 0 then (if (casesOf t).2 = 0 then (⟨7, 0, 0, (waitOf z).1, (casesOf t).1⟩, 0) else (zeroD, (casesOf t).2)) else (zeroD, (waitOf z).2) := rfl
  by_cases c1 : (waitOf z).2 = 0
  · obtain ⟨a2, b2⟩ := h2.go (a1.trans c1)
    rw [if_pos c1] at hr
    by_cases c2 : (casesOf t).2 = 0
    · rw [if_pos c2] at hr
      exact ⟨by rw [hr, a2, c2], fun he => by rw [hr, b1 c1, b2 he]; rfl⟩
    · rw [if_neg c2] at hr
      exact ⟨by rw [hr, a2], fun he => absurd (a2.symm.trans he) c2⟩
  · rw [if_neg c1] at hr
    have a2 := h2.no (by rw [a1]; exact c1)
    exact ⟨by rw [hr, a2, a1], fun he => absurd (a1.symm.trans (a2.symm.trans he)) c1⟩
end Go.Proofs.YtiiddfahpddffaaDoor
